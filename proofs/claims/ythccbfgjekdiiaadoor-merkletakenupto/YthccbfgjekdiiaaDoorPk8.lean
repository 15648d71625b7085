import Derived.Test.YthccbfgjekdiiaaDoorPk7
import Derived.Test.YthccbfgjekdiiaaDoorPk6
import Derived.Test.YthccbfgjekdiiaaDoorPk5
import Derived.Test.YthccbfgjekdiiaaDoorPk4
import Derived.Test.YthccbfgjekdiiaaDoorPk1
import Derived.Lib.SliceRun
namespace Go.Proofs.YthccbfgjekdiiaaDoor
open Go.RowKit

theorem GI.pcsA {w wr : World} {es qs : List (List Nat)} {so : Option Addr} {sc : Nat} {svs : List Value} {ao : Option Addr} {ac : Nat} {avs : List Value} (h : GI w wr es qs so sc svs ao ac avs) : Pcs wr (.slice ao avs.length ac) avs qs := h.all.pcs
theorem GI.pcsS {w wr : World} {es : List (List Nat)} {so : Option Addr} {sc : Nat} {svs : List Value} {ao : Option Addr} {ac : Nat} {avs : List Value} (h : GI w wr es (gls es) so sc svs ao ac avs) (hl : svs.length = es.length + 9) (hb : ∀ e ∈ es, ∀ v ∈ e, v < 256) : Pcs wr (.slice so es.length sc) (svs.take es.length) es ∧ Cp (.slice so es.length sc) := by
  have hal : avs.length = es.length + 9 := by rw [← h.sln]; exact hl
  obtain ⟨gs, rfl⟩ : ∃ g, so = some ⟨g, 0, none⟩ := by
    rcases h.sho.2 with ⟨_, e⟩ | ⟨g, cap, cur, e, _⟩
    · omega
    · simp only [Value.slice.injEq] at e
      exact ⟨g, e.1⟩
  have hsc : svs.length ≤ sc := by
    rcases h.sho.2 with ⟨e, _⟩ | ⟨g, cap, cur, e, _, _, h3, _⟩
    · simp at e
    · simp only [Value.slice.injEq, true_and] at e
      rw [e.2]; exact h3
  have hlt := (h.sho.lt gs rfl).2
  have htl : (svs.take es.length).length = es.length := by rw [List.length_take]; omega
  refine ⟨⟨htl, .inr (.inr ⟨gs, 0, sc, by rw [htl], hlt, fun j v hv => ?_⟩), fun j v p hv hp => ?_, hb⟩, fun _ _ _ e => by cases e; omega⟩
  · rw [List.getElem?_take] at hv
    split at hv
    · rename_i hj
      rw [Nat.zero_add, h.sho.cellAt j (by omega)]; exact hv
    · cases hv
  · rw [List.getElem?_take] at hv
    split at hv
    · rename_i hj
      have hpe : es[j] = p := by
        rw [List.getElem?_eq_getElem hj] at hp
        exact Option.some.inj hp
      have hv' : avs[j]? = some (avs[j]'(by omega)) := List.getElem?_eq_getElem _
      obtain ⟨g, c, e1, e2⟩ := h.pre j v _ p hv hv' hp
      obtain ⟨bo, c', e3, hO⟩ := h.all.row j _ _ hv' (List.getElem?_eq_getElem (l := gls es) (by rw [gls_len]; omega))
      rw [gls_lo es j hj, hpe] at e3 hO
      rw [e2] at e3
      simp only [Value.slice.injEq] at e3
      obtain ⟨rfl, _, rfl⟩ := e3
      have hbp : ∀ v ∈ gdj p 9, v < 256 := gdj_lt (hb p (List.mem_of_getElem? hp)) 9
      have hs := hO.part 0 p.length (by rw [gdj_len]; omega) hbp
      have ee : ((gdj p 9).drop 0).take p.length = p := by rw [List.drop_zero, gdj, List.take_left]
      rw [ee, Nat.sub_zero] at hs
      rw [e1]
      exact ⟨hs.s, hs.cap, hs.lt⟩
    · cases hv
/-- The root, whatever the width. -/
def mr (j : Int) (es : List (List Nat)) : List Nat := if 1 ≤ j ∧ j ≤ 32 then mth j (es.map (lf j)) else []
theorem mr_lt (j : Int) (es : List (List Nat)) : ∀ v ∈ mr j es, v < 256 := by
  unfold mr
  split
  · exact mth_lt _ _ _ (Nat.le_refl _) (fun p hp => by
      obtain ⟨e, _, rfl⟩ := List.mem_map.1 hp
      exact lf_lt _ _)
  · intro v h; cases h
theorem mr_len (j : Int) (es : List (List Nat)) : (mr j es).length ≤ 32 := by
  unfold mr
  split
  · rename_i h
    obtain ⟨wi, rfl⟩ : ∃ k : Nat, j = (k : Int) := ⟨j.toNat, by omega⟩
    rw [mth_wid wi (by omega) (by omega) _ (map_lf_len wi (by omega) (by omega) es)]; omega
  · exact Nat.zero_le _
theorem mrootU (j : Int) (x : Value) (us : List Value) (es : List (List Nat)) (w : World) (hg : GS w) (ht : GT w) (hp : Pcs w x us es) (hB : ∀ e ∈ es, e.length ≤ 16000000) (hn : es.length ≤ 8000000) :
    Calls Tryd.prog 6 #[.int .i64 j, x] w fun e w' => ∃ yo yc, e = .returned (.slice yo (mr j es).length yc) ∧ OB w w' yo yc (mr j es) := by
  by_cases h : 1 ≤ j ∧ j ≤ 32
  · obtain ⟨wi, rfl⟩ : ∃ k : Nat, j = (k : Int) := ⟨j.toNat, by omega⟩
    have := mroot_in wi (by omega) (by omega) x us es w hg ht hp hB hn
    have hm := mth_wid wi (by omega) (by omega) _ (map_lf_len wi (by omega) (by omega) es)
    rw [mr, if_pos h, hm]
    exact this
  · refine (mroot_out j (by omega) x us es w hp hn).mono ?_
    rintro e w' ⟨rfl, hF⟩
    rw [mr, if_neg h]
    exact ⟨none, 0, rfl, own_nil _ _, hF⟩
set_option maxRecDepth 100000 in
theorem groot_out (i : Int) (x : Value) (w : World) (h : i < 1 ∨ 32 < i) : Calls Tryd.prog 44 #[.int .i64 i, x] w fun e w' => e = .returned (.slice none 0 0) ∧ w' = w := by
  go_enter Tryd.func44, Tryd.ntmps44
  go_wp2_with fail
  refine (may_no i w h).mono ?_
  rintro e w0 ⟨rfl, rfl⟩
  go_wp2_with fail
  go_ret
  exact ⟨rfl, rfl⟩
theorem grootU (j : Int) (x : Value) (vs : List Value) (es : List (List Nat)) (w : World) (hr : GR w) (hp : Pcs w x vs es) (hB : ∀ e ∈ es, e.length ≤ 4000000) (hn : es.length ≤ 8000000) :
    Calls Tryd.prog 44 #[.int .i64 j, x] w fun e w' => ∃ yo yc, e = .returned (.slice yo (mr j es).length yc) ∧ Sl w' (.slice yo (mr j es).length yc) (mr j es) ∧ Fr (fun _ => False) w w' := by
  by_cases h : 1 ≤ j ∧ j ≤ 32
  · rw [mr, if_pos h]
    exact groot_any j x vs es w hr hp hB hn h.1 h.2
  · refine (groot_out j x w (by omega)).mono ?_
    rintro e w' ⟨rfl, rfl⟩
    rw [mr, if_neg h]
    exact ⟨none, 0, rfl, sl_nil _, Fr.refl _ _⟩
theorem OB.ptr {w wr : World} {xo : Option Addr} {cp : Nat} {l : List Nat} (h : OB w wr xo cp l) : l = [] ∨ ∃ g, xo = some ⟨g, 0, none⟩ ∧ w.heap.size ≤ g ∧ g < wr.heap.size := by
  rcases h.own.2 with ⟨e, e2⟩ | ⟨g, cap, cur, e, _⟩
  · exact .inl (List.length_eq_zero_iff.1 e2)
  · simp only [Value.slice.injEq] at e
    obtain ⟨rfl, _⟩ := e
    exact .inr ⟨g, rfl, h.own.lt g rfl⟩
end Go.Proofs.YthccbfgjekdiiaaDoor

namespace Go.Proofs.YthccbfgjekdiiaaDoor
open Go.RowKit

theorem filt (t : Int) : ∀ zs : List Int, zs.Pairwise (· < ·) → zs.filter (fun z => decide (z < t)) = zs.take (zs.countP (· < t)) ∧ zs.filter (fun z => !decide (z < t)) = zs.drop (zs.countP (· < t)) := by
  intro zs
  induction zs with
  | nil => intro _; simp
  | cons a r ih =>
    intro h
    rw [List.pairwise_cons] at h
    obtain ⟨h1, h2⟩ := h
    obtain ⟨i1, i2⟩ := ih h2
    by_cases ha : a < t
    · rw [List.countP_cons_of_pos (by simpa using ha), List.filter_cons_of_pos (by simpa using ha), List.filter_cons_of_neg (by simpa using ha), List.take_succ_cons, List.drop_succ_cons, i1, i2]
      exact ⟨rfl, rfl⟩
    · have hr : ∀ z ∈ r, ¬ z < t := fun z hz => by have := h1 z hz; omega
      have hc : r.countP (· < t) = 0 := List.countP_eq_zero.2 (fun z hz => by simpa using hr z hz)
      rw [hc] at i1 i2
      rw [List.countP_cons_of_neg (by simpa using ha), List.filter_cons_of_neg (by simpa using ha), List.filter_cons_of_pos (by simpa using ha), hc, i1, i2]
      exact ⟨rfl, rfl⟩
theorem pa_map (f : Int) (k : Int) (zs : List Int) : pa k (zs.map (· - f)) = (zs.filter (fun z => decide (z < f + k))).map (· - f) := by
  rw [pa, List.filter_map]
  congr 1
  apply List.filter_congr
  intro z _
  simp only [Function.comp]
  congr 1
  exact propext ⟨fun h => by omega, fun h => by omega⟩
theorem pb_map (f : Int) (k : Int) (zs : List Int) : pb k (zs.map (· - f)) = (zs.filter (fun z => !decide (z < f + k))).map (· - (f + k)) := by
  rw [pb, List.filter_map, List.map_map]
  have e : (zs.filter ((fun z => !decide (z < k)) ∘ fun x => x - f)) = zs.filter (fun z => !decide (z < f + k)) := by
    apply List.filter_congr
    intro z _
    simp only [Function.comp]
    congr 2
    exact propext ⟨fun h => by omega, fun h => by omega⟩
  rw [e]
  apply List.map_congr_left
  intro z _
  simp only [Function.comp]
  omega
theorem mnyG_eq (wi : Nat) (L : List (List Nat)) (m : Nat) : ∀ (f n : Nat) (zs : List Int), n ≤ m → f + n ≤ L.length → zs.Pairwise (· < ·) → mnyG wi (blk L f n) (zs.map (· - (f : Int))) = mny wi L f n zs := by
  induction m with
  | zero =>
    intro f n zs h hL hs
    by_cases hz : zs = []
    · subst hz; rw [mny_nil]; exact mnyG_nil _ _
    · rw [mny_one hz (by omega), mnyG_one (by simpa using hz) (by rw [blk_len L f n hL]; omega)]
  | succ m ih =>
    intro f n zs h hL hs
    by_cases hz : zs = []
    · subst hz; rw [mny_nil]; exact mnyG_nil _ _
    · have hlen := blk_len L f n hL
      by_cases h2 : n < 2
      · rw [mny_one hz h2, mnyG_one (by simpa using hz) (by rw [hlen]; omega)]
      · have h3 := hf_lt n (by omega)
        have h4 := hf_pos n
        rw [mny_two hz (by omega), mnyG_two (by simpa using hz) (by omega), hlen, blk_take _ _ _ _ (by omega), blk_drop, pa_map, pb_map]
        have e : (f : Int) + ((hf n : Nat) : Int) = ((f + hf n : Nat) : Int) := by omega
        rw [e]
        obtain ⟨e1, e2⟩ := filt ((f + hf n : Nat) : Int) zs hs
        rw [e1, e2, ih f (hf n) _ (by omega) (by omega) (hs.sublist (List.take_sublist _ _)), ih (f + hf n) (n - hf n) _ (by omega) (by omega) (hs.sublist (List.drop_sublist _ _))]
theorem mnyG_top (wi : Nat) (L : List (List Nat)) (zs : List Int) (hs : zs.Pairwise (· < ·)) : mnyG wi L zs = mny wi L 0 L.length zs := by
  have := mnyG_eq wi L L.length 0 L.length zs (Nat.le_refl _) (by omega) hs
  rw [blk_all] at this
  rw [← this]
  congr 1
  simp
theorem mny_wid (wi : Nat) (hw1 : 1 ≤ wi) (hw32 : wi ≤ 32) (L : List (List Nat)) (hL : ∀ p ∈ L, p.length = wi) (m : Nat) : ∀ f n zs, n ≤ m → ∀ p ∈ mny wi L f n zs, p.length = wi := by
  induction m with
  | zero =>
    intro f n zs h p hp
    by_cases hz : zs = []
    · rw [hz, mny_nil] at hp; simp at hp; subst hp; exact mth_wid wi hw1 hw32 _ (fun p hp => hL p (blk_mem _ _ _ p hp))
    · rw [mny_one hz (by omega)] at hp; cases hp
  | succ m ih =>
    intro f n zs h p hp
    by_cases hz : zs = []
    · rw [hz, mny_nil] at hp; simp at hp; subst hp; exact mth_wid wi hw1 hw32 _ (fun p hp => hL p (blk_mem _ _ _ p hp))
    · by_cases h2 : n < 2
      · rw [mny_one hz h2] at hp; cases hp
      · have h3 := hf_lt n (by omega)
        have h4 := hf_pos n
        rw [mny_two hz (by omega)] at hp
        rcases List.mem_append.1 hp with hp | hp
        · exact ih _ _ _ (by omega) p hp
        · exact ih _ _ _ (by omega) p hp
set_option maxRecDepth 100000 in
set_option maxHeartbeats 1000000 in
theorem gmany_in (wi : Nat) (hw1 : 1 ≤ wi) (hw32 : wi ≤ 32) (x y : Value) (vs : List Value) (es : List (List Nat)) (zs : List Int) (w : World) (hr : GR w) (hp : Pcs w x vs es) (hB : ∀ e ∈ es, e.length ≤ 4000000) (hn : es.length ≤ 4000000) (hy : Ints w y zs) (hzl : zs.length ≤ 4000000) (hri : rsF es.length 0 zs = true) :
    Calls Tryd.prog 47 #[.int .i64 wi, x, y] w fun e w' => ∃ yo yc us, e = .returned (.tuple #[.slice yo (mny wi (es.map (lf wi)) 0 es.length zs).length yc, .int .i64 0]) ∧ Pcs w' (.slice yo (mny wi (es.map (lf wi)) 0 es.length zs).length yc) us (mny wi (es.map (lf wi)) 0 es.length zs) ∧ Fr (fun _ => False) w w' := by
  have hlv := gleaves_C wi x vs es w hr hp hB (by omega)
  have hll : (es.map (lf (wi : Int))).length = es.length := List.length_map _
  obtain ⟨s1, s2⟩ := rsF_ok es.length zs 0 hri
  have hgr := grising_any y zs es.length w hy (by omega) (fun z hz => by have := s2 z hz; omega)
  rw [hri] at hgr
  have hin : ∀ w' (x : Value) us, GR w' → Pcs w' x us (es.map (lf wi)) → Cp x → Ints w' y zs → Calls Tryd.prog 77 #[.int .i64 wi, x, y] w' fun e w'' => ∃ yo yc us, e = .returned (.slice yo (mny wi (es.map (lf wi)) 0 es.length zs).length yc) ∧ Pcs w'' (.slice yo (mny wi (es.map (lf wi)) 0 es.length zs).length yc) us (mny wi (es.map (lf wi)) 0 es.length zs) ∧ Fr (fun _ => False) w' w'' := fun w' x us h1 h2 h3 h4 => by
    have hq : ∀ u ∈ us, Bk u (fun g => g < w'.heap.size) := fun u hu => by
      obtain ⟨j, hj, rfl⟩ := List.getElem_of_mem hu
      have hj2 : j < (es.map (lf (wi : Int))).length := by rw [← h2.len]; exact hj
      rcases (h2.src j us[j] _ (List.getElem?_eq_getElem hj) (List.getElem?_eq_getElem hj2)).2.2 with h | h
      · have := map_lf_len wi hw1 hw32 es _ (List.getElem_mem hj2)
        rw [h] at this
        simp at this
        omega
      · exact h
    have := manyQ_any w'.heap.size wi _ (es.map (lf wi)) zs x y us w' (Nat.le_refl _) (by omega) h1 h2 h3 (fun p hp => by have := map_lf_len wi hw1 hw32 es p hp; omega) h4 (by omega) (fun z hz => by have := s2 z hz; omega) (fun hz => by
      rcases zs with _ | ⟨a, r⟩
      · exact absurd rfl hz
      · have := s2 a (by simp); omega) (Nat.le_refl _) hq
    unfold ManyQ at this
    rw [mnyG_top wi _ zs s1, hll] at this
    refine this.mono ?_
    rintro e w'' ⟨ao, cp, us, rfl, hV, _⟩
    have hpc := hV.pcs
    rw [hV.len] at hpc ⊢
    exact ⟨ao, cp, us, rfl, hpc, hV.own.fr⟩
  generalize mny wi (es.map (lf wi)) 0 es.length zs = V at *
  obtain ⟨xo, xc, rfl⟩ := hp.form
  obtain ⟨yo, yc, rfl⟩ := hy.form
  have hri2 := hide hy
  have hlv2 := fun w' (hf : Fr (fun _ => False) w w') => gleaves_C wi _ vs es w' (hr.fr0 hf) (hp.fr0 hf) hB (by omega)
  have HC := hide (And.intro hlv2 (And.intro hin (And.intro hr hgr)))
  have hj : 1 ≤ (wi : Int) ∧ (wi : Int) ≤ 32 := by omega
  have HJ := hide hj
  clear hlv hlv2 hin hr hp hB hn hj hgr hy hzl hri s1 s2
  generalize es.length = N at *
  generalize hZ : zs.length = Z at *
  go_enter Tryd.func47, Tryd.ntmps47
  go_wp2_with fail
  refine (may_yes wi _ (unhide HJ).1 (unhide HJ).2).mono ?_
  rintro e w0 ⟨rfl, rfl⟩
  go_wp2_with fail
  refine (unhide HC).2.2.2.mono ?_
  rintro e w1 ⟨rfl, hF⟩
  have H0 := hide hF
  clear hF
  go_wp2_with fail
  refine ((unhide HC).1 w1 (unhide H0)).mono ?_
  rintro e w2 ⟨ao, cp, us, rfl, hP, hF, hC⟩
  have H1 := hide (And.intro hP (And.intro ((unhide H0).trans hF (fun _ _ h => h)) hC))
  clear hP hF hC
  go_wp2_with fail
  refine ((unhide HC).2.1 w2 _ us ((unhide HC).2.2.1.fr0 (unhide H1).2.1) (unhide H1).1 (unhide H1).2.2 ((unhide hri2).fr0 (unhide H1).2.1)).mono ?_
  rintro e w3 ⟨yo, yc, us2, rfl, hP, hF⟩
  have H2 := hide (And.intro hP ((unhide H1).2.1.trans hF (fun _ _ h => h)))
  clear hP hF
  go_wp2_with fail
  go_returns
  first | exact ⟨yo, yc, us2, rfl, (unhide H2).1, (unhide H2).2⟩ | exact ⟨yo, yc, rfl, ⟨us2, (unhide H2).1⟩, (unhide H2).2⟩
set_option maxRecDepth 100000 in
set_option maxHeartbeats 1000000 in
theorem gmany_no (j : Int) (x y : Value) (vs : List Value) (es : List (List Nat)) (zs : List Int) (w : World) (hp : Pcs w x vs es) (hy : Ints w y zs) (hl : zs.length ≤ 4000000) (hb : ∀ z ∈ zs, -9223372036854775808 ≤ z) (h : (j < 1 ∨ 32 < j) ∨ rsF es.length 0 zs = false) :
    Calls Tryd.prog 47 #[.int .i64 j, x, y] w fun e w' => e = .returned (.tuple #[.slice none 0 0, .int .i64 1]) ∧ Fr (fun _ => False) w w' := by
  have hgr := grising_any y zs es.length w hy (by omega) hb
  obtain ⟨xo, xc, rfl⟩ := hp.form
  obtain ⟨yo, yc, rfl⟩ := hy.form
  clear hp hy hl hb
  by_cases hj : j < 1 ∨ 32 < j
  · clear h hgr
    generalize es.length = N at *
    generalize zs.length = Z at *
    go_enter Tryd.func47, Tryd.ntmps47
    go_wp2_with fail
    refine (may_no j _ hj).mono ?_
    rintro e w0 ⟨rfl, rfl⟩
    go_wp2_with fail
    go_returns
    exact ⟨rfl, Fr.refl _ _⟩
  · have HJ := hide (show 1 ≤ j ∧ j ≤ 32 by omega)
    rw [h.resolve_left hj] at hgr
    have HG := hide hgr
    clear h hj hgr
    generalize es.length = N at *
    generalize zs.length = Z at *
    go_enter Tryd.func47, Tryd.ntmps47
    go_wp2_with fail
    refine (may_yes j _ (unhide HJ).1 (unhide HJ).2).mono ?_
    rintro e w0 ⟨rfl, rfl⟩
    go_wp2_with fail
    refine (unhide HG).mono ?_
    rintro e w1 ⟨rfl, hF⟩
    have H0 := hide hF
    clear hF
    go_wp2_with fail
    go_returns
    exact ⟨rfl, unhide H0⟩
/-- What Many tells, whatever it is asked. -/
def okM (j : Int) (es : List (List Nat)) (zs : List Int) : Prop := 1 ≤ j ∧ j ≤ 32 ∧ rsF es.length 0 zs = true
instance (j : Int) (es : List (List Nat)) (zs : List Int) : Decidable (okM j es zs) := inferInstanceAs (Decidable (_ ∧ _))
def plM (j : Int) (es : List (List Nat)) (zs : List Int) : List (List Nat) := if okM j es zs then mny j.toNat (es.map (lf j)) 0 es.length zs else []
def pcM (j : Int) (es : List (List Nat)) (zs : List Int) : Int := if okM j es zs then 0 else 1
theorem plM_ok (j : Int) (es : List (List Nat)) (zs : List Int) : (∀ p ∈ plM j es zs, p.length ≤ 1000) ∧ (plM j es zs).length ≤ es.length + 1 := by
  rw [plM]
  split
  · rename_i h
    obtain ⟨h1, h2, h3⟩ := h
    obtain ⟨wi, rfl⟩ : ∃ k : Nat, j = (k : Int) := ⟨j.toNat, by omega⟩
    refine ⟨fun p hp => ?_, mny_le _ _ _ _ _⟩
    have := mny_wid wi (by omega) (by omega) _ (map_lf_len wi (by omega) (by omega) es) _ _ _ _ (Nat.le_refl _) p hp
    omega
  · exact ⟨fun p hp => (by cases hp), Nat.zero_le _⟩
theorem gmanyU (j : Int) (x y : Value) (vs : List Value) (es : List (List Nat)) (zs : List Int) (w : World) (hr : GR w) (hp : Pcs w x vs es) (hB : ∀ e ∈ es, e.length ≤ 4000000) (hn : es.length ≤ 4000000) (hy : Ints w y zs) (hl : zs.length ≤ 4000000) (hb : ∀ z ∈ zs, -9223372036854775808 ≤ z) :
    Calls Tryd.prog 47 #[.int .i64 j, x, y] w fun e w' => ∃ yo yc us, e = .returned (.tuple #[.slice yo (plM j es zs).length yc, .int .i64 (pcM j es zs)]) ∧ Pcs w' (.slice yo (plM j es zs).length yc) us (plM j es zs) ∧ Fr (fun _ => False) w w' := by
  by_cases h : okM j es zs
  · rw [pcM, plM, if_pos h, if_pos h]
    obtain ⟨h1, h2, h3⟩ := h
    obtain ⟨wi, rfl⟩ : ∃ k : Nat, j = (k : Int) := ⟨j.toNat, by omega⟩
    exact gmany_in wi (by omega) (by omega) x y vs es zs w hr hp hB hn hy hl h3
  · rw [pcM, plM, if_neg h, if_neg h]
    refine (gmany_no j x y vs es zs w hp hy hl hb (by
      unfold okM at h
      by_cases hj : j < 1 ∨ 32 < j
      · exact .inl hj
      · right
        cases hc : rsF es.length 0 zs
        · rfl
        · exact absurd ⟨by omega, by omega, hc⟩ h)).mono ?_
    rintro e w' ⟨rfl, hF⟩
    exact ⟨none, 0, [], rfl, pcs_nil _, hF⟩
theorem mmanyU (j : Int) (x y : Value) (vs : List Value) (es : List (List Nat)) (zs : List Int) (w : World) (hg : GS w) (ht : GT w) (hp : Pcs w x vs es) (hB : ∀ e ∈ es, e.length ≤ 16000000) (hn : es.length ≤ 8000000) (hy : Ints w y zs) (hl : zs.length ≤ 4000000) (hb : ∀ z ∈ zs, -9223372036854775808 ≤ z) :
    Calls Tryd.prog 13 #[.int .i64 j, x, y] w fun e w' => ∃ ao cp us, e = .returned (.tuple #[.slice ao us.length cp, .int .i64 (pcM j es zs)]) ∧ OL w w' ao cp us (plM j es zs) := by
  by_cases h : okM j es zs
  · rw [pcM, plM, if_pos h, if_pos h]
    obtain ⟨h1, h2, h3⟩ := h
    obtain ⟨wi, rfl⟩ : ∃ k : Nat, j = (k : Int) := ⟨j.toNat, by omega⟩
    exact mmany_in wi (by omega) (by omega) x y vs es zs w hg ht hp hB hn hy (by omega) h3
  · rw [pcM, plM, if_neg h, if_neg h]
    refine (mmany_no j x y vs es zs w hg hp hB hn hy (by omega) hb (by
      unfold okM at h
      by_cases hj : j < 1 ∨ 32 < j
      · exact .inl hj
      · right
        cases hc : rsF es.length 0 zs
        · rfl
        · exact absurd ⟨by omega, by omega, hc⟩ h)).mono ?_
    rintro e w' ⟨rfl, hF⟩
    exact ⟨none, 0, [], rfl, (OL.nil w).fr0 hF⟩
end Go.Proofs.YthccbfgjekdiiaaDoor

namespace Go.Proofs.YthccbfgjekdiiaaDoor
open Go.RowKit

/-- The root that leaves' hashes at places and further hashes give, and what is left of these. -/
def gth (wi : Nat) (f n : Nat) (zs : List Int) (ls hs : List (List Nat)) : Option (List Nat × List (List Nat)) :=
  if zs = [] then (match hs with
    | [] => none
    | h :: r => some (h, r))
  else if _h : n < 2 then some (ls.headD [], hs)
  else (gth wi f (hf n) (zs.take (zs.countP (· < ((f + hf n : Nat) : Int)))) (ls.take (zs.countP (· < ((f + hf n : Nat) : Int)))) hs).bind fun a =>
    (gth wi (f + hf n) (n - hf n) (zs.drop (zs.countP (· < ((f + hf n : Nat) : Int)))) (ls.drop (zs.countP (· < ((f + hf n : Nat) : Int)))) a.2).bind fun b => some (nd wi a.1 b.1, b.2)
termination_by n
decreasing_by
  · exact hf_lt n (by omega)
  · have := hf_pos n; omega
theorem gth_nil (wi f n : Nat) (ls : List (List Nat)) : gth wi f n [] ls [] = none := by rw [gth, if_pos rfl]
theorem gth_next (wi f n : Nat) (ls : List (List Nat)) (h : List Nat) (r : List (List Nat)) : gth wi f n [] ls (h :: r) = some (h, r) := by rw [gth, if_pos rfl]
theorem gth_one {wi f n : Nat} {zs : List Int} {ls hs : List (List Nat)} (hz : zs ≠ []) (h : n < 2) : gth wi f n zs ls hs = some (ls.headD [], hs) := by rw [gth.eq_def, if_neg hz, dif_pos h]
theorem gth_two {wi f n : Nat} {zs : List Int} {ls hs : List (List Nat)} (hz : zs ≠ []) (h : 2 ≤ n) : gth wi f n zs ls hs = (gth wi f (hf n) (zs.take (zs.countP (· < ((f + hf n : Nat) : Int)))) (ls.take (zs.countP (· < ((f + hf n : Nat) : Int)))) hs).bind fun a =>
    (gth wi (f + hf n) (n - hf n) (zs.drop (zs.countP (· < ((f + hf n : Nat) : Int)))) (ls.drop (zs.countP (· < ((f + hf n : Nat) : Int)))) a.2).bind fun b => some (nd wi a.1 b.1, b.2) := by
  conv => lhs; rw [gth.eq_def, if_neg hz, dif_neg (by omega)]
theorem cnt_le (t : Int) (zs : List Int) : zs.countP (· < t) ≤ zs.length := List.countP_le_length
/-- Its root is as wide as the hashes are; what is left is an end of them. -/
theorem gth_wid (wi : Nat) (hw1 : 1 ≤ wi) (hw32 : wi ≤ 32) (m : Nat) : ∀ f n zs (ls hs : List (List Nat)) t r, n ≤ m → ls.length = zs.length → (∀ p ∈ ls, p.length = wi) → (∀ p ∈ hs, p.length = wi) → gth wi f n zs ls hs = some (t, r) → t.length = wi ∧ ∃ j, j ≤ hs.length ∧ r = hs.drop j := by
  induction m with
  | zero =>
    intro f n zs ls hs t r h hl hlw hhw he
    by_cases hz : zs = []
    · subst hz
      rcases hs with _ | ⟨a, b⟩
      · rw [gth_nil] at he; cases he
      · rw [gth_next] at he; cases he
        exact ⟨hhw _ (by simp), 1, by simp, rfl⟩
    · rw [gth_one hz (by omega)] at he; cases he
      refine ⟨?_, 0, Nat.zero_le _, rfl⟩
      rcases ls with _ | ⟨a, b⟩
      · exact absurd (List.length_eq_zero_iff.1 hl.symm) hz
      · exact hlw a (by simp)
  | succ m ih =>
    intro f n zs ls hs t r h hl hlw hhw he
    by_cases hz : zs = []
    · subst hz
      rcases hs with _ | ⟨a, b⟩
      · rw [gth_nil] at he; cases he
      · rw [gth_next] at he; cases he
        exact ⟨hhw _ (by simp), 1, by simp, rfl⟩
    · by_cases h2 : n < 2
      · rw [gth_one hz h2] at he; cases he
        refine ⟨?_, 0, Nat.zero_le _, rfl⟩
        rcases ls with _ | ⟨a, b⟩
        · exact absurd (List.length_eq_zero_iff.1 hl.symm) hz
        · exact hlw a (by simp)
      · rw [gth_two hz (by omega)] at he
        have h3 := hf_lt n (by omega)
        have h4 := hf_pos n
        have hc := cnt_le ((f + hf n : Nat) : Int) zs
        generalize zs.countP (· < ((f + hf n : Nat) : Int)) = C at *
        obtain ⟨a, ha, he⟩ := Option.bind_eq_some_iff.1 he
        obtain ⟨b, hb, he⟩ := Option.bind_eq_some_iff.1 he
        cases he
        obtain ⟨-, j, hj, e⟩ := ih f (hf n) _ _ hs a.1 a.2 (by omega) (by rw [List.length_take, List.length_take, hl]) (fun p hp => hlw p (List.mem_of_mem_take hp)) hhw ha
        obtain ⟨-, k, hk, e2⟩ := ih (f + hf n) (n - hf n) _ _ a.2 b.1 b.2 (by omega) (by rw [List.length_drop, List.length_drop, hl]) (fun p hp => hlw p (List.mem_of_mem_drop hp)) (fun p hp => by rw [e] at hp; exact hhw p (List.mem_of_mem_drop hp)) hb
        refine ⟨nd_len wi hw1 hw32 _ _, j + k, ?_, ?_⟩
        · rw [e, List.length_drop] at hk; omega
        · rw [e2, e, List.drop_drop]
/-- What is told is taken: the hashes for places, with others behind them. -/
theorem gth_mny (wi : Nat) (L : List (List Nat)) (m : Nat) : ∀ f n zs (rest : List (List Nat)), n ≤ m → f + n ≤ L.length → zs.Pairwise (· < ·) → (∀ z ∈ zs, (f : Int) ≤ z ∧ z < ((f + n : Nat) : Int)) → gth wi f n zs (zs.map fun z => L.getD z.toNat []) (mny wi L f n zs ++ rest) = some (mth wi (blk L f n), rest) := by
  induction m with
  | zero =>
    intro f n zs rest h hL hs hb
    have hz : zs = [] := by
      rcases zs with _ | ⟨a, r⟩
      · rfl
      · have := hb a (by simp); omega
    subst hz
    rw [mny_nil]; exact gth_next _ _ _ _ _ _
  | succ m ih =>
    intro f n zs rest h hL hs hb
    by_cases hz : zs = []
    · subst hz; rw [mny_nil]; exact gth_next _ _ _ _ _ _
    · by_cases h2 : n < 2
      · rw [mny_one hz h2, gth_one hz h2]
        rcases zs with _ | ⟨a, r⟩
        · exact absurd rfl hz
        · have h1 := hb a (by simp)
          have hn : n = 1 := by omega
          subst hn
          have ha : a.toNat = f := by omega
          simp only [List.map_cons, List.headD_cons, List.nil_append, ha]
          have hfl : f < L.length := by omega
          rw [blk, List.drop_eq_getElem_cons hfl, List.take_succ_cons, List.take_zero, mth_one]
          rw [List.getD, List.getElem?_eq_getElem hfl]; rfl
      · have h3 := hf_lt n (by omega)
        have h4 := hf_pos n
        rw [mny_two hz (by omega), gth_two hz (by omega)]
        obtain ⟨s1, s2⟩ := count_split ((f + hf n : Nat) : Int) zs hs
        generalize zs.countP (· < ((f + hf n : Nat) : Int)) = C at *
        rw [← List.map_take, ← List.map_drop, List.append_assoc, ih f (hf n) _ _ (by omega) (by omega) (hs.sublist (List.take_sublist _ _)) (fun z hz => ⟨(hb z (List.mem_of_mem_take hz)).1, s1 z hz⟩)]
        rw [Option.bind_some]
        simp only
        rw [ih (f + hf n) (n - hf n) _ _ (by omega) (by omega) (hs.sublist (List.drop_sublist _ _)) (fun z hz => ⟨s2 z hz, by have := (hb z (List.mem_of_mem_drop hz)).2; omega⟩)]
        rw [Option.bind_some]
        simp only
        rw [blk_halves L f n (by omega) hL wi]
/-- Nothing is left, and what comes out is the root. -/
def gEnd (G : Option (List Nat × List (List Nat))) (root : List Nat) : Bool :=
  match G with
  | some (t, []) => decide (t = root)
  | _ => false
/-- Whether CheckMany takes hashes. -/
def chkM (j n : Int) (ls : List (List Nat)) (zs : List Int) (hs : List (List Nat)) (root : List Nat) : Bool :=
  decide (1 ≤ j ∧ j ≤ 32) && (decide (0 ≤ n) && (rsF n 0 zs && (decide (ls.length = zs.length) && (decide ((root.length : Int) = j) && (wdq j ls && (wdq j hs &&
    gEnd (gth j.toNat 0 n.toNat zs ls hs) root))))))
theorem chkM_true {j n : Int} {ls : List (List Nat)} {zs : List Int} {hs : List (List Nat)} {root : List Nat} (h1 : 1 ≤ j) (h2 : j ≤ 32) (h3 : 0 ≤ n) (h4 : rsF n 0 zs = true) (h5 : ls.length = zs.length) (h6 : (root.length : Int) = j) (h7 : wdq j ls = true) (h8 : wdq j hs = true) : chkM j n ls zs hs root = gEnd (gth j.toNat 0 n.toNat zs ls hs) root := by
  rw [chkM, decide_eq_true ⟨h1, h2⟩, decide_eq_true h3, h4, decide_eq_true h5, decide_eq_true h6, h7, h8]
  simp only [Bool.true_and]
theorem chkM_false {j n : Int} {ls : List (List Nat)} {zs : List Int} {hs : List (List Nat)} {root : List Nat} (h : ¬ (1 ≤ j ∧ j ≤ 32 ∧ 0 ≤ n ∧ rsF n 0 zs = true ∧ ls.length = zs.length ∧ (root.length : Int) = j ∧ wdq j ls = true ∧ wdq j hs = true)) : chkM j n ls zs hs root = false := by
  cases hq : chkM j n ls zs hs root with
  | false => rfl
  | true =>
    refine absurd ?_ h
    unfold chkM at hq
    simp only [Bool.and_eq_true, decide_eq_true_eq] at hq
    obtain ⟨⟨a1, a2⟩, a3, a4, a5, a6, a7, a8, -⟩ := hq
    exact ⟨a1, a2, a3, a4, a5, a6, a7, a8⟩
end Go.Proofs.YthccbfgjekdiiaaDoor

namespace Go.Proofs.YthccbfgjekdiiaaDoor
open Go.RowKit

theorem Pcs.zero {w : World} (a : Addr) (c : Nat) : Pcs w (.slice (some a) 0 c) [] [] := ⟨rfl, .inr (.inl ⟨_, _, rfl, rfl⟩), (fun j v p h => by simp at h), (fun p h => by cases h)⟩
/-- What lies behind the first k. -/
theorem Pcs.rest {w : World} {g o n c : Nat} {vs : List Value} {ps : List (List Nat)} (h : Pcs w (.slice (some ⟨g, o, none⟩) n c) vs ps) (hn : n = ps.length) (k : Nat) (hk : k ≤ n) : Pcs w (.slice (some ⟨g, o + k, none⟩) (n - k) (c - k)) (vs.drop k) (ps.drop k) := by
  by_cases e : k = n
  · subst e
    have h1 : ps.drop k = [] := List.drop_eq_nil_of_le (by omega)
    have h2 : vs.drop k = [] := List.drop_eq_nil_of_le (by rw [h.len]; omega)
    rw [h1, h2, Nat.sub_self]
    exact Pcs.zero _ _
  · exact h.drop k (by omega)
/-- A manyClaim at mb: its width, the hashes not used yet; W0: the world in which these lay already. -/
structure McAt (W0 w : World) (mb wi : Nat) (hs : List (List Nat)) : Prop where
  fr : Fr (fun _ => False) W0 w
  lo : W0.heap.size ≤ mb
  c0 : w.cell? ⟨mb, 0, none⟩ = some (.int .i64 wi)
  fz : w.frozen? ⟨mb, 1, none⟩ = false
  c1 : ∃ x us, w.cell? ⟨mb, 1, none⟩ = some x ∧ Pcs W0 x us hs ∧ Cp x
theorem McAt.fr0 {W0 w w' : World} {mb wi : Nat} {hs : List (List Nat)} (h : McAt W0 w mb wi hs) (hf : Fr (fun _ => False) w w') : McAt W0 w' mb wi hs := by
  obtain ⟨x, us, c1, hp, hc⟩ := h.c1
  have hl := lt_of_cell h.c0
  exact ⟨h.fr.trans hf (fun _ _ h => h), h.lo, (hf.cell hl (fun h => h)).trans h.c0, (hf.frozen (p := ⟨mb, 1, none⟩) hl (fun h => h)).trans h.fz, x, us, (hf.cell (p := ⟨mb, 1, none⟩) hl (fun h => h)).trans c1, hp, hc⟩
/-- The hashes move on. -/
theorem McAt.move {W0 w : World} {mb wi : Nat} {hs rs : List (List Nat)} (h : McAt W0 w mb wi hs) (y : Value) (us : List Value) (hp : Pcs W0 y us rs) (hc : Cp y) : McAt W0 (w.setCell ⟨mb, 1, none⟩ y) mb wi rs ∧ Fr (fun g => g = mb) w (w.setCell ⟨mb, 1, none⟩ y) := by
  obtain ⟨x, _, c1, _, _⟩ := h.c1
  refine ⟨⟨h.fr.setCell (.inr h.lo) _, h.lo, ?_, by rw [World.frozen?_setCell]; exact h.fz, y, us, World.cell?_setCell_same' _ _ _ (by rw [c1]; rfl), hp, hc⟩, (Fr.refl (fun g => g = mb) w).setCell (p := ⟨mb, 1, none⟩) (.inl rfl) y⟩
  rw [World.cell?_setCell_other _ _ _ _ (by intro e; injection e with e1 e2; omega)]
  exact h.c0
set_option maxRecDepth 100000 in
set_option maxHeartbeats 1000000 in
theorem mnext_no (W0 w : World) (mb wi : Nat) (h : McAt W0 w mb wi []) : Calls Tryd.prog 66 #[.pointer (some ⟨mb, 0, none⟩)] w fun e w' => e = .returned (.slice none 0 0) ∧ Fr (fun _ => False) w w' := by
  obtain ⟨x, us, c1, hp, hc⟩ := h.c1
  obtain ⟨xo, xc, rfl⟩ := hp.form
  simp only [List.length_nil] at c1
  clear hp hc h
  go_enter Tryd.func66, Tryd.ntmps66
  go_wp2_with fail
  go_ret
  exact ⟨rfl, Fr.refl _ _⟩
set_option maxRecDepth 100000 in
set_option maxHeartbeats 1000000 in
theorem mnext_yes (W0 w : World) (mb wi : Nat) (p : List Nat) (r : List (List Nat)) (h : McAt W0 w mb wi (p :: r)) : Calls Tryd.prog 66 #[.pointer (some ⟨mb, 0, none⟩)] w fun e w' => ∃ vo vc, e = .returned (.slice vo p.length vc) ∧ Sl W0 (.slice vo p.length vc) p ∧ McAt W0 w' mb wi r ∧ Fr (fun g => g = mb) w w' := by
  obtain ⟨x, us, c1, hp, hc⟩ := h.c1
  obtain ⟨xo, xc, rfl⟩ := hp.form
  obtain ⟨g, o, vo, vc, rfl, hcell, hsl⟩ := hp.nth h.fr 0 (by simp)
  obtain ⟨g', o', vo', vc', e', hcell', hsl'⟩ := hp.nth (Fr.refl _ W0) 0 (by simp)
  cases e'
  have ev : Value.slice vo' p.length vc' = .slice vo p.length vc := by
    have h1 := (h.fr.cell (lt_of_cell hcell') (fun h => h)).trans hcell'
    have h2 := h1.symm.trans hcell
    simpa using h2
  simp only [List.getElem_cons_zero, Nat.add_zero] at hcell hsl hsl' hcell'
  have hcap : r.length + 1 ≤ xc := hc _ _ _ rfl
  have hz := h.fz
  have q0 : (((r.length : Int) + 1) == 0) = false := beq_false_of_ne (by omega)
  have q1 : ¬ (r.length : Int) + 1 = 0 := by omega
  have q2 : (0 : Int) < (r.length : Int) + 1 := by omega
  have q3 : (1 : Int) ≤ (r.length : Int) + 1 := by omega
  have e1 : (r.length : Int) + 1 - 1 = (r.length : Int) := by omega
  rw [List.length_cons] at c1
  have hS : Sl W0 (.slice vo p.length vc) p := by rw [← ev]; exact hsl'
  by_cases h1 : xc = 1
  · have hr0 : r = [] := List.length_eq_zero_iff.1 (by omega)
    subst h1 hr0
    have HM := hide (And.intro hS (h.move (.slice (some ⟨g, o, none⟩) 0 0) [] (Pcs.zero _ _) (fun _ _ _ e => by cases e; exact Nat.le_refl _)))
    simp only [List.length_nil, Nat.zero_add] at *
    clear hS h hp hc hsl hsl' hcell' ev
    generalize p.length = PL at *
    go_enter Tryd.func66, Tryd.ntmps66
    go_wp2_with fail
    go_ret
    exact ⟨vo, vc, rfl, (unhide HM).1, (unhide HM).2.1, (unhide HM).2.2⟩
  · have hP := hp.rest rfl 1 (by simp)
    simp only [List.drop_succ_cons, List.drop_zero, List.length_cons, Nat.add_sub_cancel] at hP
    have HM := hide (And.intro hS (h.move _ _ hP (fun _ _ _ e => by cases e; omega)))
    have q4 : ¬ xc = 1 := h1
    have q5 : ((xc : Int) - 1).toNat = xc - 1 := by omega
    clear hS h hp hc hsl hsl' hcell' ev hP
    generalize p.length = PL at *
    generalize r.length = RL at *
    go_enter Tryd.func66, Tryd.ntmps66
    go_wp2_with fail
    go_ret
    exact ⟨vo, vc, rfl, (unhide HM).1, (unhide HM).2.1, (unhide HM).2.2⟩
end Go.Proofs.YthccbfgjekdiiaaDoor

namespace Go.Proofs.YthccbfgjekdiiaaDoor
open Go.RowKit

theorem Sl.at1 {w : World} {xo : Option Addr} {n c : Nat} {l : List Nat} (h : Sl w (.slice xo n c) l) (h0 : 0 < l.length) : ∃ g o, xo = some ⟨g, o, none⟩ ∧ g < w.heap.size := by
  rcases h.s with ⟨e, rfl⟩ | ⟨g, o, c', e, _⟩ | ⟨a, c', e, rfl⟩
  · simp at h0
  · simp only [Value.slice.injEq] at e
    obtain ⟨rfl, _, rfl⟩ := e
    refine ⟨g, o, rfl, (h.lt.resolve_left (fun e => by rw [e] at h0; simp at h0)) g o _ _ rfl⟩
  · simp at h0
/-- What manyClaim.top tells of a part. -/
def TpSays (W0 : World) (wi mb f n : Nat) (zs : List Int) (ls : List (List Nat)) (lv pv : Value) : Prop :=
  ∀ (hs : List (List Nat)) (w : World), McAt W0 w mb wi hs → (∀ p ∈ hs, p.length = wi) → Calls Tryd.prog 39 #[.pointer (some ⟨mb, 0, none⟩), sv f n, lv, pv] w fun e w' =>
    (∀ t r, gth wi f n zs ls hs = some (t, r) → ∃ yo yc, e = .returned (.slice (some yo) wi yc) ∧ Sl w' (.slice (some yo) wi yc) t ∧ Bk (.slice (some yo) wi yc) (fun g => g ≠ mb) ∧ McAt W0 w' mb wi r) ∧
    (gth wi f n zs ls hs = none → e = .returned (.slice none 0 0) ∧ ∃ r, McAt W0 w' mb wi r) ∧ Fr (fun g => g = mb) w w'
set_option maxRecDepth 100000 in
set_option maxHeartbeats 1000000 in
/-- No place lies in the part. -/
theorem mtop_nil (W0 : World) (wi mb f n : Nat) (hw1 : 1 ≤ wi) (ls : List (List Nat)) (lv pv : Value) (hx : Ints W0 pv []) (hl : ∃ a b c, lv = .slice a b c) : TpSays W0 wi mb f n [] ls lv pv := by
  intro hs w hM hw
  obtain ⟨xo, xc, rfl⟩ := hx.form
  obtain ⟨la, lb, lc, rfl⟩ := hl
  simp only [List.length_nil]
  unfold sv
  obtain ⟨Wa, hWa⟩ : ∃ Wa, w.alloc (.cells #[.int .i64 f, .int .i64 n] 57) = Wa := ⟨_, rfl⟩
  have hFa : Fr (fun _ => False) w Wa := by rw [← hWa]; exact (Fr.refl _ _).alloc _
  have hMa := hM.fr0 hFa
  rcases hs with _ | ⟨p, r⟩
  · have hnx := mnext_no W0 Wa mb wi hMa
    rw [gth_nil]
    have HC := hide (And.intro hnx (And.intro hFa hMa))
    clear hnx hFa hMa hM hw hx
    go_enter Tryd.func39, Tryd.ntmps39
    go_wp2_with fail
    try rw [hWa]
    clear hWa
    refine (unhide HC).1.mono ?_
    rintro e w1 ⟨rfl, hF⟩
    have H1 := hide hF
    clear hF
    go_wp2_with fail
    go_ret
    exact ⟨(fun t r h => by cases h), (fun _ => ⟨rfl, _, (unhide HC).2.2.fr0 (unhide H1)⟩), ((unhide HC).2.1.trans (unhide H1) (fun _ _ h => h)).mono (fun _ _ h => h.elim)⟩
  · have hnx := mnext_yes W0 Wa mb wi p r hMa
    have hpw := hw p (by simp)
    rw [gth_next]
    have HC := hide (And.intro hnx (And.intro hFa (And.intro hMa hpw)))
    clear hnx hFa hMa hM hw hx hpw
    go_enter Tryd.func39, Tryd.ntmps39
    go_wp2_with fail
    try rw [hWa]
    clear hWa
    refine (unhide HC).1.mono ?_
    rintro e w1 ⟨vo, vc, rfl, hS, hM1, hF⟩
    have H1 := hide (And.intro hS (And.intro hM1 hF))
    clear hS hM1 hF
    rw [(unhide HC).2.2.2]
    go_wp2_with fail
    go_ret
    refine ⟨(fun t r h => ?_), (fun h => by cases h), ((unhide HC).2.1.mono (fun _ _ h => h.elim)).trans (unhide H1).2.2 (fun _ _ h => h)⟩
    cases h
    have hS := (unhide H1).1
    have hpw := (unhide HC).2.2.2
    obtain ⟨g, o, rfl, hg⟩ := hS.at1 (by omega)
    rw [hpw] at hS
    refine ⟨_, vc, rfl, hS.fr0 (unhide H1).2.1.fr, fun g' o' n' c' e => ?_, (unhide H1).2.1⟩
    cases e
    have := (unhide H1).2.1.lo
    omega
set_option maxRecDepth 100000 in
set_option maxHeartbeats 1000000 in
/-- The part is a place. -/
theorem mtop_one (W0 : World) (wi mb f : Nat) (hw1 : 1 ≤ wi) (zs : List Int) (ls : List (List Nat)) (us : List Value) (lv pv : Value) (hz : zs ≠ []) (hll : ls.length = zs.length) (hlw : ∀ p ∈ ls, p.length = wi) (hlp : Pcs W0 lv us ls) (hx : Ints W0 pv zs) : TpSays W0 wi mb f 1 zs ls lv pv := by
  intro hs w hM hw
  have h0 : 0 < zs.length := List.length_pos_iff.2 hz
  obtain ⟨xo, xc, rfl⟩ := hx.form
  obtain ⟨lo, lc, rfl⟩ := hlp.form
  unfold sv
  obtain ⟨Wa, hWa⟩ : ∃ Wa, w.alloc (.cells #[.int .i64 f, .int .i64 ((1 : Nat) : Int)] 57) = Wa := ⟨_, rfl⟩
  obtain ⟨a0, a1, hFa⟩ := box2p w _ _ _ Wa hWa
  have hMa := hM.fr0 hFa
  obtain ⟨g, o, vo, vc, rfl, hcell, hsl⟩ := hlp.nth hMa.fr 0 (by omega)
  have hg0 : ls.headD [] = ls[0]'(by omega) := by
    match ls, hll with
    | [], h => simp at h; omega
    | p :: q, _ => rfl
  have hpw := hlw ls[0] (List.getElem_mem _)
  rw [gth_one hz (by decide), hg0]
  obtain ⟨g', o', vo', vc', e', hcell', hsl'⟩ := hlp.nth (Fr.refl _ W0) 0 (by omega)
  cases e'
  generalize ls[0] = A at *
  obtain ⟨vg, vo2, rfl, hvg⟩ := hsl'.at1 (by omega)
  have ev := ((hMa.fr.cell (lt_of_cell hcell') (fun h => h)).trans hcell').symm.trans hcell
  simp only [Option.some.injEq, Value.slice.injEq, true_and] at ev
  obtain ⟨rfl, rfl⟩ := ev
  rw [hpw, Nat.add_zero] at hcell
  rw [hpw] at hsl
  have q0 : ((zs.length : Int) == 0) = false := beq_false_of_ne (by omega)
  have q1 : ¬ zs.length = 0 := by omega
  have q2 : (0 : Int) < (ls.length : Int) := by omega
  have HC := hide (And.intro hsl (And.intro hFa (And.intro hMa hvg)))
  clear hsl hFa hMa hM hw hx hlp hlw hll hcell' hsl' hg0 hpw
  generalize zs.length = N at *
  generalize ls.length = LN at *
  have e1 : ((1 : Nat) : Int) = 1 := rfl
  simp only [e1] at *
  subst hWa
  go_enter Tryd.func39, Tryd.ntmps39
  go_wp2_with fail
  go_ret
  refine ⟨(fun t r h => ?_), (fun h => by cases h), (unhide HC).2.1.mono (fun _ _ h => h.elim)⟩
  cases h
  refine ⟨_, _, rfl, (unhide HC).1, fun g' o' n' c' e => ?_, (unhide HC).2.2.1⟩
  cases e
  have := (unhide HC).2.2.1.lo
  have := (unhide HC).2.2.2
  omega
end Go.Proofs.YthccbfgjekdiiaaDoor

namespace Go.Proofs.YthccbfgjekdiiaaDoor
open Go.RowKit

/-- What manyClaim.top tells, where what comes out is known. -/
def TpYes (W0 : World) (wi mb : Nat) (w w' : World) (e : Ending) (t : List Nat) (r : List (List Nat)) : Prop :=
  ∃ yo yc, e = .returned (.slice (some yo) wi yc) ∧ Sl w' (.slice (some yo) wi yc) t ∧ Bk (.slice (some yo) wi yc) (fun g => g ≠ mb) ∧ McAt W0 w' mb wi r ∧ Fr (fun g => g = mb) w w'
def TpNo (W0 : World) (wi mb : Nat) (w w' : World) (e : Ending) : Prop :=
  e = .returned (.slice none 0 0) ∧ (∃ r, McAt W0 w' mb wi r) ∧ Fr (fun g => g = mb) w w'

set_option maxRecDepth 100000 in
set_option maxHeartbeats 2000000 in
/-- The walk, where the left half has too few hashes. -/
theorem mtop_left (W0 : World) (wi mb f n K F2 N2 C N : Nat) (lg lo lcap g o xc : Nat) (w : World) (hs : List (List Nat)) (hN : 0 < N) (hn1 : ¬ n = 1) (hCN : C ≤ N) (hNl : N ≤ lcap) (hNx : N ≤ xc) (hM : McAt W0 w mb wi hs) 
    (hhv : ∀ w', Calls Tryd.prog 59 #[sv f n] w' fun e w'' => e = .returned (.tuple #[sv f K, sv F2 N2]) ∧ Fr (fun _ => False) w' w'')
    (hfind : ∀ w', Fr (fun _ => False) W0 w' → Calls Tryd.prog 67 #[.slice (some ⟨g, o, none⟩) N xc, .int .i64 (F2 : Int)] w' fun e w'' => ∃ bb, e = .returned (.tuple #[.int .i64 (C : Nat), .bool bb]) ∧ Fr (fun _ => False) w' w'')
    (h1 : ∀ w', McAt W0 w' mb wi hs → Calls Tryd.prog 39 #[.pointer (some ⟨mb, 0, none⟩), sv f K, .slice (some ⟨lg, lo, none⟩) C lcap, .slice (some ⟨g, o, none⟩) C xc] w' fun e w'' => TpNo W0 wi mb w' w'' e) :
    Calls Tryd.prog 39 #[.pointer (some ⟨mb, 0, none⟩), sv f n, .slice (some ⟨lg, lo, none⟩) N lcap, .slice (some ⟨g, o, none⟩) N xc] w fun e w' => TpNo W0 wi mb w w' e := by
  unfold sv at *
  obtain ⟨Wa, hWa⟩ : ∃ Wa, w.alloc (.cells #[.int .i64 f, .int .i64 n] 57) = Wa := ⟨_, rfl⟩
  obtain ⟨a0, a1, hFa⟩ := box2p w _ _ _ Wa hWa
  have hmb : mb < w.heap.size := lt_of_cell hM.c0
  have hnil0 : ∀ W, (binOp .eql 25 (.slice none 0 0) (.slice none 0 0)).run Tryd.prog W = .ok (.bool true) W := fun W => Lib.run_eql_slice_nil W _ _ none 0 0 0 0 Tryd.underlying25
  have hnil1 : ∀ W a n c, (binOp .eql 25 (.slice (some a) n c) (.slice none 0 0)).run Tryd.prog W = .ok (.bool false) W := fun W a n c => Lib.run_eql_slice_nil W _ _ (some a) n c 0 0 Tryd.underlying25
  have q0 : ((N : Int) == 0) = false := beq_false_of_ne (by omega)
  have q1 : ¬ N = 0 := by omega
  have q2 : ((n : Int) == 1) = false := beq_false_of_ne (by omega)
  have q4 : (C : Int) ≤ (N : Int) := by omega
  have q5 : (C : Int) ≤ (xc : Int) := by omega
  have q6 : (C : Int) ≤ (lcap : Int) := by omega
  have HC := hide (And.intro hhv (And.intro hfind h1))
  have HM := hide (And.intro hM (And.intro hFa hmb))
  clear hhv hfind h1 hM hFa hmb
  go_enter Tryd.func39, Tryd.ntmps39
  go_wp2_with fail
  try rw [hWa]
  clear hWa
  generalize w.heap.size = b at *
  refine ((unhide HC).1 _).mono ?_
  rintro e wA ⟨rfl, hFA⟩
  have HF := hide ((unhide HM).2.1.trans hFA (fun _ _ h => h))
  have hbA : mb < wA.heap.size := Nat.lt_of_lt_of_le (lt_of_cell (unhide HM).1.c0) (unhide HF).size
  clear hFA a0 a1
  go_wp2_with fail
  obtain ⟨W1, hW1⟩ : ∃ W1, (wA.alloc (.cells #[.int .i64 f, .int .i64 K] 57)).alloc (.cells #[.int .i64 F2, .int .i64 N2] 57) = W1 := ⟨_, rfl⟩
  rw [hW1]
  obtain ⟨x0, x1, y0, y1, hF1⟩ := two2 wA _ _ _ _ _ W1 hW1
  have hF01 := (unhide HF).trans hF1 (fun _ _ h => h)
  refine ((unhide HC).2.1 _ ((unhide HM).1.fr.trans hF01 (fun _ _ h => h))).mono ?_
  rintro e wB ⟨bb, rfl, hFB⟩
  have u0 := (hFB.cell (lt_of_cell x0) (fun h => h)).trans x0
  have u1 := (hFB.cell (lt_of_cell x1) (fun h => h)).trans x1
  have v0 := (hFB.cell (lt_of_cell y0) (fun h => h)).trans y0
  have v1 := (hFB.cell (lt_of_cell y1) (fun h => h)).trans y1
  have hFB0 := hF01.trans hFB (fun _ _ h => h)
  have hMB := (unhide HM).1.fr0 hFB0
  clear hF1 hFB hW1 x0 x1 y0 y1 HF hF01
  generalize wA.heap.size = Z at *
  have hS : ∀ w', Fr (fun g => g = mb) wB w' → w'.cell? ⟨Z, 0, none⟩ = some (.int .i64 f) ∧ w'.cell? ⟨Z, 1, none⟩ = some (.int .i64 K) ∧ w'.cell? ⟨Z + 1, 0, none⟩ = some (.int .i64 F2) ∧ w'.cell? ⟨Z + 1, 1, none⟩ = some (.int .i64 N2) := fun w' hf =>
    ⟨(hf.cell (lt_of_cell u0) (fun h => by simp only at h; omega)).trans u0, (hf.cell (lt_of_cell u1) (fun h => by simp only at h; omega)).trans u1, (hf.cell (lt_of_cell v0) (fun h => by simp only at h; omega)).trans v0, (hf.cell (lt_of_cell v1) (fun h => by simp only at h; omega)).trans v1⟩
  have HS := hide hS
  have H2 := hide (And.intro hFB0 hMB)
  clear hS hFB0 hMB
  have T1 : True := trivial
  go_wp2_with fail
  go_region_held3 (fun w' => w'.cell? ⟨Z, 0, none⟩ = some (.int .i64 f) ∧ w'.cell? ⟨Z, 1, none⟩ = some (.int .i64 K) ∧ w'.cell? ⟨Z + 1, 0, none⟩ = some (.int .i64 F2) ∧ w'.cell? ⟨Z + 1, 1, none⟩ = some (.int .i64 N2))
    (first | assumption | exact (unhide HS) _ (Fr.refl _ _).drew | exact (unhide HS) _ fC)
    (first
      | (go_at_call 39; clear T1; refine ((unhide HC).2.2 _ ((unhide H2).2.fr0 (Fr.refl _ _).drew)).mono ?_; rintro e wC ⟨rfl, mC, hC⟩; have fC : Fr (fun g => g = mb) wB wC := (Fr.refl _ _).drew.trans hC (fun _ _ h => h)))
  have H3 := hide (And.intro mC fC)
  clear mC fC hC
  go_wp2_with fail
  go_ret
  exact ⟨rfl, (unhide H3).1, ((unhide H2).1.mono (fun _ _ h => h.elim)).trans (unhide H3).2 (fun _ _ h => h)⟩
end Go.Proofs.YthccbfgjekdiiaaDoor

namespace Go.Proofs.YthccbfgjekdiiaaDoor
open Go.RowKit

set_option maxRecDepth 100000 in
set_option maxHeartbeats 2000000 in
/-- The walk down both halves, what is left of neither slice is nothing at its end. -/
theorem mtop_goa (W0 : World) (wi mb f n K F2 N2 C N : Nat) (lg lo lcap g o xc : Nat) (w : World) (hs : List (List Nat)) (t1 t2 : List Nat) (r1 r2 : List (List Nat)) (A : Prop) (hw1 : 1 ≤ wi) (hnd : (nd wi t1 t2).length = wi) (hN : 0 < N) (hn1 : ¬ n = 1) (hCN : C ≤ N) (hNl : N ≤ lcap) (hNx : N ≤ xc) (hM : McAt W0 w mb wi hs) (hcl : ¬ lcap = C) (hcx : ¬ xc = C)
    (hhv : ∀ w', Calls Tryd.prog 59 #[sv f n] w' fun e w'' => e = .returned (.tuple #[sv f K, sv F2 N2]) ∧ Fr (fun _ => False) w' w'')
    (hfind : ∀ w', Fr (fun _ => False) W0 w' → Calls Tryd.prog 67 #[.slice (some ⟨g, o, none⟩) N xc, .int .i64 (F2 : Int)] w' fun e w'' => ∃ bb, e = .returned (.tuple #[.int .i64 (C : Nat), .bool bb]) ∧ Fr (fun _ => False) w' w'')
    (h1 : ∀ w', McAt W0 w' mb wi hs → Calls Tryd.prog 39 #[.pointer (some ⟨mb, 0, none⟩), sv f K, .slice (some ⟨lg, lo, none⟩) C lcap, .slice (some ⟨g, o, none⟩) C xc] w' fun e w'' => TpYes W0 wi mb w' w'' e t1 r1)
    (h2 : ∀ w', McAt W0 w' mb wi r1 → Calls Tryd.prog 39 #[.pointer (some ⟨mb, 0, none⟩), sv F2 N2, .slice (some ⟨lg, lo + C, none⟩) (N - C) (lcap - C), .slice (some ⟨g, o + C, none⟩) (N - C) (xc - C)] w' fun e w'' => (A → TpYes W0 wi mb w' w'' e t2 r2) ∧ (¬ A → TpNo W0 wi mb w' w'' e))
    (hnode : ∀ w' x y, A → Fr (fun _ => False) W0 w' → Sl w' x t1 → Sl w' y t2 → Calls Tryd.prog 62 #[.int .i64 wi, x, y] w' fun e w'' => ∃ yo, e = .returned (.slice yo wi wi) ∧ OB w' w'' yo wi (nd wi t1 t2)) :
    Calls Tryd.prog 39 #[.pointer (some ⟨mb, 0, none⟩), sv f n, .slice (some ⟨lg, lo, none⟩) N lcap, .slice (some ⟨g, o, none⟩) N xc] w fun e w' => (A → TpYes W0 wi mb w w' e (nd wi t1 t2) r2) ∧ (¬ A → TpNo W0 wi mb w w' e) := by
  have q7 : ¬ C = lcap := fun h => hcl h.symm
  have q8 : ¬ C = xc := fun h => hcx h.symm
  unfold sv at *
  obtain ⟨Wa, hWa⟩ : ∃ Wa, w.alloc (.cells #[.int .i64 f, .int .i64 n] 57) = Wa := ⟨_, rfl⟩
  obtain ⟨a0, a1, hFa⟩ := box2p w _ _ _ Wa hWa
  have hmb : mb < w.heap.size := lt_of_cell hM.c0
  have hnil0 : ∀ W, (binOp .eql 25 (.slice none 0 0) (.slice none 0 0)).run Tryd.prog W = .ok (.bool true) W := fun W => Lib.run_eql_slice_nil W _ _ none 0 0 0 0 Tryd.underlying25
  have hnil1 : ∀ W a n c, (binOp .eql 25 (.slice (some a) n c) (.slice none 0 0)).run Tryd.prog W = .ok (.bool false) W := fun W a n c => Lib.run_eql_slice_nil W _ _ (some a) n c 0 0 Tryd.underlying25
  have q0 : ((N : Int) == 0) = false := beq_false_of_ne (by omega)
  have q1 : ¬ N = 0 := by omega
  have q2 : ((n : Int) == 1) = false := beq_false_of_ne (by omega)
  have q4 : (C : Int) ≤ (N : Int) := by omega
  have q5 : (C : Int) ≤ (xc : Int) := by omega
  have q6 : (C : Int) ≤ (lcap : Int) := by omega
  have HC := hide (And.intro hhv (And.intro hfind (And.intro h1 (And.intro h2 hnode))))
  have HM := hide (And.intro hM (And.intro hFa hmb))
  clear hhv hfind h1 h2 hnode hM hFa hmb
  go_enter Tryd.func39, Tryd.ntmps39
  go_wp2_with fail
  try rw [hWa]
  clear hWa
  generalize w.heap.size = b at *
  refine ((unhide HC).1 _).mono ?_
  rintro e wA ⟨rfl, hFA⟩
  have HF := hide ((unhide HM).2.1.trans hFA (fun _ _ h => h))
  have hbA : mb < wA.heap.size := Nat.lt_of_lt_of_le (lt_of_cell (unhide HM).1.c0) (unhide HF).size
  clear hFA a0 a1
  go_wp2_with fail
  obtain ⟨W1, hW1⟩ : ∃ W1, (wA.alloc (.cells #[.int .i64 f, .int .i64 K] 57)).alloc (.cells #[.int .i64 F2, .int .i64 N2] 57) = W1 := ⟨_, rfl⟩
  rw [hW1]
  obtain ⟨x0, x1, y0, y1, hF1⟩ := two2 wA _ _ _ _ _ W1 hW1
  have hF01 := (unhide HF).trans hF1 (fun _ _ h => h)
  refine ((unhide HC).2.1 _ ((unhide HM).1.fr.trans hF01 (fun _ _ h => h))).mono ?_
  rintro e wB ⟨bb, rfl, hFB⟩
  have u0 := (hFB.cell (lt_of_cell x0) (fun h => h)).trans x0
  have u1 := (hFB.cell (lt_of_cell x1) (fun h => h)).trans x1
  have v0 := (hFB.cell (lt_of_cell y0) (fun h => h)).trans y0
  have v1 := (hFB.cell (lt_of_cell y1) (fun h => h)).trans y1
  have hFB0 := hF01.trans hFB (fun _ _ h => h)
  have hMB := (unhide HM).1.fr0 hFB0
  clear hF1 hFB hW1 x0 x1 y0 y1 HF hF01
  generalize wA.heap.size = Z at *
  have hS : ∀ w', Fr (fun g => g = mb) wB w' → w'.cell? ⟨Z, 0, none⟩ = some (.int .i64 f) ∧ w'.cell? ⟨Z, 1, none⟩ = some (.int .i64 K) ∧ w'.cell? ⟨Z + 1, 0, none⟩ = some (.int .i64 F2) ∧ w'.cell? ⟨Z + 1, 1, none⟩ = some (.int .i64 N2) := fun w' hf =>
    ⟨(hf.cell (lt_of_cell u0) (fun h => by simp only at h; omega)).trans u0, (hf.cell (lt_of_cell u1) (fun h => by simp only at h; omega)).trans u1, (hf.cell (lt_of_cell v0) (fun h => by simp only at h; omega)).trans v0, (hf.cell (lt_of_cell v1) (fun h => by simp only at h; omega)).trans v1⟩
  have HS := hide hS
  have H2 := hide (And.intro hFB0 hMB)
  clear hS hFB0 hMB
  have T1 : True := trivial
  go_wp2_with fail
  go_region_held3 (fun w' => w'.cell? ⟨Z, 0, none⟩ = some (.int .i64 f) ∧ w'.cell? ⟨Z, 1, none⟩ = some (.int .i64 K) ∧ w'.cell? ⟨Z + 1, 0, none⟩ = some (.int .i64 F2) ∧ w'.cell? ⟨Z + 1, 1, none⟩ = some (.int .i64 N2))
    (first | assumption | exact (unhide HS) _ (Fr.refl _ _).drew | exact (unhide HS) _ fC)
    (first
      | (go_at_call 39; clear T1; refine ((unhide HC).2.2.1 _ ((unhide H2).2.fr0 (Fr.refl _ _).drew)).mono ?_; rintro e wC ⟨yo, yc, rfl, sC, bC, mC, hC⟩; have fC : Fr (fun g => g = mb) wB wC := (Fr.refl _ _).drew.trans hC (fun _ _ h => h)))
  have H3 := hide (And.intro sC (And.intro bC (And.intro mC fC)))
  clear sC bC mC fC hC
  have T2 : True := trivial
  go_wp2_with fail
  by_cases hA : A
  · have HA := hide hA
    clear hA
    go_region_held3 (fun w' => w'.cell? ⟨Z, 0, none⟩ = some (.int .i64 f) ∧ w'.cell? ⟨Z, 1, none⟩ = some (.int .i64 K) ∧ w'.cell? ⟨Z + 1, 0, none⟩ = some (.int .i64 F2) ∧ w'.cell? ⟨Z + 1, 1, none⟩ = some (.int .i64 N2))
      (first | assumption | exact (unhide HS) _ (unhide H3).2.2.2.drew | exact (unhide HS) _ fD)
      (first
        | (go_at_call 39; clear T2; refine ((unhide HC).2.2.2.1 _ ((unhide H3).2.2.1.fr0 (Fr.refl _ _).drew)).mono ?_; rintro e wD ⟨hY, -⟩; obtain ⟨yo2, yc2, rfl, sD, bD, mD, hD⟩ := hY (unhide HA); have fD : Fr (fun g => g = mb) wB wD := (unhide H3).2.2.2.drew.trans hD (fun _ _ h => h)))
    have cD := mD.c0
    have fCD : Fr (fun g => g = mb) wC wD := (Fr.refl _ _).drew.trans hD (fun _ _ h => h)
    have H4 := hide (And.intro sD (And.intro bD (And.intro mD (And.intro fD ((unhide H3).1.frD fCD (.inr (fun g o n c e => (unhide H3).2.1 g o n c e)))))))
    clear sD bD mD fD hD hY fCD
    go_wp2_with fail
    refine ((unhide HC).2.2.2.2 _ _ _ (unhide HA) (unhide H4).2.2.1.fr (unhide H4).2.2.2.2 (unhide H4).1).mono ?_
    rintro e wE ⟨no, rfl, oE⟩
    have HE := hide oE
    clear oE
    go_wp2_with fail
    go_ret
    refine ⟨fun _ => ?_, fun h => absurd (unhide HA) h⟩
    have oE := unhide HE
    have hS : Sl wE (.slice no (nd wi t1 t2).length wi) (nd wi t1 t2) := oE.sl (nd_lt _ _ _)
    obtain ⟨gE, gO, rfl, hgE⟩ := hS.at1 (by omega)
    rw [hnd] at hS
    refine ⟨_, wi, rfl, hS, fun g' o' n' c' e => ?_, (unhide H4).2.2.1.fr0 oE.fr, ((unhide H2).1.mono (fun _ _ h => h.elim)).trans ((unhide H4).2.2.2.1.trans (oE.fr.mono (fun _ _ h => h.elim)) (fun _ _ h => h)) (fun _ _ h => h)⟩
    cases e
    have h1 := (World.ownsRow.lt oE.own gE (by rfl)).1
    have h2 := lt_of_cell cD
    simp only at h2
    omega
  · have HA := hide hA
    clear hA
    go_region_held3 (fun w' => w'.cell? ⟨Z, 0, none⟩ = some (.int .i64 f) ∧ w'.cell? ⟨Z, 1, none⟩ = some (.int .i64 K) ∧ w'.cell? ⟨Z + 1, 0, none⟩ = some (.int .i64 F2) ∧ w'.cell? ⟨Z + 1, 1, none⟩ = some (.int .i64 N2))
      (first | assumption | exact (unhide HS) _ (unhide H3).2.2.2.drew | exact (unhide HS) _ fD)
      (first
        | (go_at_call 39; clear T2; refine ((unhide HC).2.2.2.1 _ ((unhide H3).2.2.1.fr0 (Fr.refl _ _).drew)).mono ?_; rintro e wD ⟨-, hN⟩; obtain ⟨rfl, mD, hD⟩ := hN (unhide HA); have fD : Fr (fun g => g = mb) wB wD := (unhide H3).2.2.2.drew.trans hD (fun _ _ h => h)))
    have H4 := hide (And.intro mD fD)
    clear mD fD hD hN
    go_wp2_with fail
    go_ret
    exact ⟨fun h => absurd h (unhide HA), fun _ => ⟨rfl, (unhide H4).1, ((unhide H2).1.mono (fun _ _ h => h.elim)).trans (unhide H4).2 (fun _ _ h => h)⟩⟩
end Go.Proofs.YthccbfgjekdiiaaDoor

namespace Go.Proofs.YthccbfgjekdiiaaDoor
open Go.RowKit

set_option maxRecDepth 100000 in
set_option maxHeartbeats 2000000 in
/-- The walk down both halves, the leaves end there. -/
theorem mtop_gob (W0 : World) (wi mb f n K F2 N2 C N : Nat) (lg lo lcap g o xc : Nat) (w : World) (hs : List (List Nat)) (t1 t2 : List Nat) (r1 r2 : List (List Nat)) (A : Prop) (hw1 : 1 ≤ wi) (hnd : (nd wi t1 t2).length = wi) (hN : 0 < N) (hn1 : ¬ n = 1) (hCN : C ≤ N) (hNl : N ≤ lcap) (hNx : N ≤ xc) (hM : McAt W0 w mb wi hs) (hcl : lcap = C) (hcx : ¬ xc = C)
    (hhv : ∀ w', Calls Tryd.prog 59 #[sv f n] w' fun e w'' => e = .returned (.tuple #[sv f K, sv F2 N2]) ∧ Fr (fun _ => False) w' w'')
    (hfind : ∀ w', Fr (fun _ => False) W0 w' → Calls Tryd.prog 67 #[.slice (some ⟨g, o, none⟩) N xc, .int .i64 (F2 : Int)] w' fun e w'' => ∃ bb, e = .returned (.tuple #[.int .i64 (C : Nat), .bool bb]) ∧ Fr (fun _ => False) w' w'')
    (h1 : ∀ w', McAt W0 w' mb wi hs → Calls Tryd.prog 39 #[.pointer (some ⟨mb, 0, none⟩), sv f K, .slice (some ⟨lg, lo, none⟩) C lcap, .slice (some ⟨g, o, none⟩) C xc] w' fun e w'' => TpYes W0 wi mb w' w'' e t1 r1)
    (h2 : ∀ w', McAt W0 w' mb wi r1 → Calls Tryd.prog 39 #[.pointer (some ⟨mb, 0, none⟩), sv F2 N2, .slice (some ⟨lg, lo, none⟩) 0 0, .slice (some ⟨g, o + C, none⟩) 0 (xc - C)] w' fun e w'' => (A → TpYes W0 wi mb w' w'' e t2 r2) ∧ (¬ A → TpNo W0 wi mb w' w'' e))
    (hnode : ∀ w' x y, A → Fr (fun _ => False) W0 w' → Sl w' x t1 → Sl w' y t2 → Calls Tryd.prog 62 #[.int .i64 wi, x, y] w' fun e w'' => ∃ yo, e = .returned (.slice yo wi wi) ∧ OB w' w'' yo wi (nd wi t1 t2)) :
    Calls Tryd.prog 39 #[.pointer (some ⟨mb, 0, none⟩), sv f n, .slice (some ⟨lg, lo, none⟩) N lcap, .slice (some ⟨g, o, none⟩) N xc] w fun e w' => (A → TpYes W0 wi mb w w' e (nd wi t1 t2) r2) ∧ (¬ A → TpNo W0 wi mb w w' e) := by
  have q8 : ¬ C = xc := fun h => hcx h.symm
  unfold sv at *
  obtain ⟨Wa, hWa⟩ : ∃ Wa, w.alloc (.cells #[.int .i64 f, .int .i64 n] 57) = Wa := ⟨_, rfl⟩
  obtain ⟨a0, a1, hFa⟩ := box2p w _ _ _ Wa hWa
  have hmb : mb < w.heap.size := lt_of_cell hM.c0
  have hnil0 : ∀ W, (binOp .eql 25 (.slice none 0 0) (.slice none 0 0)).run Tryd.prog W = .ok (.bool true) W := fun W => Lib.run_eql_slice_nil W _ _ none 0 0 0 0 Tryd.underlying25
  have hnil1 : ∀ W a n c, (binOp .eql 25 (.slice (some a) n c) (.slice none 0 0)).run Tryd.prog W = .ok (.bool false) W := fun W a n c => Lib.run_eql_slice_nil W _ _ (some a) n c 0 0 Tryd.underlying25
  have q0 : ((N : Int) == 0) = false := beq_false_of_ne (by omega)
  have q1 : ¬ N = 0 := by omega
  have q2 : ((n : Int) == 1) = false := beq_false_of_ne (by omega)
  have q4 : (C : Int) ≤ (N : Int) := by omega
  have q5 : (C : Int) ≤ (xc : Int) := by omega
  have q6 : (C : Int) ≤ (lcap : Int) := by omega
  obtain rfl : C = N := by omega
  subst hcl
  have HC := hide (And.intro hhv (And.intro hfind (And.intro h1 (And.intro h2 hnode))))
  have HM := hide (And.intro hM (And.intro hFa hmb))
  clear hhv hfind h1 h2 hnode hM hFa hmb
  go_enter Tryd.func39, Tryd.ntmps39
  go_wp2_with fail
  try rw [hWa]
  clear hWa
  generalize w.heap.size = b at *
  refine ((unhide HC).1 _).mono ?_
  rintro e wA ⟨rfl, hFA⟩
  have HF := hide ((unhide HM).2.1.trans hFA (fun _ _ h => h))
  have hbA : mb < wA.heap.size := Nat.lt_of_lt_of_le (lt_of_cell (unhide HM).1.c0) (unhide HF).size
  clear hFA a0 a1
  go_wp2_with fail
  obtain ⟨W1, hW1⟩ : ∃ W1, (wA.alloc (.cells #[.int .i64 f, .int .i64 K] 57)).alloc (.cells #[.int .i64 F2, .int .i64 N2] 57) = W1 := ⟨_, rfl⟩
  rw [hW1]
  obtain ⟨x0, x1, y0, y1, hF1⟩ := two2 wA _ _ _ _ _ W1 hW1
  have hF01 := (unhide HF).trans hF1 (fun _ _ h => h)
  refine ((unhide HC).2.1 _ ((unhide HM).1.fr.trans hF01 (fun _ _ h => h))).mono ?_
  rintro e wB ⟨bb, rfl, hFB⟩
  have u0 := (hFB.cell (lt_of_cell x0) (fun h => h)).trans x0
  have u1 := (hFB.cell (lt_of_cell x1) (fun h => h)).trans x1
  have v0 := (hFB.cell (lt_of_cell y0) (fun h => h)).trans y0
  have v1 := (hFB.cell (lt_of_cell y1) (fun h => h)).trans y1
  have hFB0 := hF01.trans hFB (fun _ _ h => h)
  have hMB := (unhide HM).1.fr0 hFB0
  clear hF1 hFB hW1 x0 x1 y0 y1 HF hF01
  generalize wA.heap.size = Z at *
  have hS : ∀ w', Fr (fun g => g = mb) wB w' → w'.cell? ⟨Z, 0, none⟩ = some (.int .i64 f) ∧ w'.cell? ⟨Z, 1, none⟩ = some (.int .i64 K) ∧ w'.cell? ⟨Z + 1, 0, none⟩ = some (.int .i64 F2) ∧ w'.cell? ⟨Z + 1, 1, none⟩ = some (.int .i64 N2) := fun w' hf =>
    ⟨(hf.cell (lt_of_cell u0) (fun h => by simp only at h; omega)).trans u0, (hf.cell (lt_of_cell u1) (fun h => by simp only at h; omega)).trans u1, (hf.cell (lt_of_cell v0) (fun h => by simp only at h; omega)).trans v0, (hf.cell (lt_of_cell v1) (fun h => by simp only at h; omega)).trans v1⟩
  have HS := hide hS
  have H2 := hide (And.intro hFB0 hMB)
  clear hS hFB0 hMB
  have T1 : True := trivial
  go_wp2_with fail
  go_region_held3 (fun w' => w'.cell? ⟨Z, 0, none⟩ = some (.int .i64 f) ∧ w'.cell? ⟨Z, 1, none⟩ = some (.int .i64 K) ∧ w'.cell? ⟨Z + 1, 0, none⟩ = some (.int .i64 F2) ∧ w'.cell? ⟨Z + 1, 1, none⟩ = some (.int .i64 N2))
    (first | assumption | exact (unhide HS) _ (Fr.refl _ _).drew | exact (unhide HS) _ fC)
    (first
      | (go_at_call 39; clear T1; refine ((unhide HC).2.2.1 _ ((unhide H2).2.fr0 (Fr.refl _ _).drew)).mono ?_; rintro e wC ⟨yo, yc, rfl, sC, bC, mC, hC⟩; have fC : Fr (fun g => g = mb) wB wC := (Fr.refl _ _).drew.trans hC (fun _ _ h => h)))
  have H3 := hide (And.intro sC (And.intro bC (And.intro mC fC)))
  clear sC bC mC fC hC
  have T2 : True := trivial
  go_wp2_with fail
  by_cases hA : A
  · have HA := hide hA
    clear hA
    go_region_held3 (fun w' => w'.cell? ⟨Z, 0, none⟩ = some (.int .i64 f) ∧ w'.cell? ⟨Z, 1, none⟩ = some (.int .i64 K) ∧ w'.cell? ⟨Z + 1, 0, none⟩ = some (.int .i64 F2) ∧ w'.cell? ⟨Z + 1, 1, none⟩ = some (.int .i64 N2))
      (first | assumption | exact (unhide HS) _ (unhide H3).2.2.2.drew | exact (unhide HS) _ fD)
      (first
        | (go_at_call 39; clear T2; refine ((unhide HC).2.2.2.1 _ ((unhide H3).2.2.1.fr0 (Fr.refl _ _).drew)).mono ?_; rintro e wD ⟨hY, -⟩; obtain ⟨yo2, yc2, rfl, sD, bD, mD, hD⟩ := hY (unhide HA); have fD : Fr (fun g => g = mb) wB wD := (unhide H3).2.2.2.drew.trans hD (fun _ _ h => h)))
    have cD := mD.c0
    have fCD : Fr (fun g => g = mb) wC wD := (Fr.refl _ _).drew.trans hD (fun _ _ h => h)
    have H4 := hide (And.intro sD (And.intro bD (And.intro mD (And.intro fD ((unhide H3).1.frD fCD (.inr (fun g o n c e => (unhide H3).2.1 g o n c e)))))))
    clear sD bD mD fD hD hY fCD
    go_wp2_with fail
    refine ((unhide HC).2.2.2.2 _ _ _ (unhide HA) (unhide H4).2.2.1.fr (unhide H4).2.2.2.2 (unhide H4).1).mono ?_
    rintro e wE ⟨no, rfl, oE⟩
    have HE := hide oE
    clear oE
    go_wp2_with fail
    go_ret
    refine ⟨fun _ => ?_, fun h => absurd (unhide HA) h⟩
    have oE := unhide HE
    have hS : Sl wE (.slice no (nd wi t1 t2).length wi) (nd wi t1 t2) := oE.sl (nd_lt _ _ _)
    obtain ⟨gE, gO, rfl, hgE⟩ := hS.at1 (by omega)
    rw [hnd] at hS
    refine ⟨_, wi, rfl, hS, fun g' o' n' c' e => ?_, (unhide H4).2.2.1.fr0 oE.fr, ((unhide H2).1.mono (fun _ _ h => h.elim)).trans ((unhide H4).2.2.2.1.trans (oE.fr.mono (fun _ _ h => h.elim)) (fun _ _ h => h)) (fun _ _ h => h)⟩
    cases e
    have h1 := (World.ownsRow.lt oE.own gE (by rfl)).1
    have h2 := lt_of_cell cD
    simp only at h2
    omega
  · have HA := hide hA
    clear hA
    go_region_held3 (fun w' => w'.cell? ⟨Z, 0, none⟩ = some (.int .i64 f) ∧ w'.cell? ⟨Z, 1, none⟩ = some (.int .i64 K) ∧ w'.cell? ⟨Z + 1, 0, none⟩ = some (.int .i64 F2) ∧ w'.cell? ⟨Z + 1, 1, none⟩ = some (.int .i64 N2))
      (first | assumption | exact (unhide HS) _ (unhide H3).2.2.2.drew | exact (unhide HS) _ fD)
      (first
        | (go_at_call 39; clear T2; refine ((unhide HC).2.2.2.1 _ ((unhide H3).2.2.1.fr0 (Fr.refl _ _).drew)).mono ?_; rintro e wD ⟨-, hN⟩; obtain ⟨rfl, mD, hD⟩ := hN (unhide HA); have fD : Fr (fun g => g = mb) wB wD := (unhide H3).2.2.2.drew.trans hD (fun _ _ h => h)))
    have H4 := hide (And.intro mD fD)
    clear mD fD hD hN
    go_wp2_with fail
    go_ret
    exact ⟨fun h => absurd h (unhide HA), fun _ => ⟨rfl, (unhide H4).1, ((unhide H2).1.mono (fun _ _ h => h.elim)).trans (unhide H4).2 (fun _ _ h => h)⟩⟩
end Go.Proofs.YthccbfgjekdiiaaDoor

namespace Go.Proofs.YthccbfgjekdiiaaDoor
open Go.RowKit

set_option maxRecDepth 100000 in
set_option maxHeartbeats 2000000 in
/-- The walk down both halves, the places end there. -/
theorem mtop_goc (W0 : World) (wi mb f n K F2 N2 C N : Nat) (lg lo lcap g o xc : Nat) (w : World) (hs : List (List Nat)) (t1 t2 : List Nat) (r1 r2 : List (List Nat)) (A : Prop) (hw1 : 1 ≤ wi) (hnd : (nd wi t1 t2).length = wi) (hN : 0 < N) (hn1 : ¬ n = 1) (hCN : C ≤ N) (hNl : N ≤ lcap) (hNx : N ≤ xc) (hM : McAt W0 w mb wi hs) (hcl : ¬ lcap = C) (hcx : xc = C)
    (hhv : ∀ w', Calls Tryd.prog 59 #[sv f n] w' fun e w'' => e = .returned (.tuple #[sv f K, sv F2 N2]) ∧ Fr (fun _ => False) w' w'')
    (hfind : ∀ w', Fr (fun _ => False) W0 w' → Calls Tryd.prog 67 #[.slice (some ⟨g, o, none⟩) N xc, .int .i64 (F2 : Int)] w' fun e w'' => ∃ bb, e = .returned (.tuple #[.int .i64 (C : Nat), .bool bb]) ∧ Fr (fun _ => False) w' w'')
    (h1 : ∀ w', McAt W0 w' mb wi hs → Calls Tryd.prog 39 #[.pointer (some ⟨mb, 0, none⟩), sv f K, .slice (some ⟨lg, lo, none⟩) C lcap, .slice (some ⟨g, o, none⟩) C xc] w' fun e w'' => TpYes W0 wi mb w' w'' e t1 r1)
    (h2 : ∀ w', McAt W0 w' mb wi r1 → Calls Tryd.prog 39 #[.pointer (some ⟨mb, 0, none⟩), sv F2 N2, .slice (some ⟨lg, lo + C, none⟩) 0 (lcap - C), .slice (some ⟨g, o, none⟩) 0 0] w' fun e w'' => (A → TpYes W0 wi mb w' w'' e t2 r2) ∧ (¬ A → TpNo W0 wi mb w' w'' e))
    (hnode : ∀ w' x y, A → Fr (fun _ => False) W0 w' → Sl w' x t1 → Sl w' y t2 → Calls Tryd.prog 62 #[.int .i64 wi, x, y] w' fun e w'' => ∃ yo, e = .returned (.slice yo wi wi) ∧ OB w' w'' yo wi (nd wi t1 t2)) :
    Calls Tryd.prog 39 #[.pointer (some ⟨mb, 0, none⟩), sv f n, .slice (some ⟨lg, lo, none⟩) N lcap, .slice (some ⟨g, o, none⟩) N xc] w fun e w' => (A → TpYes W0 wi mb w w' e (nd wi t1 t2) r2) ∧ (¬ A → TpNo W0 wi mb w w' e) := by
  have q7 : ¬ C = lcap := fun h => hcl h.symm
  unfold sv at *
  obtain ⟨Wa, hWa⟩ : ∃ Wa, w.alloc (.cells #[.int .i64 f, .int .i64 n] 57) = Wa := ⟨_, rfl⟩
  obtain ⟨a0, a1, hFa⟩ := box2p w _ _ _ Wa hWa
  have hmb : mb < w.heap.size := lt_of_cell hM.c0
  have hnil0 : ∀ W, (binOp .eql 25 (.slice none 0 0) (.slice none 0 0)).run Tryd.prog W = .ok (.bool true) W := fun W => Lib.run_eql_slice_nil W _ _ none 0 0 0 0 Tryd.underlying25
  have hnil1 : ∀ W a n c, (binOp .eql 25 (.slice (some a) n c) (.slice none 0 0)).run Tryd.prog W = .ok (.bool false) W := fun W a n c => Lib.run_eql_slice_nil W _ _ (some a) n c 0 0 Tryd.underlying25
  have q0 : ((N : Int) == 0) = false := beq_false_of_ne (by omega)
  have q1 : ¬ N = 0 := by omega
  have q2 : ((n : Int) == 1) = false := beq_false_of_ne (by omega)
  have q4 : (C : Int) ≤ (N : Int) := by omega
  have q5 : (C : Int) ≤ (xc : Int) := by omega
  have q6 : (C : Int) ≤ (lcap : Int) := by omega
  obtain rfl : C = N := by omega
  subst hcx
  have HC := hide (And.intro hhv (And.intro hfind (And.intro h1 (And.intro h2 hnode))))
  have HM := hide (And.intro hM (And.intro hFa hmb))
  clear hhv hfind h1 h2 hnode hM hFa hmb
  go_enter Tryd.func39, Tryd.ntmps39
  go_wp2_with fail
  try rw [hWa]
  clear hWa
  generalize w.heap.size = b at *
  refine ((unhide HC).1 _).mono ?_
  rintro e wA ⟨rfl, hFA⟩
  have HF := hide ((unhide HM).2.1.trans hFA (fun _ _ h => h))
  have hbA : mb < wA.heap.size := Nat.lt_of_lt_of_le (lt_of_cell (unhide HM).1.c0) (unhide HF).size
  clear hFA a0 a1
  go_wp2_with fail
  obtain ⟨W1, hW1⟩ : ∃ W1, (wA.alloc (.cells #[.int .i64 f, .int .i64 K] 57)).alloc (.cells #[.int .i64 F2, .int .i64 N2] 57) = W1 := ⟨_, rfl⟩
  rw [hW1]
  obtain ⟨x0, x1, y0, y1, hF1⟩ := two2 wA _ _ _ _ _ W1 hW1
  have hF01 := (unhide HF).trans hF1 (fun _ _ h => h)
  refine ((unhide HC).2.1 _ ((unhide HM).1.fr.trans hF01 (fun _ _ h => h))).mono ?_
  rintro e wB ⟨bb, rfl, hFB⟩
  have u0 := (hFB.cell (lt_of_cell x0) (fun h => h)).trans x0
  have u1 := (hFB.cell (lt_of_cell x1) (fun h => h)).trans x1
  have v0 := (hFB.cell (lt_of_cell y0) (fun h => h)).trans y0
  have v1 := (hFB.cell (lt_of_cell y1) (fun h => h)).trans y1
  have hFB0 := hF01.trans hFB (fun _ _ h => h)
  have hMB := (unhide HM).1.fr0 hFB0
  clear hF1 hFB hW1 x0 x1 y0 y1 HF hF01
  generalize wA.heap.size = Z at *
  have hS : ∀ w', Fr (fun g => g = mb) wB w' → w'.cell? ⟨Z, 0, none⟩ = some (.int .i64 f) ∧ w'.cell? ⟨Z, 1, none⟩ = some (.int .i64 K) ∧ w'.cell? ⟨Z + 1, 0, none⟩ = some (.int .i64 F2) ∧ w'.cell? ⟨Z + 1, 1, none⟩ = some (.int .i64 N2) := fun w' hf =>
    ⟨(hf.cell (lt_of_cell u0) (fun h => by simp only at h; omega)).trans u0, (hf.cell (lt_of_cell u1) (fun h => by simp only at h; omega)).trans u1, (hf.cell (lt_of_cell v0) (fun h => by simp only at h; omega)).trans v0, (hf.cell (lt_of_cell v1) (fun h => by simp only at h; omega)).trans v1⟩
  have HS := hide hS
  have H2 := hide (And.intro hFB0 hMB)
  clear hS hFB0 hMB
  have T1 : True := trivial
  go_wp2_with fail
  go_region_held3 (fun w' => w'.cell? ⟨Z, 0, none⟩ = some (.int .i64 f) ∧ w'.cell? ⟨Z, 1, none⟩ = some (.int .i64 K) ∧ w'.cell? ⟨Z + 1, 0, none⟩ = some (.int .i64 F2) ∧ w'.cell? ⟨Z + 1, 1, none⟩ = some (.int .i64 N2))
    (first | assumption | exact (unhide HS) _ (Fr.refl _ _).drew | exact (unhide HS) _ fC)
    (first
      | (go_at_call 39; clear T1; refine ((unhide HC).2.2.1 _ ((unhide H2).2.fr0 (Fr.refl _ _).drew)).mono ?_; rintro e wC ⟨yo, yc, rfl, sC, bC, mC, hC⟩; have fC : Fr (fun g => g = mb) wB wC := (Fr.refl _ _).drew.trans hC (fun _ _ h => h)))
  have H3 := hide (And.intro sC (And.intro bC (And.intro mC fC)))
  clear sC bC mC fC hC
  have T2 : True := trivial
  go_wp2_with fail
  by_cases hA : A
  · have HA := hide hA
    clear hA
    go_region_held3 (fun w' => w'.cell? ⟨Z, 0, none⟩ = some (.int .i64 f) ∧ w'.cell? ⟨Z, 1, none⟩ = some (.int .i64 K) ∧ w'.cell? ⟨Z + 1, 0, none⟩ = some (.int .i64 F2) ∧ w'.cell? ⟨Z + 1, 1, none⟩ = some (.int .i64 N2))
      (first | assumption | exact (unhide HS) _ (unhide H3).2.2.2.drew | exact (unhide HS) _ fD)
      (first
        | (go_at_call 39; clear T2; refine ((unhide HC).2.2.2.1 _ ((unhide H3).2.2.1.fr0 (Fr.refl _ _).drew)).mono ?_; rintro e wD ⟨hY, -⟩; obtain ⟨yo2, yc2, rfl, sD, bD, mD, hD⟩ := hY (unhide HA); have fD : Fr (fun g => g = mb) wB wD := (unhide H3).2.2.2.drew.trans hD (fun _ _ h => h)))
    have cD := mD.c0
    have fCD : Fr (fun g => g = mb) wC wD := (Fr.refl _ _).drew.trans hD (fun _ _ h => h)
    have H4 := hide (And.intro sD (And.intro bD (And.intro mD (And.intro fD ((unhide H3).1.frD fCD (.inr (fun g o n c e => (unhide H3).2.1 g o n c e)))))))
    clear sD bD mD fD hD hY fCD
    go_wp2_with fail
    refine ((unhide HC).2.2.2.2 _ _ _ (unhide HA) (unhide H4).2.2.1.fr (unhide H4).2.2.2.2 (unhide H4).1).mono ?_
    rintro e wE ⟨no, rfl, oE⟩
    have HE := hide oE
    clear oE
    go_wp2_with fail
    go_ret
    refine ⟨fun _ => ?_, fun h => absurd (unhide HA) h⟩
    have oE := unhide HE
    have hS : Sl wE (.slice no (nd wi t1 t2).length wi) (nd wi t1 t2) := oE.sl (nd_lt _ _ _)
    obtain ⟨gE, gO, rfl, hgE⟩ := hS.at1 (by omega)
    rw [hnd] at hS
    refine ⟨_, wi, rfl, hS, fun g' o' n' c' e => ?_, (unhide H4).2.2.1.fr0 oE.fr, ((unhide H2).1.mono (fun _ _ h => h.elim)).trans ((unhide H4).2.2.2.1.trans (oE.fr.mono (fun _ _ h => h.elim)) (fun _ _ h => h)) (fun _ _ h => h)⟩
    cases e
    have h1 := (World.ownsRow.lt oE.own gE (by rfl)).1
    have h2 := lt_of_cell cD
    simp only at h2
    omega
  · have HA := hide hA
    clear hA
    go_region_held3 (fun w' => w'.cell? ⟨Z, 0, none⟩ = some (.int .i64 f) ∧ w'.cell? ⟨Z, 1, none⟩ = some (.int .i64 K) ∧ w'.cell? ⟨Z + 1, 0, none⟩ = some (.int .i64 F2) ∧ w'.cell? ⟨Z + 1, 1, none⟩ = some (.int .i64 N2))
      (first | assumption | exact (unhide HS) _ (unhide H3).2.2.2.drew | exact (unhide HS) _ fD)
      (first
        | (go_at_call 39; clear T2; refine ((unhide HC).2.2.2.1 _ ((unhide H3).2.2.1.fr0 (Fr.refl _ _).drew)).mono ?_; rintro e wD ⟨-, hN⟩; obtain ⟨rfl, mD, hD⟩ := hN (unhide HA); have fD : Fr (fun g => g = mb) wB wD := (unhide H3).2.2.2.drew.trans hD (fun _ _ h => h)))
    have H4 := hide (And.intro mD fD)
    clear mD fD hD hN
    go_wp2_with fail
    go_ret
    exact ⟨fun h => absurd h (unhide HA), fun _ => ⟨rfl, (unhide H4).1, ((unhide H2).1.mono (fun _ _ h => h.elim)).trans (unhide H4).2 (fun _ _ h => h)⟩⟩
end Go.Proofs.YthccbfgjekdiiaaDoor

namespace Go.Proofs.YthccbfgjekdiiaaDoor
open Go.RowKit

set_option maxRecDepth 100000 in
set_option maxHeartbeats 2000000 in
/-- The walk down both halves, both end there. -/
theorem mtop_god (W0 : World) (wi mb f n K F2 N2 C N : Nat) (lg lo lcap g o xc : Nat) (w : World) (hs : List (List Nat)) (t1 t2 : List Nat) (r1 r2 : List (List Nat)) (A : Prop) (hw1 : 1 ≤ wi) (hnd : (nd wi t1 t2).length = wi) (hN : 0 < N) (hn1 : ¬ n = 1) (hCN : C ≤ N) (hNl : N ≤ lcap) (hNx : N ≤ xc) (hM : McAt W0 w mb wi hs) (hcl : lcap = C) (hcx : xc = C)
    (hhv : ∀ w', Calls Tryd.prog 59 #[sv f n] w' fun e w'' => e = .returned (.tuple #[sv f K, sv F2 N2]) ∧ Fr (fun _ => False) w' w'')
    (hfind : ∀ w', Fr (fun _ => False) W0 w' → Calls Tryd.prog 67 #[.slice (some ⟨g, o, none⟩) N xc, .int .i64 (F2 : Int)] w' fun e w'' => ∃ bb, e = .returned (.tuple #[.int .i64 (C : Nat), .bool bb]) ∧ Fr (fun _ => False) w' w'')
    (h1 : ∀ w', McAt W0 w' mb wi hs → Calls Tryd.prog 39 #[.pointer (some ⟨mb, 0, none⟩), sv f K, .slice (some ⟨lg, lo, none⟩) C lcap, .slice (some ⟨g, o, none⟩) C xc] w' fun e w'' => TpYes W0 wi mb w' w'' e t1 r1)
    (h2 : ∀ w', McAt W0 w' mb wi r1 → Calls Tryd.prog 39 #[.pointer (some ⟨mb, 0, none⟩), sv F2 N2, .slice (some ⟨lg, lo, none⟩) 0 0, .slice (some ⟨g, o, none⟩) 0 0] w' fun e w'' => (A → TpYes W0 wi mb w' w'' e t2 r2) ∧ (¬ A → TpNo W0 wi mb w' w'' e))
    (hnode : ∀ w' x y, A → Fr (fun _ => False) W0 w' → Sl w' x t1 → Sl w' y t2 → Calls Tryd.prog 62 #[.int .i64 wi, x, y] w' fun e w'' => ∃ yo, e = .returned (.slice yo wi wi) ∧ OB w' w'' yo wi (nd wi t1 t2)) :
    Calls Tryd.prog 39 #[.pointer (some ⟨mb, 0, none⟩), sv f n, .slice (some ⟨lg, lo, none⟩) N lcap, .slice (some ⟨g, o, none⟩) N xc] w fun e w' => (A → TpYes W0 wi mb w w' e (nd wi t1 t2) r2) ∧ (¬ A → TpNo W0 wi mb w w' e) := by
  unfold sv at *
  obtain ⟨Wa, hWa⟩ : ∃ Wa, w.alloc (.cells #[.int .i64 f, .int .i64 n] 57) = Wa := ⟨_, rfl⟩
  obtain ⟨a0, a1, hFa⟩ := box2p w _ _ _ Wa hWa
  have hmb : mb < w.heap.size := lt_of_cell hM.c0
  have hnil0 : ∀ W, (binOp .eql 25 (.slice none 0 0) (.slice none 0 0)).run Tryd.prog W = .ok (.bool true) W := fun W => Lib.run_eql_slice_nil W _ _ none 0 0 0 0 Tryd.underlying25
  have hnil1 : ∀ W a n c, (binOp .eql 25 (.slice (some a) n c) (.slice none 0 0)).run Tryd.prog W = .ok (.bool false) W := fun W a n c => Lib.run_eql_slice_nil W _ _ (some a) n c 0 0 Tryd.underlying25
  have q0 : ((N : Int) == 0) = false := beq_false_of_ne (by omega)
  have q1 : ¬ N = 0 := by omega
  have q2 : ((n : Int) == 1) = false := beq_false_of_ne (by omega)
  have q4 : (C : Int) ≤ (N : Int) := by omega
  have q5 : (C : Int) ≤ (xc : Int) := by omega
  have q6 : (C : Int) ≤ (lcap : Int) := by omega
  obtain rfl : C = N := by omega
  subst hcl
  subst hcx
  have HC := hide (And.intro hhv (And.intro hfind (And.intro h1 (And.intro h2 hnode))))
  have HM := hide (And.intro hM (And.intro hFa hmb))
  clear hhv hfind h1 h2 hnode hM hFa hmb
  go_enter Tryd.func39, Tryd.ntmps39
  go_wp2_with fail
  try rw [hWa]
  clear hWa
  generalize w.heap.size = b at *
  refine ((unhide HC).1 _).mono ?_
  rintro e wA ⟨rfl, hFA⟩
  have HF := hide ((unhide HM).2.1.trans hFA (fun _ _ h => h))
  have hbA : mb < wA.heap.size := Nat.lt_of_lt_of_le (lt_of_cell (unhide HM).1.c0) (unhide HF).size
  clear hFA a0 a1
  go_wp2_with fail
  obtain ⟨W1, hW1⟩ : ∃ W1, (wA.alloc (.cells #[.int .i64 f, .int .i64 K] 57)).alloc (.cells #[.int .i64 F2, .int .i64 N2] 57) = W1 := ⟨_, rfl⟩
  rw [hW1]
  obtain ⟨x0, x1, y0, y1, hF1⟩ := two2 wA _ _ _ _ _ W1 hW1
  have hF01 := (unhide HF).trans hF1 (fun _ _ h => h)
  refine ((unhide HC).2.1 _ ((unhide HM).1.fr.trans hF01 (fun _ _ h => h))).mono ?_
  rintro e wB ⟨bb, rfl, hFB⟩
  have u0 := (hFB.cell (lt_of_cell x0) (fun h => h)).trans x0
  have u1 := (hFB.cell (lt_of_cell x1) (fun h => h)).trans x1
  have v0 := (hFB.cell (lt_of_cell y0) (fun h => h)).trans y0
  have v1 := (hFB.cell (lt_of_cell y1) (fun h => h)).trans y1
  have hFB0 := hF01.trans hFB (fun _ _ h => h)
  have hMB := (unhide HM).1.fr0 hFB0
  clear hF1 hFB hW1 x0 x1 y0 y1 HF hF01
  generalize wA.heap.size = Z at *
  have hS : ∀ w', Fr (fun g => g = mb) wB w' → w'.cell? ⟨Z, 0, none⟩ = some (.int .i64 f) ∧ w'.cell? ⟨Z, 1, none⟩ = some (.int .i64 K) ∧ w'.cell? ⟨Z + 1, 0, none⟩ = some (.int .i64 F2) ∧ w'.cell? ⟨Z + 1, 1, none⟩ = some (.int .i64 N2) := fun w' hf =>
    ⟨(hf.cell (lt_of_cell u0) (fun h => by simp only at h; omega)).trans u0, (hf.cell (lt_of_cell u1) (fun h => by simp only at h; omega)).trans u1, (hf.cell (lt_of_cell v0) (fun h => by simp only at h; omega)).trans v0, (hf.cell (lt_of_cell v1) (fun h => by simp only at h; omega)).trans v1⟩
  have HS := hide hS
  have H2 := hide (And.intro hFB0 hMB)
  clear hS hFB0 hMB
  have T1 : True := trivial
  go_wp2_with fail
  go_region_held3 (fun w' => w'.cell? ⟨Z, 0, none⟩ = some (.int .i64 f) ∧ w'.cell? ⟨Z, 1, none⟩ = some (.int .i64 K) ∧ w'.cell? ⟨Z + 1, 0, none⟩ = some (.int .i64 F2) ∧ w'.cell? ⟨Z + 1, 1, none⟩ = some (.int .i64 N2))
    (first | assumption | exact (unhide HS) _ (Fr.refl _ _).drew | exact (unhide HS) _ fC)
    (first
      | (go_at_call 39; clear T1; refine ((unhide HC).2.2.1 _ ((unhide H2).2.fr0 (Fr.refl _ _).drew)).mono ?_; rintro e wC ⟨yo, yc, rfl, sC, bC, mC, hC⟩; have fC : Fr (fun g => g = mb) wB wC := (Fr.refl _ _).drew.trans hC (fun _ _ h => h)))
  have H3 := hide (And.intro sC (And.intro bC (And.intro mC fC)))
  clear sC bC mC fC hC
  have T2 : True := trivial
  go_wp2_with fail
  by_cases hA : A
  · have HA := hide hA
    clear hA
    go_region_held3 (fun w' => w'.cell? ⟨Z, 0, none⟩ = some (.int .i64 f) ∧ w'.cell? ⟨Z, 1, none⟩ = some (.int .i64 K) ∧ w'.cell? ⟨Z + 1, 0, none⟩ = some (.int .i64 F2) ∧ w'.cell? ⟨Z + 1, 1, none⟩ = some (.int .i64 N2))
      (first | assumption | exact (unhide HS) _ (unhide H3).2.2.2.drew | exact (unhide HS) _ fD)
      (first
        | (go_at_call 39; clear T2; refine ((unhide HC).2.2.2.1 _ ((unhide H3).2.2.1.fr0 (Fr.refl _ _).drew)).mono ?_; rintro e wD ⟨hY, -⟩; obtain ⟨yo2, yc2, rfl, sD, bD, mD, hD⟩ := hY (unhide HA); have fD : Fr (fun g => g = mb) wB wD := (unhide H3).2.2.2.drew.trans hD (fun _ _ h => h)))
    have cD := mD.c0
    have fCD : Fr (fun g => g = mb) wC wD := (Fr.refl _ _).drew.trans hD (fun _ _ h => h)
    have H4 := hide (And.intro sD (And.intro bD (And.intro mD (And.intro fD ((unhide H3).1.frD fCD (.inr (fun g o n c e => (unhide H3).2.1 g o n c e)))))))
    clear sD bD mD fD hD hY fCD
    go_wp2_with fail
    refine ((unhide HC).2.2.2.2 _ _ _ (unhide HA) (unhide H4).2.2.1.fr (unhide H4).2.2.2.2 (unhide H4).1).mono ?_
    rintro e wE ⟨no, rfl, oE⟩
    have HE := hide oE
    clear oE
    go_wp2_with fail
    go_ret
    refine ⟨fun _ => ?_, fun h => absurd (unhide HA) h⟩
    have oE := unhide HE
    have hS : Sl wE (.slice no (nd wi t1 t2).length wi) (nd wi t1 t2) := oE.sl (nd_lt _ _ _)
    obtain ⟨gE, gO, rfl, hgE⟩ := hS.at1 (by omega)
    rw [hnd] at hS
    refine ⟨_, wi, rfl, hS, fun g' o' n' c' e => ?_, (unhide H4).2.2.1.fr0 oE.fr, ((unhide H2).1.mono (fun _ _ h => h.elim)).trans ((unhide H4).2.2.2.1.trans (oE.fr.mono (fun _ _ h => h.elim)) (fun _ _ h => h)) (fun _ _ h => h)⟩
    cases e
    have h1 := (World.ownsRow.lt oE.own gE (by rfl)).1
    have h2 := lt_of_cell cD
    simp only at h2
    omega
  · have HA := hide hA
    clear hA
    go_region_held3 (fun w' => w'.cell? ⟨Z, 0, none⟩ = some (.int .i64 f) ∧ w'.cell? ⟨Z, 1, none⟩ = some (.int .i64 K) ∧ w'.cell? ⟨Z + 1, 0, none⟩ = some (.int .i64 F2) ∧ w'.cell? ⟨Z + 1, 1, none⟩ = some (.int .i64 N2))
      (first | assumption | exact (unhide HS) _ (unhide H3).2.2.2.drew | exact (unhide HS) _ fD)
      (first
        | (go_at_call 39; clear T2; refine ((unhide HC).2.2.2.1 _ ((unhide H3).2.2.1.fr0 (Fr.refl _ _).drew)).mono ?_; rintro e wD ⟨-, hN⟩; obtain ⟨rfl, mD, hD⟩ := hN (unhide HA); have fD : Fr (fun g => g = mb) wB wD := (unhide H3).2.2.2.drew.trans hD (fun _ _ h => h)))
    have H4 := hide (And.intro mD fD)
    clear mD fD hD hN
    go_wp2_with fail
    go_ret
    exact ⟨fun h => absurd h (unhide HA), fun _ => ⟨rfl, (unhide H4).1, ((unhide H2).1.mono (fun _ _ h => h.elim)).trans (unhide H4).2 (fun _ _ h => h)⟩⟩
end Go.Proofs.YthccbfgjekdiiaaDoor

namespace Go.Proofs.YthccbfgjekdiiaaDoor
open Go.RowKit

theorem TpYes.of {W0 : World} {wi mb : Nat} {w w' : World} {e : Ending} {f n : Nat} {zs : List Int} {ls hs : List (List Nat)} {t : List Nat} {r : List (List Nat)} (hG : gth wi f n zs ls hs = some (t, r)) (h : TpYes W0 wi mb w w' e t r) :
    (∀ t r, gth wi f n zs ls hs = some (t, r) → ∃ yo yc, e = .returned (.slice (some yo) wi yc) ∧ Sl w' (.slice (some yo) wi yc) t ∧ Bk (.slice (some yo) wi yc) (fun g => g ≠ mb) ∧ McAt W0 w' mb wi r) ∧ (gth wi f n zs ls hs = none → e = .returned (.slice none 0 0) ∧ ∃ r, McAt W0 w' mb wi r) ∧ Fr (fun g => g = mb) w w' := by
  obtain ⟨yo, yc, h1, h2, h3, h4, h5⟩ := h
  refine ⟨fun t' r' h => ?_, (fun h => by rw [hG] at h; cases h), h5⟩
  rw [hG] at h
  cases h
  exact ⟨yo, yc, h1, h2, h3, h4⟩
theorem TpNo.of {W0 : World} {wi mb : Nat} {w w' : World} {e : Ending} {f n : Nat} {zs : List Int} {ls hs : List (List Nat)} (hG : gth wi f n zs ls hs = none) (h : TpNo W0 wi mb w w' e) :
    (∀ t r, gth wi f n zs ls hs = some (t, r) → ∃ yo yc, e = .returned (.slice (some yo) wi yc) ∧ Sl w' (.slice (some yo) wi yc) t ∧ Bk (.slice (some yo) wi yc) (fun g => g ≠ mb) ∧ McAt W0 w' mb wi r) ∧ (gth wi f n zs ls hs = none → e = .returned (.slice none 0 0) ∧ ∃ r, McAt W0 w' mb wi r) ∧ Fr (fun g => g = mb) w w' := by
  obtain ⟨h1, h2, h3⟩ := h
  exact ⟨(fun t r h => by rw [hG] at h; cases h), (fun _ => ⟨h1, h2⟩), h3⟩
/-- A part of two halves. -/
theorem mtop_two (W0 : World) (wi mb : Nat) (hw1 : 1 ≤ wi) (hw32 : wi ≤ 32) (hg : GS W0) (f n : Nat) (zs : List Int) (ls : List (List Nat)) (us : List Value) (lv pv : Value) (hb : f + n < 9223372036854775808) (h2 : 2 ≤ n) (hz : zs ≠ []) (hs1 : zs.Pairwise (· < ·)) (hzl : zs.length ≤ 8000000) (hll : ls.length = zs.length) (hlw : ∀ p ∈ ls, p.length = wi) (hl : Pcs W0 lv us ls) (hlc : Cp lv) (hx : Ints W0 pv zs)
    (ih1 : ∀ lv pv us, Pcs W0 lv us (ls.take (zs.countP (· < ((f + hf n : Nat) : Int)))) → Cp lv → Ints W0 pv (zs.take (zs.countP (· < ((f + hf n : Nat) : Int)))) → TpSays W0 wi mb f (hf n) (zs.take (zs.countP (· < ((f + hf n : Nat) : Int)))) (ls.take (zs.countP (· < ((f + hf n : Nat) : Int)))) lv pv)
    (ih2 : ∀ lv pv us, Pcs W0 lv us (ls.drop (zs.countP (· < ((f + hf n : Nat) : Int)))) → Cp lv → Ints W0 pv (zs.drop (zs.countP (· < ((f + hf n : Nat) : Int)))) → TpSays W0 wi mb (f + hf n) (n - hf n) (zs.drop (zs.countP (· < ((f + hf n : Nat) : Int)))) (ls.drop (zs.countP (· < ((f + hf n : Nat) : Int)))) lv pv) : TpSays W0 wi mb f n zs ls lv pv := by
  have h0 : 0 < zs.length := List.length_pos_iff.2 hz
  have h3 := hf_lt n h2
  have h4 := hf_pos n
  obtain ⟨po, pc, rfl⟩ := hx.form
  obtain ⟨g, o, rfl, -, hc, hgl, hcells⟩ := hx.at_ h0
  obtain ⟨lo', lcap, rfl⟩ := hl.form
  obtain ⟨lg, lo, v, rfl, -⟩ := hl.cell (Fr.refl _ _) 0 (by omega)
  have hlcap : ls.length ≤ lcap := hlc _ _ _ rfl
  have hCl := cnt_le ((f + hf n : Nat) : Int) zs
  have hhv := fun w => halves_any f n w hb h2
  have hfind : ∀ w', Fr (fun _ => False) W0 w' → Calls Tryd.prog 67 #[.slice (some ⟨g, o, none⟩) zs.length pc, .int .i64 ((f + hf n : Nat) : Int)] w' fun e w'' => ∃ bb, e = .returned (.tuple #[.int .i64 (zs.countP (· < ((f + hf n : Nat) : Int)) : Nat), .bool bb]) ∧ Fr (fun _ => False) w' w'' := fun w' hf' => by
    refine (find_any g o zs.length pc zs ((f + hf n : Nat) : Int) w' (Nat.le_refl _) (by omega) (fun j hj => (hf'.cell (p := ⟨g, o + j, none⟩) hgl (fun h => h)).trans (hcells j hj)) (by rw [List.take_length]; exact hs1.imp (fun h => by omega))).mono ?_
    rintro e w'' ⟨rfl, q, rfl⟩
    rw [List.take_length]
    exact ⟨_, rfl, (Fr.refl _ _).drewN q⟩
  intro hs w hM hhw
  have hgt := gth_two (wi := wi) (f := f) (n := n) (zs := zs) (ls := ls) (hs := hs) hz h2
  have hg1w := fun t r => gth_wid wi hw1 hw32 (hf n) f (hf n) (zs.take (zs.countP (· < ((f + hf n : Nat) : Int)))) (ls.take (zs.countP (· < ((f + hf n : Nat) : Int)))) hs t r (Nat.le_refl _) (by rw [List.length_take, List.length_take, hll]) (fun p hp => hlw p (List.mem_of_mem_take hp)) hhw
  generalize hC : zs.countP (· < ((f + hf n : Nat) : Int)) = C at *
  have r1 := ih1 _ _ _ (hl.take C (by omega)) (fun _ _ _ e => by cases e; omega) (Ints.take hc hgl hcells hCl)
  have hP := hl.rest rfl C (by omega)
  have hI := Ints.drop hc hgl hcells hCl
  have hPn : C = zs.length → ls.drop C = [] := fun h => List.drop_eq_nil_of_le (by omega)
  have hIn : C = zs.length → zs.drop C = [] := fun h => List.drop_eq_nil_of_le (by omega)
  rw [hll] at hP hl hlcap hlc ⊢
  have r2 : ∀ lv' pv' , (lv' = Value.slice (some ⟨lg, lo + C, none⟩) (zs.length - C) (lcap - C) ∨ (C = zs.length ∧ lv' = .slice (some ⟨lg, lo, none⟩) 0 0)) → (pv' = Value.slice (some ⟨g, o + C, none⟩) (zs.length - C) (pc - C) ∨ (C = zs.length ∧ pv' = .slice (some ⟨g, o, none⟩) 0 0)) → TpSays W0 wi mb (f + hf n) (n - hf n) (zs.drop C) (ls.drop C) lv' pv' := fun lv' pv' k1 k2 => by
    have a1 : ∃ us', Pcs W0 lv' us' (ls.drop C) ∧ Cp lv' := by
      rcases k1 with rfl | ⟨k, rfl⟩
      · exact ⟨_, hP, fun _ _ _ e => by cases e; omega⟩
      · rw [hPn k]; exact ⟨[], Pcs.zero _ _, fun _ _ _ e => by cases e; exact Nat.le_refl _⟩
    have a2 : Ints W0 pv' (zs.drop C) := by
      rcases k2 with rfl | ⟨k, rfl⟩
      · exact hI
      · rw [hIn k]; exact .inr (.inl ⟨_, _, rfl, rfl⟩)
    obtain ⟨us', a1, a3⟩ := a1
    exact ih2 lv' pv' us' a1 a3 a2
  clear ih1 ih2
  cases hG1 : gth wi f (hf n) (zs.take C) (ls.take C) hs with
  | none =>
    have hG : gth wi f n zs ls hs = none := by rw [hgt, hG1]; rfl
    refine (mtop_left W0 wi mb f n (hf n) (f + hf n) (n - hf n) C zs.length lg lo lcap g o pc w hs h0 (by omega) hCl hlcap hc hM hhv hfind (fun w' hM' => (r1 hs w' hM' hhw).mono (fun e w'' ⟨_, b, c⟩ => ⟨(b hG1).1, (b hG1).2, c⟩))).mono ?_
    intro e w' h
    exact TpNo.of hG h
  | some a =>
    obtain ⟨t1, r1'⟩ := a
    obtain ⟨ht1, j, -, er1⟩ := hg1w t1 r1' hG1
    have hr1 : ∀ p ∈ r1', p.length = wi := fun p hp => by rw [er1] at hp; exact hhw p (List.mem_of_mem_drop hp)
    have hh1 : ∀ w', McAt W0 w' mb wi hs → Calls Tryd.prog 39 #[.pointer (some ⟨mb, 0, none⟩), sv f (hf n), .slice (some ⟨lg, lo, none⟩) C lcap, .slice (some ⟨g, o, none⟩) C pc] w' fun e w'' => TpYes W0 wi mb w' w'' e t1 r1' := fun w' hM' => (r1 hs w' hM' hhw).mono (fun e w'' ⟨a, _, c⟩ => by
      obtain ⟨yo, yc, b1, b2, b3, b4⟩ := a t1 r1' hG1
      exact ⟨yo, yc, b1, b2, b3, b4, c⟩)
    obtain ⟨A, t2, r2', hA, ht2, hG⟩ : ∃ (A : Prop) (t2 : List Nat) (r2' : List (List Nat)), ((A ∧ gth wi (f + hf n) (n - hf n) (zs.drop C) (ls.drop C) r1' = some (t2, r2')) ∨ (¬ A ∧ gth wi (f + hf n) (n - hf n) (zs.drop C) (ls.drop C) r1' = none)) ∧ (A → t2.length = wi) ∧ ((A ∧ gth wi f n zs ls hs = some (nd wi t1 t2, r2')) ∨ (¬ A ∧ gth wi f n zs ls hs = none)) := by
      cases hG2 : gth wi (f + hf n) (n - hf n) (zs.drop C) (ls.drop C) r1' with
      | none => exact ⟨False, [], [], .inr ⟨fun h => h, rfl⟩, fun h => h.elim, .inr ⟨fun h => h, by rw [hgt, hG1, Option.bind_some]; simp only; rw [hG2]; rfl⟩⟩
      | some b =>
        obtain ⟨t2, r2'⟩ := b
        obtain ⟨ht2, -⟩ := gth_wid wi hw1 hw32 _ (f + hf n) (n - hf n) (zs.drop C) (ls.drop C) r1' t2 r2' (Nat.le_refl _) (by rw [List.length_drop, List.length_drop, hll]) (fun p hp => hlw p (List.mem_of_mem_drop hp)) hr1 hG2
        exact ⟨True, t2, r2', .inl ⟨trivial, rfl⟩, fun _ => ht2, .inl ⟨trivial, by rw [hgt, hG1, Option.bind_some]; simp only; rw [hG2, Option.bind_some]⟩⟩
    have hnd := nd_len wi hw1 hw32 t1 t2
    have hh2 : ∀ lv' pv' , (lv' = Value.slice (some ⟨lg, lo + C, none⟩) (zs.length - C) (lcap - C) ∨ (C = zs.length ∧ lv' = .slice (some ⟨lg, lo, none⟩) 0 0)) → (pv' = Value.slice (some ⟨g, o + C, none⟩) (zs.length - C) (pc - C) ∨ (C = zs.length ∧ pv' = .slice (some ⟨g, o, none⟩) 0 0)) → ∀ w', McAt W0 w' mb wi r1' → Calls Tryd.prog 39 #[.pointer (some ⟨mb, 0, none⟩), sv (f + hf n) (n - hf n), lv', pv'] w' fun e w'' => (A → TpYes W0 wi mb w' w'' e t2 r2') ∧ (¬ A → TpNo W0 wi mb w' w'' e) := fun lv' pv' k1 k2 w' hM' => (r2 lv' pv' k1 k2 r1' w' hM' hr1).mono (fun e w'' ⟨a, b, c⟩ => by
      rcases hA with ⟨hA, hG2⟩ | ⟨hA, hG2⟩
      · obtain ⟨yo, yc, b1, b2, b3, b4⟩ := a t2 r2' hG2
        exact ⟨fun _ => ⟨yo, yc, b1, b2, b3, b4, c⟩, fun h => absurd hA h⟩
      · exact ⟨fun h => absurd h hA, fun _ => ⟨(b hG2).1, (b hG2).2, c⟩⟩)
    have hnode : ∀ w' x y, A → Fr (fun _ => False) W0 w' → Sl w' x t1 → Sl w' y t2 → Calls Tryd.prog 62 #[.int .i64 wi, x, y] w' fun e w'' => ∃ yo, e = .returned (.slice yo wi wi) ∧ OB w' w'' yo wi (nd wi t1 t2) := fun w' x y hA' hF k1 k2 => by
      have := node_any (wi : Int) x y t1 t2 w' (hg.fr0 hF) k1 k2 (by omega) (by have := ht2 hA'; omega)
      rw [hnd] at this
      exact this
    have hend : ∀ e w', (A → TpYes W0 wi mb w w' e (nd wi t1 t2) r2') ∧ (¬ A → TpNo W0 wi mb w w' e) → _ := fun e w' h => (show (∀ t r, gth wi f n zs ls hs = some (t, r) → ∃ yo yc, e = .returned (.slice (some yo) wi yc) ∧ Sl w' (.slice (some yo) wi yc) t ∧ Bk (.slice (some yo) wi yc) (fun g => g ≠ mb) ∧ McAt W0 w' mb wi r) ∧ (gth wi f n zs ls hs = none → e = .returned (.slice none 0 0) ∧ ∃ r, McAt W0 w' mb wi r) ∧ Fr (fun g => g = mb) w w' from by
      rcases hG with ⟨hA', hG⟩ | ⟨hA', hG⟩
      · exact TpYes.of hG (h.1 hA')
      · exact TpNo.of hG (h.2 hA'))
    by_cases k1 : lcap = C
    · have k0 : C = zs.length := by omega
      by_cases k2 : pc = C
      · exact (mtop_god W0 wi mb f n (hf n) (f + hf n) (n - hf n) C zs.length lg lo lcap g o pc w hs t1 t2 r1' r2' A hw1 hnd h0 (by omega) hCl hlcap hc hM k1 k2 hhv hfind hh1 (hh2 _ _ (.inr ⟨k0, rfl⟩) (.inr ⟨k0, rfl⟩)) hnode).mono (fun e w' h => hend e w' h)
      · exact (mtop_gob W0 wi mb f n (hf n) (f + hf n) (n - hf n) C zs.length lg lo lcap g o pc w hs t1 t2 r1' r2' A hw1 hnd h0 (by omega) hCl hlcap hc hM k1 k2 hhv hfind hh1 (hh2 _ _ (.inr ⟨k0, rfl⟩) (.inl (by rw [show zs.length - C = 0 by omega]))) hnode).mono (fun e w' h => hend e w' h)
    · by_cases k2 : pc = C
      · have k0 : C = zs.length := by omega
        exact (mtop_goc W0 wi mb f n (hf n) (f + hf n) (n - hf n) C zs.length lg lo lcap g o pc w hs t1 t2 r1' r2' A hw1 hnd h0 (by omega) hCl hlcap hc hM k1 k2 hhv hfind hh1 (hh2 _ _ (.inl (by rw [show zs.length - C = 0 by omega])) (.inr ⟨k0, rfl⟩)) hnode).mono (fun e w' h => hend e w' h)
      · exact (mtop_goa W0 wi mb f n (hf n) (f + hf n) (n - hf n) C zs.length lg lo lcap g o pc w hs t1 t2 r1' r2' A hw1 hnd h0 (by omega) hCl hlcap hc hM k1 k2 hhv hfind hh1 (hh2 _ _ (.inl rfl) (.inl rfl)) hnode).mono (fun e w' h => hend e w' h)
/-- merkle's manyClaim.top. -/
theorem mtop_any (W0 : World) (wi mb : Nat) (hw1 : 1 ≤ wi) (hw32 : wi ≤ 32) (hg : GS W0) (m : Nat) : ∀ (f n : Nat) (zs : List Int) (ls : List (List Nat)) (us : List Value) (lv pv : Value), n ≤ m → f + n < 9223372036854775808 → zs.Pairwise (· < ·) → (∀ z ∈ zs, (f : Int) ≤ z ∧ z < ((f + n : Nat) : Int)) → zs.length ≤ 8000000 → ls.length = zs.length → (∀ p ∈ ls, p.length = wi) → Pcs W0 lv us ls → Cp lv → Ints W0 pv zs → TpSays W0 wi mb f n zs ls lv pv := by
  induction m with
  | zero =>
    intro f n zs ls us lv pv h hb hs1 hzb hzl hll hlw hl hlc hx
    have hz : zs = [] := by
      rcases zs with _ | ⟨a, r⟩
      · rfl
      · have := hzb a (by simp); omega
    subst hz
    obtain ⟨lo, lc, rfl⟩ := hl.form
    exact mtop_nil W0 wi mb f n hw1 ls _ pv hx ⟨_, _, _, rfl⟩
  | succ m ih =>
    intro f n zs ls us lv pv h hb hs1 hzb hzl hll hlw hl hlc hx
    by_cases hz : zs = []
    · subst hz
      obtain ⟨lo, lc, rfl⟩ := hl.form
      exact mtop_nil W0 wi mb f n hw1 ls _ pv hx ⟨_, _, _, rfl⟩
    · by_cases h1 : n < 2
      · have hn : n = 1 := by
          rcases zs with _ | ⟨a, r⟩
          · exact absurd rfl hz
          · have := hzb a (by simp); omega
        subst hn
        exact mtop_one W0 wi mb f hw1 zs ls us lv pv hz hll hlw hl hx
      · have h3 := hf_lt n (by omega)
        have h4 := hf_pos n
        obtain ⟨s1, s2⟩ := count_split ((f + hf n : Nat) : Int) zs hs1
        have hCl := cnt_le ((f + hf n : Nat) : Int) zs
        exact mtop_two W0 wi mb hw1 hw32 hg f n zs ls us lv pv hb (by omega) hz hs1 hzl hll hlw hl hlc hx
          (fun lv pv us k1 k2 k3 => ih f (hf n) _ _ us lv pv (by omega) (by omega) (hs1.sublist (List.take_sublist _ _)) (fun z hz => ⟨(hzb z (List.mem_of_mem_take hz)).1, s1 z hz⟩) (by rw [List.length_take]; omega) (by rw [List.length_take, List.length_take, hll]) (fun p hp => hlw p (List.mem_of_mem_take hp)) k1 k2 k3)
          (fun lv pv us k1 k2 k3 => ih (f + hf n) (n - hf n) _ _ us lv pv (by omega) (by omega) (hs1.sublist (List.drop_sublist _ _)) (fun z hz => ⟨s2 z hz, by have := (hzb z (List.mem_of_mem_drop hz)).2; omega⟩) (by rw [List.length_drop]; omega) (by rw [List.length_drop, List.length_drop, hll]) (fun p hp => hlw p (List.mem_of_mem_drop hp)) k1 k2 k3)
end Go.Proofs.YthccbfgjekdiiaaDoor

namespace Go.Proofs.YthccbfgjekdiiaaDoor
open Go.RowKit

theorem pcs1 {w : World} {a : List Nat} {ao : Option Addr} {ac : Nat} (ha : Sl w (.slice ao a.length ac) a) (W : World) (hW : w.alloc (.cells #[.slice ao a.length ac] 25) = W) : Pcs W (.slice (some ⟨w.heap.size, 0, none⟩) 1 1) [.slice ao a.length ac] [a] := by
  have hF : Fr (fun _ => False) w W := by rw [← hW]; exact (Fr.refl _ _).alloc _
  refine ⟨rfl, .inr (.inr ⟨w.heap.size, 0, 1, rfl, by rw [← hW]; simp, fun j v hv => ?_⟩), fun j v p hv hp => ?_, fun p hp => ?_⟩
  · rw [← hW, World.cell?_alloc_at _ _ _ _ rfl, Nat.zero_add, ← hv]
    simp
  · match j with
    | 0 =>
      simp at hv hp
      subst hv hp
      have := ha.fr0 hF
      exact ⟨this.s, this.cap, this.lt⟩
    | j + 1 => simp at hv
  · simp at hp
    subst hp
    exact ha.b
set_option maxRecDepth 100000 in
set_option maxHeartbeats 2000000 in
/-- merkle.CheckMany: the guards. -/
theorem pcm_no (j n : Int) (lv pv xv rv : Value) (ls hs : List (List Nat)) (zs : List Int) (root : List Nat) (us vs : List Value) (w : World) (hl : Pcs w lv us ls) (hx : Ints w pv zs) (hh : Pcs w xv vs hs) (hr : Sl w rv root) (hzl : zs.length ≤ 8000000) (hzb : ∀ z ∈ zs, -9223372036854775808 ≤ z) (hln : ls.length ≤ 8000000) (hhn : hs.length ≤ 8000000) (hn : n < 9223372036854775808)
    (h : ¬ (1 ≤ j ∧ j ≤ 32 ∧ 0 ≤ n ∧ rsF n 0 zs = true ∧ ls.length = zs.length ∧ (root.length : Int) = j ∧ wdq j ls = true ∧ wdq j hs = true)) :
    Calls Tryd.prog 14 #[.int .i64 j, lv, pv, .int .i64 n, xv, rv] w fun e w' => e = .returned (.bool false) ∧ Fr (fun _ => False) w w' := by
  have hri := rising_any pv zs n w hx hn (by omega) hzb
  obtain ⟨rr, rc, rfl⟩ := hr.form
  obtain ⟨W1, hW1⟩ : ∃ W1, w.alloc (.cells #[.slice rr root.length rc] 25) = W1 := ⟨_, rfl⟩
  have hF1 : Fr (fun _ => False) w W1 := by rw [← hW1]; exact (Fr.refl _ _).alloc _
  have hw0 := wide_any j _ _ [root] W1 (pcs1 hr W1 hW1) (by simp)
  have hw1 := wide_any j lv us ls W1 (hl.fr0 hF1) (by omega)
  have hw2 := wide_any j xv vs hs W1 (hh.fr0 hF1) (by omega)
  have hwr : wdq j [root] = decide ((root.length : Int) = j) := by simp [wdq]
  rw [hwr] at hw0
  obtain ⟨lo, lc, rfl⟩ := hl.form
  obtain ⟨po, pc, rfl⟩ := hx.form
  obtain ⟨ho, hc, rfl⟩ := hh.form
  have HW := hide (And.intro hri (And.intro hw0 (And.intro hw1 (And.intro hw2 hF1))))
  clear hl hx hh hr hzl hzb hln hhn hri hw0 hw1 hw2 hF1 hwr hn
  by_cases h1 : j < 1 ∨ 32 < j
  · have h1' : ¬ (1 ≤ j ∧ j ≤ 32) := by omega
    have HM := hide h1'
    clear h h1 h1' HW
    generalize hLN : ls.length = LN at *
    generalize hZN : zs.length = ZN at *
    generalize hHN : hs.length = HN at *
    generalize hRN : root.length = RN at *
    go_enter Tryd.func14, Tryd.ntmps14
    go_wp2_with (go_at_call 26; refine (maybe_any j _).mono ?_; rintro e' w' ⟨rfl, hw'⟩; rw [hw', decide_eq_false (unhide HM)])
    go_ret
    exact ⟨rfl, Fr.refl _ _⟩
  · have h1' : 1 ≤ j ∧ j ≤ 32 := by omega
    have HM := hide h1'
    by_cases h2 : n < 0
    · clear h h1 HW h1'
      generalize hLN : ls.length = LN at *
      generalize hZN : zs.length = ZN at *
      generalize hHN : hs.length = HN at *
      generalize hRN : root.length = RN at *
      go_enter Tryd.func14, Tryd.ntmps14
      go_wp2_with (go_at_call 26; refine (maybe_any j _).mono ?_; rintro e' w' ⟨rfl, hw'⟩; rw [hw', decide_eq_true (unhide HM)])
      go_ret
      exact ⟨rfl, Fr.refl _ _⟩
    · cases h4 : rsF n 0 zs with
      | false =>
        clear h h1 h1'
        generalize hLN : ls.length = LN at *
        generalize hZN : zs.length = ZN at *
        generalize hHN : hs.length = HN at *
        generalize hRN : root.length = RN at *
        go_enter Tryd.func14, Tryd.ntmps14
        go_wp2_with (go_at_call 26; refine (maybe_any j _).mono ?_; rintro e' w' ⟨rfl, hw'⟩; rw [hw', decide_eq_true (unhide HM)])
        refine (unhide HW).1.mono ?_
        rintro e' w1 ⟨rfl, rfl⟩
        rw [h4]
        go_wp2_with fail
        go_ret
        exact ⟨rfl, Fr.refl _ _⟩
      | true =>
        by_cases h5 : ls.length = zs.length
        · have q5 : ((ls.length : Int) == (zs.length : Int)) = true := by rw [h5]; simp
          by_cases h6 : (root.length : Int) = j
          · cases h7 : wdq j ls with
            | false =>
              clear h h1 h1'
              generalize hLN : ls.length = LN at *
              generalize hZN : zs.length = ZN at *
              generalize hHN : hs.length = HN at *
              generalize hRN : root.length = RN at *
              subst h5
              go_enter Tryd.func14, Tryd.ntmps14
              go_wp2_with (go_at_call 26; refine (maybe_any j _).mono ?_; rintro e' w' ⟨rfl, hw'⟩; rw [hw', decide_eq_true (unhide HM)])
              refine (unhide HW).1.mono ?_
              rintro e' w1 ⟨rfl, rfl⟩
              rw [h4]
              go_wp2_with fail
              try rw [hW1]
              refine (unhide HW).2.1.mono ?_
              rintro e' w2 ⟨rfl, rfl⟩
              rw [decide_eq_true h6]
              go_wp2_with fail
              refine (unhide HW).2.2.1.mono ?_
              rintro e' w3 ⟨rfl, rfl⟩
              rw [h7]
              go_wp2_with fail
              go_ret
              exact ⟨rfl, (unhide HW).2.2.2.2⟩
            | true =>
              have h8 : wdq j hs = false := by
                cases hq : wdq j hs with
                | false => rfl
                | true => exact absurd ⟨h1'.1, h1'.2, by omega, h4, h5, h6, h7, hq⟩ h
              clear h h1 h1'
              generalize hLN : ls.length = LN at *
              generalize hZN : zs.length = ZN at *
              generalize hHN : hs.length = HN at *
              generalize hRN : root.length = RN at *
              subst h5
              go_enter Tryd.func14, Tryd.ntmps14
              go_wp2_with (go_at_call 26; refine (maybe_any j _).mono ?_; rintro e' w' ⟨rfl, hw'⟩; rw [hw', decide_eq_true (unhide HM)])
              refine (unhide HW).1.mono ?_
              rintro e' w1 ⟨rfl, rfl⟩
              rw [h4]
              go_wp2_with fail
              try rw [hW1]
              refine (unhide HW).2.1.mono ?_
              rintro e' w2 ⟨rfl, rfl⟩
              rw [decide_eq_true h6]
              go_wp2_with fail
              refine (unhide HW).2.2.1.mono ?_
              rintro e' w3 ⟨rfl, rfl⟩
              rw [h7]
              go_wp2_with fail
              refine (unhide HW).2.2.2.1.mono ?_
              rintro e' w4 ⟨rfl, rfl⟩
              rw [h8]
              go_wp2_with fail
              go_ret
              exact ⟨rfl, (unhide HW).2.2.2.2⟩
          · clear h h1 h1'
            generalize hLN : ls.length = LN at *
            generalize hZN : zs.length = ZN at *
            generalize hHN : hs.length = HN at *
            generalize hRN : root.length = RN at *
            subst h5
            go_enter Tryd.func14, Tryd.ntmps14
            go_wp2_with (go_at_call 26; refine (maybe_any j _).mono ?_; rintro e' w' ⟨rfl, hw'⟩; rw [hw', decide_eq_true (unhide HM)])
            refine (unhide HW).1.mono ?_
            rintro e' w1 ⟨rfl, rfl⟩
            rw [h4]
            go_wp2_with fail
            try rw [hW1]
            refine (unhide HW).2.1.mono ?_
            rintro e' w2 ⟨rfl, rfl⟩
            rw [decide_eq_false h6]
            go_wp2_with fail
            go_ret
            exact ⟨rfl, (unhide HW).2.2.2.2⟩
        · have q5 : ((ls.length : Int) == (zs.length : Int)) = false := beq_false_of_ne (by omega)
          have q2 : decide (n < 0) = false := decide_eq_false h2
          clear h h1 h1' h2
          generalize hLN : ls.length = LN at *
          generalize hZN : zs.length = ZN at *
          generalize hHN : hs.length = HN at *
          generalize hRN : root.length = RN at *
          go_enter Tryd.func14, Tryd.ntmps14
          go_wp2_with (go_at_call 26; refine (maybe_any j _).mono ?_; rintro e' w' ⟨rfl, hw'⟩; rw [hw', decide_eq_true (unhide HM)])
          refine (unhide HW).1.mono ?_
          rintro e' w1 ⟨rfl, rfl⟩
          rw [h4]
          go_wp2_with fail
          go_ret
          exact ⟨rfl, Fr.refl _ _⟩
set_option maxRecDepth 100000 in
set_option maxHeartbeats 2000000 in
/-- merkle.CheckMany behind its guards. -/
theorem pcm_yes (wi N : Nat) (hw1 : 1 ≤ wi) (hw32 : wi ≤ 32) (lo : Option Addr) (ZN lc : Nat) (po : Option Addr) (pc : Nat) (ho : Option Addr) (HN hc : Nat) (rr : Option Addr) (rc : Nat) (root : List Nat) (hrw : root.length = wi) (G : Option (List Nat × List (List Nat))) (w W1 : World) (hW1 : w.alloc (.cells #[.slice rr wi rc] 25) = W1) (hr : Sl w (.slice rr wi rc) root)
    (hri : Calls Tryd.prog 38 #[.slice po ZN pc, .int .i64 N] w fun e w' => e = .returned (.bool true) ∧ w' = w)
    (hwr : Calls Tryd.prog 27 #[.int .i64 wi, .slice (some ⟨w.heap.size, 0, none⟩) 1 1] W1 fun e w' => e = .returned (.bool true) ∧ w' = W1)
    (hwl : Calls Tryd.prog 27 #[.int .i64 wi, .slice lo ZN lc] W1 fun e w' => e = .returned (.bool true) ∧ w' = W1)
    (hwh : Calls Tryd.prog 27 #[.int .i64 wi, .slice ho HN hc] W1 fun e w' => e = .returned (.bool true) ∧ w' = W1)
    (htp : ∀ W2, W1.alloc (.cells #[.int .i64 wi, .slice ho HN hc] 69) = W2 → Calls Tryd.prog 39 #[.pointer (some ⟨W1.heap.size, 0, none⟩), sv 0 N, .slice lo ZN lc, .slice po ZN pc] W2 fun e w' => (∀ t r, G = some (t, r) → ∃ yo yc, e = .returned (.slice (some yo) wi yc) ∧ Sl w' (.slice (some yo) wi yc) t ∧ McAt W1 w' W1.heap.size wi r) ∧ (G = none → e = .returned (.slice none 0 0) ∧ ∃ r, McAt W1 w' W1.heap.size wi r)) :
    Calls Tryd.prog 14 #[.int .i64 wi, .slice lo ZN lc, .slice po ZN pc, .int .i64 N, .slice ho HN hc, .slice rr wi rc] w fun e w' => e = .returned (.bool (gEnd G root)) ∧ Fr (fun _ => False) w w' := by
  have h1' : 1 ≤ (wi : Int) ∧ (wi : Int) ≤ 32 := by omega
  have HM := hide h1'
  have hF1 : Fr (fun _ => False) w W1 := by rw [← hW1]; exact (Fr.refl _ _).alloc _
  have q2 : ¬ (N : Int) < 0 := by omega
  have q5 : ((ZN : Int) == (ZN : Int)) = true := by simp
  have HC := hide (And.intro hri (And.intro hwr (And.intro hwl (And.intro hwh (And.intro htp (And.intro hr (And.intro hF1 (And.intro hw1 hrw))))))))
  clear hri hwr hwl hwh htp hr hF1 h1' hw1 hw32 hrw
  unfold sv at *
  have e0 : ((0 : Nat) : Int) = 0 := rfl
  simp only [e0] at *
  go_enter Tryd.func14, Tryd.ntmps14
  go_wp2_with (go_at_call 26; refine (maybe_any wi _).mono ?_; rintro e' w' ⟨rfl, hw'⟩; rw [hw', decide_eq_true (unhide HM)])
  refine (unhide HC).1.mono ?_
  rintro e' w1 ⟨rfl, rfl⟩
  go_wp2_with fail
  try rw [hW1]
  refine (unhide HC).2.1.mono ?_
  rintro e' w2 ⟨rfl, rfl⟩
  go_wp2_with fail
  refine (unhide HC).2.2.1.mono ?_
  rintro e' w3 ⟨rfl, rfl⟩
  go_wp2_with fail
  refine (unhide HC).2.2.2.1.mono ?_
  rintro e' w4 ⟨rfl, rfl⟩
  go_wp2_with fail
  refine ((unhide HC).2.2.2.2.1 _ rfl).mono ?_
  rintro e' w5 ⟨hY, hN⟩
  rcases G with _ | ⟨t, r⟩
  · obtain ⟨rfl, r, hM⟩ := hN rfl
    clear hY hN
    obtain ⟨x, ts, c1, hp, -⟩ := hM.c1
    obtain ⟨xo, xc, rfl⟩ := hp.form
    have HF := hide ((unhide HC).2.2.2.2.2.2.1.trans hM.fr (fun _ _ h => h))
    clear hM hp
    generalize w1.heap.size = mb at *
    rcases r with _ | ⟨p, q⟩
    · simp only [List.length_nil] at c1
      go_wp2_with fail
      refine (beq_sl _ _ [] root w5 (sl_nil _) ((unhide HC).2.2.2.2.2.1.fr0 (unhide HF))).mono ?_
      rintro e' w6 ⟨rfl, rfl⟩
      have hne : ¬ ([] : List Nat) = root := fun e => by have h1 := (unhide HC).2.2.2.2.2.2.2; rw [← e] at h1; simp at h1; omega
      rw [decide_eq_false hne]
      go_wp2_with fail
      go_ret
      exact ⟨rfl, unhide HF⟩
    · simp only [List.length_cons] at c1
      have q8 : ¬ (q.length : Int) + 1 = 0 := by omega
      generalize q.length = QN at *
      go_wp2_with fail
      go_ret
      exact ⟨rfl, unhide HF⟩
  · obtain ⟨yo, yc, rfl, hS, hM⟩ := hY t r rfl
    clear hY hN
    obtain ⟨x, ts, c1, hp, -⟩ := hM.c1
    obtain ⟨xo, xc, rfl⟩ := hp.form
    have HF := hide (And.intro ((unhide HC).2.2.2.2.2.2.1.trans hM.fr (fun _ _ h => h)) hS)
    clear hM hp hS
    generalize w1.heap.size = mb at *
    rcases r with _ | ⟨p, q⟩
    · simp only [List.length_nil] at c1
      go_wp2_with fail
      refine (beq_sl _ _ t root w5 (unhide HF).2 ((unhide HC).2.2.2.2.2.1.fr0 (unhide HF).1)).mono ?_
      rintro e' w6 ⟨rfl, rfl⟩
      go_wp2_with fail
      go_ret
      exact ⟨rfl, (unhide HF).1⟩
    · simp only [List.length_cons] at c1
      have q8 : ¬ (q.length : Int) + 1 = 0 := by omega
      generalize q.length = QN at *
      go_wp2_with fail
      go_ret
      exact ⟨rfl, (unhide HF).1⟩
/-- merkle.CheckMany. -/
theorem checkMany_any (j n : Int) (lv pv xv rv : Value) (ls hs : List (List Nat)) (zs : List Int) (root : List Nat) (us vs : List Value) (w : World) (hg : GS w) (hl : Pcs w lv us ls) (hlc : Cp lv) (hx : Ints w pv zs) (hh : Pcs w xv vs hs) (hhc : Cp xv) (hr : Sl w rv root) (hzl : zs.length ≤ 8000000) (hzb : ∀ z ∈ zs, -9223372036854775808 ≤ z) (hln : ls.length ≤ 8000000) (hhn : hs.length ≤ 8000000) (hn : n < 9223372036854775808) :
    Calls Tryd.prog 14 #[.int .i64 j, lv, pv, .int .i64 n, xv, rv] w fun e w' => e = .returned (.bool (chkM j n ls zs hs root)) ∧ Fr (fun _ => False) w w' := by
  by_cases h : 1 ≤ j ∧ j ≤ 32 ∧ 0 ≤ n ∧ rsF n 0 zs = true ∧ ls.length = zs.length ∧ (root.length : Int) = j ∧ wdq j ls = true ∧ wdq j hs = true
  · obtain ⟨h1, h2, h3, h4, h5, h6, h7, h8⟩ := h
    have hri := rising_any pv zs n w hx hn (by omega) hzb
    rw [chkM_true h1 h2 h3 h4 h5 h6 h7 h8]
    rw [h4] at hri
    obtain ⟨s1, s2⟩ := rsF_ok n zs 0 h4
    obtain ⟨rr, rc, rfl⟩ := hr.form
    obtain ⟨W1, hW1⟩ : ∃ W1, w.alloc (.cells #[.slice rr root.length rc] 25) = W1 := ⟨_, rfl⟩
    have hF1 : Fr (fun _ => False) w W1 := by rw [← hW1]; exact (Fr.refl _ _).alloc _
    have hw0 := wide_any j _ _ [root] W1 (pcs1 hr W1 hW1) (by simp)
    have hw1 := wide_any j lv us ls W1 (hl.fr0 hF1) (by omega)
    have hw2 := wide_any j xv vs hs W1 (hh.fr0 hF1) (by omega)
    have hwr : wdq j [root] = true := by simp [wdq, h6]
    rw [hwr] at hw0
    rw [h7] at hw1
    rw [h8] at hw2
    obtain ⟨wi, rfl⟩ : ∃ k : Nat, j = (k : Int) := ⟨j.toNat, by omega⟩
    obtain ⟨N, rfl⟩ : ∃ k : Nat, n = (k : Int) := ⟨n.toNat, by omega⟩
    simp only [Int.toNat_natCast]
    have hlw : ∀ p ∈ ls, p.length = wi := fun p hp => by have := wdq_true h7 p hp; omega
    have hhw : ∀ p ∈ hs, p.length = wi := fun p hp => by have := wdq_true h8 p hp; omega
    have htp := fun mb => mtop_any W1 wi mb (by omega) (by omega) (hg.fr0 hF1) N 0 N zs ls us lv pv (Nat.le_refl _) (by omega) s1 (fun z hz => ⟨by have := s2 z hz; omega, by have := s2 z hz; omega⟩) (by omega) h5 hlw (hl.fr0 hF1) hlc (hx.fr0 hF1)
    unfold TpSays at htp
    obtain ⟨lo, lc, rfl⟩ := hl.form
    obtain ⟨po, pc, rfl⟩ := hx.form
    obtain ⟨ho, hc, rfl⟩ := hh.form
    have hrw : root.length = wi := by omega
    rw [hrw] at hr hW1 ⊢
    rw [h5] at hw1 htp ⊢
    refine pcm_yes wi N (by omega) (by omega) lo _ lc po pc ho _ hc rr rc root hrw _ w W1 hW1 hr hri hw0 hw1 hw2 (fun W2 hW2 => ?_)
    have hM : McAt W1 W2 W1.heap.size wi hs := by
      subst hW2
      have hc' : ∀ j, (W1.alloc (.cells #[.int .i64 wi, .slice ho hs.length hc] 69)).cell? ⟨W1.heap.size, j, none⟩ = (#[.int .i64 wi, .slice ho hs.length hc] : Array Value)[j]? := fun j => World.cell?_alloc_at _ _ _ _ rfl
      exact ⟨(Fr.refl _ _).alloc _, Nat.le_refl _, hc' 0, World.frozen?_alloc_at _ _ _ _ rfl, _, vs, hc' 1, hh.fr0 hF1, hhc⟩
    refine (htp W1.heap.size hs W2 hM hhw).mono ?_
    rintro e w' ⟨hY, hN, -⟩
    refine ⟨fun t r h => ?_, hN⟩
    obtain ⟨yo, yc, rfl, q1, -, q2⟩ := hY t r h
    exact ⟨yo, yc, rfl, q1, q2⟩
  · rw [chkM_false h]
    exact pcm_no j n lv pv xv rv ls hs zs root us vs w hl hx hh hr hzl hzb hln hhn hn h
end Go.Proofs.YthccbfgjekdiiaaDoor

