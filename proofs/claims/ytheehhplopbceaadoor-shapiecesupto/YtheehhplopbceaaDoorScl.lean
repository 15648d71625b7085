import Derived.Test.YtheehhplopbceaaDoorSck
namespace Go.Proofs.YtheehhplopbceaaDoor
open Go.RowKit

/-- Within ShaPieces' loop. -/
structure PI (w2 wr : World) (b : Nat) (ps : List (List Nat)) (k : Nat) (lv : Value) : Prop where
  le : k ≤ ps.length
  H : HM wr b 0 (fl ps k)
  own : wr.ownsRow w2.heap.size 5 1 lv (fl ps k).length (cellsOf (fl ps k))
  fr : Fr (fun i => i = b) w2 wr
  sz : (fl ps k).length ≤ 140737488355328
theorem own_block {w : World} {base n : Nat} {v : Value} {xs : List Value} (h : w.ownsRow base 5 1 v n xs) : ∀ g o m c, v = .slice (some ⟨g, o, none⟩) m c → base ≤ g ∧ g < w.heap.size := fun g o m c e => by
  subst e
  exact h.lt g rfl
set_option maxRecDepth 100000 in
set_option maxHeartbeats 1000000 in
theorem pieces_T (x : Value) (vs : List Value) (ps : List (List Nat)) (wi vi : Int) (w : World) (hg : GS w) (hp : Pcs w x vs ps) (hB : ∀ p ∈ ps, p.length ≤ 140737488255328) (hn : ps.length < 9223372036854775808) :
    Calls Tryd.prog 7 #[x, .int .i64 wi, .int .i64 vi] w fun e w' => e = .returned (.bool true) ∧ Fr (fun _ => False) w w' := by
  obtain ⟨xo, xc, rfl⟩ := hp.form
  have HG := hide (And.intro hg (And.intro hp (And.intro hB hn)))
  clear hg hp hB hn
  generalize hN : ps.length = N at *
  go_enter Tryd.func7, Tryd.ntmps7
  go_wp2_with fail
  refine (new_any w (unhide HG).1).mono ?_
  rintro e w1 ⟨b, rfl, hH, hF1, hb⟩
  have H1 := hide (And.intro (HM.new hH) (And.intro hF1 hb))
  clear hH hF1 hb
  go_wp2_with fail
  refine (lives_any w1 ((unhide HG).1.fr0 (unhide H1).2.1)).mono ?_
  rintro e w2 ⟨rfl, hF2⟩
  have H2 := hide (And.intro ((unhide H1).1.fr hF2 (fun h => h)) (And.intro ((unhide H1).2.1.trans hF2 (fun _ _ h => h)) (And.intro (unhide H1).2.2 ((unhide H1).1.fr hF2 (fun h => h)).lt)))
  clear hF2
  go_wp2_with fail
  go_loopw [8, 9] (fun lv iv wr => ∃ k, iv = .int .i64 (k : Nat) ∧ PI w2 wr b ps k lv) (fun _ iv _ => N - (intOf iv).toNat)
  case atStart =>
    exact ⟨0, rfl, Nat.zero_le _, (unhide H2).1, own_nil _ _, Fr.refl _ _, Nat.zero_le _⟩
  case round =>
    obtain ⟨k, rfl, hI⟩ := hrel
    obtain ⟨ao, cp, rfl⟩ := own_form hI.own
    generalize hfl : (fl ps k).length = fk at *
    by_cases hc : k < N ∧ fk < 100000
    · have hk : k < ps.length := by omega
      have hk1 : (k : Int) < (N : Int) := by omega
      have hk2 : (fk : Int) < 100000 := by omega
      have hNb := (unhide HG).2.2.2
      have hwk : wrap64 ((k : Int) + 1) = (k : Int) + 1 := by unfold wrap64; omega
      clear hNb
      have hFw : Fr (fun i => i = b) w wr := ((unhide H2).2.1.mono (T := fun i => i = b) (fun _ _ h => h.elim)).trans hI.fr (fun _ _ h => h)
      have hF0 : Fr (fun _ => False) w wr := fr_new hI.fr (unhide H2).2.1 (unhide H2).2.2.1
      obtain ⟨g, o, v, rfl, hcell, hsrc, hcap, hlt, hgl⟩ := (unhide HG).2.1.cell hF0 k hk
      have hwb := (unhide H2).2.2.1
      have hbw := (unhide H2).2.2.2
      have hln : ps[k].length ≤ 140737488255328 := (unhide HG).2.2.1 _ (List.getElem_mem hk)
      have hgs : GS wr := (unhide HG).1.fr0 hF0
      have hwr := write_anyD b 0 (fl ps k) ps[k] v wr hgs (Nat.le_trans (unhide HG).1.1.2 hwb) hI.H hsrc (hlt.imp id (fun h g' o' n' c' e => by have := h g' o' n' c' e; omega)) (fun u hu => by
        rcases List.mem_append.1 hu with hu | hu
        · exact fl_lt ps k (unhide HG).2.1.byt u hu
        · exact (unhide HG).2.1.byt _ (List.getElem_mem hk) u hu) (by omega) hcap
      have HP := hide (And.intro hI (And.intro hF0 (And.intro hsrc (And.intro hcap (And.intro hlt (And.intro hwb (And.intro hbw (And.intro hgl hln))))))))
      clear hI hF0 hFw hsrc hcap hlt hwb hbw hgl hln hgs
      go_wp2_with fail
      refine hwr.mono ?_
      clear hwr
      rintro e w3 ⟨rfl, hM3, hF3⟩
      have hgl := (unhide HP).2.2.2.2.2.2.2.1
      have hwb := (unhide HP).2.2.2.2.2.1
      have hsz : w.heap.size ≤ wr.heap.size := (unhide HP).2.1.size
      have hcell3 : w3.cell? ⟨g, o + k, none⟩ = some v := (hF3.cell (p := ⟨g, o + k, none⟩) (by show g < _; omega) (by show ¬ g = b; omega)).trans hcell
      have hown3 : w3.ownsRow w2.heap.size 5 1 (.slice ao fk cp) fk (cellsOf (fl ps k)) := ownsRow_of_block (w' := w3) (hfl ▸ (unhide HP).1.own) (fun g' hg' => hF3.block g' ((unhide HP).1.own.lt g' hg').2 (by have := ((unhide HP).1.own.lt g' hg').1; have := (unhide HP).2.2.2.2.2.2.1; omega))
      have hF23 : Fr (fun i => i = b) w2 w3 := (unhide HP).1.fr.trans hF3 (fun _ _ h => h)
      have hsrc3 : Src w3 v ps[k] := (unhide HP).2.2.1.frD hF3 ((unhide HP).2.2.2.2.1.imp id (fun h g' o' n' c' e => by have := h g' o' n' c' e; omega))
      obtain ⟨ao', cp', w4, hr, hown4, hgrow, hat⟩ := run_app_sl w3 24 w2.heap.size fk _ v _ ps[k] hown3 hsrc3 (by have := (unhide HP).2.2.2.2.2.2.2.2; omega) hF23.size
      have hF24 : Fr (fun i => i = b) w2 w4 := hF23.grown hgrow (fun g' hg' => .inr (hown3.lt g' hg').1)
      have hM4 : HM w4 b 0 (fl ps (k + 1)) := by
        rw [fl_succ ps k hk]
        refine hM3.fr ((Fr.refl (fun i => some i = (Value.slice ao fk cp).ownBlock) w3).grown hgrow (fun g' hg' => .inl hg'.symm)) (fun h => ?_)
        have := (hown3.lt b h.symm).1
        have := (unhide HP).2.2.2.2.2.2.1
        omega
      have hPI : PI w2 w4 b ps (k + 1) (.slice ao' (fk + ps[k].length) cp') := by
        have e1 : (fl ps (k + 1)).length = fk + ps[k].length := by rw [fl_succ ps k hk, List.length_append, hfl]
        refine ⟨hk, hM4, ?_, hF24, by have := (unhide HP).2.2.2.2.2.2.2.2; omega⟩
        rw [e1, fl_succ ps k hk, cellsOf_append]
        exact hown4
      have HQ := hide (And.intro hr hPI)
      clear hgl hwb hsz hown3 hF23 hsrc3 hr hown4 hgrow hat hF24 hM4 hPI hM3 hF3 hcell
      generalize ps[k].length = pl at *
      go_wp2_with (refine wpList_app rfl (.tmp 36) (.tmp 40) 24 24 rfl (.slice ao fk cp) v _ rfl rfl (unhide HQ).1 ?_)
      exact ⟨⟨k + 1, by rw [hwk]; rfl, (unhide HQ).2⟩, by rw [hwk]; simp only [intOf]; omega⟩
    · have hF0 : Fr (fun _ => False) w wr := fr_new hI.fr (unhide H2).2.1 (unhide H2).2.2.1
      have hgs : GS wr := (unhide HG).1.fr0 hF0
      have hMb := fl_lt ps k (unhide HG).2.1.byt
      have hsl : Src wr (.slice ao fk cp) (fl ps k) := own_src (hfl ▸ hI.own)
      have hlt : ∀ g o' n c', (Value.slice ao fk cp) = .slice (some ⟨g, o', none⟩) n c' → g < wr.heap.size := fun g o' n c' e => (own_block hI.own g o' n c' (hfl ▸ e)).2
      have hcp : fk ≤ cp := by
        rcases (hfl ▸ hI.own : wr.ownsRow w2.heap.size 5 1 (.slice ao fk cp) fk (cellsOf (fl ps k))).2 with ⟨e, _⟩ | ⟨_, _, _, e, _, _, h, _⟩
        · simp only [Value.slice.injEq] at e; omega
        · simp only [Value.slice.injEq] at e; omega
      have hsz : fk ≤ 140737488355328 := hfl ▸ hI.sz
      have hHM := hI.H
      generalize fl ps k = M at *
      have HT := hide (And.intro hgs (And.intro hHM (And.intro hMb (And.intro hsl (And.intro hlt (And.intro hcp (And.intro hsz (And.intro hF0 hfl))))))))
      clear hgs hHM hMb hsl hlt hcp hF0 hI hfl
      by_cases hk1 : (k : Int) < (N : Int)
      · have hk2 : ¬ (fk : Int) < 100000 := by omega
        go_wp2_with fail
        refine (sum_T wi M _ wr (unhide HT).1 (unhide HT).2.2.2.1 (unhide HT).2.2.1 (by have := (unhide HT).2.2.2.2.2.2.2.2; omega) (fun g' n' c' e => by simp only [Value.slice.injEq] at e; have := (unhide HT).2.2.2.2.2.1; omega) (unhide HT).2.2.2.2.1).mono ?_
        rintro e w3 ⟨yo, yc, rfl, hs3, hy3, hF3⟩
        have H3 := hide (And.intro hs3 (And.intro hy3 hF3))
        clear hs3 hy3 hF3
        go_wp2_with fail
        refine (sum_T vi M _ w3 ((unhide HT).1.fr0 (unhide H3).2.2) ((unhide HT).2.2.2.1.fr0 (unhide H3).2.2) (unhide HT).2.2.1 (by have := (unhide HT).2.2.2.2.2.2.2.2; omega) (fun g' n' c' e => by simp only [Value.slice.injEq] at e; have := (unhide HT).2.2.2.2.2.1; omega) (fun g' o' n' c' e => Nat.lt_of_lt_of_le ((unhide HT).2.2.2.2.1 g' o' n' c' e) (unhide H3).2.2.size)).mono ?_
        rintro e w4 ⟨zo, zc, rfl, hs4, hz4, hF4⟩
        have H4 := hide (And.intro ((unhide H3).1.fr0 hF4) (And.intro hs4 (And.intro hz4 ((unhide H3).2.2.trans hF4 (fun _ _ h => h)))))
        clear hs4 hz4 hF4
        have fin : ∀ (w5 : World), Fr (fun _ => False) w4 w5 → GS w5 ∧ HM w5 b 0 M ∧ Src w5 (.slice yo (sm wi M).length yc) (sm wi M) ∧ Src w5 (.slice zo (sm vi M).length zc) (sm vi M) ∧ Fr (fun _ => False) w w5 := fun w5 hf => by
          have h45 := (unhide H4).2.2.2.trans hf (fun _ _ h => h)
          exact ⟨(unhide HT).1.fr0 h45, (unhide HT).2.1.fr h45 (fun h => h), (unhide H4).1.fr0 hf, (unhide H4).2.1.fr0 hf, (unhide HT).2.2.2.2.2.2.2.1.trans h45 (fun _ _ h => h)⟩
        by_cases h1 : (1 : Int) ≤ wi
        · by_cases h2 : wi ≤ vi
          · by_cases h3 : vi ≤ 32
            · obtain ⟨a, rfl⟩ : ∃ a : Nat, wi = (a : Int) := ⟨wi.toNat, by omega⟩
              obtain ⟨q, rfl⟩ : ∃ q : Nat, vi = (q : Int) := ⟨vi.toNat, by omega⟩
              have eW : (sm (a : Int) M).length = a := by rw [sm_len ⟨h1, by omega⟩, Int.toNat_natCast]
              have eV : (sm (q : Int) M).length = q := by rw [sm_len ⟨by omega, h3⟩, Int.toNat_natCast]
              have eT : sm (a : Int) M = (sm (q : Int) M).take a := by
                rw [sm, if_pos ⟨h1, by omega⟩, sm, if_pos ⟨by omega, h3⟩, Int.toNat_natCast, Int.toNat_natCast, List.take_take, Nat.min_eq_left (by omega)]
              have hsub : Src w4 (.slice zo a zc) (sm (a : Int) M) := by
                rcases (unhide H4).2.1 with ⟨e, _⟩ | ⟨g', o', c', e, hcc⟩ | ⟨a', c', e, _⟩
                · simp only [Value.slice.injEq] at e; omega
                · simp only [Value.slice.injEq] at e
                  refine .inr (.inl ⟨g', o', c', by rw [eW, e.1, e.2.2], fun j u hu => hcc j u ?_⟩)
                  have hj : j < a := by
                    have := (List.getElem?_eq_some_iff.1 hu).1
                    rw [cellsOf_length, eW] at this
                    exact this
                  rw [eT] at hu
                  rw [← hu]
                  simp only [cellsOf, List.getElem?_map, List.getElem?_take_of_lt hj]
                · simp only [Value.slice.injEq] at e; omega
              have hzc : q ≤ zc := eV ▸ (unhide H4).2.2.1
              have hza : (a : Int) ≤ (zc : Int) := by omega
              have hza' : a ≤ zc := by omega
              have hy4 : Src w4 (.slice yo a yc) (sm (a : Int) M) := by have := (unhide H4).1; rwa [eW] at this
              have HS := hide (And.intro hsub (And.intro hy4 eT))
              clear hsub hy4 eT
              simp only [eW, eV] at fin ⊢
              clear eW eV
              go_wp2_with fail
              refine (same_T (unhide HS).1 (unhide HS).2.1 (sm_le _ _) (sameB_refl _)).mono ?_
              rintro e w5 ⟨rfl, hF5⟩
              go_wp2_with fail
              have hlen : M.length < 9223372036854775808 := by have := (unhide HT).2.2.2.2.2.2.2.2; omega
              refine (hsum_T _ b 0 M w5 (fin w5 hF5).1 (fin w5 hF5).2.1 (unhide HT).2.2.1 hlen).mono ?_
              rintro e w7 ⟨po, pc, rfl, hs7, _, hF7⟩
              have hF47 : Fr (fun _ => False) w4 w7 := Fr.trans (S := fun _ => False) hF5 hF7 (fun _ _ h => h)
              have H7 := hide (And.intro hs7 hF47)
              clear hs7 hF7 hF47
              go_wp2_with fail
              refine (same_T (unhide H7).1 (fin w7 (unhide H7).2).2.2.1 (sm_le _ _) (sameB_refl _)).mono ?_
              rintro e w8 ⟨rfl, hF8⟩
              have H8 := hide ((unhide H7).2.trans hF8 (fun _ _ h => h))
              clear hF8
              go_wp2_with fail
              refine (hsum_T _ b 0 M w8 (fin w8 (unhide H8)).1 (fin w8 (unhide H8)).2.1 (unhide HT).2.2.1 hlen).mono ?_
              rintro e w9 ⟨qo, qc, rfl, hs9, _, hF9⟩
              have hF49 : Fr (fun _ => False) w4 w9 := (unhide H8).trans hF9 (fun _ _ h => h)
              have H9 := hide (And.intro hs9 hF49)
              clear hs9 hF9 hF49
              go_wp2_with fail
              refine (same_T (unhide H9).1 (fin w9 (unhide H9).2).2.2.2.1 (sm_le _ _) (sameB_refl _)).mono ?_
              rintro e wA ⟨rfl, hFA⟩
              have HA := hide ((unhide H9).2.trans hFA (fun _ _ h => h))
              clear hFA
              go_wp2_with fail
              refine (len_any b 0 M.length _ _ wA (fin wA (unhide HA)).2.1).mono ?_
              rintro e wB ⟨rfl, rfl⟩
              rw [(unhide HT).2.2.2.2.2.2.2.2]
              go_wp2_with fail
              go_ret
              exact ⟨rfl, (fin _ (unhide HA)).2.2.2.2⟩
            · skip
              go_wp2_with fail
              have hlen : M.length < 9223372036854775808 := by have := (unhide HT).2.2.2.2.2.2.2.2; omega
              refine (hsum_T _ b 0 M w4 (fin w4 (Fr.refl (fun _ => False) w4)).1 (fin w4 (Fr.refl (fun _ => False) w4)).2.1 (unhide HT).2.2.1 hlen).mono ?_
              rintro e w7 ⟨po, pc, rfl, hs7, _, hF7⟩
              have hF47 : Fr (fun _ => False) w4 w7 := Fr.trans (S := fun _ => False) (Fr.refl (fun _ => False) w4) hF7 (fun _ _ h => h)
              have H7 := hide (And.intro hs7 hF47)
              clear hs7 hF7 hF47
              go_wp2_with fail
              refine (same_T (unhide H7).1 (fin w7 (unhide H7).2).2.2.1 (sm_le _ _) (sameB_refl _)).mono ?_
              rintro e w8 ⟨rfl, hF8⟩
              have H8 := hide ((unhide H7).2.trans hF8 (fun _ _ h => h))
              clear hF8
              go_wp2_with fail
              refine (hsum_T _ b 0 M w8 (fin w8 (unhide H8)).1 (fin w8 (unhide H8)).2.1 (unhide HT).2.2.1 hlen).mono ?_
              rintro e w9 ⟨qo, qc, rfl, hs9, _, hF9⟩
              have hF49 : Fr (fun _ => False) w4 w9 := (unhide H8).trans hF9 (fun _ _ h => h)
              have H9 := hide (And.intro hs9 hF49)
              clear hs9 hF9 hF49
              go_wp2_with fail
              refine (same_T (unhide H9).1 (fin w9 (unhide H9).2).2.2.2.1 (sm_le _ _) (sameB_refl _)).mono ?_
              rintro e wA ⟨rfl, hFA⟩
              have HA := hide ((unhide H9).2.trans hFA (fun _ _ h => h))
              clear hFA
              go_wp2_with fail
              refine (len_any b 0 M.length _ _ wA (fin wA (unhide HA)).2.1).mono ?_
              rintro e wB ⟨rfl, rfl⟩
              rw [(unhide HT).2.2.2.2.2.2.2.2]
              go_wp2_with fail
              go_ret
              exact ⟨rfl, (fin _ (unhide HA)).2.2.2.2⟩
          · skip
            go_wp2_with fail
            have hlen : M.length < 9223372036854775808 := by have := (unhide HT).2.2.2.2.2.2.2.2; omega
            refine (hsum_T _ b 0 M w4 (fin w4 (Fr.refl (fun _ => False) w4)).1 (fin w4 (Fr.refl (fun _ => False) w4)).2.1 (unhide HT).2.2.1 hlen).mono ?_
            rintro e w7 ⟨po, pc, rfl, hs7, _, hF7⟩
            have hF47 : Fr (fun _ => False) w4 w7 := Fr.trans (S := fun _ => False) (Fr.refl (fun _ => False) w4) hF7 (fun _ _ h => h)
            have H7 := hide (And.intro hs7 hF47)
            clear hs7 hF7 hF47
            go_wp2_with fail
            refine (same_T (unhide H7).1 (fin w7 (unhide H7).2).2.2.1 (sm_le _ _) (sameB_refl _)).mono ?_
            rintro e w8 ⟨rfl, hF8⟩
            have H8 := hide ((unhide H7).2.trans hF8 (fun _ _ h => h))
            clear hF8
            go_wp2_with fail
            refine (hsum_T _ b 0 M w8 (fin w8 (unhide H8)).1 (fin w8 (unhide H8)).2.1 (unhide HT).2.2.1 hlen).mono ?_
            rintro e w9 ⟨qo, qc, rfl, hs9, _, hF9⟩
            have hF49 : Fr (fun _ => False) w4 w9 := (unhide H8).trans hF9 (fun _ _ h => h)
            have H9 := hide (And.intro hs9 hF49)
            clear hs9 hF9 hF49
            go_wp2_with fail
            refine (same_T (unhide H9).1 (fin w9 (unhide H9).2).2.2.2.1 (sm_le _ _) (sameB_refl _)).mono ?_
            rintro e wA ⟨rfl, hFA⟩
            have HA := hide ((unhide H9).2.trans hFA (fun _ _ h => h))
            clear hFA
            go_wp2_with fail
            refine (len_any b 0 M.length _ _ wA (fin wA (unhide HA)).2.1).mono ?_
            rintro e wB ⟨rfl, rfl⟩
            rw [(unhide HT).2.2.2.2.2.2.2.2]
            go_wp2_with fail
            go_ret
            exact ⟨rfl, (fin _ (unhide HA)).2.2.2.2⟩
        · skip
          go_wp2_with fail
          have hlen : M.length < 9223372036854775808 := by have := (unhide HT).2.2.2.2.2.2.2.2; omega
          refine (hsum_T _ b 0 M w4 (fin w4 (Fr.refl (fun _ => False) w4)).1 (fin w4 (Fr.refl (fun _ => False) w4)).2.1 (unhide HT).2.2.1 hlen).mono ?_
          rintro e w7 ⟨po, pc, rfl, hs7, _, hF7⟩
          have hF47 : Fr (fun _ => False) w4 w7 := Fr.trans (S := fun _ => False) (Fr.refl (fun _ => False) w4) hF7 (fun _ _ h => h)
          have H7 := hide (And.intro hs7 hF47)
          clear hs7 hF7 hF47
          go_wp2_with fail
          refine (same_T (unhide H7).1 (fin w7 (unhide H7).2).2.2.1 (sm_le _ _) (sameB_refl _)).mono ?_
          rintro e w8 ⟨rfl, hF8⟩
          have H8 := hide ((unhide H7).2.trans hF8 (fun _ _ h => h))
          clear hF8
          go_wp2_with fail
          refine (hsum_T _ b 0 M w8 (fin w8 (unhide H8)).1 (fin w8 (unhide H8)).2.1 (unhide HT).2.2.1 hlen).mono ?_
          rintro e w9 ⟨qo, qc, rfl, hs9, _, hF9⟩
          have hF49 : Fr (fun _ => False) w4 w9 := (unhide H8).trans hF9 (fun _ _ h => h)
          have H9 := hide (And.intro hs9 hF49)
          clear hs9 hF9 hF49
          go_wp2_with fail
          refine (same_T (unhide H9).1 (fin w9 (unhide H9).2).2.2.2.1 (sm_le _ _) (sameB_refl _)).mono ?_
          rintro e wA ⟨rfl, hFA⟩
          have HA := hide ((unhide H9).2.trans hFA (fun _ _ h => h))
          clear hFA
          go_wp2_with fail
          refine (len_any b 0 M.length _ _ wA (fin wA (unhide HA)).2.1).mono ?_
          rintro e wB ⟨rfl, rfl⟩
          rw [(unhide HT).2.2.2.2.2.2.2.2]
          go_wp2_with fail
          go_ret
          exact ⟨rfl, (fin _ (unhide HA)).2.2.2.2⟩
      · skip
        go_wp2_with fail
        refine (sum_T wi M _ wr (unhide HT).1 (unhide HT).2.2.2.1 (unhide HT).2.2.1 (by have := (unhide HT).2.2.2.2.2.2.2.2; omega) (fun g' n' c' e => by simp only [Value.slice.injEq] at e; have := (unhide HT).2.2.2.2.2.1; omega) (unhide HT).2.2.2.2.1).mono ?_
        rintro e w3 ⟨yo, yc, rfl, hs3, hy3, hF3⟩
        have H3 := hide (And.intro hs3 (And.intro hy3 hF3))
        clear hs3 hy3 hF3
        go_wp2_with fail
        refine (sum_T vi M _ w3 ((unhide HT).1.fr0 (unhide H3).2.2) ((unhide HT).2.2.2.1.fr0 (unhide H3).2.2) (unhide HT).2.2.1 (by have := (unhide HT).2.2.2.2.2.2.2.2; omega) (fun g' n' c' e => by simp only [Value.slice.injEq] at e; have := (unhide HT).2.2.2.2.2.1; omega) (fun g' o' n' c' e => Nat.lt_of_lt_of_le ((unhide HT).2.2.2.2.1 g' o' n' c' e) (unhide H3).2.2.size)).mono ?_
        rintro e w4 ⟨zo, zc, rfl, hs4, hz4, hF4⟩
        have H4 := hide (And.intro ((unhide H3).1.fr0 hF4) (And.intro hs4 (And.intro hz4 ((unhide H3).2.2.trans hF4 (fun _ _ h => h)))))
        clear hs4 hz4 hF4
        have fin : ∀ (w5 : World), Fr (fun _ => False) w4 w5 → GS w5 ∧ HM w5 b 0 M ∧ Src w5 (.slice yo (sm wi M).length yc) (sm wi M) ∧ Src w5 (.slice zo (sm vi M).length zc) (sm vi M) ∧ Fr (fun _ => False) w w5 := fun w5 hf => by
          have h45 := (unhide H4).2.2.2.trans hf (fun _ _ h => h)
          exact ⟨(unhide HT).1.fr0 h45, (unhide HT).2.1.fr h45 (fun h => h), (unhide H4).1.fr0 hf, (unhide H4).2.1.fr0 hf, (unhide HT).2.2.2.2.2.2.2.1.trans h45 (fun _ _ h => h)⟩
        by_cases h1 : (1 : Int) ≤ wi
        · by_cases h2 : wi ≤ vi
          · by_cases h3 : vi ≤ 32
            · obtain ⟨a, rfl⟩ : ∃ a : Nat, wi = (a : Int) := ⟨wi.toNat, by omega⟩
              obtain ⟨q, rfl⟩ : ∃ q : Nat, vi = (q : Int) := ⟨vi.toNat, by omega⟩
              have eW : (sm (a : Int) M).length = a := by rw [sm_len ⟨h1, by omega⟩, Int.toNat_natCast]
              have eV : (sm (q : Int) M).length = q := by rw [sm_len ⟨by omega, h3⟩, Int.toNat_natCast]
              have eT : sm (a : Int) M = (sm (q : Int) M).take a := by
                rw [sm, if_pos ⟨h1, by omega⟩, sm, if_pos ⟨by omega, h3⟩, Int.toNat_natCast, Int.toNat_natCast, List.take_take, Nat.min_eq_left (by omega)]
              have hsub : Src w4 (.slice zo a zc) (sm (a : Int) M) := by
                rcases (unhide H4).2.1 with ⟨e, _⟩ | ⟨g', o', c', e, hcc⟩ | ⟨a', c', e, _⟩
                · simp only [Value.slice.injEq] at e; omega
                · simp only [Value.slice.injEq] at e
                  refine .inr (.inl ⟨g', o', c', by rw [eW, e.1, e.2.2], fun j u hu => hcc j u ?_⟩)
                  have hj : j < a := by
                    have := (List.getElem?_eq_some_iff.1 hu).1
                    rw [cellsOf_length, eW] at this
                    exact this
                  rw [eT] at hu
                  rw [← hu]
                  simp only [cellsOf, List.getElem?_map, List.getElem?_take_of_lt hj]
                · simp only [Value.slice.injEq] at e; omega
              have hzc : q ≤ zc := eV ▸ (unhide H4).2.2.1
              have hza : (a : Int) ≤ (zc : Int) := by omega
              have hza' : a ≤ zc := by omega
              have hy4 : Src w4 (.slice yo a yc) (sm (a : Int) M) := by have := (unhide H4).1; rwa [eW] at this
              have HS := hide (And.intro hsub (And.intro hy4 eT))
              clear hsub hy4 eT
              simp only [eW, eV] at fin ⊢
              clear eW eV
              go_wp2_with fail
              refine (same_T (unhide HS).1 (unhide HS).2.1 (sm_le _ _) (sameB_refl _)).mono ?_
              rintro e w5 ⟨rfl, hF5⟩
              go_wp2_with fail
              have hlen : M.length < 9223372036854775808 := by have := (unhide HT).2.2.2.2.2.2.2.2; omega
              refine (hsum_T _ b 0 M w5 (fin w5 hF5).1 (fin w5 hF5).2.1 (unhide HT).2.2.1 hlen).mono ?_
              rintro e w7 ⟨po, pc, rfl, hs7, _, hF7⟩
              have hF47 : Fr (fun _ => False) w4 w7 := Fr.trans (S := fun _ => False) hF5 hF7 (fun _ _ h => h)
              have H7 := hide (And.intro hs7 hF47)
              clear hs7 hF7 hF47
              go_wp2_with fail
              refine (same_T (unhide H7).1 (fin w7 (unhide H7).2).2.2.1 (sm_le _ _) (sameB_refl _)).mono ?_
              rintro e w8 ⟨rfl, hF8⟩
              have H8 := hide ((unhide H7).2.trans hF8 (fun _ _ h => h))
              clear hF8
              go_wp2_with fail
              refine (hsum_T _ b 0 M w8 (fin w8 (unhide H8)).1 (fin w8 (unhide H8)).2.1 (unhide HT).2.2.1 hlen).mono ?_
              rintro e w9 ⟨qo, qc, rfl, hs9, _, hF9⟩
              have hF49 : Fr (fun _ => False) w4 w9 := (unhide H8).trans hF9 (fun _ _ h => h)
              have H9 := hide (And.intro hs9 hF49)
              clear hs9 hF9 hF49
              go_wp2_with fail
              refine (same_T (unhide H9).1 (fin w9 (unhide H9).2).2.2.2.1 (sm_le _ _) (sameB_refl _)).mono ?_
              rintro e wA ⟨rfl, hFA⟩
              have HA := hide ((unhide H9).2.trans hFA (fun _ _ h => h))
              clear hFA
              go_wp2_with fail
              refine (len_any b 0 M.length _ _ wA (fin wA (unhide HA)).2.1).mono ?_
              rintro e wB ⟨rfl, rfl⟩
              rw [(unhide HT).2.2.2.2.2.2.2.2]
              go_wp2_with fail
              go_ret
              exact ⟨rfl, (fin _ (unhide HA)).2.2.2.2⟩
            · skip
              go_wp2_with fail
              have hlen : M.length < 9223372036854775808 := by have := (unhide HT).2.2.2.2.2.2.2.2; omega
              refine (hsum_T _ b 0 M w4 (fin w4 (Fr.refl (fun _ => False) w4)).1 (fin w4 (Fr.refl (fun _ => False) w4)).2.1 (unhide HT).2.2.1 hlen).mono ?_
              rintro e w7 ⟨po, pc, rfl, hs7, _, hF7⟩
              have hF47 : Fr (fun _ => False) w4 w7 := Fr.trans (S := fun _ => False) (Fr.refl (fun _ => False) w4) hF7 (fun _ _ h => h)
              have H7 := hide (And.intro hs7 hF47)
              clear hs7 hF7 hF47
              go_wp2_with fail
              refine (same_T (unhide H7).1 (fin w7 (unhide H7).2).2.2.1 (sm_le _ _) (sameB_refl _)).mono ?_
              rintro e w8 ⟨rfl, hF8⟩
              have H8 := hide ((unhide H7).2.trans hF8 (fun _ _ h => h))
              clear hF8
              go_wp2_with fail
              refine (hsum_T _ b 0 M w8 (fin w8 (unhide H8)).1 (fin w8 (unhide H8)).2.1 (unhide HT).2.2.1 hlen).mono ?_
              rintro e w9 ⟨qo, qc, rfl, hs9, _, hF9⟩
              have hF49 : Fr (fun _ => False) w4 w9 := (unhide H8).trans hF9 (fun _ _ h => h)
              have H9 := hide (And.intro hs9 hF49)
              clear hs9 hF9 hF49
              go_wp2_with fail
              refine (same_T (unhide H9).1 (fin w9 (unhide H9).2).2.2.2.1 (sm_le _ _) (sameB_refl _)).mono ?_
              rintro e wA ⟨rfl, hFA⟩
              have HA := hide ((unhide H9).2.trans hFA (fun _ _ h => h))
              clear hFA
              go_wp2_with fail
              refine (len_any b 0 M.length _ _ wA (fin wA (unhide HA)).2.1).mono ?_
              rintro e wB ⟨rfl, rfl⟩
              rw [(unhide HT).2.2.2.2.2.2.2.2]
              go_wp2_with fail
              go_ret
              exact ⟨rfl, (fin _ (unhide HA)).2.2.2.2⟩
          · skip
            go_wp2_with fail
            have hlen : M.length < 9223372036854775808 := by have := (unhide HT).2.2.2.2.2.2.2.2; omega
            refine (hsum_T _ b 0 M w4 (fin w4 (Fr.refl (fun _ => False) w4)).1 (fin w4 (Fr.refl (fun _ => False) w4)).2.1 (unhide HT).2.2.1 hlen).mono ?_
            rintro e w7 ⟨po, pc, rfl, hs7, _, hF7⟩
            have hF47 : Fr (fun _ => False) w4 w7 := Fr.trans (S := fun _ => False) (Fr.refl (fun _ => False) w4) hF7 (fun _ _ h => h)
            have H7 := hide (And.intro hs7 hF47)
            clear hs7 hF7 hF47
            go_wp2_with fail
            refine (same_T (unhide H7).1 (fin w7 (unhide H7).2).2.2.1 (sm_le _ _) (sameB_refl _)).mono ?_
            rintro e w8 ⟨rfl, hF8⟩
            have H8 := hide ((unhide H7).2.trans hF8 (fun _ _ h => h))
            clear hF8
            go_wp2_with fail
            refine (hsum_T _ b 0 M w8 (fin w8 (unhide H8)).1 (fin w8 (unhide H8)).2.1 (unhide HT).2.2.1 hlen).mono ?_
            rintro e w9 ⟨qo, qc, rfl, hs9, _, hF9⟩
            have hF49 : Fr (fun _ => False) w4 w9 := (unhide H8).trans hF9 (fun _ _ h => h)
            have H9 := hide (And.intro hs9 hF49)
            clear hs9 hF9 hF49
            go_wp2_with fail
            refine (same_T (unhide H9).1 (fin w9 (unhide H9).2).2.2.2.1 (sm_le _ _) (sameB_refl _)).mono ?_
            rintro e wA ⟨rfl, hFA⟩
            have HA := hide ((unhide H9).2.trans hFA (fun _ _ h => h))
            clear hFA
            go_wp2_with fail
            refine (len_any b 0 M.length _ _ wA (fin wA (unhide HA)).2.1).mono ?_
            rintro e wB ⟨rfl, rfl⟩
            rw [(unhide HT).2.2.2.2.2.2.2.2]
            go_wp2_with fail
            go_ret
            exact ⟨rfl, (fin _ (unhide HA)).2.2.2.2⟩
        · skip
          go_wp2_with fail
          have hlen : M.length < 9223372036854775808 := by have := (unhide HT).2.2.2.2.2.2.2.2; omega
          refine (hsum_T _ b 0 M w4 (fin w4 (Fr.refl (fun _ => False) w4)).1 (fin w4 (Fr.refl (fun _ => False) w4)).2.1 (unhide HT).2.2.1 hlen).mono ?_
          rintro e w7 ⟨po, pc, rfl, hs7, _, hF7⟩
          have hF47 : Fr (fun _ => False) w4 w7 := Fr.trans (S := fun _ => False) (Fr.refl (fun _ => False) w4) hF7 (fun _ _ h => h)
          have H7 := hide (And.intro hs7 hF47)
          clear hs7 hF7 hF47
          go_wp2_with fail
          refine (same_T (unhide H7).1 (fin w7 (unhide H7).2).2.2.1 (sm_le _ _) (sameB_refl _)).mono ?_
          rintro e w8 ⟨rfl, hF8⟩
          have H8 := hide ((unhide H7).2.trans hF8 (fun _ _ h => h))
          clear hF8
          go_wp2_with fail
          refine (hsum_T _ b 0 M w8 (fin w8 (unhide H8)).1 (fin w8 (unhide H8)).2.1 (unhide HT).2.2.1 hlen).mono ?_
          rintro e w9 ⟨qo, qc, rfl, hs9, _, hF9⟩
          have hF49 : Fr (fun _ => False) w4 w9 := (unhide H8).trans hF9 (fun _ _ h => h)
          have H9 := hide (And.intro hs9 hF49)
          clear hs9 hF9 hF49
          go_wp2_with fail
          refine (same_T (unhide H9).1 (fin w9 (unhide H9).2).2.2.2.1 (sm_le _ _) (sameB_refl _)).mono ?_
          rintro e wA ⟨rfl, hFA⟩
          have HA := hide ((unhide H9).2.trans hFA (fun _ _ h => h))
          clear hFA
          go_wp2_with fail
          refine (len_any b 0 M.length _ _ wA (fin wA (unhide HA)).2.1).mono ?_
          rintro e wB ⟨rfl, rfl⟩
          rw [(unhide HT).2.2.2.2.2.2.2.2]
          go_wp2_with fail
          go_ret
          exact ⟨rfl, (fin _ (unhide HA)).2.2.2.2⟩
end Go.Proofs.YtheehhplopbceaaDoor
