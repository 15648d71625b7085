import Derived.Test.YtikolmpgnpkdbaaDoorWts
namespace Go.Proofs.YtikolmpgnpkdbaaDoor
open Go.RowKit

def runW (L : List Pt) (E : Nat → Addr) : Wst := L.foldl (fun st p => st.layW p E) start
def fits (A : List Pt) (k : Nat) : List Pt := (A.take k).map Pt.fit
theorem fits_snoc (A : List Pt) (k : Nat) (h : k < A.length) : fits A (k + 1) = fits A k ++ [A[k].fit] := by
  unfold fits
  rw [List.take_add_one, List.getElem?_eq_getElem h, Option.toList_some, List.map_append]
  rfl
theorem runW_snoc (L : List Pt) (p : Pt) (E : Nat → Addr) : runW (L ++ [p]) E = (runW L E).layW p E := by
  unfold runW; rw [List.foldl_append]; rfl
theorem layW_len (st : Wst) (p : Pt) (E : Nat → Addr) : (st.layW p E).l.length ≤ st.l.length + (12 + p.s.size) := by
  unfold Wst.layW
  split
  · unfold Wst.failN
    split
    · omega
    · rw [fail_len]; omega
  · have := lay9_len st p (E 2) (E 4)
    rename_i h
    rwa [Wst.lay9, if_neg h] at this
theorem runW_len (A : List Pt) (E : Nat → Addr) : ∀ k, k ≤ A.length → (runW (fits A k) E).l.length ≤ weight (A.take k) := by
  intro k
  induction k with
  | zero => intro _; simp [fits, runW, start, weight]
  | succ k ih =>
    intro hk
    have h1 := ih (by omega)
    have h2 := layW_len (runW (fits A k) E) (A[k]'(by omega)).fit E
    have h3 : (A[k]'(by omega)).fit.s = (A[k]'(by omega)).s := rfl
    rw [h3] at h2
    rw [fits_snoc A k (by omega), runW_snoc, weight_snoc A k (by omega)]
    omega
/-- The writer and the list of calls, k done. -/
def InvW (w wr : World) (av : Value) (A : List Pt) (k : Nat) (E : Nat → Addr) : Prop :=
  ∃ F1, W wr w.heap.size F1 (runW (fits A k) E) ∧ wr.ownsRow (w.heap.size + 1) 31 5 av (fits A k).length (pcells (fits A k)) ∧ Fr (fun _ => False) w wr ∧ (∀ i, F1 i → w.heap.size ≤ i) ∧ ∀ g, av.ownBlock = some g → ¬ F1 g


theorem weight_fits (A : List Pt) (k : Nat) : weight (fits A k) = weight (A.take k) := by
  unfold fits weight
  rw [List.map_map]
  rfl
theorem fits_len (A : List Pt) (k : Nat) (h : k ≤ A.length) : (fits A k).length = k := by
  simp [fits]; omega
theorem invw_step {w wr w4 w6 w7 : World} {av v' : Value} {A : List Pt} {k : Nat} {E : Nat → Addr} {p : Pt} {F1 F1' : Nat → Prop} (hlt : k < A.length) (hp : A[k].fit = p) (hc : Fr (fun _ => False) wr w4)
    (hV : W wr w.heap.size F1 (runW (fits A k) E)) (hn1 : ∀ i, F1 i → w.heap.size ≤ i) (hdj : ∀ g, av.ownBlock = some g → ¬ F1 g)
    (hown6 : w6.ownsRow (w.heap.size + 1) 31 5 v' ((fits A k).length + 1) (pcells (fits A k ++ [p]))) (hat : v'.ownBlock = av.ownBlock ∨ v'.ownBlock = some (w4.heap.size + 1)) (hA6 : Fr (fun _ => False) w w6)
    (hW7 : W w7 w.heap.size F1' ((runW (fits A k) E).layW p E)) (hc7 : Ch w6 w7 F1 F1') : InvW w w7 v' A (k + 1) E := by
  have hs := hc.size
  have hnF : ∀ g, v'.ownBlock = some g → ¬ F1 g := fun g hg h1 => by
    rcases hat with e | e
    · exact hdj g (e ▸ hg) h1
    · rw [e] at hg
      have := hV.lt g h1
      have := Option.some.inj hg
      omega
  refine ⟨F1', ?_, ?_, hA6.soak hc7.fr hn1, fun i hi => ?_, fun g hg h1 => ?_⟩
  · rw [fits_snoc A k hlt, runW_snoc, hp]; exact hW7
  · rw [fits_snoc A k hlt, hp, List.length_append]
    exact ownsRow_of_block hown6 (fun g hg => hc7.fr.block g (hown6.lt g hg).2 (hnF g hg))
  · rcases hc7.new i hi with hx | hx
    · exact hn1 i hx
    · have := hA6.size; omega
  · rcases hc7.new g h1 with hx | hx
    · exact hnF g hg hx
    · have := (hown6.lt g hg).2; omega
theorem own_form5 {w : World} {base e size n : Nat} {v : Value} {xs : List Value} (h : w.ownsRow base e size v n xs) : ∃ ao cap, v = .slice ao n cap := by
  rcases h.2 with ⟨rfl, e⟩ | ⟨g, cap, cur, rfl, _⟩
  · rw [e]; exact ⟨none, 0, rfl⟩
  · exact ⟨_, cap, rfl⟩
theorem lt_of_heap {w : World} {k : Nat} {o : Obj} (h : w.heap[k]? = some o) : k < w.heap.size := by
  rcases Nat.lt_or_ge k w.heap.size with hx | hx
  · exact hx
  · rw [Array.getElem?_eq_none hx] at h; cases h
theorem told_box (w : World) (o f : Obj) : (∀ i, (((w.alloc o).alloc f).alloc f).cell? ⟨w.heap.size, i, none⟩ = (w.alloc o).cell? ⟨w.heap.size, i, none⟩) ∧ (((w.alloc o).alloc f).alloc f).heap[w.heap.size + 1]? = some f ∧ (((w.alloc o).alloc f).alloc f).heap[w.heap.size + 1 + 1]? = some f := by
  have h1 : (w.alloc o).heap.size = w.heap.size + 1 := by simp
  have h2 : ((w.alloc o).alloc f).heap.size = w.heap.size + 1 + 1 := by simp
  refine ⟨fun i => (box2 (w.alloc o) f f).cell (by show w.heap.size < (w.alloc o).heap.size; omega) (fun h => h), ?_, ?_⟩
  · rw [Below.heap_alloc _ _ _ (by omega), ← h1]; exact heap_alloc_new _ _
  · rw [← h2]; exact heap_alloc_new _ _
theorem fits_mem {A : List Pt} {k : Nat} {p : Pt} (h : p ∈ fits A k) : ∃ q ∈ A, p = q.fit := by
  unfold fits at h
  obtain ⟨q, hq, rfl⟩ := List.mem_map.1 h
  exact ⟨q, List.mem_of_mem_take hq, rfl⟩

set_option maxRecDepth 1000000 in
set_option maxHeartbeats 2000000 in
theorem writes_any (x0 : Value) (A : List Pt) (E : Nat → Addr) (w : World) (hg : G7 w E) (hw : 9 ≤ w.heap.size) (h0 : PSrc w x0 A) (hA : weight A ≤ 16777216) (oA : ∀ p ∈ A, p.ok) (hAl : A.length < 16777216) :
    Calls Tryd.prog 9 #[x0] w fun e w' => e = .returned (.bool true) ∧ Fr (fun _ => False) w w' := by
  obtain ⟨ao0, ac0, rfl⟩ := h0.form
  have HG := hide (And.intro hg h0)
  have HO := hide oA
  clear hg h0 oA
  go_enter Tryd.func9, Tryd.ntmps9
  go_wp2_with fail
  refine (newWriter_any w hw).mono ?_
  rintro e w2 ⟨rfl, hW2, hf2⟩
  have H2 := hide (And.intro hW2 hf2)
  clear hW2 hf2
  go_wp2_with fail
  go_loopw [4, 5] (fun av i wr => ∃ k : Nat, k ≤ A.length ∧ i = .int .i64 k ∧ InvW w wr av A k E) (fun _ i _ => A.length - (intOf i).toNat)
  case atStart => exact ⟨0, Nat.zero_le _, rfl, _, (unhide H2).1, ⟨rfl, .inl ⟨rfl, rfl⟩⟩, (unhide H2).2, fun i h1 => by have e1 : i = w.heap.size := h1; omega, fun g hg => by cases hg⟩
  case round =>
    obtain ⟨k, hk, rfl, F1, hV, hown, hA4, hn1, hdj⟩ := hrel
    rename World => wr
    obtain ⟨vo, vc, rfl⟩ := own_form5 hown
    by_cases hlt : k < A.length
    · obtain ⟨g, o, rfl, c0, c1, c2, c3, c4⟩ := (unhide HG).2.at_ hA4 k hlt
      generalize hP : A[k] = P at *
      have HP := hide hP
      clear hP
      have HV := hide (And.intro hV (And.intro hown (And.intro hA4 (And.intro hn1 hdj))))
      clear hV hown hA4 hn1 hdj
      go_wp2_with fail
      refine (fit_any P wr).mono ?_
      rintro e w4 ⟨rfl, hf4⟩
      have hfit : A[k].fit = ⟨fk P.k, P.u, P.s, fn P.k P.n, P.m⟩ := by rw [Pt.fit, unhide HP]
      have hm : P ∈ A := by rw [← unhide HP]; exact List.getElem_mem _
      have ok := (unhide HO) P hm
      have wt := weight_mem hm
      have hfd := fit_fitted P (by omega)
      rw [Pt.fit] at hfd
      have npl := fn_lt (k := P.k) ok.2.1
      generalize hkp : fk P.k = kp at *
      generalize hnp : fn P.k P.n = np at *
      clear c0 c1 c2 c3 c4 hkp hnp
      obtain ⟨hV, hown, hA4, hn1, hdj⟩ := unhide HV
      have hfC : Fr (fun _ => False) wr (w4.alloc (.cells #[.int .i64 kp, .int .u64 P.u, .string P.s, .int .i64 np, .int .i64 P.m] 31)) := hf4.alloc _
      have hAC := hA4.trans hfC (fun _ _ h => h)
      have flen := fits_len A k (by omega)
      have hlw := runW_len A E k (by omega)
      have tA := weight_take A k
      have hownC : (w4.alloc (.cells #[.int .i64 kp, .int .u64 P.u, .string P.s, .int .i64 np, .int .i64 P.m] 31)).ownsRow (w.heap.size + 1) 31 5 (.slice vo (fits A k).length vc) (fits A k).length (pcells (fits A k)) := ownsRow_of_block hown (fun g hg => hfC.block g (hown.lt g hg).2 (fun h => h))
      have s4 := hf4.size
      have sA := hA4.size
      have hVlt := hV.lt _ hV.fb
      obtain ⟨v', w6, hr, hown6, hgrow, hat⟩ := app_part _ _ _ _ ⟨kp, P.u, P.s, np, P.m⟩ hownC (by omega) (by simp; omega)
      have hF6 : Fr (fun j => (Value.slice vo (fits A k).length vc).ownBlock = some j) (w4.alloc (.cells #[.int .i64 kp, .int .u64 P.u, .string P.s, .int .i64 np, .int .i64 P.m] 31)) w6 := ((Fr.refl _ _).alloc _).grown hgrow (fun g hg => .inl hg)
      have hA6 := hAC.soak hF6 (fun i hi => by have := (hown.lt i hi).1; omega)
      have hW6 := (hV.frame hfC (fun _ _ h => h)).frame hF6 (fun i hi h => hdj i h hi)
      have b6 : Box w6 w4.heap.size ⟨kp, P.u, P.s, np, P.m⟩ := Box.fr (box_new w4 ⟨kp, P.u, P.s, np, P.m⟩) hF6 (fun h => by have := (hown.lt _ h).2; omega)
      have HL := hide (layW_any ⟨kp, P.u, P.s, np, P.m⟩ w.heap.size F1 _ E w6 hfd ok.1 npl ((unhide HG).1.fr hA6 (fun _ h => h.elim)) hW6 (by show _ + 8 + P.s.size ≤ _; omega))
      have HX := hide (fun (w7 : World) (F1' : Nat → Prop) (hW7 : W w7 w.heap.size F1' ((runW (fits A k) E).layW ⟨kp, P.u, P.s, np, P.m⟩ E)) (hc7 : Ch w6 w7 F1 F1') => invw_step hlt hfit hfC hV hn1 hdj hown6 (by simpa using hat) hA6 hW7 hc7)
      have hsz : (w4.alloc (.cells #[.int .i64 kp, .int .u64 P.u, .string P.s, .int .i64 np, .int .i64 P.m] 31)).heap.size = w4.heap.size + 1 := by simp
      dsimp only at hr
      rw [hsz] at hr
      have HR := hide hr
      clear hsz
      clear hfit hm ok wt hfd npl hV hown hA4 hn1 hdj hfC hAC flen hlw tA hownC s4 sA hVlt hown6 hgrow hat hF6 hA6 hW6 hr hf4
      obtain ⟨p0, p1, p2, p3, p4⟩ := b6
      generalize (fits A k).length = fl at *
      go_wp2_with (at_builtin; refine wpList_app rfl (.tmp 25) (.tmp 27) 22 22 rfl _ _ _ rfl rfl (unhide HR) ?_)
      refine (unhide HL).mono ?_
      rintro e w7 ⟨rfl, F1', hW7, hc7⟩
      have HI := hide (unhide HX w7 F1' hW7 hc7)
      clear hW7 hc7 HX HL HR p0 p1 p2 p3 p4
      go_wp2_with fail
      exact ⟨⟨k + 1, by omega, by go_num, unhide HI⟩, by simp [intOf]; omega⟩
    · have hkA : k = A.length := by omega
      have flen := fits_len A k (by omega)
      have hwt := weight_fits A k
      have hlw := runW_len A E k (by omega)
      have tA := weight_take A k
      have hmem : ∀ p ∈ fits A k, (p.k ∈ kinds ∧ p.ok) ∧ p.fitted := fun p hp => by
        obtain ⟨q, hq, rfl⟩ := fits_mem hp
        have ok := (unhide HO) q hq
        have wt := weight_mem hq
        exact ⟨⟨fk_mem q.k, ok.1, fn_lt (k := q.k) ok.2.1, ok.2.2⟩, fit_fitted q (by omega)⟩
      have hag := write_agrees (fits A k) E start [] rfl rfl (fun p hp => (hmem p hp).2)
      have hst : start.nm = ⟨#[]⟩ := rfl
      rw [hst] at hag
      have hru : (fits A k).foldl (fun st p => st.layW p E) start = runW (fits A k) E := rfl
      rw [hru] at hag
      clear hst hru
      generalize hL : fits A k = L at *
      clear hL
      generalize runW L E = st at *
      have HGW := hide (gwrite_any _ L wr (own_psrc hown) (by omega) (fun p hp => (hmem p hp).1) (by omega))
      obtain ⟨bs, what, place, why, hM⟩ : ∃ bs what place why, writeM L ⟨#[]⟩ [] = (bs, what, place, why) := ⟨_, _, _, _, rfl⟩
      rw [hM] at HGW hag
      dsimp only at HGW hag
      have HV := hide (And.intro hV hA4)
      have HAG := hide hag
      have hln : L.length ≤ 16777216 := by omega
      clear hV hA4 hown hn1 hdj hmem hwt hag hM flen hkA
      generalize L.length = ln at *
      go_wp2_with fail
      refine (unhide HGW).mono ?_
      rintro e w4 ⟨v, rfl, hsrc, hf4⟩
      obtain ⟨bo, bc, rfl⟩ := hsrc.form
      have HV4 := hide (And.intro hsrc (And.intro ((unhide HV).1.frame hf4 (fun _ _ h => h)) ((unhide HV).2.trans hf4 (fun _ _ h => h))))
      clear hsrc hf4 HGW
      rcases (unhide HAG) with ⟨rfl, hfn, hnorm⟩ | ⟨h1, h7, rfl, hfs⟩
      · have hs : sameB st.l bs = true := by simp [sameB, hnorm]
        have hFB : Fr (fun _ => False) w4 (w4.alloc (.cells #[.string what, .int .i64 place, .int .i64 0] 55)) := box1 w4 _
        have HFN := hide (And.intro hfn hFB)
        clear hnorm hfn HAG hFB
        go_wp2_with fail
        have hW5 := (unhide HV4).2.1.frame (unhide HFN).2 (fun _ _ h => h)
        refine (wDone_ok _ _ _ _ hW5 (unhide HFN).1 (by omega)).mono ?_
        rintro e w5 ⟨g1, rfl, ho1, hf5⟩
        obtain ⟨o1, q1, rfl⟩ := own_form ho1
        have H5 := hide (And.intro ho1 (And.intro hf5 (hW5.frame hf5 (fun _ _ h => h))))
        clear ho1 hf5 hW5
        go_wp2_with fail
        refine (wDone_ok _ _ _ w5 (unhide H5).2.2 (unhide HFN).1 (by omega)).mono ?_
        rintro e w6 ⟨g2, rfl, ho2, hf6⟩
        obtain ⟨o2, q2, rfl⟩ := own_form ho2
        have hf46 := (unhide H5).2.1.trans hf6 (fun _ _ h => h)
        have k0 := (hf46.cell (p := ⟨w4.heap.size, 0, none⟩) (by simp) (fun h => h)).trans (show _ = some (.string what) by simp)
        have k1 := (hf46.cell (p := ⟨w4.heap.size, 1, none⟩) (by simp) (fun h => h)).trans (show _ = some (.int .i64 place) by simp)
        have k2 := (hf46.cell (p := ⟨w4.heap.size, 2, none⟩) (by simp) (fun h => h)).trans (show _ = some (.int .i64 0) by simp)
        have hS1 := (own_src (unhide H5).1).fr hf6 (fun _ _ _ _ _ h => h)
        have hSb := ((unhide HV4).1.fr (unhide HFN).2 (fun _ _ _ _ _ h => h)).fr hf46 (fun _ _ _ _ _ h => h)
        have hA6 := ((unhide HV4).2.2.trans (unhide HFN).2 (fun _ _ h => h)).trans hf46 (fun _ _ h => h)
        have H6 := hide (And.intro hS1 (And.intro (own_src ho2) (And.intro hSb hA6)))
        clear ho2 hf6 hf46 hS1 hSb hA6 H5 HFN HV4 HV
        go_wp2_with fail
        refine (same_any _ _ st.l bs w6 (unhide H6).1 (unhide H6).2.2.1 (by omega)).mono ?_
        rintro e w7 ⟨rfl, n7, rfl⟩
        rw [hs]
        go_wp2_with fail
        refine (told_nil what place _).mono ?_
        rintro e w8 ⟨rfl, hf8⟩
        have hf68 := ((Fr.refl (fun _ => False) w6).drewN n7).trans hf8 (fun _ _ h => h)
        have l0 := (hf68.cell (lt_of_cell k0) (fun h => h)).trans k0
        have l1 := (hf68.cell (lt_of_cell k1) (fun h => h)).trans k1
        have l2 := (hf68.cell (lt_of_cell k2) (fun h => h)).trans k2
        have H8 := hide (And.intro ((unhide H6).2.1.fr hf68 (fun _ _ _ _ _ h => h)) (And.intro ((unhide H6).2.2.1.fr hf68 (fun _ _ _ _ _ h => h)) ((unhide H6).2.2.2.trans hf68 (fun _ _ h => h))))
        clear hf8 hf68 k0 k1 k2
        go_wp2_with fail
        refine (same_any _ _ st.l bs w8 (unhide H8).1 (unhide H8).2.1 (by omega)).mono ?_
        rintro e w9 ⟨rfl, n9, rfl⟩
        rw [hs]
        go_wp2_with fail
        refine (told_nil what place _).mono ?_
        rintro e w10 ⟨rfl, hf10⟩
        have H10 := hide ((unhide H8).2.2.trans (((Fr.refl (fun _ => False) w8).drewN n9).trans hf10 (fun _ _ h => h)) (fun _ _ h => h))
        clear hf10
        go_wp2_with fail
        go_ret
        exact ⟨rfl, unhide H10⟩
      · obtain ⟨n, rfl⟩ := Int.eq_ofNat_of_zero_le (show 0 ≤ why by omega)
        have hs : sameB [] [] = true := by simp [sameB]
        rw [Int.toNat_natCast] at hfs
        have hFB : Fr (fun _ => False) w4 (w4.alloc (.cells #[.string what, .int .i64 place, .int .i64 n] 55)) := box1 w4 _
        have HFN := hide (And.intro hfs hFB)
        have HNN : Hid (1 ≤ n ∧ n ≤ 7) := hide ⟨by omega, by omega⟩
        clear hfs HAG hFB h1 h7
        go_wp2_with fail
        refine (wDone_bad _ _ _ what place (E n) _ ((unhide HV4).2.1.frame (unhide HFN).2 (fun _ _ h => h)) (unhide HFN).1).mono ?_
        rintro e w5 ⟨rfl, rfl⟩
        have hF5 := (unhide HFN).2.alloc (faultObj what place (E n))
        have H5 := hide hF5
        clear hF5
        go_wp2_with fail
        refine (wDone_bad _ _ _ what place (E n) _ ((unhide HV4).2.1.frame (unhide H5) (fun _ _ h => h)) (unhide HFN).1).mono ?_
        rintro e w6 ⟨rfl, rfl⟩
        have hf46 := (unhide H5).alloc (faultObj what place (E n))
        generalize hw6 : ((w4.alloc (.cells #[.string what, .int .i64 place, .int .i64 n] 55)).alloc (faultObj what place (E n))).alloc (faultObj what place (E n)) = w6 at *
        have hz6 : ((w4.alloc (.cells #[.string what, .int .i64 place, .int .i64 n] 55)).alloc (faultObj what place (E n))).heap.size = w4.heap.size + 1 + 1 := by simp
        have hbb := told_box w4 (.cells #[.string what, .int .i64 place, .int .i64 n] 55) (faultObj what place (E n))
        rw [hw6] at hbb
        obtain ⟨hbc, hb1, hb2⟩ := hbb
        have k0 : w6.cell? ⟨w4.heap.size, 0, none⟩ = some (.string what) := (hbc 0).trans (by simp)
        have k1 : w6.cell? ⟨w4.heap.size, 1, none⟩ = some (.int .i64 place) := (hbc 1).trans (by simp)
        have k2 : w6.cell? ⟨w4.heap.size, 2, none⟩ = some (.int .i64 n) := (hbc 2).trans (by simp)
        rw [hz6]
        have hSb := (unhide HV4).1.fr hf46 (fun _ _ _ _ _ h => h)
        have hA6 := (unhide HV4).2.2.trans hf46 (fun _ _ h => h)
        have H6 := hide (And.intro hSb (And.intro hA6 (And.intro hb1 hb2)))
        clear hw6 hz6 hbc hb1 hb2 hSb hA6 hf46 H5 HFN HV4 HV
        have hs0 : ∀ u, Src u (.slice none 0 0) [] := fun _ => .inl ⟨rfl, rfl⟩
        go_wp2_with fail
        refine (same_any _ _ [] [] w6 (hs0 _) (unhide H6).1 (by simp)).mono ?_
        rintro e w7 ⟨rfl, n7, rfl⟩
        rw [hs]
        go_wp2_with fail
        refine (told_fault n (w4.heap.size + 1) place what E _ ((unhide HG).1.fr ((unhide H6).2.1.drewN n7) (fun _ h => h.elim)) (unhide HNN).1 (unhide HNN).2 (unhide H6).2.2.1).mono ?_
        rintro e w8 ⟨rfl, hf8⟩
        have hf68 := ((Fr.refl (fun _ => False) w6).drewN n7).trans hf8 (fun _ _ h => h)
        have l0 := (hf68.cell (lt_of_cell k0) (fun h => h)).trans k0
        have l1 := (hf68.cell (lt_of_cell k1) (fun h => h)).trans k1
        have l2 := (hf68.cell (lt_of_cell k2) (fun h => h)).trans k2
        have hb8 := (hf68.block _ (lt_of_heap (unhide H6).2.2.2) (fun h => h)).trans (unhide H6).2.2.2
        have H8 := hide (And.intro ((unhide H6).1.fr hf68 (fun _ _ _ _ _ h => h)) (And.intro ((unhide H6).2.1.trans hf68 (fun _ _ h => h)) hb8))
        clear hf8 hf68 k0 k1 k2 hb8
        go_wp2_with fail
        refine (same_any _ _ [] [] w8 (hs0 _) (unhide H8).1 (by simp)).mono ?_
        rintro e w9 ⟨rfl, n9, rfl⟩
        rw [hs]
        go_wp2_with fail
        refine (told_fault n (w4.heap.size + 1 + 1) place what E _ ((unhide HG).1.fr ((unhide H8).2.1.drewN n9) (fun _ h => h.elim)) (unhide HNN).1 (unhide HNN).2 (unhide H8).2.2).mono ?_
        rintro e w10 ⟨rfl, hf10⟩
        have H10 := hide ((unhide H8).2.1.trans (((Fr.refl (fun _ => False) w8).drewN n9).trans hf10 (fun _ _ h => h)) (fun _ _ h => h))
        clear hf10
        go_wp2_with fail
        go_ret
        exact ⟨rfl, unhide H10⟩
end Go.Proofs.YtikolmpgnpkdbaaDoor
