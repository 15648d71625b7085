import Derived.Test.YthccbfgjekdiiaaDoorMae
namespace Go.Proofs.YthccbfgjekdiiaaDoor
open Go.RowKit

/-- A slice's length is at most its capacity. -/
def Cp (x : Value) : Prop := ∀ g n c, x = .slice g n c → n ≤ c
def OfSays (i : Int) (ps : List (List Nat)) (x : Value) (w : World) : Prop :=
  Calls Tryd.prog 68 #[.int .i64 i, x] w fun e w' => ∃ yo yc, e = .returned (.slice yo (mth i ps).length yc) ∧ Sl w' (.slice yo (mth i ps).length yc) (mth i ps) ∧ Fr (fun _ => False) w w'
set_option maxRecDepth 100000 in
theorem of_nil (i : Int) (x : Value) (vs : List Value) (w : World) (hr : GR w) (hp : Pcs w x vs []) : OfSays i [] x w := by
  unfold OfSays
  obtain ⟨xo, xc, rfl⟩ := hp.form
  obtain ⟨R, hR⟩ : ∃ R, mth i [] = R := ⟨_, rfl⟩
  have hsum : ∀ w, GR w → Calls Tryd.prog 89 #[.int .i64 i, .slice none 0 0] w fun e w' => ∃ zo zc, e = .returned (.slice zo R.length zc) ∧ OB w w' zo zc R := fun w h => by
    rw [← hR, mth_nil]
    exact gsum_T i _ [] w h (.inl ⟨rfl, rfl⟩) (fun _ h => by cases h) (by simp)
  have hb : ∀ v ∈ R, v < 256 := by rw [← hR, mth_nil]; exact sm_lt i _
  rw [hR]
  have HG := hide (And.intro hsum (And.intro hr hb))
  clear hsum hr hb hR hp
  simp only [List.length_nil]
  go_enter Tryd.func68, Tryd.ntmps68
  go_wp2_with fail
  refine ((unhide HG).1 w (unhide HG).2.1).mono ?_
  rintro e w1 ⟨zo, zc, rfl, hO⟩
  have H1 := hide (And.intro (hO.sl (unhide HG).2.2) hO.fr)
  clear hO
  go_wp2_with fail
  go_ret
  exact ⟨zo, zc, rfl, (unhide H1).1, (unhide H1).2⟩
set_option maxRecDepth 100000 in
theorem of_one (i : Int) (p : List Nat) (x : Value) (vs : List Value) (w : World) (hp : Pcs w x vs [p]) : OfSays i [p] x w := by
  unfold OfSays
  obtain ⟨xo, xc, rfl⟩ := hp.form
  obtain ⟨g, o, v, rfl, hcell, _⟩ := hp.cell (Fr.refl _ _) 0 (by simp)
  have hvl : 0 < vs.length := by rw [hp.len]; simp
  have hsl : Sl w v p := by
    have h0 := hp.at_
    rcases h0 with ⟨e, rfl⟩ | ⟨a, c, e, rfl⟩ | ⟨g', o', c, e, _, hc⟩
    · simp at hvl
    · simp at hvl
    · simp only [Value.slice.injEq, Option.some.injEq, Addr.mk.injEq, and_true] at e
      obtain ⟨⟨rfl, rfl⟩, _⟩ := e
      have h1 := hc 0 _ (List.getElem?_eq_getElem hvl)
      rw [h1] at hcell
      have h2 := Option.some.inj hcell
      exact hp.sl 0 v p (by rw [List.getElem?_eq_getElem hvl, h2]) rfl
  rw [mth_one]
  obtain ⟨vo, vc, rfl⟩ := hsl.form
  rw [Nat.add_zero] at hcell
  have H := hide hsl
  clear hsl hp hvl
  simp only [List.length_singleton]
  generalize p.length = P at *
  go_enter Tryd.func68, Tryd.ntmps68
  go_wp2_with fail
  go_ret
  exact ⟨vo, vc, rfl, unhide H, Fr.refl _ _⟩
set_option maxRecDepth 100000 in
set_option maxHeartbeats 1000000 in
/-- The ref's Of. -/
theorem of_any (i : Int) (n : Nat) : ∀ (ps : List (List Nat)) (x : Value) (vs : List Value) (w : World), ps.length ≤ n → ps.length ≤ 8000000 → GR w → Pcs w x vs ps → Cp x → (∀ p ∈ ps, p.length ≤ 4000000) → OfSays i ps x w := by
  induction n with
  | zero =>
    intro ps x vs w hl _ hr hp _ hB
    have e : ps = [] := List.length_eq_zero_iff.1 (by omega)
    subst e
    exact of_nil i x vs w hr hp
  | succ n ih =>
    intro ps x vs w hl hl8 hr hp hcx hB
    by_cases h2 : ps.length < 2
    · match ps, h2 with
      | [], _ => exact of_nil i x vs w hr hp
      | [p], _ => exact of_one i p x vs w hp
    · obtain ⟨xo, xc, rfl⟩ := hp.form
      obtain ⟨g, o, v, rfl, -⟩ := hp.cell (Fr.refl _ _) 0 (by omega)
      have hk1 := hf_lt ps.length (by omega)
      have hk2 := hf_pos ps.length
      have hle : vs.length = ps.length := hp.len
      have hcapx : ps.length ≤ xc := hcx _ _ _ rfl
      have cp1 : Cp (.slice (some ⟨g, o, none⟩) (hf ps.length) xc) := fun _ _ _ e => by cases e; omega
      have cp2 : Cp (.slice (some ⟨g, o + hf ps.length, none⟩) (ps.length - hf ps.length) (xc - hf ps.length)) := fun _ _ _ e => by cases e; omega
      have hmt := mth_two i ps (by omega)
      have hP1 := hp.take (hf ps.length) (by omega)
      have hP2 := hp.drop (hf ps.length) hk1
      have hB1 : ∀ p ∈ ps.take (hf ps.length), p.length ≤ 4000000 := fun p h => hB p (List.mem_of_mem_take h)
      have hB2 : ∀ p ∈ ps.drop (hf ps.length), p.length ≤ 4000000 := fun p h => hB p (List.mem_of_mem_drop h)
      have hl1 : (ps.take (hf ps.length)).length = hf ps.length := by rw [List.length_take]; omega
      have hl2 : (ps.drop (hf ps.length)).length = ps.length - hf ps.length := by rw [List.length_drop]
      have c1 : ∀ w', Fr (fun _ => False) w w' → OfSays i (ps.take (hf ps.length)) (.slice (some ⟨g, o, none⟩) (hf ps.length) xc) w' := fun w' hfr => ih _ _ _ w' (by omega) (by omega) (hr.fr0 hfr) (hP1.fr0 hfr) cp1 hB1
      have c2 : ∀ w', Fr (fun _ => False) w w' → OfSays i (ps.drop (hf ps.length)) (.slice (some ⟨g, o + hf ps.length, none⟩) (ps.length - hf ps.length) (xc - hf ps.length)) w' := fun w' hfr => ih _ _ _ w' (by omega) (by omega) (hr.fr0 hfr) (hP2.fr0 hfr) cp2 hB2
      have m1 := mth_lt i _ (ps.take (hf ps.length)) (Nat.le_refl _) hP1.byt
      have m2 := mth_lt i _ (ps.drop (hf ps.length)) (Nat.le_refl _) hP2.byt
      have n1 := mth_len i 4000000 (by decide) _ hB1
      have n2 := mth_len i 4000000 (by decide) _ hB2
      have hha := half_any ps.length w (by omega) (by omega)
      unfold OfSays at c1 c2 ⊢
      rw [hmt]
      generalize mth i (ps.take (hf ps.length)) = M1 at *
      generalize mth i (ps.drop (hf ps.length)) = M2 at *
      obtain ⟨R, hR⟩ : ∃ R, nd i M1 M2 = R := ⟨_, rfl⟩
      rw [hR]
      have hbR : ∀ v ∈ R, v < 256 := by rw [← hR]; exact nd_lt i _ _
      have hnode : ∀ x y w', GR w' → Src w' x M1 → Src w' y M2 → Calls Tryd.prog 91 #[.int .i64 i, x, y] w' fun e w'' => ∃ yo yc, e = .returned (.slice yo R.length yc) ∧ OB w' w'' yo yc R := fun x y w' h1 h3 h4 => by
        rw [← hR]; exact gnode_any i x y M1 M2 w' h1 h3 h4 m1 m2 n1 n2
      have HG := hide (And.intro hr (And.intro hP1 (And.intro hP2 (And.intro c1 (And.intro c2 (And.intro hnode (And.intro hbR hha)))))))
      clear hr hP1 hP2 c1 c2 hnode hbR hha m1 m2 n1 n2 hmt hR hB hB1 hB2 hp hl1 hl2 ih cp1 cp2 hcx
      generalize hf ps.length = K at *
      have q1 : (K : Int) ≤ (ps.length : Int) := by omega
      have q2 : (K : Int) ≤ (xc : Int) := by omega
      have q3 : ((ps.length : Int) == 0) = false := beq_false_of_ne (by omega)
      have q4 : ((ps.length : Int) == 1) = false := beq_false_of_ne (by omega)
      generalize ps.length = N at *
      go_enter Tryd.func68, Tryd.ntmps68
      go_wp2_with fail
      refine (unhide HG).2.2.2.2.2.2.2.mono ?_
      rintro e w0 ⟨rfl, rfl⟩
      go_wp2_with fail
      have T1 : True := trivial
      have q5 : ¬ xc = K := by omega
      have q6 : ¬ K = xc := by omega
      go_region_held3 (fun _ => True) (trivial) (first
        | (go_at_call 68; clear T1; refine ((unhide HG).2.2.2.1 _ ((Fr.refl _ _).drew)).mono ?_; rintro e wA ⟨yA, cA, rfl, sA, fA⟩)
        | (go_at_call 68; refine ((unhide HG).2.2.2.2.1 _ (((Fr.refl _ _).drew).trans fA (fun _ _ h => h))).mono ?_; rintro e wB ⟨yB, cB, rfl, sB, fB⟩)
        | (go_at_call 91; refine ((unhide HG).2.2.2.2.2.1 _ _ wB (((unhide HG).1.fr0 (((Fr.refl _ _).drew).trans fA (fun _ _ h => h))).fr0 fB) (sA.s.fr0 fB) sB.s).mono ?_; rintro e wC ⟨zo, zc, rfl, oC⟩))
      have hFC : Fr (fun _ => False) w0 wC := ((((Fr.refl (fun _ => False) w0).drew).trans fA (fun _ _ h => h)).trans fB (fun _ _ h => h)).trans oC.fr (fun _ _ h => h)
      have HE := hide (And.intro (oC.sl (unhide HG).2.2.2.2.2.2.1) hFC)
      clear hFC
      go_wp2_with fail
      go_ret
      exact ⟨zo, zc, rfl, (unhide HE).1, (unhide HE).2⟩
set_option maxRecDepth 100000 in
/-- The ref's Root. -/
theorem groot_any (i : Int) (x : Value) (vs : List Value) (es : List (List Nat)) (w : World) (hr : GR w) (hp : Pcs w x vs es) (hB : ∀ e ∈ es, e.length ≤ 4000000) (hn : es.length ≤ 8000000) (h1 : 1 ≤ i) (h2 : i ≤ 32) :
    Calls Tryd.prog 44 #[.int .i64 i, x] w fun e w' => ∃ yo yc, e = .returned (.slice yo (mth i (es.map (lf i))).length yc) ∧ Sl w' (.slice yo (mth i (es.map (lf i))).length yc) (mth i (es.map (lf i))) ∧ Fr (fun _ => False) w w' := by
  have hl : (es.map (lf i)).length = es.length := List.length_map _
  have hB2 : ∀ p ∈ es.map (lf i), p.length ≤ 4000000 := fun p hp => by
    obtain ⟨e, _, rfl⟩ := List.mem_map.1 hp
    exact Nat.le_trans (sm32 i _) (by decide)
  have hof : ∀ x vs w, GR w → Pcs w x vs (es.map (lf i)) → Cp x → OfSays i (es.map (lf i)) x w := fun x vs w h3 h4 h5 => of_any i es.length _ x vs w (by omega) (by omega) h3 h4 h5 hB2
  have hlv := gleaves_any i x vs es w hr hp hB hn
  unfold OfSays at hof
  obtain ⟨xo, xc, rfl⟩ := hp.form
  have HG := hide (And.intro hr (And.intro hof hlv))
  clear hr hp hB hn hof hlv hB2 hl
  generalize es.map (lf i) = LS at *
  generalize mth i LS = R at *
  generalize es.length = N at *
  go_enter Tryd.func44, Tryd.ntmps44
  go_wp2_with fail
  refine (may_yes i w h1 h2).mono ?_
  rintro e w0 ⟨rfl, rfl⟩
  go_wp2_with fail
  refine (unhide HG).2.2.mono ?_
  rintro e w1 ⟨ao, cp, us, rfl, hP, hF, hcp⟩
  have hc : Cp (.slice ao N cp) := fun _ _ _ e => by cases e; exact hcp
  clear hcp
  have H1 := hide (And.intro hP (And.intro hF hc))
  clear hP hF hc
  go_wp2_with fail
  refine ((unhide HG).2.1 _ us w1 ((unhide HG).1.fr0 (unhide H1).2.1) (unhide H1).1 (unhide H1).2.2).mono ?_
  rintro e w2 ⟨yo, yc, rfl, hS, hF⟩
  have H2 := hide (And.intro hS ((unhide H1).2.1.trans hF (fun _ _ h => h)))
  clear hS hF
  go_wp2_with fail
  go_ret
  exact ⟨yo, yc, rfl, (unhide H2).1, (unhide H2).2⟩
end Go.Proofs.YthccbfgjekdiiaaDoor
