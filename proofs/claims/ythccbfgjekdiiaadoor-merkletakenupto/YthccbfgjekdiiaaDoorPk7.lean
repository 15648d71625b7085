import Derived.Test.YthccbfgjekdiiaaDoorPk6
namespace Go.Proofs.YthccbfgjekdiiaaDoor
open Go.RowKit

/-- SUB. -/
def subF (wi : Nat) (ls : List (List Nat)) (m : Nat) (b : Bool) : List (List Nat) :=
  if _h : m = ls.length ∨ ls.length < 2 then (if b then [] else [mth wi ls])
  else if m ≤ hf ls.length then subF wi (ls.take (hf ls.length)) m b ++ [mth wi (ls.drop (hf ls.length))]
  else subF wi (ls.drop (hf ls.length)) (m - hf ls.length) false ++ [mth wi (ls.take (hf ls.length))]
termination_by ls.length
decreasing_by
  · rw [List.length_take]; have := hf_lt ls.length (by omega); omega
  · rw [List.length_drop]; have := hf_pos ls.length; omega
theorem subF_eq {wi : Nat} {ls : List (List Nat)} {m : Nat} {b : Bool} (h : m = ls.length) : subF wi ls m b = if b then [] else [mth wi ls] := by rw [subF, dif_pos (.inl h)]
theorem subF_l {wi : Nat} {ls : List (List Nat)} {m : Nat} {b : Bool} (h : 2 ≤ ls.length) (hne : ¬ m = ls.length) (hi : m ≤ hf ls.length) : subF wi ls m b = subF wi (ls.take (hf ls.length)) m b ++ [mth wi (ls.drop (hf ls.length))] := by
  conv => lhs; rw [subF, dif_neg (by omega), if_pos hi]
theorem subF_r {wi : Nat} {ls : List (List Nat)} {m : Nat} {b : Bool} (h : 2 ≤ ls.length) (hne : ¬ m = ls.length) (hi : ¬ m ≤ hf ls.length) : subF wi ls m b = subF wi (ls.drop (hf ls.length)) (m - hf ls.length) false ++ [mth wi (ls.take (hf ls.length))] := by
  conv => lhs; rw [subF, dif_neg (by omega), if_neg hi]
theorem subF_le (wi : Nat) (k : Nat) : ∀ (ls : List (List Nat)) (m : Nat) (b : Bool), ls.length ≤ k → (subF wi ls m b).length ≤ ls.length + 1 := by
  induction k with
  | zero => intro ls m b h; rw [subF, dif_pos (by omega)]; split <;> simp
  | succ k ih =>
    intro ls m b h
    by_cases h2 : m = ls.length ∨ ls.length < 2
    · rw [subF, dif_pos h2]; split <;> simp
    · have h3 := hf_lt ls.length (by omega)
      have h4 := hf_pos ls.length
      by_cases hi : m ≤ hf ls.length
      · rw [subF_l (by omega) (by omega) hi, List.length_append]
        have := ih (ls.take (hf ls.length)) m b (by rw [List.length_take]; omega)
        rw [List.length_take] at this
        simp; omega
      · rw [subF_r (by omega) (by omega) hi, List.length_append]
        have := ih (ls.drop (hf ls.length)) (m - hf ls.length) false (by rw [List.length_drop]; omega)
        rw [List.length_drop] at this
        simp; omega
/-- SUB by the part where it ends. -/
theorem sub_bes (wi : Nat) (L : List (List Nat)) (k : Nat) : ∀ f n m, n ≤ k → f + n ≤ L.length → 0 < m → m ≤ n →
    subF wi (blk L f n) m true = (if (endF f n (f + m)).1 = f then bes wi L f n (endF f n (f + m)).1 (endF f n (f + m)).2 else mth wi (blk L (endF f n (f + m)).1 (endF f n (f + m)).2) :: bes wi L f n (endF f n (f + m)).1 (endF f n (f + m)).2) ∧
    subF wi (blk L f n) m false = mth wi (blk L (endF f n (f + m)).1 (endF f n (f + m)).2) :: bes wi L f n (endF f n (f + m)).1 (endF f n (f + m)).2 := by
  induction k with
  | zero => intro f n m h1 _ h2 h3; omega
  | succ k ih =>
    intro f n m h1 hL h2 h3
    have hlen := blk_len L f n hL
    by_cases e : m = n
    · subst e
      rw [endF_eq rfl, subF_eq hlen.symm, subF_eq hlen.symm, if_pos rfl, bes_eq]
      exact ⟨by rw [if_pos rfl], by simp⟩
    · have hlt := hf_lt n (by omega)
      have hp := hf_pos n
      by_cases hl : m ≤ hf n
      · obtain ⟨i1, i2⟩ := ih f (hf n) m (by omega) (by omega) h2 hl
        obtain ⟨o1, o2, o3, o4, o5⟩ := endF_ok (hf n) f (hf n) (f + m) (Nat.le_refl _) (by omega) (by omega)
        have e1 : ∀ b, subF wi (blk L f n) m b = subF wi (blk L f (hf n)) m b ++ [mth wi (blk L (f + hf n) (n - hf n))] := fun b => by
          rw [subF_l (by omega) (by omega) (by rw [hlen]; exact hl), hlen, blk_take _ _ _ _ (by omega), blk_drop]
        have e2 : endF f n (f + m) = endF f (hf n) (f + m) := endF_l (by omega) (by omega) (by omega)
        rw [e1 true, e1 false, i1, i2, e2]
        generalize endF f (hf n) (f + m) = E at *
        have e3 : bes wi L f n E.1 E.2 = bes wi L f (hf n) E.1 E.2 ++ [mth wi (blk L (f + hf n) (n - hf n))] := bes_l (by omega) (by omega) (by omega)
        rw [e3]
        refine ⟨?_, by simp⟩
        split
        · rfl
        · simp
      · obtain ⟨i1, i2⟩ := ih (f + hf n) (n - hf n) (m - hf n) (by omega) (by omega) (by omega) (by omega)
        have ee : f + hf n + (m - hf n) = f + m := by omega
        rw [ee] at i1 i2
        obtain ⟨o1, o2, o3, o4, o5⟩ := endF_ok (n - hf n) (f + hf n) (n - hf n) (f + m) (Nat.le_refl _) (by omega) (by omega)
        have e1 : ∀ b, subF wi (blk L f n) m b = subF wi (blk L (f + hf n) (n - hf n)) (m - hf n) false ++ [mth wi (blk L f (hf n))] := fun b => by
          rw [subF_r (by omega) (by omega) (by rw [hlen]; exact hl), hlen, blk_take _ _ _ _ (by omega), blk_drop]
        have e2 : endF f n (f + m) = endF (f + hf n) (n - hf n) (f + m) := endF_r (by omega) (by omega) (by omega)
        rw [e1 true, e1 false, i2, e2]
        generalize endF (f + hf n) (n - hf n) (f + m) = E at *
        have e3 : bes wi L f n E.1 E.2 = bes wi L (f + hf n) (n - hf n) E.1 E.2 ++ [mth wi (blk L f (hf n))] := bes_r (by omega) (by omega) (by omega)
        rw [e3, if_neg (by omega)]
        exact ⟨by simp, by simp⟩
theorem prf_sub (wi : Nat) (L : List (List Nat)) (m : Nat) (hm : m ≤ L.length) : prf wi L L.length m = if m = 0 ∨ m = L.length then [] else subF wi L m true := by
  rw [prf]
  by_cases h0 : m = 0
  · rw [if_pos h0, if_pos (.inl h0)]
  · rw [if_neg h0]
    by_cases h1 : m = L.length
    · have e1 : (if m = 0 ∨ m = L.length then ([] : List (List Nat)) else subF wi L m true) = [] := if_pos (.inr h1)
      rw [e1, endF_eq (by omega), if_pos rfl, bes_eq]
    · have e1 : (if m = 0 ∨ m = L.length then ([] : List (List Nat)) else subF wi L m true) = subF wi L m true := if_neg (by omega)
      have := (sub_bes wi L L.length 0 L.length m (Nat.le_refl _) (by omega) (by omega) hm).1
      rw [blk_all, Nat.zero_add] at this
      rw [e1]
      exact this.symm
def SubSays (wi : Nat) (ls : List (List Nat)) (I : Nat) (b : Bool) (x : Value) (w : World) : Prop :=
  Calls Tryd.prog 94 #[.int .i64 wi, .int .i64 I, x, .bool b] w fun e w' => ∃ yo yc us, e = .returned (.slice yo (subF wi ls I b).length yc) ∧ Pcs w' (.slice yo (subF wi ls I b).length yc) us (subF wi ls I b) ∧ Fr (fun _ => False) w w'
theorem pcs_nil (w : World) : Pcs w (.slice none 0 0) [] [] := ⟨rfl, .inl ⟨rfl, rfl⟩, (fun j v p h => by simp at h), (fun p h => by cases h)⟩
set_option maxRecDepth 100000 in
set_option maxHeartbeats 1000000 in
theorem gsub_end (wi : Nat) (ps : List (List Nat)) (b : Bool) (x : Value) (vs : List Value) (w : World) (hr : GR w) (hp : Pcs w x vs ps) (hcx : Cp x) (hn : ps.length ≤ 8000000) (hB : ∀ p ∈ ps, p.length ≤ 4000000) : SubSays wi ps ps.length b x w := by
  have hof := of_any wi _ ps x vs w (Nat.le_refl _) hn hr hp hcx hB
  unfold SubSays
  unfold OfSays at hof
  rw [subF_eq rfl]
  obtain ⟨xo, xc, rfl⟩ := hp.form
  generalize mth wi ps = M at *
  have HC := hide hof
  clear hof hp hcx hn hB hr
  generalize ps.length = N at *
  have q1 : ((N : Int) == (N : Int)) = true := by simp
  cases b
  · go_enter Tryd.func94, Tryd.ntmps94
    go_wp2_with fail
    refine (unhide HC).mono ?_
    rintro e w1 ⟨yo, yc, rfl, hS, hF⟩
    obtain ⟨W, hW⟩ : ∃ W, w1.alloc (.cells #[.slice yo M.length yc] 25) = W := ⟨_, rfl⟩
    obtain ⟨hP, hF2⟩ := pcs_lit (w := w1) (vs := [.slice yo M.length yc]) (ps := [M]) rfl (fun j v p hv hp => by
      match j with
      | 0 => simp at hv hp; subst hv hp; exact hS
      | j + 1 => simp at hv) W hW 1 rfl
    have H1 := hide (And.intro hP (hF.trans hF2 (fun _ _ h => h)))
    clear hP hF hF2 hS
    generalize M.length = ML at *
    go_wp2_with fail
    go_ret
    first | exact ⟨_, 1, _, rfl, (unhide H1).1, (unhide H1).2⟩ | exact ⟨_, 1, rfl, ⟨_, (unhide H1).1⟩, (unhide H1).2⟩
  · go_enter Tryd.func94, Tryd.ntmps94
    go_wp2_with fail
    go_ret
    first | exact ⟨none, 0, [], rfl, pcs_nil _, Fr.refl _ _⟩ | exact ⟨none, 0, rfl, ⟨[], pcs_nil _⟩, Fr.refl _ _⟩ | exact ⟨none, 0, rfl, [], pcs_nil _, Fr.refl _ _⟩
set_option maxRecDepth 100000 in
set_option maxHeartbeats 1000000 in
/-- The ref's sub. -/
theorem gsub_any (wi : Nat) (n : Nat) : ∀ (ps : List (List Nat)) (I : Nat) (b : Bool) (x : Value) (vs : List Value) (w : World), ps.length ≤ n → ps.length ≤ 8000000 - 1 → 0 < I → I ≤ ps.length → GR w → Pcs w x vs ps → Cp x → (∀ p ∈ ps, p.length ≤ 4000000) → SubSays wi ps I b x w := by
  induction n with
  | zero => intro ps I b x vs w hl _ h0 hI; omega
  | succ n ih =>
    intro ps I b x vs w hl hl8 h0 hIl hr hp hcx hB
    by_cases hne : I = ps.length
    · subst hne
      exact gsub_end wi ps b x vs w hr hp hcx (by omega) hB
    · obtain ⟨xo, xc, rfl⟩ := hp.form
      obtain ⟨g, o, v, rfl, -⟩ := hp.cell (Fr.refl _ _) 0 (by omega)
      have hk1 := hf_lt ps.length (by omega)
      have hk2 := hf_pos ps.length
      have hle : vs.length = ps.length := hp.len
      have hcapx : ps.length ≤ xc := hcx _ _ _ rfl
      have cp1 : Cp (.slice (some ⟨g, o, none⟩) (hf ps.length) xc) := fun _ _ _ e => by cases e; omega
      have cp2 : Cp (.slice (some ⟨g, o + hf ps.length, none⟩) (ps.length - hf ps.length) (xc - hf ps.length)) := fun _ _ _ e => by cases e; omega
      have hP1 := hp.take (hf ps.length) (by omega)
      have hP2 := hp.drop (hf ps.length) hk1
      have hB1 : ∀ p ∈ ps.take (hf ps.length), p.length ≤ 4000000 := fun p h => hB p (List.mem_of_mem_take h)
      have hB2 : ∀ p ∈ ps.drop (hf ps.length), p.length ≤ 4000000 := fun p h => hB p (List.mem_of_mem_drop h)
      have hl1 : (ps.take (hf ps.length)).length = hf ps.length := by rw [List.length_take]; omega
      have hl2 : (ps.drop (hf ps.length)).length = ps.length - hf ps.length := by rw [List.length_drop]
      have hha := half_any ps.length w (by omega) (by omega)
      by_cases hI : I ≤ hf ps.length
      · have hmt := subF_l (wi := wi) (ls := ps) (m := I) (b := b) (by omega) hne hI
        have c1 : ∀ w', Fr (fun _ => False) w w' → SubSays wi (ps.take (hf ps.length)) I b (.slice (some ⟨g, o, none⟩) (hf ps.length) xc) w' := fun w' hfr => ih _ _ _ _ _ w' (by omega) (by omega) (by omega) (by omega) (hr.fr0 hfr) (hP1.fr0 hfr) cp1 hB1
        have c2 : ∀ w', Fr (fun _ => False) w w' → OfSays wi (ps.drop (hf ps.length)) (.slice (some ⟨g, o + hf ps.length, none⟩) (ps.length - hf ps.length) (xc - hf ps.length)) w' := fun w' hfr => of_any wi _ _ _ _ w' (Nat.le_refl _) (by omega) (hr.fr0 hfr) (hP2.fr0 hfr) cp2 hB2
        have hplen : (subF wi (ps.take (hf ps.length)) I b).length ≤ 8000000 := Nat.le_trans (subF_le wi _ _ _ _ (Nat.le_refl _)) (by omega)
        unfold SubSays at c1 ⊢
        unfold OfSays at c2
        rw [hmt]
        generalize subF wi (ps.take (hf ps.length)) I b = P1 at *
        generalize mth wi (ps.drop (hf ps.length)) = M2 at *
        have hwith : ∀ (x y : Value) us w', Pcs w' x us P1 → Sl w' y M2 → _ := fun x y us w' h1 h2 => with_any x y us P1 M2 w' h1 h2 hplen
        have HG := hide (And.intro c1 (And.intro c2 (And.intro hwith hha)))
        clear hr hP1 hP2 c1 c2 hha hmt hB hB1 hB2 hp hl1 hl2 ih cp1 cp2 hcx hwith hplen
        generalize hK : hf ps.length = K at *
        have q1 : (K : Int) ≤ (ps.length : Int) := by omega
        have q2 : (K : Int) ≤ (xc : Int) := by omega
        have q3 : ¬ (I : Int) = (ps.length : Int) := by omega
        have q3b : ((I : Int) == (ps.length : Int)) = false := beq_false_of_ne q3
        have q4 : ¬ ps.length < 2 := by omega
        have q7 : (I : Int) ≤ (K : Int) := by omega
        have q8 : IntKind.i64.wrap ((I : Int) - (K : Int)) = ((I - K : Nat) : Int) ∨ True := .inr trivial
        clear q8 hK
        generalize ps.length = N at *
        go_enter Tryd.func94, Tryd.ntmps94
        go_wp2_with fail
        refine (unhide HG).2.2.2.mono ?_
        rintro e w0 ⟨rfl, rfl⟩
        go_wp2_with fail
        have q5 : ¬ xc = K := by omega
        have q6 : ¬ K = xc := by omega
        go_region_held3 (fun _ => True) (trivial) (first
          | (go_at_call 94; refine ((unhide HG).1 _ ((Fr.refl _ _).drew)).mono ?_; rintro e wA ⟨yA, cA, uA, rfl, sA, fA⟩)
          | (go_at_call 68; refine ((unhide HG).2.1 _ (((Fr.refl _ _).drew).trans fA (fun _ _ h => h))).mono ?_; rintro e wB ⟨yB, cB, rfl, sB, fB⟩)
          | (go_at_call 93; refine ((unhide HG).2.2.1 _ _ _ wB (sA.fr0 fB) sB).mono ?_; rintro e wC ⟨zo, zc, rfl, oC, fC⟩))
        have hFC : Fr (fun _ => False) w0 wC := ((((Fr.refl (fun _ => False) w0).drew).trans fA (fun _ _ h => h)).trans fB (fun _ _ h => h)).trans fC (fun _ _ h => h)
        have HE := hide (And.intro oC hFC)
        clear hFC oC
        go_wp2_with fail
        go_ret
        exact ⟨zo, zc, _, by rw [List.length_append]; rfl, by rw [List.length_append]; exact (unhide HE).1, (unhide HE).2⟩
      · have hmt := subF_r (wi := wi) (ls := ps) (m := I) (b := b) (by omega) hne hI
        have c1 : ∀ w', Fr (fun _ => False) w w' → SubSays wi (ps.drop (hf ps.length)) (I - hf ps.length) false (.slice (some ⟨g, o + hf ps.length, none⟩) (ps.length - hf ps.length) (xc - hf ps.length)) w' := fun w' hfr => ih _ _ _ _ _ w' (by omega) (by omega) (by omega) (by omega) (hr.fr0 hfr) (hP2.fr0 hfr) cp2 hB2
        have c2 : ∀ w', Fr (fun _ => False) w w' → OfSays wi (ps.take (hf ps.length)) (.slice (some ⟨g, o, none⟩) (hf ps.length) xc) w' := fun w' hfr => of_any wi _ _ _ _ w' (Nat.le_refl _) (by omega) (hr.fr0 hfr) (hP1.fr0 hfr) cp1 hB1
        have hplen : (subF wi (ps.drop (hf ps.length)) (I - hf ps.length) false).length ≤ 8000000 := Nat.le_trans (subF_le wi _ _ _ _ (Nat.le_refl _)) (by omega)
        unfold SubSays at c1 ⊢
        unfold OfSays at c2
        rw [hmt]
        generalize subF wi (ps.drop (hf ps.length)) (I - hf ps.length) false = P1 at *
        generalize mth wi (ps.take (hf ps.length)) = M2 at *
        have hwith : ∀ (x y : Value) us w', Pcs w' x us P1 → Sl w' y M2 → _ := fun x y us w' h1 h2 => with_any x y us P1 M2 w' h1 h2 hplen
        have HG := hide (And.intro c1 (And.intro c2 (And.intro hwith hha)))
        clear hr hP1 hP2 c1 c2 hha hmt hB hB1 hB2 hp hl1 hl2 ih cp1 cp2 hcx hwith hplen
        generalize hK : hf ps.length = K at *
        have q1 : (K : Int) ≤ (ps.length : Int) := by omega
        have q2 : (K : Int) ≤ (xc : Int) := by omega
        have q3 : ¬ (I : Int) = (ps.length : Int) := by omega
        have q3b : ((I : Int) == (ps.length : Int)) = false := beq_false_of_ne q3
        have q4 : ¬ ps.length < 2 := by omega
        have q7 : ¬ (I : Int) ≤ (K : Int) := by omega
        have q8 : IntKind.i64.wrap ((I : Int) - (K : Int)) = ((I - K : Nat) : Int) ∨ True := .inr trivial
        have q9 : IntKind.i64.wrap ((I : Int) - (K : Int)) = (I : Int) - (K : Int) := by rw [IntKind.wrap_i64]; omega
        have q10 : ((I - K : Nat) : Int) = (I : Int) - (K : Int) := by omega
        rw [q10] at HG
        clear q8 hK q10
        generalize ps.length = N at *
        go_enter Tryd.func94, Tryd.ntmps94
        go_wp2_with fail
        refine (unhide HG).2.2.2.mono ?_
        rintro e w0 ⟨rfl, rfl⟩
        go_wp2_with fail
        have q5 : ¬ xc = K := by omega
        have q6 : ¬ K = xc := by omega
        go_region_held3 (fun _ => True) (trivial) (first
          | (go_at_call 94; refine ((unhide HG).1 _ ((Fr.refl _ _).drew)).mono ?_; rintro e wA ⟨yA, cA, uA, rfl, sA, fA⟩)
          | (go_at_call 68; refine ((unhide HG).2.1 _ (((Fr.refl _ _).drew).trans fA (fun _ _ h => h))).mono ?_; rintro e wB ⟨yB, cB, rfl, sB, fB⟩)
          | (go_at_call 93; refine ((unhide HG).2.2.1 _ _ _ wB (sA.fr0 fB) sB).mono ?_; rintro e wC ⟨zo, zc, rfl, oC, fC⟩))
        have hFC : Fr (fun _ => False) w0 wC := ((((Fr.refl (fun _ => False) w0).drew).trans fA (fun _ _ h => h)).trans fB (fun _ _ h => h)).trans fC (fun _ _ h => h)
        have HE := hide (And.intro oC hFC)
        clear hFC oC
        go_wp2_with fail
        go_ret
        exact ⟨zo, zc, _, by rw [List.length_append]; rfl, by rw [List.length_append]; exact (unhide HE).1, (unhide HE).2⟩
end Go.Proofs.YthccbfgjekdiiaaDoor

namespace Go.Proofs.YthccbfgjekdiiaaDoor
open Go.RowKit

set_option maxRecDepth 100000 in
set_option maxHeartbeats 1000000 in
/-- The ref's ProofOf. -/
theorem gproofOf_any (wi : Nat) (ps : List (List Nat)) (m : Nat) (x : Value) (vs : List Value) (w : World) (hr : GR w) (hp : Pcs w x vs ps) (hcx : Cp x) (hn : ps.length ≤ 4000000) (hB : ∀ p ∈ ps, p.length ≤ 4000000) (hm : m ≤ ps.length) :
    Calls Tryd.prog 75 #[.int .i64 wi, x, .int .i64 m] w fun e w' => ∃ yo yc us, e = .returned (.slice yo (prf wi ps ps.length m).length yc) ∧ Pcs w' (.slice yo (prf wi ps ps.length m).length yc) us (prf wi ps ps.length m) ∧ Fr (fun _ => False) w w' := by
  rw [prf_sub wi ps m hm]
  by_cases h0 : m = 0 ∨ m = ps.length
  · rw [if_pos h0]
    obtain ⟨xo, xc, rfl⟩ := hp.form
    clear hp hcx hn hB hm hr
    rcases h0 with h0 | h0
    · subst h0
      generalize ps.length = N at *
      have e0 : ((0 : Nat) : Int) = 0 := rfl
      simp only [e0]
      go_enter Tryd.func75, Tryd.ntmps75
      go_wp2_with fail
      go_ret
      first | exact ⟨none, 0, [], rfl, pcs_nil _, Fr.refl _ _⟩ | exact ⟨none, 0, rfl, ⟨[], pcs_nil _⟩, Fr.refl _ _⟩
    · subst h0
      generalize ps.length = N at *
      by_cases hN : N = 0
      · subst hN
        have e0 : ((0 : Nat) : Int) = 0 := rfl
        simp only [e0]
        go_enter Tryd.func75, Tryd.ntmps75
        go_wp2_with fail
        go_ret
        first | exact ⟨none, 0, [], rfl, pcs_nil _, Fr.refl _ _⟩ | exact ⟨none, 0, rfl, ⟨[], pcs_nil _⟩, Fr.refl _ _⟩
      · have q0 : ((N : Int) == 0) = false := beq_false_of_ne (by omega)
        go_enter Tryd.func75, Tryd.ntmps75
        go_wp2_with fail
        go_ret
        first | exact ⟨none, 0, [], rfl, pcs_nil _, Fr.refl _ _⟩ | exact ⟨none, 0, rfl, ⟨[], pcs_nil _⟩, Fr.refl _ _⟩
  · rw [if_neg h0]
    have hs := gsub_any wi _ ps m true x vs w (Nat.le_refl _) (by omega) (by omega) hm hr hp hcx hB
    unfold SubSays at hs
    obtain ⟨xo, xc, rfl⟩ := hp.form
    generalize subF wi ps m true = SB at *
    have HC := hide hs
    have q0 : ((m : Int) == 0) = false := beq_false_of_ne (by omega)
    have q1 : ((m : Int) == (ps.length : Int)) = false := beq_false_of_ne (by omega)
    have q2 : ¬ m = 0 := by omega
    have q3 : ¬ (m : Int) = (ps.length : Int) := by omega
    clear hs hp hcx hn hB hm hr h0
    generalize ps.length = N at *
    go_enter Tryd.func75, Tryd.ntmps75
    go_wp2_with fail
    refine (unhide HC).mono ?_
    rintro e w1 ⟨yo, yc, us, rfl, hP, hF⟩
    have H1 := hide (And.intro hP hF)
    clear hP hF
    go_wp2_with fail
    go_ret
    first | exact ⟨yo, yc, us, rfl, (unhide H1).1, (unhide H1).2⟩ | exact ⟨yo, yc, rfl, ⟨us, (unhide H1).1⟩, (unhide H1).2⟩
/-- The leaves of a tree, as the ref has them. -/
theorem gleaves_C (i : Int) (x : Value) (vs : List Value) (es : List (List Nat)) (w : World) (hr : GR w) (hp : Pcs w x vs es) (hB : ∀ e ∈ es, e.length ≤ 4000000) (hn : es.length ≤ 8000000) :
    Calls Tryd.prog 41 #[.int .i64 i, x] w fun e' w' => ∃ ao cp us, e' = .returned (.slice ao es.length cp) ∧ Pcs w' (.slice ao es.length cp) us (es.map (lf i)) ∧ Fr (fun _ => False) w w' ∧ Cp (.slice ao es.length cp) := by
  refine (gleaves_any i x vs es w hr hp hB hn).mono ?_
  rintro e w' ⟨ao, cp, us, rfl, h1, h2, h3⟩
  exact ⟨ao, cp, us, rfl, h1, h2, fun _ _ _ e => by cases e; exact h3⟩
set_option maxRecDepth 100000 in
set_option maxHeartbeats 1000000 in
theorem gpath_in (wi : Nat) (hw1 : 1 ≤ wi) (hw32 : wi ≤ 32) (x : Value) (vs : List Value) (es : List (List Nat)) (m : Nat) (w : World) (hr : GR w) (hp : Pcs w x vs es) (hB : ∀ e ∈ es, e.length ≤ 4000000) (hn : es.length ≤ 4000000) (hm : m < es.length) :
    Calls Tryd.prog 45 #[.int .i64 wi, x, .int .i64 m] w fun e w' => ∃ yo yc us, e = .returned (.tuple #[.slice yo (pth wi (es.map (lf wi)) m).length yc, .int .i64 0]) ∧ Pcs w' (.slice yo (pth wi (es.map (lf wi)) m).length yc) us (pth wi (es.map (lf wi)) m) ∧ Fr (fun _ => False) w w' := by
  have hlv := gleaves_C wi x vs es w hr hp hB (by omega)
  have hll : (es.map (lf (wi : Int))).length = es.length := List.length_map _
  have hin : ∀ w' (x : Value) us, GR w' → Pcs w' x us (es.map (lf wi)) → Cp x → PathSays wi (es.map (lf wi)) m x w' := fun w' x us h1 h2 h3 => gpath_any wi _ (es.map (lf wi)) m x us w' (Nat.le_refl _) (by omega) (by omega) h1 h2 h3 (fun p hp => by have := map_lf_len wi hw1 hw32 es p hp; omega)
  unfold PathSays at hin
  generalize pth wi (es.map (lf wi)) m = V at *
  obtain ⟨xo, xc, rfl⟩ := hp.form
  have HC := hide (And.intro hlv (And.intro hin hr))
  have hj : 1 ≤ (wi : Int) ∧ (wi : Int) ≤ 32 := by omega
  have HJ := hide hj
  have q1 : ¬ (m : Int) < 0 := by omega
  have q2 : ¬ (es.length : Int) ≤ (m : Int) := by omega
  have q3 : ¬ es.length ≤ m := by omega
  clear hlv hin hr hp hB hn hm hj
  generalize es.length = N at *
  go_enter Tryd.func45, Tryd.ntmps45
  go_wp2_with fail
  refine (may_yes wi _ (unhide HJ).1 (unhide HJ).2).mono ?_
  rintro e w0 ⟨rfl, rfl⟩
  go_wp2_with fail
  refine (unhide HC).1.mono ?_
  rintro e w1 ⟨ao, cp, us, rfl, hP, hF, hC⟩
  have H1 := hide (And.intro hP (And.intro hF hC))
  clear hP hF hC
  go_wp2_with fail
  refine ((unhide HC).2.1 w1 _ us ((unhide HC).2.2.fr0 (unhide H1).2.1) (unhide H1).1 (unhide H1).2.2).mono ?_
  rintro e w2 ⟨yo, yc, us2, rfl, hP, hF⟩
  have H2 := hide (And.intro hP ((unhide H1).2.1.trans hF (fun _ _ h => h)))
  clear hP hF
  go_wp2_with fail
  go_returns
  first | exact ⟨yo, yc, us2, rfl, (unhide H2).1, (unhide H2).2⟩ | exact ⟨yo, yc, rfl, ⟨us2, (unhide H2).1⟩, (unhide H2).2⟩
set_option maxRecDepth 100000 in
set_option maxHeartbeats 1000000 in
theorem gpath_no (j i : Int) (x : Value) (vs : List Value) (es : List (List Nat)) (w : World) (hp : Pcs w x vs es) (h : (j < 1 ∨ 32 < j) ∨ i < 0 ∨ (es.length : Int) ≤ i) :
    Calls Tryd.prog 45 #[.int .i64 j, x, .int .i64 i] w fun e w' => e = .returned (.tuple #[.slice none 0 0, .int .i64 1]) ∧ w' = w := by
  obtain ⟨xo, xc, rfl⟩ := hp.form
  clear hp
  generalize es.length = N at *
  by_cases hj : j < 1 ∨ 32 < j
  · clear h
    go_enter Tryd.func45, Tryd.ntmps45
    go_wp2_with fail
    refine (may_no j _ hj).mono ?_
    rintro e w0 ⟨rfl, rfl⟩
    go_wp2_with fail
    go_returns
    exact ⟨rfl, rfl⟩
  · have HJ := hide (show 1 ≤ j ∧ j ≤ 32 by omega)
    by_cases hi : i < 0
    · clear h hj
      go_enter Tryd.func45, Tryd.ntmps45
      go_wp2_with fail
      refine (may_yes j _ (unhide HJ).1 (unhide HJ).2).mono ?_
      rintro e w0 ⟨rfl, rfl⟩
      go_wp2_with fail
      go_returns
      exact ⟨rfl, rfl⟩
    · have hk : (N : Int) ≤ i := by omega
      clear h hj
      go_enter Tryd.func45, Tryd.ntmps45
      go_wp2_with fail
      refine (may_yes j _ (unhide HJ).1 (unhide HJ).2).mono ?_
      rintro e w0 ⟨rfl, rfl⟩
      go_wp2_with fail
      go_returns
      exact ⟨rfl, rfl⟩
set_option maxRecDepth 100000 in
set_option maxHeartbeats 1000000 in
theorem gproof_in (wi : Nat) (hw1 : 1 ≤ wi) (hw32 : wi ≤ 32) (x : Value) (vs : List Value) (es : List (List Nat)) (m : Nat) (w : World) (hr : GR w) (hp : Pcs w x vs es) (hB : ∀ e ∈ es, e.length ≤ 4000000) (hn : es.length ≤ 4000000) (hm : m ≤ es.length) :
    Calls Tryd.prog 46 #[.int .i64 wi, x, .int .i64 m] w fun e w' => ∃ yo yc us, e = .returned (.tuple #[.slice yo (prf wi (es.map (lf wi)) es.length m).length yc, .int .i64 0]) ∧ Pcs w' (.slice yo (prf wi (es.map (lf wi)) es.length m).length yc) us (prf wi (es.map (lf wi)) es.length m) ∧ Fr (fun _ => False) w w' := by
  have hlv := gleaves_C wi x vs es w hr hp hB (by omega)
  have hll : (es.map (lf (wi : Int))).length = es.length := List.length_map _
  have hin : ∀ w' (x : Value) us, GR w' → Pcs w' x us (es.map (lf wi)) → Cp x → _ := fun w' x us h1 h2 h3 => gproofOf_any wi (es.map (lf wi)) m x us w' h1 h2 h3 (by omega) (fun p hp => by have := map_lf_len wi hw1 hw32 es p hp; omega) (by omega)
  rw [hll] at hin
  generalize prf wi (es.map (lf wi)) es.length m = V at *
  obtain ⟨xo, xc, rfl⟩ := hp.form
  have HC := hide (And.intro hlv (And.intro hin hr))
  have hj : 1 ≤ (wi : Int) ∧ (wi : Int) ≤ 32 := by omega
  have HJ := hide hj
  have q1 : ¬ (m : Int) < 0 := by omega
  have q2 : ¬ (es.length : Int) < (m : Int) := by omega
  have q3 : ¬ es.length < m := by omega
  clear hlv hin hr hp hB hn hm hj
  generalize es.length = N at *
  go_enter Tryd.func46, Tryd.ntmps46
  go_wp2_with fail
  refine (may_yes wi _ (unhide HJ).1 (unhide HJ).2).mono ?_
  rintro e w0 ⟨rfl, rfl⟩
  go_wp2_with fail
  refine (unhide HC).1.mono ?_
  rintro e w1 ⟨ao, cp, us, rfl, hP, hF, hC⟩
  have H1 := hide (And.intro hP (And.intro hF hC))
  clear hP hF hC
  go_wp2_with fail
  refine ((unhide HC).2.1 w1 _ us ((unhide HC).2.2.fr0 (unhide H1).2.1) (unhide H1).1 (unhide H1).2.2).mono ?_
  rintro e w2 ⟨yo, yc, us2, rfl, hP, hF⟩
  have H2 := hide (And.intro hP ((unhide H1).2.1.trans hF (fun _ _ h => h)))
  clear hP hF
  go_wp2_with fail
  go_returns
  first | exact ⟨yo, yc, us2, rfl, (unhide H2).1, (unhide H2).2⟩ | exact ⟨yo, yc, rfl, ⟨us2, (unhide H2).1⟩, (unhide H2).2⟩
set_option maxRecDepth 100000 in
set_option maxHeartbeats 1000000 in
theorem gproof_no (j i : Int) (x : Value) (vs : List Value) (es : List (List Nat)) (w : World) (hp : Pcs w x vs es) (h : (j < 1 ∨ 32 < j) ∨ i < 0 ∨ (es.length : Int) < i) :
    Calls Tryd.prog 46 #[.int .i64 j, x, .int .i64 i] w fun e w' => e = .returned (.tuple #[.slice none 0 0, .int .i64 1]) ∧ w' = w := by
  obtain ⟨xo, xc, rfl⟩ := hp.form
  clear hp
  generalize es.length = N at *
  by_cases hj : j < 1 ∨ 32 < j
  · clear h
    go_enter Tryd.func46, Tryd.ntmps46
    go_wp2_with fail
    refine (may_no j _ hj).mono ?_
    rintro e w0 ⟨rfl, rfl⟩
    go_wp2_with fail
    go_returns
    exact ⟨rfl, rfl⟩
  · have HJ := hide (show 1 ≤ j ∧ j ≤ 32 by omega)
    by_cases hi : i < 0
    · clear h hj
      go_enter Tryd.func46, Tryd.ntmps46
      go_wp2_with fail
      refine (may_yes j _ (unhide HJ).1 (unhide HJ).2).mono ?_
      rintro e w0 ⟨rfl, rfl⟩
      go_wp2_with fail
      go_returns
      exact ⟨rfl, rfl⟩
    · have hk : (N : Int) < i := by omega
      clear h hj
      go_enter Tryd.func46, Tryd.ntmps46
      go_wp2_with fail
      refine (may_yes j _ (unhide HJ).1 (unhide HJ).2).mono ?_
      rintro e w0 ⟨rfl, rfl⟩
      go_wp2_with fail
      go_returns
      exact ⟨rfl, rfl⟩
end Go.Proofs.YthccbfgjekdiiaaDoor

namespace Go.Proofs.YthccbfgjekdiiaaDoor

/-- The hash of a tree, with a bound on the halvings. -/
def mthF (i : Int) : Nat → List (List Nat) → List Nat
  | 0, _ => []
  | k + 1, ps => if ps.length < 2 then (match ps with | [] => sm i [] | p :: _ => p) else nd i (mthF i k (ps.take (hf ps.length))) (mthF i k (ps.drop (hf ps.length)))
theorem mthF_eq (i : Int) (k : Nat) : ∀ ps : List (List Nat), ps.length < k → mthF i k ps = mth i ps := by
  induction k with
  | zero => intro ps h; omega
  | succ k ih =>
    intro ps h
    unfold mthF
    by_cases h2 : ps.length < 2
    · rw [if_pos h2]
      match ps, h2 with
      | [], _ => rw [mth_nil]
      | [p], _ => rw [mth_one]
    · have h3 := hf_lt ps.length (by omega)
      have h4 := hf_pos ps.length
      rw [if_neg h2, mth_two i ps (by omega), ih _ (by rw [List.length_take]; omega), ih _ (by rw [List.length_drop]; omega)]
def rootB : List Nat := [93, 201, 218, 121, 167, 6, 89, 169, 173, 85, 156, 183, 1, 222, 217, 162, 171, 157, 130, 58, 173, 47, 73, 96, 207, 227, 112, 239, 244, 96, 67, 40]
def leafB : List Nat := [110, 52, 11, 156, 255, 179, 122, 152, 156, 165, 68, 230, 187, 120, 10, 44, 120, 144, 29, 63, 179, 55, 56, 118, 133, 17, 163, 6, 23, 175, 160, 29]
theorem rootB_hex : hxl (bytesOf ⟨#[53, 100, 99, 57, 100, 97, 55, 57, 97, 55, 48, 54, 53, 57, 97, 57, 97, 100, 53, 53, 57, 99, 98, 55, 48, 49, 100, 101, 100, 57, 97, 50, 97, 98, 57, 100, 56, 50, 51, 97, 97, 100, 50, 102, 52, 57, 54, 48, 99, 102, 101, 51, 55, 48, 101, 102, 102, 52, 54, 48, 52, 51, 50, 56]⟩) = rootB := by decide +kernel
theorem leafB_hex : hxl (bytesOf ⟨#[54, 101, 51, 52, 48, 98, 57, 99, 102, 102, 98, 51, 55, 97, 57, 56, 57, 99, 97, 53, 52, 52, 101, 54, 98, 98, 55, 56, 48, 97, 50, 99, 55, 56, 57, 48, 49, 100, 51, 102, 98, 51, 51, 55, 51, 56, 55, 54, 56, 53, 49, 49, 97, 51, 48, 54, 49, 55, 97, 102, 97, 48, 49, 100]⟩) = leafB := by decide +kernel
theorem leaf_nil : lf 32 [] = leafB := by decide +kernel
theorem root_tes : mthF 32 9 (tes.map (lf 32)) = rootB := by decide +kernel
theorem root_tests : mth 32 (tes.map (lf 32)) = rootB := by rw [← mthF_eq 32 9 _ (by decide)]; exact root_tes
theorem dep_tests : dep 0 8 0 1 = 3 := by
  have h8 : hf 8 = 4 := by decide +kernel
  have h4 : hf 4 = 2 := by decide +kernel
  have h2 : hf 2 = 1 := by decide +kernel
  rw [dep_l (by decide) (by decide) (by rw [h8]; decide), h8, dep_l (by decide) (by decide) (by rw [h4]; decide), h4, dep_l (by decide) (by decide) (by rw [h2]; decide), h2, dep_eq]
end Go.Proofs.YthccbfgjekdiiaaDoor

namespace Go.Proofs.YthccbfgjekdiiaaDoor
open Go.RowKit

theorem bes_wid (wi : Nat) (hw1 : 1 ≤ wi) (hw32 : wi ≤ 32) (L : List (List Nat)) (hL : ∀ p ∈ L, p.length = wi) (m : Nat) : ∀ f n tf tn, n ≤ m → ∀ p ∈ bes wi L f n tf tn, p.length = wi := by
  induction m with
  | zero => intro f n tf tn h p hp; rw [bes, dif_pos (by omega)] at hp; cases hp
  | succ m ih =>
    intro f n tf tn h p hp
    by_cases e : (f = tf ∧ n = tn) ∨ n < 2
    · rw [bes, dif_pos e] at hp; cases hp
    · have hlt := hf_lt n (by omega)
      have hpos := hf_pos n
      by_cases hl : tf < f + hf n
      · rw [bes_l (by omega) (by omega) hl] at hp
        rcases List.mem_append.1 hp with hp | hp
        · exact ih _ _ _ _ (by omega) p hp
        · simp at hp; subst hp; exact mth_wid wi hw1 hw32 _ (fun p hp => hL p (blk_mem _ _ _ p hp))
      · rw [bes_r (by omega) (by omega) hl] at hp
        rcases List.mem_append.1 hp with hp | hp
        · exact ih _ _ _ _ (by omega) p hp
        · simp at hp; subst hp; exact mth_wid wi hw1 hw32 _ (fun p hp => hL p (blk_mem _ _ _ p hp))
theorem wdq_of {j : Int} {ps : List (List Nat)} (h : ∀ p ∈ ps, (p.length : Int) = j) : wdq j ps = true := by
  rw [wdq, List.all_eq_true]
  intro p hp
  simpa using h p hp
/-- A path that the tree tells is taken. -/
theorem chkP_bes (wi : Nat) (hw1 : 1 ≤ wi) (hw32 : wi ≤ 32) (L : List (List Nat)) (hL : ∀ p ∈ L, p.length = wi) (i : Nat) (hi : i < L.length) : chkP wi (L[i]) i L.length (bes wi L 0 L.length i 1) (mth wi L) = true := by
  have hb : blk L i 1 = [L[i]] := by
    rw [blk, List.drop_eq_getElem_cons hi]; rfl
  have ht := topv_bes wi L L.length 0 L.length i 1 (Nat.le_refl _) (by omega) (rch_one _ 0 L.length i (Nat.le_refl _) (by omega) (by omega))
  rw [hb, mth_one, blk_all] at ht
  rw [chkP, decide_eq_true (by omega), decide_eq_true (by omega), decide_eq_true (by omega), wdq_of (fun p hp => ?_), wdq_of (fun p hp => ?_), Int.toNat_natCast, Int.toNat_natCast, Int.toNat_natCast, bes_len _ _ _ _ _ _ _ (Nat.le_refl _), decide_eq_true rfl, ht, decide_eq_true rfl]
  · rfl
  · have := bes_wid wi hw1 hw32 L hL _ 0 L.length i 1 (Nat.le_refl _) p hp
    omega
  · simp at hp
    rcases hp with rfl | rfl
    · have := hL L[i] (List.getElem_mem _); omega
    · have := mth_wid wi hw1 hw32 L hL; omega
theorem chkP_tests : chkP 32 (lf 32 []) 0 8 (bes 32 (tes.map (lf 32)) 0 8 0 1) rootB = true := by
  have := chkP_bes 32 (by decide) (by decide) (tes.map (lf 32)) (map_lf_len 32 (by decide) (by decide) _) 0 (by simp [tes])
  have e : mth ((32 : Nat) : Int) (tes.map (lf 32)) = rootB := root_tests
  rw [e] at this
  exact this
set_option maxRecDepth 100000 in
set_option maxHeartbeats 4000000 in
theorem mlives_any (w : World) (hg : GS w) (ht : GT w) : Calls Tryd.prog 7 #[] w fun e w' => e = .returned (.bool true) ∧ Fr (fun _ => False) w w' := by
  have hB : ∀ e ∈ tes, e.length ≤ 16000000 := by decide
  have hnew : ∀ w', GS w' → Calls Tryd.prog 15 #[.int .i64 32] w' fun e w'' => ∃ tb, e = .returned (.pointer (some ⟨tb, 0, none⟩)) ∧ TrAt w'' w'.heap.size tb 32 0 none 0 [] [] ∧ 6 ≤ w'.heap.size ∧ w'.heap.size ≤ tb ∧ Fr (fun _ => False) w' w'' := fun w' hg' => by
    refine (mnew_any 32 w').mono ?_
    rintro e w'' ⟨rfl, h1, h2⟩
    exact ⟨_, rfl, h1, hg'.1.2, Nat.le_refl _, h2⟩
  have hadd : ∀ (w' : World) (base tb : Nat), GS w' → GT w' → TrAt w' base tb 32 0 none 0 [] [] → 6 ≤ base → Calls Tryd.prog 22 #[.pointer (some ⟨tb, 0, none⟩), .slice none 0 0] w' fun e w'' => e = .returned (.int .i64 0) ∧ Tk w'' tb 32 [lf 32 []] ∧ Fr (TOwn tb none []) w' w'' := fun w' base tb hg' ht' hT hb => by
    refine (add_in 32 (by decide) (by decide) base tb 0 hb w' none 0 [] [] (.slice none 0 0) [] hT hg' (sl_nil _) (by decide) (fun j row h => by simp at h) (by decide) (by decide)).mono ?_
    rintro e w'' ⟨rfl, xo, cp, vs, hT2, hF, _⟩
    have hlo : ∀ k, k < 6 → ¬ TOwn tb none [] k := fun k hk hO => by
      have := (hT.lt k hO).1; omega
    refine ⟨rfl, ⟨⟨base, xo, cp, vs, _, hT2, ?_⟩, hg'.fr hF hlo, ht'.fr hF hlo, fun p hp => ?_, fun p hp => ?_, by decide⟩, hF⟩
    · exact (rows_nil 32).add (by decide) (by decide) (lf 32 []) (fun p hp => by simp at hp; subst hp; exact lf_len 32 (by decide) (by decide) _)
    · simp at hp; subst hp; exact lf_len 32 (by decide) (by decide) _
    · simp at hp; subst hp; exact lf_lt _ _
  have hp0 := fun w' x vs (h1 : GS w') (h2 : GT w') (h3 : Pcs w' x vs tes) => mpath_in 32 (by decide) (by decide) x vs tes 0 w' h1 h2 h3 hB (by decide) (by decide)
  have hr0 : ∀ w' x vs, GS w' → GT w' → Pcs w' x vs tes → Calls Tryd.prog 6 #[.int .i64 32, x] w' fun e w'' => ∃ yo yc, e = .returned (.slice yo 32 yc) ∧ OB w' w'' yo yc rootB := fun w' x vs h1 h2 h3 => by
    have := mroot_in 32 (by decide) (by decide) x vs tes w' h1 h2 h3 hB (by decide)
    rw [← root_tests]
    exact this
  have hr1 : ∀ w' tb, Tk w' tb 32 [lf 32 []] → Calls Tryd.prog 20 #[.pointer (some ⟨tb, 0, none⟩), .int .i64 1] w' fun e w'' => ∃ yo yc, e = .returned (.tuple #[.slice yo 32 yc, .int .i64 0]) ∧ OB w' w'' yo yc leafB := fun w' tb h => by
    have := troot_in tb 32 (by decide) (by decide) _ 1 w' h (by decide)
    have e : mth (32 : Nat) (blk [lf 32 []] 0 1) = leafB := by
      have : blk [lf 32 []] 0 1 = [lf 32 []] := rfl
      rw [this, mth_one, leaf_nil]
    rw [← e]
    exact this
  have hlf : ∀ w', GS w' → Calls Tryd.prog 11 #[.int .i64 32, .slice none 0 0] w' fun e w'' => ∃ yo, e = .returned (.slice yo 32 32) ∧ OB w' w'' yo 32 (lf 32 []) := fun w' h => by
    have := leaf_any 32 (.slice none 0 0) [] w' h (sl_nil _) (by decide)
    have e : (lf 32 []).length = 32 := lf_len 32 (by decide) (by decide) _
    rw [e] at this
    exact this
  have hbl : (bes 32 (tes.map (lf 32)) 0 8 0 1).length = 3 := by rw [bes_len _ _ _ _ _ _ _ (Nat.le_refl _), dep_tests]
  have hck := chkP_tests
  have e8 : tes.length = 8 := rfl
  simp only [e8] at hp0
  have e0 : ((0 : Nat) : Int) = 0 := rfl
  have e32 : ((32 : Nat) : Int) = 32 := rfl
  simp only [e0, e32] at hp0
  generalize bes 32 (tes.map (lf 32)) 0 8 0 1 = BS at *
  have hrb : ∀ v ∈ rootB, v < 256 := by decide
  have hlb : ∀ v ∈ leafB, v < 256 := by decide
  have HG := hide (And.intro hg ht)
  have HC := hide (And.intro hnew (And.intro hadd (And.intro hp0 (And.intro hr0 (And.intro hr1 (And.intro hlf (And.intro hbl (And.intro hck (And.intro hrb hlb)))))))))
  clear hnew hadd hp0 hr0 hr1 hlf hbl hck hrb hlb hg ht hB e8 e0 e32
  go_enter Tryd.func7, Tryd.ntmps7
  go_wp2_with fail
  refine (tests_any w).mono ?_
  rintro e w1 ⟨g1, vs1, rfl, hP, hF⟩
  have F1 := hide hF
  have P1 := hide hP
  clear hF hP
  go_wp2_with fail
  refine ((unhide HC).2.2.1 _ _ _ ((unhide HG).1.fr0 (unhide F1)) ((unhide HG).2.fr0 (unhide F1)) (unhide P1)).mono ?_
  rintro e w2 ⟨ao, cp, us, rfl, hO⟩
  have hus : us.length = 3 := hO.len.trans (unhide HC).2.2.2.2.2.2.1
  rw [hus]
  have F2 := hide ((unhide F1).trans hO.own.fr (fun _ _ h => h))
  have P2 := hide ((unhide P1).fr0 hO.own.fr)
  have O2 := hide hO
  have HU := hide hus
  clear hO hus
  go_wp2_with fail
  refine ((unhide HC).1 _ ((unhide HG).1.fr0 (unhide F2))).mono ?_
  rintro e w3 ⟨tb, rfl, hT, hb1, hb2, hF⟩
  have T3 := hide (And.intro hT (And.intro hb1 hb2))
  have F23 := hide hF
  have F3 := hide ((unhide F2).trans hF (fun _ _ h => h))
  have P3 := hide ((unhide P2).fr0 hF)
  have O3 := hide ((unhide O2).fr0 hF)
  clear hT hb1 hb2 hF
  go_wp2_with fail
  refine ((unhide HC).2.1 _ _ _ ((unhide HG).1.fr0 (unhide F3)) ((unhide HG).2.fr0 (unhide F3)) (unhide T3).1 (unhide T3).2.1).mono ?_
  rintro e w4 ⟨rfl, hT, hF⟩
  have hF24 : Fr (fun _ => False) w2 w4 := (unhide F23).trans hF (fun k hk hO => by
    have h2 := (unhide T3).2.2
    rcases hO with rfl | ⟨o, e⟩ | ⟨v, hv, _⟩
    · omega
    · cases e
    · cases hv)
  have F4 := hide ((unhide F2).trans hF24 (fun _ _ h => h))
  have P4 := hide ((unhide P2).fr0 hF24)
  have O4 := hide ((unhide O2).fr0 hF24)
  have T4 := hide hT
  clear hT hF hF24 T3 F3
  go_wp2_with fail
  refine ((unhide HC).2.2.2.2.1 _ _ (unhide T4)).mono ?_
  rintro e w5 ⟨lo, lc, rfl, hO⟩
  have F5 := hide ((unhide F4).trans hO.fr (fun _ _ h => h))
  have P5 := hide ((unhide P4).fr0 hO.fr)
  have O5 := hide ((unhide O4).fr0 hO.fr)
  have L5 := hide (hO.sl (unhide HC).2.2.2.2.2.2.2.2.2)
  clear hO
  go_wp2_with fail
  refine ((unhide HC).2.2.2.1 _ _ _ ((unhide HG).1.fr0 (unhide F5)) ((unhide HG).2.fr0 (unhide F5)) (unhide P5)).mono ?_
  rintro e w6 ⟨ro, rc, rfl, hO⟩
  have F6 := hide ((unhide F5).trans hO.fr (fun _ _ h => h))
  have O6 := hide ((unhide O5).fr0 hO.fr)
  have L6 := hide ((unhide L5).fr0 hO.fr)
  have R6 := hide (hO.sl (unhide HC).2.2.2.2.2.2.2.2.1)
  clear hO
  go_wp2_with fail
  refine (hex_lit ⟨#[53, 100, 99, 57, 100, 97, 55, 57, 97, 55, 48, 54, 53, 57, 97, 57, 97, 100, 53, 53, 57, 99, 98, 55, 48, 49, 100, 101, 100, 57, 97, 50, 97, 98, 57, 100, 56, 50, 51, 97, 97, 100, 50, 102, 52, 57, 54, 48, 99, 102, 101, 51, 55, 48, 101, 102, 102, 52, 54, 48, 52, 51, 50, 56]⟩ rootB _ (by decide) rootB_hex 32 rfl (by decide)).mono ?_
  rintro e w7 ⟨xo, xc, rfl, hS, hF⟩
  have F7 := hide ((unhide F6).trans hF (fun _ _ h => h))
  have O7 := hide ((unhide O6).fr0 hF)
  have L7 := hide ((unhide L6).fr0 hF)
  have R7 := hide (And.intro ((unhide R6).fr0 hF) hS)
  clear hS hF
  go_wp2_with fail
  refine (same_T (unhide R7).1.s (unhide R7).2.s (by decide) (sameB_refl _)).mono ?_
  rintro e w8 ⟨rfl, hF⟩
  have F8 := hide ((unhide F7).trans hF (fun _ _ h => h))
  have O8 := hide ((unhide O7).fr0 hF)
  have L8 := hide ((unhide L7).fr0 hF)
  clear hF R7 R6
  go_wp2_with fail
  refine ((unhide HC).2.2.2.2.2.1 _ ((unhide HG).1.fr0 (unhide F8))).mono ?_
  rintro e w9 ⟨fo, rfl, hO⟩
  have F9 := hide ((unhide F8).trans hO.fr (fun _ _ h => h))
  have O9 := hide ((unhide O8).fr0 hO.fr)
  have L9 := hide ((unhide L8).fr0 hO.fr)
  have hsl := hO.sl (lf_lt 32 [])
  have e32 : (lf 32 []).length = 32 := lf_len 32 (by decide) (by decide) _
  rw [e32] at hsl
  have K9 := hide hsl
  clear hO hsl e32
  go_wp2_with fail
  refine (hex_lit ⟨#[53, 100, 99, 57, 100, 97, 55, 57, 97, 55, 48, 54, 53, 57, 97, 57, 97, 100, 53, 53, 57, 99, 98, 55, 48, 49, 100, 101, 100, 57, 97, 50, 97, 98, 57, 100, 56, 50, 51, 97, 97, 100, 50, 102, 52, 57, 54, 48, 99, 102, 101, 51, 55, 48, 101, 102, 102, 52, 54, 48, 52, 51, 50, 56]⟩ rootB _ (by decide) rootB_hex 32 rfl (by decide)).mono ?_
  rintro e w10 ⟨yo, yc, rfl, hS, hF⟩
  have F10 := hide ((unhide F9).trans hF (fun _ _ h => h))
  have O10 := hide ((unhide O9).fr0 hF)
  have L10 := hide ((unhide L9).fr0 hF)
  have K10 := hide (And.intro ((unhide K9).fr0 hF) hS)
  clear hS hF
  have hpc := (unhide O10).pcs
  have hcp := (unhide O10).cap
  rw [unhide HU] at hpc hcp
  have PC := hide (And.intro hpc hcp)
  clear hpc hcp
  go_wp2_with fail
  refine (checkPath_any 32 0 8 _ _ _ _ _ us BS _ ((unhide HG).1.fr0 (unhide F10)) (unhide K10).1 (unhide K10).2 (unhide PC).1 (fun _ _ _ e => by cases e; exact (unhide PC).2) (by decide) (by rw [(unhide HC).2.2.2.2.2.2.1]; decide)).mono ?_
  rintro e w11 ⟨rfl, hF⟩
  rw [(unhide HC).2.2.2.2.2.2.2.1]
  have F11 := hide ((unhide F10).trans hF (fun _ _ h => h))
  have L11 := hide ((unhide L10).fr0 hF)
  clear hF
  go_wp2_with fail
  refine (hex_lit ⟨#[54, 101, 51, 52, 48, 98, 57, 99, 102, 102, 98, 51, 55, 97, 57, 56, 57, 99, 97, 53, 52, 52, 101, 54, 98, 98, 55, 56, 48, 97, 50, 99, 55, 56, 57, 48, 49, 100, 51, 102, 98, 51, 51, 55, 51, 56, 55, 54, 56, 53, 49, 49, 97, 51, 48, 54, 49, 55, 97, 102, 97, 48, 49, 100]⟩ leafB _ (by decide) leafB_hex 32 rfl (by decide)).mono ?_
  rintro e w12 ⟨zo, zc, rfl, hS, hF⟩
  have F12 := hide ((unhide F11).trans hF (fun _ _ h => h))
  have L12 := hide (And.intro ((unhide L11).fr0 hF) hS)
  clear hS hF
  go_wp2_with fail
  refine (same_T (unhide L12).1.s (unhide L12).2.s (by decide) (sameB_refl _)).mono ?_
  rintro e w13 ⟨rfl, hF⟩
  have F13 := hide ((unhide F12).trans hF (fun _ _ h => h))
  clear hF
  go_wp2_with fail
  go_ret
  exact ⟨rfl, unhide F13⟩
end Go.Proofs.YthccbfgjekdiiaaDoor

namespace Go.Proofs.YthccbfgjekdiiaaDoor
open Go.RowKit

theorem OL.stepH {w wr w1 : World} {ao : Option Addr} {cp : Nat} {vs : List Value} {ps : List (List Nat)} (h : OL w wr ao cp vs ps) (l : List Nat) (yo : Option Addr) (yc : Nat) (hO : OB wr w1 yo yc l) (hb : ∀ v ∈ l, v < 256) (hn : vs.length < 16000000) :
    ∃ ao' cp' w2, (Builtin.append_ #[22, 22] 22 #[.slice ao vs.length cp, .slice (some ⟨w1.heap.size, 0, none⟩) 1 1]).run Tryd.prog (w1.alloc (.cells #[.slice yo l.length yc] 25)) = .ok (.slice ao' (vs.length + 1) cp') w2 ∧ OL w w2 ao' cp' (vs ++ [.slice yo l.length yc]) (ps ++ [l]) ∧
      (w1.alloc (.cells #[.slice yo l.length yc] 25)).grownBy w2 (Value.slice ao vs.length cp).ownBlock ∧ ((Value.slice ao' (vs.length + 1) cp').ownBlock = (Value.slice ao vs.length cp).ownBlock ∨ (Value.slice ao' (vs.length + 1) cp').ownBlock = some (w1.heap.size + 1)) := by
  obtain ⟨ao', cp', w2, hr, hOL⟩ := h.step l yo yc hO hb hn
  have hown : (w1.alloc (.cells #[.slice yo l.length yc] 25)).ownsRow w.heap.size 25 1 (.slice ao vs.length cp) vs.length vs := (h.fr0 (hO.fr.alloc _)).own.own
  obtain ⟨a2, c2, w3, hr2, _, hg, hat⟩ := run_app_ss (w1.alloc (.cells #[.slice yo l.length yc] 25)) w.heap.size vs.length _ (.slice (some ⟨w1.heap.size, 0, none⟩) 1 1) vs [.slice yo l.length yc] hown ⟨.inr (.inr ⟨w1.heap.size, 0, 1, rfl, fun j u hu => by
    rw [World.cell?_alloc_at _ _ _ _ (by simp)]
    match j with
    | 0 => simpa using hu
    | j + 1 => simp at hu⟩), fun u hu => by simp at hu; subst hu; exact ⟨_, _, _, rfl⟩⟩ (by simp; omega) (by have := h.own.fr.size; have := hO.fr.size; simp; omega)
  rw [hr] at hr2
  injection hr2 with e1 e2
  subst e2
  injection e1 with e1 _ e3
  subst e1 e3
  refine ⟨ao', cp', w2, hr, hOL, hg, ?_⟩
  simpa using hat
/-- What guarded has made so far. -/
structure GI (w wr : World) (es qs : List (List Nat)) (so : Option Addr) (sc : Nat) (svs : List Value) (ao : Option Addr) (ac : Nat) (avs : List Value) : Prop where
  all : OL w wr ao ac avs qs
  sho : wr.ownsRow w.heap.size 25 1 (.slice so svs.length sc) svs.length svs
  sln : svs.length = avs.length
  ne : ∀ g, (Value.slice so svs.length sc).ownBlock = some g → (Value.slice ao avs.length ac).ownBlock = some g → False
  sls : ∀ u ∈ svs, ∃ a n c, u = .slice a n c
  pre : ∀ (j : Nat) v v' e, svs[j]? = some v → avs[j]? = some v' → es[j]? = some e → ∃ g c, v = .slice (some ⟨g, 0, none⟩) e.length c ∧ v' = .slice (some ⟨g, 0, none⟩) (e.length + 9) c
theorem GI.nil (w : World) (es : List (List Nat)) : GI w w es [] none 0 [] none 0 [] :=
  ⟨OL.nil w, ⟨rfl, .inl ⟨rfl, rfl⟩⟩, rfl, (fun g h => by cases h), (fun u h => by cases h), (fun j v v' e h => by simp at h)⟩
theorem GI.fr0 {w wr wq : World} {es qs : List (List Nat)} {so : Option Addr} {sc : Nat} {svs : List Value} {ao : Option Addr} {ac : Nat} {avs : List Value} (h : GI w wr es qs so sc svs ao ac avs) (hf : Fr (fun _ => False) wr wq) : GI w wq es qs so sc svs ao ac avs :=
  ⟨h.all.fr0 hf, ownsRow_of_block h.sho (fun g hg => hf.block g (h.sho.lt g hg).2 (fun h => h)), h.sln, h.ne, h.sls, h.pre⟩
/-- One list more. -/
theorem GI.step {w wr w1 : World} {es qs : List (List Nat)} {so : Option Addr} {sc : Nat} {svs : List Value} {ao : Option Addr} {ac : Nat} {avs : List Value} (h : GI w wr es qs so sc svs ao ac avs) (l : List Nat) (g lc n : Nat) (hO : OB wr w1 (some ⟨g, 0, none⟩) lc l) (hb : ∀ v ∈ l, v < 256) (hn : avs.length < 16000000)
    (hpre : ∀ e, es[svs.length]? = some e → n = e.length ∧ l.length = e.length + 9) (L : Nat) (hL : l.length = L) :
    ∃ ao' ac' w2, (Builtin.append_ #[22, 22] 22 #[.slice ao avs.length ac, .slice (some ⟨w1.heap.size, 0, none⟩) 1 1]).run Tryd.prog (w1.alloc (.cells #[.slice (some ⟨g, 0, none⟩) L lc] 25)) = .ok (.slice ao' (avs.length + 1) ac') w2 ∧ Fr (fun _ => False) w w2 ∧
      w2.cell? ⟨match ao' with | some a => a.block | none => 0, avs.length, none⟩ = some (.slice (some ⟨g, 0, none⟩) L lc) ∧ (∃ q, ao' = some ⟨q, 0, none⟩) ∧
      ∃ so' sc' w3, (Builtin.append_ #[22, 22] 22 #[.slice so svs.length sc, .slice (some ⟨w2.heap.size, 0, none⟩) 1 1]).run Tryd.prog (w2.alloc (.cells #[.slice (some ⟨g, 0, none⟩) n lc] 25)) = .ok (.slice so' (svs.length + 1) sc') w3 ∧
      GI w w3 es (qs ++ [l]) so' sc' (svs ++ [.slice (some ⟨g, 0, none⟩) n lc]) ao' ac' (avs ++ [.slice (some ⟨g, 0, none⟩) L lc]) := by
  subst hL
  obtain ⟨ao', ac', w2, hr, hOL, hg, hat⟩ := h.all.stepH l (some ⟨g, 0, none⟩) lc hO hb hn
  have hs1 := (h.fr0 (hO.fr.alloc (.cells #[.slice (some ⟨g, 0, none⟩) l.length lc] 25))).sho
  have hslt := h.sho.lt
  have hsz := hO.fr.size
  have hs2 : w2.ownsRow w.heap.size 25 1 (.slice so svs.length sc) svs.length svs := ownsRow_of_block hs1 (fun q hq => hg.block q (hs1.lt q hq).2 (fun e => h.ne q hq e.symm))
  have hs3 : (w2.alloc (.cells #[.slice (some ⟨g, 0, none⟩) n lc] 25)).ownsRow w.heap.size 25 1 (.slice so svs.length sc) svs.length svs := hs2.alloc _
  obtain ⟨so', sc', w3, hr3, hown3, hg3, hat3⟩ := run_app_ss _ w.heap.size svs.length _ (.slice (some ⟨w2.heap.size, 0, none⟩) 1 1) svs [.slice (some ⟨g, 0, none⟩) n lc] hs3 ⟨.inr (.inr ⟨w2.heap.size, 0, 1, rfl, fun j u hu => by
    rw [World.cell?_alloc_at _ _ _ _ (by simp)]
    match j with
    | 0 => simpa using hu
    | j + 1 => simp at hu⟩), fun u hu => by simp at hu; subst hu; exact ⟨_, _, _, rfl⟩⟩ (by have := h.sln; simp; omega) (by have := hOL.own.fr.size; simp; omega)
  have hlen1 : (avs ++ [Value.slice (some ⟨g, 0, none⟩) l.length lc]).length = avs.length + 1 := by simp
  have hne2 : ∀ q, (Value.slice so svs.length sc).ownBlock = some q → (Value.slice ao' (avs.length + 1) ac').ownBlock = some q → False := fun q h1 h2 => by
    rcases hat with e | e
    · rw [e] at h2; exact h.ne q h1 h2
    · rw [e] at h2
      have := (hslt q h1).2
      simp at h2
      omega
  have hF3 : Fr (fun k => (Value.slice so svs.length sc).ownBlock = some k) w2 w3 := ((Fr.refl _ _).alloc _).grown hg3 (fun q hq => .inl hq)
  have hOL3 : OL w w3 ao' ac' (avs ++ [.slice (some ⟨g, 0, none⟩) l.length lc]) (qs ++ [l]) := by
    refine ⟨⟨ownsRow_of_block hOL.own.own (fun q hq => hF3.block q (hOL.own.own.lt q hq).2 (fun e => hne2 q e (by rw [hlen1] at hq; exact hq))), ?_⟩, hOL.len, fun j v p hv hp => ?_, hOL.apart, hOL.byt⟩
    · exact hOL.own.fr.trans hF3 (fun k hk hk2 => by have := (hslt k hk2).1; omega)
    · obtain ⟨bo, c, e, hOw⟩ := hOL.row j v p hv hp
      exact ⟨bo, c, e, ownsRow_of_block hOw (fun q hq => hF3.block q (World.ownsRow.lt hOw q hq).2 (fun e => own_ne hs2 hOw q e hq))⟩
  obtain ⟨q, rfl⟩ : ∃ q, ao' = some ⟨q, 0, none⟩ := by
    rcases hOL.own.own.2 with ⟨_, e⟩ | ⟨q, cap, cur, e, _⟩
    · rw [hlen1] at e; omega
    · simp only [Value.slice.injEq] at e
      exact ⟨q, e.1⟩
  refine ⟨_, ac', w2, hr, hOL.own.fr, ?_, ⟨q, rfl⟩, so', sc', w3, by simpa using hr3, hOL3, by rw [List.length_append]; exact hown3, by rw [List.length_append, List.length_append, h.sln]; rfl, fun q' h1 h2 => ?_, fun u hu => ?_, fun j v v' e hv hv' he => ?_⟩
  · have := hOL.own.own.cellAt avs.length (by rw [hlen1]; omega)
    rw [this, List.getElem?_append_right (Nat.le_refl _), Nat.sub_self]
    rfl
  · rw [hlen1] at h2
    rw [List.length_append] at h1
    rcases hat3 with e | e
    · rw [show svs.length + [Value.slice (some ⟨g, 0, none⟩) n lc].length = svs.length + [Value.slice (some ⟨g, 0, none⟩) n lc].length from rfl, e] at h1
      exact hne2 q' h1 h2
    · rw [e] at h1
      have := (hOL.own.own.lt q' (by rw [hlen1]; exact h2)).2
      simp at h1
      omega
  · rcases List.mem_append.1 hu with hu | hu
    · exact h.sls u hu
    · simp at hu; subst hu; exact ⟨_, _, _, rfl⟩
  · by_cases hj : j < svs.length
    · rw [List.getElem?_append_left hj] at hv
      rw [List.getElem?_append_left (by rw [← h.sln]; exact hj)] at hv'
      exact h.pre j v v' e hv hv' he
    · have hje : j = svs.length := by
        have := (List.getElem?_eq_some_iff.1 hv).1
        rw [List.length_append, List.length_singleton] at this
        omega
      subst hje
      rw [List.getElem?_append_right (Nat.le_refl _), Nat.sub_self] at hv
      rw [List.getElem?_append_right (by rw [h.sln]; exact Nat.le_refl _), h.sln, Nat.sub_self] at hv'
      simp only [List.getElem?_cons_zero, Option.some.injEq] at hv hv'
      subst hv hv'
      obtain ⟨e1, e2⟩ := hpre e he
      exact ⟨g, lc, by rw [e1], by rw [e2]⟩
end Go.Proofs.YthccbfgjekdiiaaDoor

namespace Go.Proofs.YthccbfgjekdiiaaDoor
open Go.RowKit

/-- Bytes and k guards. -/
def gdj (e : List Nat) (k : Nat) : List Nat := e ++ List.replicate k 77
theorem gdj_len (e : List Nat) (k : Nat) : (gdj e k).length = e.length + k := by simp [gdj]
theorem gdj_succ (e : List Nat) (k : Nat) : gdj e k ++ [77] = gdj e (k + 1) := by simp [gdj, List.replicate_succ']
theorem gdj_lt {e : List Nat} (h : ∀ v ∈ e, v < 256) (k : Nat) : ∀ v ∈ gdj e k, v < 256 := fun v hv => by
  simp only [gdj, List.mem_append, List.mem_replicate] at hv
  rcases hv with h1 | h1
  · exact h v h1
  · omega
/-- What guarded makes: the lists with guards behind each, then guards. -/
def gls (es : List (List Nat)) : List (List Nat) := es.map (fun e => gdj e 9) ++ List.replicate 9 [7]
def glk (es : List (List Nat)) (t : Nat) : List (List Nat) := es.map (fun e => gdj e 9) ++ List.replicate t [7]
theorem glk_succ (es : List (List Nat)) (t : Nat) : glk es t ++ [[7]] = glk es (t + 1) := by simp [glk, List.replicate_succ']
end Go.Proofs.YthccbfgjekdiiaaDoor

namespace Go.Proofs.YthccbfgjekdiiaaDoor
open Go.RowKit

theorem gls_len (es : List (List Nat)) : (gls es).length = es.length + 9 := by simp [gls]
theorem gls_lo (es : List (List Nat)) (i : Nat) (h : i < es.length) : (gls es)[i]'(by rw [gls_len]; omega) = gdj es[i] 9 := by
  simp only [gls]
  rw [List.getElem_append_left (by simpa using h)]
  simp
theorem gls_hi (es : List (List Nat)) (i : Nat) (h : es.length ≤ i) (h2 : i < es.length + 9) : (gls es)[i]'(by rw [gls_len]; omega) = [7] := by
  simp only [gls]
  rw [List.getElem_append_right (by simpa using h), List.getElem_replicate]
theorem gdj_at (m : List Nat) (k j : Nat) (hj : j < m.length + k) : (gdj m k).getD j 0 = if j < m.length then m.getD j 0 else 77 := by
  rw [gdj, List.getD, List.getD]
  by_cases h : j < m.length
  · rw [if_pos h, List.getElem?_append_left h]
  · rw [if_neg h, List.getElem?_append_right (by omega), List.getElem?_replicate, if_pos (by omega)]; rfl
end Go.Proofs.YthccbfgjekdiiaaDoor

