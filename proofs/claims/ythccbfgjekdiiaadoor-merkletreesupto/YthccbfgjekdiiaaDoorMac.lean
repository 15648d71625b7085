import Derived.Test.YthccbfgjekdiiaaDoorMaa
namespace Go.Proofs.YthccbfgjekdiiaaDoor
open Go.RowKit

set_option maxRecDepth 100000 in
set_option maxHeartbeats 1000000 in
/-- merkle.Leaf. -/
theorem leaf_any (i : Int) (x : Value) (e : List Nat) (w : World) (hg : GS w) (hx : Sl w x e) (he : e.length ≤ 16000000) :
    Calls Tryd.prog 11 #[.int .i64 i, x] w fun e' w' => ∃ yo, e' = .returned (.slice yo (lf i e).length (lf i e).length) ∧ OB w w' yo (lf i e).length (lf i e) := by
  obtain ⟨xo, xc, rfl⟩ := hx.form
  have HG := hide (And.intro hg (And.intro hx he))
  clear hg hx he
  obtain ⟨R, hR⟩ : ∃ R, lf i e = R := ⟨_, rfl⟩
  rw [hR]
  have hSum : ∀ (x : Value) (w : World), GS w → Src w x (0 :: e) → (∀ g n c', x = .slice g n c' → n ≤ c') → (∀ g o' n c', x = .slice (some ⟨g, o', none⟩) n c' → g < w.heap.size) → Calls Tryd.prog 28 #[.int .i64 i, x] w fun e' w' => ∃ yo, e' = .returned (.slice yo R.length R.length) ∧ OB w w' yo R.length R := fun x w h1 h2 h3 h4 => by
    rw [← hR]
    exact sum_O i (0 :: e) x w h1 h2 (cons_lt (by decide) (unhide HG).2.1.b) (by have := (unhide HG).2.2; rw [List.length_cons]; omega) h3 h4
  have HSum := hide hSum
  clear hSum hR
  generalize hE : e.length = E at *
  obtain ⟨w1, hw1⟩ : ∃ w1, w.alloc (.cells #[.slice xo E xc] 25) = w1 := ⟨_, rfl⟩
  have hF1 : Fr (fun _ => False) w w1 := by rw [← hw1]; exact (Fr.refl _ _).alloc _
  have hp : Pcs w1 (.slice (some ⟨w.heap.size, 0, none⟩) 1 1) [.slice xo E xc] [e] := by
    have hx1 := (unhide HG).2.1.fr0 hF1
    have hc : w1.cell? ⟨w.heap.size, 0, none⟩ = some (.slice xo E xc) := by rw [← hw1, World.cell?_alloc_at _ _ _ _ rfl]; rfl
    refine ⟨rfl, .inr (.inr ⟨w.heap.size, 0, 1, rfl, lt_of_cell hc, fun j v hv => ?_⟩), fun j v p hv hp => ?_, fun p hp => ?_⟩
    · match j with
      | 0 => simp at hv; subst hv; exact hc
      | j + 1 => simp at hv
    · match j with
      | 0 => simp at hv hp; subst hv hp; exact ⟨hx1.s, hx1.cap, hx1.lt⟩
      | j + 1 => simp at hv
    · simp at hp; subst hp; exact hx1.b
  have H1 := hide (And.intro hF1 hp)
  clear hF1 hp
  go_enter Tryd.func11, Tryd.ntmps11
  go_wp2_with fail
  refine (join_any 0 _ _ [e] w1 (unhide H1).2 (by decide) (fun p hp => by simp at hp; subst hp; rw [hE]; exact (unhide HG).2.2) (by simp)).mono ?_
  rintro e' w2 ⟨ao, cp, rfl, hO⟩
  have ef : [e].flatten = e := by simp
  have hln : (0 :: e).length = E + 1 := by rw [List.length_cons, hE]
  rw [ef] at hO ⊢
  rw [hln]
  have hsrc := hO.src
  have hcap := hO.cap
  have hlt := hO.lt
  rw [hln] at hsrc hcap hlt
  clear ef hln
  have H2 := hide (And.intro hO (And.intro hsrc (And.intro hcap hlt)))
  clear hO hsrc hcap hlt
  go_wp2_with fail
  refine ((unhide HSum) _ w2 (((unhide HG).1.fr0 (unhide H1).1).fr0 (unhide H2).1.fr) (unhide H2).2.1 (fun _ _ _ e => by cases e; exact (unhide H2).2.2.1) (unhide H2).2.2.2).mono ?_
  rintro e' w3 ⟨yo, rfl, hO⟩
  have H3 := hide ((hO.base (unhide H2).1.fr).base (unhide H1).1)
  clear hO
  go_wp2_with fail
  go_ret
  exact ⟨yo, rfl, unhide H3⟩
set_option maxRecDepth 100000 in
set_option maxHeartbeats 1000000 in
/-- merkle.Node. -/
theorem node_any (i : Int) (x y : Value) (a b : List Nat) (w : World) (hg : GS w) (hx : Sl w x a) (hy : Sl w y b) (ha : a.length ≤ 16000000) (hb : b.length ≤ 16000000) :
    Calls Tryd.prog 62 #[.int .i64 i, x, y] w fun e' w' => ∃ yo, e' = .returned (.slice yo (nd i a b).length (nd i a b).length) ∧ OB w w' yo (nd i a b).length (nd i a b) := by
  obtain ⟨xo, xc, rfl⟩ := hx.form
  obtain ⟨yo, yc, rfl⟩ := hy.form
  have HG := hide (And.intro hg (And.intro hx (And.intro hy (And.intro ha hb))))
  clear hg hx hy ha hb
  obtain ⟨R, hR⟩ : ∃ R, nd i a b = R := ⟨_, rfl⟩
  rw [hR]
  have hSum : ∀ (x : Value) (w : World), GS w → Src w x (1 :: (a ++ b)) → (∀ g n c', x = .slice g n c' → n ≤ c') → (∀ g o' n c', x = .slice (some ⟨g, o', none⟩) n c' → g < w.heap.size) → Calls Tryd.prog 28 #[.int .i64 i, x] w fun e' w' => ∃ yo, e' = .returned (.slice yo R.length R.length) ∧ OB w w' yo R.length R := fun x w h1 h2 h3 h4 => by
    rw [← hR]
    exact sum_O i (1 :: (a ++ b)) x w h1 h2 (cons_lt (by decide) (app_lt (unhide HG).2.1.b (unhide HG).2.2.1.b)) (by have h1 := (unhide HG).2.2.2.1; have h2 := (unhide HG).2.2.2.2; rw [List.length_cons, List.length_append]; omega) h3 h4
  have HSum := hide hSum
  clear hSum hR
  generalize hA : a.length = A at *
  generalize hB : b.length = B1 at *
  obtain ⟨w1, hw1⟩ : ∃ w1, w.alloc (.cells #[.slice xo A xc, .slice yo B1 yc] 25) = w1 := ⟨_, rfl⟩
  have hF1 : Fr (fun _ => False) w w1 := by rw [← hw1]; exact (Fr.refl _ _).alloc _
  have hp : Pcs w1 (.slice (some ⟨w.heap.size, 0, none⟩) 2 2) [.slice xo A xc, .slice yo B1 yc] [a, b] := by
    have hx1 := (unhide HG).2.1.fr0 hF1
    have hy1 := (unhide HG).2.2.1.fr0 hF1
    have hc : ∀ j, j < 2 → w1.cell? ⟨w.heap.size, 0 + j, none⟩ = (#[.slice xo A xc, .slice yo B1 yc] : Array Value)[j]? := fun j hj => by rw [Nat.zero_add, ← hw1, World.cell?_alloc_at _ _ _ _ rfl]
    have hc0 := hc 0 (by decide)
    have hl : w.heap.size < w1.heap.size := lt_of_cell (v := .slice xo A xc) hc0
    refine ⟨rfl, .inr (.inr ⟨w.heap.size, 0, 2, rfl, hl, fun j v hv => ?_⟩), fun j v p hv hp => ?_, fun p hp => ?_⟩
    · match j with
      | 0 => rw [hc 0 (by decide)]; simpa using hv
      | 1 => rw [hc 1 (by decide)]; simpa using hv
      | j + 2 => simp at hv
    · match j with
      | 0 => simp at hv hp; subst hv hp; exact ⟨hx1.s, hx1.cap, hx1.lt⟩
      | 1 => simp at hv hp; subst hv hp; exact ⟨hy1.s, hy1.cap, hy1.lt⟩
      | j + 2 => simp at hv
    · simp at hp
      rcases hp with rfl | rfl
      · exact hx1.b
      · exact hy1.b
  have H1 := hide (And.intro hF1 hp)
  clear hF1 hp
  go_enter Tryd.func62, Tryd.ntmps62
  go_wp2_with fail
  refine (join_any 1 _ _ [a, b] w1 (unhide H1).2 (by decide) (fun p hp => by
    simp at hp
    rcases hp with rfl | rfl
    · rw [hA]; exact (unhide HG).2.2.2.1
    · rw [hB]; exact (unhide HG).2.2.2.2) (by simp)).mono ?_
  rintro e' w2 ⟨ao, cp, rfl, hO⟩
  have ef : [a, b].flatten = a ++ b := by simp
  have hln : (1 :: (a ++ b)).length = A + B1 + 1 := by rw [List.length_cons, List.length_append, hA, hB]
  rw [ef] at hO ⊢
  rw [hln]
  have hsrc := hO.src
  have hcap := hO.cap
  have hlt := hO.lt
  rw [hln] at hsrc hcap hlt
  clear ef hln
  have H2 := hide (And.intro hO (And.intro hsrc (And.intro hcap hlt)))
  clear hO hsrc hcap hlt
  go_wp2_with fail
  refine ((unhide HSum) _ w2 (((unhide HG).1.fr0 (unhide H1).1).fr0 (unhide H2).1.fr) (unhide H2).2.1 (fun _ _ _ e => by cases e; exact (unhide H2).2.2.1) (unhide H2).2.2.2).mono ?_
  rintro e' w3 ⟨zo, rfl, hO⟩
  have H3 := hide ((hO.base (unhide H2).1.fr).base (unhide H1).1)
  clear hO
  go_wp2_with fail
  go_ret
  exact ⟨zo, rfl, unhide H3⟩
end Go.Proofs.YthccbfgjekdiiaaDoor
