import Derived.Test.YthccbfgjekdiiaaDoorPk4
import Derived.Deep.QuietTactic
import Derived.BigQuiet
import Derived.Test.YthccbfgjekdiiaaDoorPk2
namespace Go.Proofs.YthccbfgjekdiiaaDoor
open Go.RowKit

theorem count_split (t : Int) : ∀ zs : List Int, zs.Pairwise (· < ·) → (∀ z ∈ zs.take (zs.countP (· < t)), z < t) ∧ ∀ z ∈ zs.drop (zs.countP (· < t)), t ≤ z := by
  intro zs
  induction zs with
  | nil => intro _; simp
  | cons a r ih =>
    intro h
    rw [List.pairwise_cons] at h
    obtain ⟨h1, h2⟩ := h
    obtain ⟨i1, i2⟩ := ih h2
    by_cases ha : a < t
    · rw [List.countP_cons_of_pos (by simpa using ha)]
      refine ⟨fun z hz => ?_, fun z hz => ?_⟩
      · rw [List.take_succ_cons] at hz
        rcases List.mem_cons.1 hz with rfl | hz
        · exact ha
        · exact i1 z hz
      · rw [List.drop_succ_cons] at hz; exact i2 z hz
    · have h0 : r.countP (· < t) = 0 := by
        rw [List.countP_eq_zero]
        intro z hz
        have := h1 z hz
        simp; omega
      rw [List.countP_cons_of_neg (by simpa using ha), h0]
      refine ⟨fun z hz => by simp at hz, fun z hz => ?_⟩
      rw [List.drop_zero] at hz
      rcases List.mem_cons.1 hz with rfl | hz
      · omega
      · have := h1 z hz; omega
/-- A slice of numbers. -/
def Ints (w : World) (x : Value) (zs : List Int) : Prop :=
  ((x = .slice none 0 0 ∧ zs = []) ∨ (∃ a c, x = .slice (some a) 0 c ∧ zs = []) ∨ ∃ g o c, x = .slice (some ⟨g, o, none⟩) zs.length c ∧ zs.length ≤ c ∧ g < w.heap.size ∧ ∀ j, j < zs.length → w.cell? ⟨g, o + j, none⟩ = some (.int .i64 (zs.getD j 0)))
theorem Ints.form {w : World} {x : Value} {zs : List Int} (h : Ints w x zs) : ∃ xo xc, x = .slice xo zs.length xc := by
  rcases h with ⟨rfl, rfl⟩ | ⟨a, c, rfl, rfl⟩ | ⟨g, o, c, rfl, _⟩ <;> exact ⟨_, _, rfl⟩
theorem Ints.fr0 {w w' : World} {x : Value} {zs : List Int} (h : Ints w x zs) (hf : Fr (fun _ => False) w w') : Ints w' x zs := by
  rcases h with h | h | ⟨g, o, c, h1, h2, h3, h4⟩
  · exact .inl h
  · exact .inr (.inl h)
  · exact .inr (.inr ⟨g, o, c, h1, h2, Nat.lt_of_lt_of_le h3 hf.size, fun j hj => (hf.cell (p := ⟨g, o + j, none⟩) h3 (fun h => h)).trans (h4 j hj)⟩)
theorem Ints.at_ {w : World} {xo : Option Addr} {n c : Nat} {zs : List Int} (h : Ints w (.slice xo n c) zs) (h0 : 0 < zs.length) : ∃ g o, xo = some ⟨g, o, none⟩ ∧ n = zs.length ∧ zs.length ≤ c ∧ g < w.heap.size ∧ ∀ j, j < zs.length → w.cell? ⟨g, o + j, none⟩ = some (.int .i64 (zs.getD j 0)) := by
  rcases h with ⟨_, rfl⟩ | ⟨a, c, _, rfl⟩ | ⟨g, o, c', e, h2, h3, h4⟩
  · simp at h0
  · simp at h0
  · simp only [Value.slice.injEq] at e
    obtain ⟨rfl, rfl, rfl⟩ := e
    exact ⟨g, o, rfl, rfl, h2, h3, h4⟩
theorem Ints.take {w : World} {g o n c : Nat} {zs : List Int} (hc : zs.length ≤ c) (hg : g < w.heap.size) (h : ∀ j, j < zs.length → w.cell? ⟨g, o + j, none⟩ = some (.int .i64 (zs.getD j 0))) (hn : n ≤ zs.length) : Ints w (.slice (some ⟨g, o, none⟩) n c) (zs.take n) := by
  have hl : (zs.take n).length = n := by rw [List.length_take]; omega
  refine .inr (.inr ⟨g, o, c, by rw [hl], by omega, hg, fun j hj => ?_⟩)
  rw [h j (by omega)]
  simp only [List.getD, List.getElem?_take]
  rw [if_pos (by omega)]
theorem Ints.drop {w : World} {g o n c : Nat} {zs : List Int} (hc : zs.length ≤ c) (hg : g < w.heap.size) (h : ∀ j, j < zs.length → w.cell? ⟨g, o + j, none⟩ = some (.int .i64 (zs.getD j 0))) (hn : n ≤ zs.length) : Ints w (.slice (some ⟨g, o + n, none⟩) (zs.length - n) (c - n)) (zs.drop n) := by
  have hl : (zs.drop n).length = zs.length - n := by rw [List.length_drop]
  refine .inr (.inr ⟨g, o + n, c - n, by rw [hl], by omega, hg, fun j hj => ?_⟩)
  rw [Nat.add_assoc, h (n + j) (by omega)]
  simp only [List.getD, List.getElem?_drop]
/-- The hashes for places. -/
def mny (wi : Nat) (L : List (List Nat)) (f n : Nat) (zs : List Int) : List (List Nat) :=
  if zs = [] then [mth wi (blk L f n)]
  else if _h : n < 2 then []
  else mny wi L f (hf n) (zs.take (zs.countP (· < ((f + hf n : Nat) : Int)))) ++ mny wi L (f + hf n) (n - hf n) (zs.drop (zs.countP (· < ((f + hf n : Nat) : Int))))
termination_by n
decreasing_by
  · exact hf_lt n (by omega)
  · have := hf_pos n; omega
theorem mny_nil (wi : Nat) (L : List (List Nat)) (f n : Nat) : mny wi L f n [] = [mth wi (blk L f n)] := by rw [mny, if_pos rfl]
theorem mny_one {wi : Nat} {L : List (List Nat)} {f n : Nat} {zs : List Int} (hz : zs ≠ []) (h : n < 2) : mny wi L f n zs = [] := by rw [mny, if_neg hz, dif_pos h]
theorem mny_two {wi : Nat} {L : List (List Nat)} {f n : Nat} {zs : List Int} (hz : zs ≠ []) (h : 2 ≤ n) : mny wi L f n zs = mny wi L f (hf n) (zs.take (zs.countP (· < ((f + hf n : Nat) : Int)))) ++ mny wi L (f + hf n) (n - hf n) (zs.drop (zs.countP (· < ((f + hf n : Nat) : Int)))) := by
  conv => lhs; rw [mny, if_neg hz, dif_neg (by omega)]
theorem mny_lt (wi : Nat) (L : List (List Nat)) (k : Nat) : ∀ f n zs, n ≤ k → zs ≠ [] → 1 ≤ n → (mny wi L f n zs).length ≤ n := by
  induction k with
  | zero => intro f n zs h _ h1; omega
  | succ k ih =>
    intro f n zs h hz h1
    by_cases h2 : n < 2
    · rw [mny_one hz h2]; simp
    · rw [mny_two hz (by omega), List.length_append]
      have h3 := hf_lt n (by omega)
      have h4 := hf_pos n
      generalize zs.countP (· < ((f + hf n : Nat) : Int)) = C
      have one : ∀ f' n', 1 ≤ n' → n' ≤ k → ∀ ys, (mny wi L f' n' ys).length ≤ n' := fun f' n' h5 h6 ys => by
        by_cases hy : ys = []
        · rw [hy, mny_nil]; simpa using h5
        · exact ih f' n' ys h6 hy h5
      have i1 := one f (hf n) (by omega) (by omega) (zs.take C)
      have i2 := one (f + hf n) (n - hf n) (by omega) (by omega) (zs.drop C)
      omega
theorem mny_le (wi : Nat) (L : List (List Nat)) (f n : Nat) (zs : List Int) : (mny wi L f n zs).length ≤ n + 1 := by
  by_cases hz : zs = []
  · rw [hz, mny_nil]; simp
  · by_cases h1 : 1 ≤ n
    · have := mny_lt wi L n f n zs (Nat.le_refl _) hz h1; omega
    · rw [mny_one hz (by omega)]; simp
def ManySays (tb wi : Nat) (L : List (List Nat)) (f n : Nat) (zs : List Int) (x : Value) (w : World) : Prop :=
  Calls Tryd.prog 65 #[pv (.pointer (some ⟨tb, 0, none⟩)) f n, x] w fun e w' => ∃ ao cp vs, e = .returned (.slice ao vs.length cp) ∧ OL w w' ao cp vs (mny wi L f n zs)
set_option maxRecDepth 100000 in
set_option maxHeartbeats 1000000 in
theorem many_nil (tb wi : Nat) (hw1 : 1 ≤ wi) (hw32 : wi ≤ 32) (L : List (List Nat)) (f n : Nat) (x : Value) (w : World) (hT : Tk w tb wi L) (hA : Al f n) (hL : f + n ≤ L.length) (hx : Ints w x []) : ManySays tb wi L f n [] x w := by
  have hroot := fun w' (hf : Fr (fun _ => False) w w') => root_any tb wi hw1 hw32 L _ f n w' (Nat.le_refl _) (hT.fr0 hf) hA hL
  have hMw := hT.mw hw1 hw32 f n
  have hMb := hT.mb f n
  unfold ManySays
  unfold RootSays at hroot
  rw [mny_nil]
  generalize mth wi (blk L f n) = M at *
  obtain ⟨xo, xc, rfl⟩ := hx.form
  have HC := hide (And.intro hroot (And.intro hMw hMb))
  clear hroot hMw hMb hT hA hL hx
  unfold pv at *
  simp only [List.length_nil]
  go_enter Tryd.func65, Tryd.ntmps65
  go_wp2_with fail
  refine ((unhide HC).1 _ ((Fr.refl _ _).alloc _)).mono ?_
  rintro e w1 ⟨yo, yc, rfl, hO⟩
  obtain ⟨W, hW⟩ : ∃ W, w1.alloc (.cells #[.slice yo wi yc] 25) = W := ⟨_, rfl⟩
  have hL1 := (ol_lit1 hO (unhide HC).2.2 wi (unhide HC).2.1 W hW).base ((Fr.refl _ _).alloc _)
  have H1 := hide hL1
  clear hL1 hO
  go_wp2_with fail
  go_ret
  exact ⟨_, 1, _, rfl, unhide H1⟩
set_option maxRecDepth 100000 in
set_option maxHeartbeats 1000000 in
theorem many_one (tb wi : Nat) (L : List (List Nat)) (f : Nat) (zs : List Int) (x : Value) (w : World) (hx : Ints w x zs) (hz : zs ≠ []) : ManySays tb wi L f 1 zs x w := by
  unfold ManySays pv
  rw [mny_one hz (by decide)]
  obtain ⟨xo, xc, rfl⟩ := hx.form
  have h0 : 0 < zs.length := List.length_pos_iff.2 hz
  have q0 : ((zs.length : Int) == 0) = false := beq_false_of_ne (by omega)
  have q1 : ¬ zs.length = 0 := by omega
  have q2 : ¬ zs = [] := hz
  clear hx hz
  generalize zs.length = N at *
  have e1 : ((1 : Nat) : Int) = 1 := rfl
  simp only [e1]
  go_enter Tryd.func65, Tryd.ntmps65
  go_wp2_with fail
  go_ret
  exact ⟨none, 0, [], rfl, (OL.nil _).base ((Fr.refl _ _).alloc _)⟩
set_option maxRecDepth 100000 in
set_option maxHeartbeats 2000000 in
theorem many_two (tb wi : Nat) (L : List (List Nat)) (f n : Nat) (zs : List Int) (x : Value) (w : World) (hb : f + n ≤ 8000000) (h2 : 2 ≤ n) (hx : Ints w x zs) (hz : zs ≠ []) (hs : zs.Pairwise (· < ·)) (hzl : zs.length ≤ 16000000)
    (ih1 : ∀ w' x', Fr (fun _ => False) w w' → Ints w' x' (zs.take (zs.countP (· < ((f + hf n : Nat) : Int)))) → ManySays tb wi L f (hf n) (zs.take (zs.countP (· < ((f + hf n : Nat) : Int)))) x' w')
    (ih2 : ∀ w' x', Fr (fun _ => False) w w' → Ints w' x' (zs.drop (zs.countP (· < ((f + hf n : Nat) : Int)))) → ManySays tb wi L (f + hf n) (n - hf n) (zs.drop (zs.countP (· < ((f + hf n : Nat) : Int)))) x' w') : ManySays tb wi L f n zs x w := by
  have h0 : 0 < zs.length := List.length_pos_iff.2 hz
  obtain ⟨xo, xc, rfl⟩ := hx.form
  obtain ⟨g, o, rfl, -, hc, hgl, hcells⟩ := hx.at_ h0
  have hlt := hf_lt n h2
  have hpos := hf_pos n
  have hpt := fun w => parts_any (some ⟨tb, 0, none⟩) f n w (by omega) h2
  have hfind : ∀ w', Fr (fun _ => False) w w' → Calls Tryd.prog 67 #[.slice (some ⟨g, o, none⟩) zs.length xc, .int .i64 ((f + hf n : Nat) : Int)] w' fun e w'' => ∃ bb, e = .returned (.tuple #[.int .i64 (zs.countP (· < ((f + hf n : Nat) : Int)) : Nat), .bool bb]) ∧ Fr (fun _ => False) w' w'' := fun w' hf' => by
    refine (find_any g o zs.length xc zs ((f + hf n : Nat) : Int) w' (Nat.le_refl _) (by omega) (fun j hj => (hf'.cell (p := ⟨g, o + j, none⟩) hgl (fun h => h)).trans (hcells j hj)) (by rw [List.take_length]; exact hs.imp (fun h => by omega))).mono ?_
    rintro e w'' ⟨rfl, q, rfl⟩
    rw [List.take_length]
    exact ⟨_, rfl, (Fr.refl _ _).drewN q⟩
  have hCl : zs.countP (· < ((f + hf n : Nat) : Int)) ≤ zs.length := List.countP_le_length
  have m1 := mny_le wi L f (hf n) (zs.take (zs.countP (· < ((f + hf n : Nat) : Int))))
  have m2 := mny_le wi L (f + hf n) (n - hf n) (zs.drop (zs.countP (· < ((f + hf n : Nat) : Int))))
  unfold ManySays at *
  rw [mny_two hz h2]
  generalize hC : zs.countP (· < ((f + hf n : Nat) : Int)) = C at *
  have r1 := fun w' (hf' : Fr (fun _ => False) w w') => ih1 w' _ hf' ((Ints.take hc hgl hcells hCl).fr0 hf')
  have r2 : ∀ w', Fr (fun _ => False) w w' → _ := fun w' hf' => ih2 w' _ hf' ((Ints.drop hc hgl hcells hCl).fr0 hf')
  have r3 : C = zs.length → ∀ w' a c', Fr (fun _ => False) w w' → _ := fun hCz w' a c' hf' => ih2 w' (.slice (some a) 0 c') hf' (by rw [hCz, List.drop_length]; exact .inr (.inl ⟨a, c', rfl, rfl⟩))
  generalize mny wi L f (hf n) (zs.take C) = A1 at *
  generalize mny wi L (f + hf n) (n - hf n) (zs.drop C) = A2 at *
  have hcat : ∀ (wr w1 : World) (ao bo : Option Addr) (cp bc : Nat) (vs us : List Value), OL w wr ao cp vs A1 → OL wr w1 bo bc us A2 → True := fun _ _ _ _ _ _ _ _ _ _ => trivial
  have m1' : A1.length ≤ 9000000 := by omega
  have m2' : A2.length ≤ 9000000 := by omega
  have HL := hide (And.intro m1' m2')
  clear m1' m2'
  clear hcat m1 m2 ih1 ih2 hC hs hcells hgl hx hz
  generalize hF2 : f + hf n = F2 at *
  generalize n - hf n = N2 at *
  generalize hf n = K at *
  have q0 : ((zs.length : Int) == 0) = false := beq_false_of_ne (by omega)
  have q1 : ¬ zs.length = 0 := by omega
  have q2 : ((n : Int) == 1) = false := beq_false_of_ne (by omega)
  have q3 : ¬ n = 1 := by omega
  have q4 : (C : Int) ≤ (zs.length : Int) := by omega
  have q5 : (C : Int) ≤ (xc : Int) := by omega
  have HC := hide (And.intro hpt (And.intro hfind (And.intro r1 (And.intro r2 r3))))
  clear hpt hfind r1 r2 r3
  unfold pv at *
  by_cases hcC : xc = C
  · have hCz : C = zs.length := by omega
    have HCz := hide hCz
    have hxc : xc = zs.length := by omega
    clear hcC
    subst hxc
    subst hCz
    generalize zs.length = N at *
    go_enter Tryd.func65, Tryd.ntmps65
    go_wp2_with fail
    obtain ⟨W0, hW0⟩ : ∃ W0, w.alloc (.cells #[.pointer (some ⟨tb, 0, none⟩), .int .i64 f, .int .i64 n] 79) = W0 := ⟨_, rfl⟩
    rw [hW0]
    obtain ⟨-, -, -, hF0⟩ := box3p w _ _ _ _ W0 hW0
    refine ((unhide HC).1 _).mono ?_
    rintro e wA ⟨rfl, hFA⟩
    have HF := hide (hF0.trans hFA (fun _ _ h => h))
    clear hF0 hFA hW0
    go_wp2_with fail
    obtain ⟨W1, hW1⟩ : ∃ W1, (wA.alloc (.cells #[.pointer (some ⟨tb, 0, none⟩), .int .i64 f, .int .i64 K] 79)).alloc (.cells #[.pointer (some ⟨tb, 0, none⟩), .int .i64 F2, .int .i64 N2] 79) = W1 := ⟨_, rfl⟩
    rw [hW1]
    obtain ⟨x0, x1, x2, y0, y1, y2, hF1⟩ := two3 wA _ _ _ _ _ _ _ W1 hW1
    refine ((unhide HC).2.1 _ ((unhide HF).trans hF1 (fun _ _ h => h))).mono ?_
    rintro e wB ⟨bb, rfl, hFB⟩
    have u0 := (hFB.cell (lt_of_cell x0) (fun h => h)).trans x0
    have u1 := (hFB.cell (lt_of_cell x1) (fun h => h)).trans x1
    have u2 := (hFB.cell (lt_of_cell x2) (fun h => h)).trans x2
    have v0 := (hFB.cell (lt_of_cell y0) (fun h => h)).trans y0
    have v1 := (hFB.cell (lt_of_cell y1) (fun h => h)).trans y1
    have v2 := (hFB.cell (lt_of_cell y2) (fun h => h)).trans y2
    have HF2 := hide (((unhide HF).trans hF1 (fun _ _ h => h)).trans hFB (fun _ _ h => h))
    clear hF1 hFB hW1 x0 x1 x2 y0 y1 y2 HF
    generalize wA.heap.size = Z at *
    have hS : ∀ w', Fr (fun _ => False) wB w' → w'.cell? ⟨Z, 0, none⟩ = some (.pointer (some ⟨tb, 0, none⟩)) ∧ w'.cell? ⟨Z, 1, none⟩ = some (.int .i64 f) ∧ w'.cell? ⟨Z, 2, none⟩ = some (.int .i64 K) ∧ w'.cell? ⟨Z + 1, 0, none⟩ = some (.pointer (some ⟨tb, 0, none⟩)) ∧ w'.cell? ⟨Z + 1, 1, none⟩ = some (.int .i64 F2) ∧ w'.cell? ⟨Z + 1, 2, none⟩ = some (.int .i64 N2) := fun w' hf =>
      ⟨(hf.cell (lt_of_cell u0) (fun h => h)).trans u0, (hf.cell (lt_of_cell u1) (fun h => h)).trans u1, (hf.cell (lt_of_cell u2) (fun h => h)).trans u2, (hf.cell (lt_of_cell v0) (fun h => h)).trans v0, (hf.cell (lt_of_cell v1) (fun h => h)).trans v1, (hf.cell (lt_of_cell v2) (fun h => h)).trans v2⟩
    have HS := hide hS
    clear hS
    have T1 : True := trivial
    go_wp2_with fail
    go_region_held3 (fun w' => w'.cell? ⟨Z, 0, none⟩ = some (.pointer (some ⟨tb, 0, none⟩)) ∧ w'.cell? ⟨Z, 1, none⟩ = some (.int .i64 f) ∧ w'.cell? ⟨Z, 2, none⟩ = some (.int .i64 K) ∧ w'.cell? ⟨Z + 1, 0, none⟩ = some (.pointer (some ⟨tb, 0, none⟩)) ∧ w'.cell? ⟨Z + 1, 1, none⟩ = some (.int .i64 F2) ∧ w'.cell? ⟨Z + 1, 2, none⟩ = some (.int .i64 N2))
      (first | assumption | exact (unhide HS) _ (Fr.refl _ _).drew | exact (unhide HS) _ fE | exact (unhide HS) _ fD | exact (unhide HS) _ fC)
      (first
        | (go_at_call 65; clear T1; refine ((unhide HC).2.2.1 _ (by exact (unhide HF2).drew)).mono ?_; rintro e wC ⟨ao, cp, vs, rfl, oC⟩; have fC : Fr (fun _ => False) wB wC := (Fr.refl _ _).drew.trans oC.own.fr (fun _ _ h => h))
        | (go_at_call 65; refine ((unhide HC).2.2.2.2 (unhide HCz) _ _ _ (by exact (unhide HF2).trans fC (fun _ _ h => h))).mono ?_; rintro e wD ⟨bo, bc, us, rfl, oD⟩; have fD : Fr (fun _ => False) wB wD := fC.trans oD.own.fr (fun _ _ h => h))
        | (obtain ⟨ao2, cp2, wE, hr2, hO2⟩ := oC.cat oD (by rw [oC.len, oD.len]; have h1 := (unhide HL).1; have h2 := (unhide HL).2; omega); have fE : Fr (fun _ => False) wB wE := (Fr.refl _ _).drew.trans hO2.own.fr (fun _ _ h => h); refine step_app rfl (.tmp 36) (.tmp 41) 22 22 rfl _ _ _ (by simp [Act.eval]) (by simp [Act.eval]) hr2 ?_))
    have HE := hide (hO2.base ((unhide HF2).drew))
    clear oC oD hO2 hr2 fC fD fE
    go_wp2_with fail
    go_ret
    exact ⟨ao2, cp2, _, by rw [List.length_append]; rfl, unhide HE⟩
  · have q6 : ¬ C = xc := fun h => hcC h.symm
    generalize zs.length = N at *
    go_enter Tryd.func65, Tryd.ntmps65
    go_wp2_with fail
    obtain ⟨W0, hW0⟩ : ∃ W0, w.alloc (.cells #[.pointer (some ⟨tb, 0, none⟩), .int .i64 f, .int .i64 n] 79) = W0 := ⟨_, rfl⟩
    rw [hW0]
    obtain ⟨-, -, -, hF0⟩ := box3p w _ _ _ _ W0 hW0
    refine ((unhide HC).1 _).mono ?_
    rintro e wA ⟨rfl, hFA⟩
    have HF := hide (hF0.trans hFA (fun _ _ h => h))
    clear hF0 hFA hW0
    go_wp2_with fail
    obtain ⟨W1, hW1⟩ : ∃ W1, (wA.alloc (.cells #[.pointer (some ⟨tb, 0, none⟩), .int .i64 f, .int .i64 K] 79)).alloc (.cells #[.pointer (some ⟨tb, 0, none⟩), .int .i64 F2, .int .i64 N2] 79) = W1 := ⟨_, rfl⟩
    rw [hW1]
    obtain ⟨x0, x1, x2, y0, y1, y2, hF1⟩ := two3 wA _ _ _ _ _ _ _ W1 hW1
    refine ((unhide HC).2.1 _ ((unhide HF).trans hF1 (fun _ _ h => h))).mono ?_
    rintro e wB ⟨bb, rfl, hFB⟩
    have u0 := (hFB.cell (lt_of_cell x0) (fun h => h)).trans x0
    have u1 := (hFB.cell (lt_of_cell x1) (fun h => h)).trans x1
    have u2 := (hFB.cell (lt_of_cell x2) (fun h => h)).trans x2
    have v0 := (hFB.cell (lt_of_cell y0) (fun h => h)).trans y0
    have v1 := (hFB.cell (lt_of_cell y1) (fun h => h)).trans y1
    have v2 := (hFB.cell (lt_of_cell y2) (fun h => h)).trans y2
    have HF2 := hide (((unhide HF).trans hF1 (fun _ _ h => h)).trans hFB (fun _ _ h => h))
    clear hF1 hFB hW1 x0 x1 x2 y0 y1 y2 HF
    generalize wA.heap.size = Z at *
    have hS : ∀ w', Fr (fun _ => False) wB w' → w'.cell? ⟨Z, 0, none⟩ = some (.pointer (some ⟨tb, 0, none⟩)) ∧ w'.cell? ⟨Z, 1, none⟩ = some (.int .i64 f) ∧ w'.cell? ⟨Z, 2, none⟩ = some (.int .i64 K) ∧ w'.cell? ⟨Z + 1, 0, none⟩ = some (.pointer (some ⟨tb, 0, none⟩)) ∧ w'.cell? ⟨Z + 1, 1, none⟩ = some (.int .i64 F2) ∧ w'.cell? ⟨Z + 1, 2, none⟩ = some (.int .i64 N2) := fun w' hf =>
      ⟨(hf.cell (lt_of_cell u0) (fun h => h)).trans u0, (hf.cell (lt_of_cell u1) (fun h => h)).trans u1, (hf.cell (lt_of_cell u2) (fun h => h)).trans u2, (hf.cell (lt_of_cell v0) (fun h => h)).trans v0, (hf.cell (lt_of_cell v1) (fun h => h)).trans v1, (hf.cell (lt_of_cell v2) (fun h => h)).trans v2⟩
    have HS := hide hS
    clear hS
    have T1 : True := trivial
    go_wp2_with fail
    go_region_held3 (fun w' => w'.cell? ⟨Z, 0, none⟩ = some (.pointer (some ⟨tb, 0, none⟩)) ∧ w'.cell? ⟨Z, 1, none⟩ = some (.int .i64 f) ∧ w'.cell? ⟨Z, 2, none⟩ = some (.int .i64 K) ∧ w'.cell? ⟨Z + 1, 0, none⟩ = some (.pointer (some ⟨tb, 0, none⟩)) ∧ w'.cell? ⟨Z + 1, 1, none⟩ = some (.int .i64 F2) ∧ w'.cell? ⟨Z + 1, 2, none⟩ = some (.int .i64 N2))
      (first | assumption | exact (unhide HS) _ (Fr.refl _ _).drew | exact (unhide HS) _ fE | exact (unhide HS) _ fD | exact (unhide HS) _ fC)
      (first
        | (go_at_call 65; clear T1; refine ((unhide HC).2.2.1 _ (by exact (unhide HF2).drew)).mono ?_; rintro e wC ⟨ao, cp, vs, rfl, oC⟩; have fC : Fr (fun _ => False) wB wC := (Fr.refl _ _).drew.trans oC.own.fr (fun _ _ h => h))
        | (go_at_call 65; refine ((unhide HC).2.2.2.1 _ (by exact (unhide HF2).trans fC (fun _ _ h => h))).mono ?_; rintro e wD ⟨bo, bc, us, rfl, oD⟩; have fD : Fr (fun _ => False) wB wD := fC.trans oD.own.fr (fun _ _ h => h))
        | (obtain ⟨ao2, cp2, wE, hr2, hO2⟩ := oC.cat oD (by rw [oC.len, oD.len]; have h1 := (unhide HL).1; have h2 := (unhide HL).2; omega); have fE : Fr (fun _ => False) wB wE := (Fr.refl _ _).drew.trans hO2.own.fr (fun _ _ h => h); refine step_app rfl (.tmp 36) (.tmp 41) 22 22 rfl _ _ _ (by simp [Act.eval]) (by simp [Act.eval]) hr2 ?_))
    have HE := hide (hO2.base ((unhide HF2).drew))
    clear oC oD hO2 hr2 fC fD fE
    go_wp2_with fail
    go_ret
    exact ⟨ao2, cp2, _, by rw [List.length_append]; rfl, unhide HE⟩
/-- The hashes for places, of a part. -/
theorem many_any (tb wi : Nat) (hw1 : 1 ≤ wi) (hw32 : wi ≤ 32) (L : List (List Nat)) (k : Nat) : ∀ (f n : Nat) (zs : List Int) (x : Value) (w : World), n ≤ k → Tk w tb wi L → Al f n → f + n ≤ L.length → Ints w x zs → zs.Pairwise (· < ·) → (∀ z ∈ zs, (f : Int) ≤ z ∧ z < f + n) → zs.length ≤ 16000000 → ManySays tb wi L f n zs x w := by
  induction k with
  | zero =>
    intro f n zs x w hk hT hA hL hx hs hz hl
    have e : zs = [] := by
      rcases zs with _ | ⟨a, r⟩
      · rfl
      · have := hz a (by simp); omega
    subst e
    exact many_nil tb wi hw1 hw32 L f n x w hT hA hL hx
  | succ k ih =>
    intro f n zs x w hk hT hA hL hx hs hz hl
    by_cases e : zs = []
    · subst e
      exact many_nil tb wi hw1 hw32 L f n x w hT hA hL hx
    · have hn1 : 1 ≤ n := by
        rcases zs with _ | ⟨a, r⟩
        · exact absurd rfl e
        · have := hz a (by simp); omega
      by_cases h1 : n = 1
      · subst h1
        exact many_one tb wi L f zs x w hx e
      · have hlt := hf_lt n (by omega)
        have hpos := hf_pos n
        obtain ⟨hA1, hA2⟩ := hA.halves (by omega)
        obtain ⟨s1, s2⟩ := count_split ((f + hf n : Nat) : Int) zs hs
        have hle := hT.len
        refine many_two tb wi L f n zs x w (by omega) (by omega) hx e hs hl (fun w' x' hf' hx' => ?_) (fun w' x' hf' hx' => ?_)
        · exact ih f (hf n) _ x' w' (by omega) (hT.fr0 hf') hA1 (by omega) hx' (hs.sublist (List.take_sublist _ _)) (fun z hz' => by have h1 := hz z (List.mem_of_mem_take hz'); have h2 := s1 z hz'; omega) (by rw [List.length_take]; omega)
        · exact ih (f + hf n) (n - hf n) _ x' w' (by omega) (hT.fr0 hf') hA2 (by omega) hx' (hs.sublist (List.drop_sublist _ _)) (fun z hz' => by have h1 := hz z (List.mem_of_mem_drop hz'); have h2 := s2 z hz'; omega) (by rw [List.length_drop]; omega)
end Go.Proofs.YthccbfgjekdiiaaDoor

namespace Go.Proofs.YthccbfgjekdiiaaDoor
open Go.RowKit

/-- Are numbers rising, from l on, below n? -/
def rsF (n : Int) : Int → List Int → Bool
  | _, [] => true
  | l, z :: r => if z < l ∨ n ≤ z then false else rsF n (z + 1) r
theorem rsF_ok (n : Int) : ∀ (zs : List Int) (l : Int), rsF n l zs = true → zs.Pairwise (· < ·) ∧ ∀ z ∈ zs, l ≤ z ∧ z < n := by
  intro zs
  induction zs with
  | nil => intro l _; exact ⟨List.Pairwise.nil, fun z h => by cases h⟩
  | cons a r ih =>
    intro l h
    rw [rsF] at h
    split at h
    · cases h
    · obtain ⟨h1, h2⟩ := ih (a + 1) h
      refine ⟨List.pairwise_cons.2 ⟨fun z hz => by have := h2 z hz; omega, h1⟩, fun z hz => ?_⟩
      rcases List.mem_cons.1 hz with rfl | hz
      · omega
      · have := h2 z hz; omega
theorem Ints.cell {w : World} {xo : Option Addr} {n c : Nat} {zs : List Int} (h : Ints w (.slice xo n c) zs) (k : Nat) (hk : k < zs.length) : ∃ g o, xo = some ⟨g, o, none⟩ ∧ w.cell? ⟨g, o + k, none⟩ = some (.int .i64 zs[k]) := by
  obtain ⟨g, o, e, _, _, _, hc⟩ := h.at_ (by omega)
  refine ⟨g, o, e, ?_⟩
  rw [hc k hk, List.getD, List.getElem?_eq_getElem hk, Option.getD_some]
set_option maxRecDepth 100000 in
set_option maxHeartbeats 1000000 in
/-- merkle.rising. -/
theorem rising_any (x : Value) (zs : List Int) (n : Int) (w : World) (hx : Ints w x zs) (hn : n < 9223372036854775808) (hl : zs.length ≤ 16000000) (hb : ∀ z ∈ zs, -9223372036854775808 ≤ z) :
    Calls Tryd.prog 38 #[x, .int .i64 n] w fun e w' => e = .returned (.bool (rsF n 0 zs)) ∧ w' = w := by
  obtain ⟨xo, xc, rfl⟩ := hx.form
  have HG := hide (And.intro hx (And.intro hl hb))
  obtain ⟨B, hB⟩ : ∃ B, rsF n 0 zs = B := ⟨_, rfl⟩
  rw [hB]
  have HB := hide hB
  clear hx hl hb hB
  generalize hN : zs.length = N at *
  go_enter Tryd.func38, Tryd.ntmps38
  go_wp2_with fail
  go_loopw [5, 10] (fun lv iv wr => ∃ (k : Nat) (l : Int), k ≤ N ∧ iv = .int .i64 (k : Nat) ∧ lv = .int .i64 l ∧ wr = w ∧ rsF n l (zs.drop k) = B) (fun _ iv _ => N - (intOf iv).toNat)
  case atStart => exact ⟨0, 0, Nat.zero_le _, rfl, rfl, rfl, unhide HB⟩
  case round =>
    obtain ⟨k, l, hk, rfl, rfl, rfl, hI⟩ := hrel
    have hN8 := (unhide HG).2.1
    by_cases hlt : k < N
    · have hlt' : (k : Int) < (N : Int) := by omega
      have hkz : k < zs.length := by omega
      obtain ⟨g, o, rfl, hcell⟩ := (unhide HG).1.cell k hkz
      have hzb := (unhide HG).2.2 zs[k] (List.getElem_mem hkz)
      rw [List.drop_eq_getElem_cons hkz, rsF] at hI
      generalize zs[k] = z at *
      have w1 : IntKind.i64.wrap ((k : Int) + 1) = (k : Int) + 1 := by rw [IntKind.wrap_i64]; omega
      by_cases h1 : z < l
      · rw [if_pos (.inl h1)] at hI
        subst hI
        go_wp2_with fail
        go_ret
        exact ⟨rfl, by first | rfl | trivial⟩
      · by_cases h2 : n ≤ z
        · rw [if_pos (.inr h2)] at hI
          subst hI
          go_wp2_with fail
          go_ret
          exact ⟨rfl, by first | rfl | trivial⟩
        · rw [if_neg (by omega)] at hI
          have w2 : IntKind.i64.wrap (z + 1) = z + 1 := by rw [IntKind.wrap_i64]; omega
          have HI := hide hI
          clear hI
          go_wp2_with fail
          exact ⟨⟨k + 1, z + 1, by omega, by go_num, by go_num, by first | rfl | trivial, unhide HI⟩, by simp [intOf]; omega⟩
    · have hkN : k = N := by omega
      have hlt' : ¬ (k : Int) < (N : Int) := by omega
      rw [List.drop_of_length_le (by omega), rsF] at hI
      subst hI
      clear hkN
      go_wp2_with fail
      go_ret
      exact ⟨rfl, by first | rfl | trivial⟩
set_option maxRecDepth 100000 in
set_option maxHeartbeats 1000000 in
theorem tmany_in (tb wi : Nat) (hw1 : 1 ≤ wi) (hw32 : wi ≤ 32) (L : List (List Nat)) (n : Nat) (x : Value) (zs : List Int) (w : World) (hT : Tk w tb wi L) (hn : n ≤ L.length) (hx : Ints w x zs) (hl : zs.length ≤ 16000000) (hr : rsF n 0 zs = true) :
    Calls Tryd.prog 37 #[.pointer (some ⟨tb, 0, none⟩), x, .int .i64 n] w fun e w' => ∃ ao cp vs, e = .returned (.tuple #[.slice ao vs.length cp, .int .i64 0]) ∧ OL w w' ao cp vs (mny wi L 0 n zs) := by
  obtain ⟨c0, c1, htb⟩ := hT.c0
  have hle := hT.len
  obtain ⟨s1, s2⟩ := rsF_ok n zs 0 hr
  have hhas : Calls Tryd.prog 48 #[.pointer (some ⟨tb, 0, none⟩), .int .i64 n] w fun e w' => e = .returned (.bool true) ∧ w' = w := by
    have := has_any tb L.length wi n w c0 c1
    rw [decide_eq_true (by omega)] at this
    exact this
  have hri := rising_any x zs n w hx (by omega) hl (fun z hz => by have := s2 z hz; omega)
  rw [hr] at hri
  have hmn := fun w' (hf : Fr (fun _ => False) w w') => many_any tb wi hw1 hw32 L n 0 n zs x w' (Nat.le_refl _) (hT.fr0 hf) (al_zero n) (by omega) (hx.fr0 hf) s1 (fun z hz => by have := s2 z hz; omega) hl
  unfold ManySays at hmn
  obtain ⟨xo, xc, rfl⟩ := hx.form
  have HG := hide (And.intro hhas (And.intro hri hmn))
  clear hhas hri hmn hT c0 c1 htb hn hx s1 s2 hr hl hle
  generalize zs.length = N at *
  go_enter Tryd.func37, Tryd.ntmps37
  go_wp2_with fail
  refine (unhide HG).1.mono ?_
  rintro e w0 ⟨rfl, rfl⟩
  go_wp2_with fail
  refine (unhide HG).2.1.mono ?_
  rintro e w0 ⟨rfl, rfl⟩
  go_wp2_with fail
  refine (first_any _ _ _).mono ?_
  rintro e w1 ⟨rfl, hF1⟩
  have H1 := hide hF1
  clear hF1
  go_wp2_with fail
  refine ((unhide HG).2.2 w1 (unhide H1)).mono ?_
  rintro e w2 ⟨ao, cp, vs, rfl, hO⟩
  have H2 := hide (hO.base (unhide H1))
  clear hO
  go_wp2_with fail
  go_returns
  exact ⟨ao, cp, vs, rfl, unhide H2⟩
set_option maxRecDepth 100000 in
set_option maxHeartbeats 1000000 in
theorem tmany_no (tb n : Nat) (wi k : Int) (x : Value) (zs : List Int) (w : World) (c0 : w.cell? ⟨tb, 0, none⟩ = some (.int .i64 wi)) (c1 : w.cell? ⟨tb, 1, none⟩ = some (.int .i64 n)) (hx : Ints w x zs) (hl : zs.length ≤ 16000000) (hb : ∀ z ∈ zs, -9223372036854775808 ≤ z) (hk : k < 9223372036854775808) (h : ¬ (1 ≤ wi ∧ wi ≤ 32 ∧ 0 ≤ k ∧ k ≤ n) ∨ rsF k 0 zs = false) :
    Calls Tryd.prog 37 #[.pointer (some ⟨tb, 0, none⟩), x, .int .i64 k] w fun e w' => e = .returned (.tuple #[.slice none 0 0, .int .i64 1]) ∧ w' = w := by
  have hhas := has_any tb n wi k w c0 c1
  have hri := rising_any x zs k w hx hk hl hb
  obtain ⟨xo, xc, rfl⟩ := hx.form
  by_cases hh : 1 ≤ wi ∧ wi ≤ 32 ∧ 0 ≤ k ∧ k ≤ n
  · rw [decide_eq_true hh] at hhas
    have h' : rsF k 0 zs = false := by
      rcases h with h | h
      · exact absurd hh h
      · exact h
    rw [h'] at hri
    have HG := hide (And.intro hhas hri)
    clear hhas h c0 c1 hx hl hb hri h' hh
    generalize zs.length = N at *
    go_enter Tryd.func37, Tryd.ntmps37
    go_wp2_with fail
    refine (unhide HG).1.mono ?_
    rintro e w0 ⟨rfl, rfl⟩
    go_wp2_with fail
    refine (unhide HG).2.mono ?_
    rintro e w0 ⟨rfl, rfl⟩
    go_wp2_with fail
    go_returns
    exact ⟨rfl, rfl⟩
  · rw [decide_eq_false hh] at hhas
    have HG := hide hhas
    clear hhas h hh c0 c1 hx hl hb hri
    generalize zs.length = N at *
    go_enter Tryd.func37, Tryd.ntmps37
    go_wp2_with fail
    refine (unhide HG).mono ?_
    rintro e w0 ⟨rfl, rfl⟩
    go_wp2_with fail
    go_returns
    exact ⟨rfl, rfl⟩
set_option maxRecDepth 100000 in
set_option maxHeartbeats 1000000 in
/-- merkle.Many, of rising places. -/
theorem mmany_in (wi : Nat) (hw1 : 1 ≤ wi) (hw32 : wi ≤ 32) (x y : Value) (us : List Value) (es : List (List Nat)) (zs : List Int) (w : World) (hg : GS w) (ht : GT w) (hp : Pcs w x us es) (hB : ∀ e ∈ es, e.length ≤ 16000000) (hn : es.length ≤ 8000000) (hy : Ints w y zs) (hl : zs.length ≤ 16000000) (hr : rsF es.length 0 zs = true) :
    Calls Tryd.prog 13 #[.int .i64 wi, x, y] w fun e w' => ∃ ao cp vs, e = .returned (.tuple #[.slice ao vs.length cp, .int .i64 0]) ∧ OL w w' ao cp vs (mny wi (es.map (lf wi)) 0 es.length zs) := by
  have hgr := grown_in wi hw1 hw32 x us es w hg hp hB hn
  have htr := fun w' tb (hf : Fr (fun _ => False) w w') (hT : Tk w' tb wi (es.map (lf wi))) => tmany_in tb wi hw1 hw32 (es.map (lf wi)) es.length y zs w' hT (by rw [List.length_map]; exact Nat.le_refl _) (hy.fr0 hf) hl hr
  obtain ⟨xo, xc, rfl⟩ := hp.form
  obtain ⟨yo, yc, rfl⟩ := hy.form
  have HT := hide (fun (w' : World) (tb base : Nat) (xo : Option Addr) (cp : Nat) (vs : List Value) (rs : List (List Nat)) (hT : TrAt w' base tb wi es.length xo cp vs rs) hR hf => tk_of hw1 hw32 hT hR hg ht hf hn)
  have HG := hide (And.intro hgr htr)
  clear hgr htr hg ht hp hB hn hy hl hr
  generalize mny wi (es.map (lf wi)) 0 es.length zs = M at *
  generalize es.length = N at *
  generalize zs.length = ZN at *
  go_enter Tryd.func13, Tryd.ntmps13
  go_wp2_with fail
  refine (unhide HG).1.mono ?_
  rintro e w1 ⟨rfl, yo, cp, vs, rs, hT, hR, hF⟩
  have hk := (unhide HT) _ _ _ _ _ _ _ hT hR hF
  have H1 := hide (And.intro hk hF)
  clear hk hF hT hR
  generalize w.heap.size = TB at *
  go_wp2_with fail
  refine ((unhide HG).2 w1 TB (unhide H1).2 (unhide H1).1).mono ?_
  rintro e w2 ⟨ao, cp, vs, rfl, hO⟩
  have H2 := hide (hO.base (unhide H1).2)
  clear hO
  go_wp2_with fail
  go_returns
  exact ⟨ao, cp, vs, rfl, unhide H2⟩
set_option maxRecDepth 100000 in
set_option maxHeartbeats 1000000 in
theorem mmany_no (j : Int) (x y : Value) (us : List Value) (es : List (List Nat)) (zs : List Int) (w : World) (hg : GS w) (hp : Pcs w x us es) (hB : ∀ e ∈ es, e.length ≤ 16000000) (hn : es.length ≤ 8000000) (hy : Ints w y zs) (hl : zs.length ≤ 16000000) (hzb : ∀ z ∈ zs, -9223372036854775808 ≤ z) (hi : (j < 1 ∨ 32 < j) ∨ rsF es.length 0 zs = false) :
    Calls Tryd.prog 13 #[.int .i64 j, x, y] w fun e w' => e = .returned (.tuple #[.slice none 0 0, .int .i64 1]) ∧ Fr (fun _ => False) w w' := by
  have hgr : Calls Tryd.prog 19 #[.int .i64 j, x] w fun e w' => e = .returned (.pointer (some ⟨w.heap.size, 0, none⟩)) ∧ w'.cell? ⟨w.heap.size, 0, none⟩ = some (.int .i64 j) ∧ w'.cell? ⟨w.heap.size, 1, none⟩ = some (.int .i64 es.length) ∧ Fr (fun _ => False) w w' := by
    by_cases hj : 1 ≤ j ∧ j ≤ 32
    · obtain ⟨wi, rfl⟩ : ∃ n : Nat, j = (n : Int) := ⟨j.toNat, by omega⟩
      refine (grown_in wi (by omega) (by omega) x us es w hg hp hB hn).mono ?_
      rintro e w' ⟨rfl, xo, cp, vs, rs, hT, _, hF⟩
      exact ⟨rfl, hT.cells.1, hT.cells.2.1, hF⟩
    · refine (grown_out j (by omega) x us es w hp hn).mono ?_
      rintro e w' ⟨rfl, hT, hF⟩
      exact ⟨rfl, hT.cells.1, hT.cells.2.1, hF⟩
  have htr := fun (w' : World) (tb : Nat) (hf : Fr (fun _ => False) w w') (h0 : w'.cell? ⟨tb, 0, none⟩ = some (.int .i64 j)) (h1 : w'.cell? ⟨tb, 1, none⟩ = some (.int .i64 es.length)) => tmany_no tb es.length j es.length y zs w' h0 h1 (hy.fr0 hf) hl hzb (by omega) (hi.imp (fun h => by omega) id)
  obtain ⟨xo, xc, rfl⟩ := hp.form
  obtain ⟨yo, yc, rfl⟩ := hy.form
  have HG := hide (And.intro hgr htr)
  clear hgr htr hp hg hB hn hi hy hl hzb
  generalize es.length = N at *
  generalize zs.length = ZN at *
  go_enter Tryd.func13, Tryd.ntmps13
  go_wp2_with fail
  refine (unhide HG).1.mono ?_
  rintro e w1 ⟨rfl, h0, h1, hF⟩
  have H1 := hide (And.intro h0 (And.intro h1 hF))
  clear hF h0 h1
  generalize w.heap.size = TB at *
  go_wp2_with fail
  refine ((unhide HG).2 w1 TB (unhide H1).2.2 (unhide H1).1 (unhide H1).2.1).mono ?_
  rintro e w2 ⟨rfl, rfl⟩
  go_wp2_with fail
  go_returns
  exact ⟨rfl, (unhide H1).2.2⟩
end Go.Proofs.YthccbfgjekdiiaaDoor

namespace Go.Proofs.YthccbfgjekdiiaaDoor
open Go.RowKit

set_option maxRecDepth 100000 in
set_option maxHeartbeats 2000000 in
/-- The document's Rising. -/
theorem grising_any (x : Value) (zs : List Int) (n : Int) (w : World) (hx : Ints w x zs) (hl : zs.length ≤ 16000000) (hb : ∀ z ∈ zs, -9223372036854775808 ≤ z) :
    Calls Tryd.prog 76 #[x, .int .i64 n] w fun e w' => e = .returned (.bool (rsF n 0 zs)) ∧ Fr (fun _ => False) w w' := by
  obtain ⟨xo, xc, rfl⟩ := hx.form
  have HG := hide (And.intro hx (And.intro hl hb))
  obtain ⟨B, hB⟩ : ∃ B, rsF n 0 zs = B := ⟨_, rfl⟩
  rw [hB]
  have HB := hide hB
  clear hx hl hb hB
  generalize hN : zs.length = N at *
  go_enter Tryd.func76, Tryd.ntmps76
  go_wp2_with fail
  go_loopw [5] (fun iv wr => ∃ (k : Nat) (l : Int), k ≤ N ∧ iv = .int .i64 (k : Nat) ∧ Fr (fun _ => False) w wr ∧ rsF n l (zs.drop k) = B ∧ (k = 0 ∧ l = 0 ∨ ∃ m z, k = m + 1 ∧ zs[m]? = some z ∧ 0 ≤ z ∧ l = z + 1)) (fun iv _ => N - (intOf iv).toNat)
  case atStart => exact ⟨0, 0, Nat.zero_le _, rfl, Fr.refl _ _, unhide HB, .inl ⟨rfl, rfl⟩⟩
  case round =>
    obtain ⟨k, l, hk, rfl, hF, hI, hK⟩ := hrel
    have hN8 := (unhide HG).2.1
    by_cases hlt : k < N
    · have hlt' : (k : Int) < (N : Int) := by omega
      have hkz : k < zs.length := by omega
      have hx := (unhide HG).1.fr0 hF
      obtain ⟨g, o, rfl, hcell⟩ := hx.cell k hkz
      have hzb := (unhide HG).2.2 zs[k] (List.getElem_mem hkz)
      rw [List.drop_eq_getElem_cons hkz, rsF] at hI
      have hzk : zs[k]? = some zs[k] := List.getElem?_eq_getElem hkz
      have w1 : IntKind.i64.wrap ((k : Int) + 1) = (k : Int) + 1 := by rw [IntKind.wrap_i64]; omega
      rcases hK with ⟨h0, rfl⟩ | ⟨m, p, rfl, hm, hp0, rfl⟩
      · generalize zs[k] = z at *
        have k0 : decide ((0 : Int) < (k : Int)) = false := decide_eq_false (by omega)
        have k01 : decide (0 < k) = false := decide_eq_false (by omega)
        clear h0
        have HF := hide hF
        have HZ := hide hzk
        clear hF hx hzk
        by_cases h1 : z < 0
        · rw [if_pos (.inl h1)] at hI
          subst hI
          go_wp2_with fail
          go_quiet (fail)
          go_wp2_with fail
          go_ret
          exact ⟨rfl, (unhide HF).drewN _⟩
        · have d1 : decide (z < 0) = false := decide_eq_false h1
          by_cases h2 : n ≤ z
          · rw [if_pos (.inr h2)] at hI
            subst hI
            go_wp2_with fail
            go_quiet (fail)
            go_wp2_with fail
            go_ret
            exact ⟨rfl, (unhide HF).drewN _⟩
          · rw [if_neg (by omega)] at hI
            have d2 : decide (n ≤ z) = false := decide_eq_false h2
            have HI := hide hI
            clear hI
            go_wp2_with fail
            go_quiet (fail)
            go_wp2_with fail
            exact ⟨⟨k + 1, z + 1, by omega, by go_num, (unhide HF).drewN _, unhide HI, .inr ⟨k, z, rfl, unhide HZ, by omega, rfl⟩⟩, by simp [intOf]; omega⟩
      · have hmz : m < zs.length := by omega
        obtain ⟨g2, o2, e2, hcell2⟩ := hx.cell m hmz
        have hmm : zs[m] = p := by rw [List.getElem?_eq_getElem hmz] at hm; exact Option.some.inj hm
        rw [hmm] at hcell2
        cases e2
        generalize zs[m + 1] = z at *
        have w2 : IntKind.i64.wrap ((m : Int) + 1 - 1) = (m : Int) := by rw [IntKind.wrap_i64]; omega
        have w3 : IntKind.i64.wrap (((m + 1 : Nat) : Int) - 1) = (m : Int) := by rw [IntKind.wrap_i64]; omega
        have k0 : (0 : Int) < ((m + 1 : Nat) : Int) := by omega
        have k1 : (m : Int) < (N : Int) := by omega
        have HF := hide hF
        have HZ := hide hzk
        clear hF hx hzk hm hmm
        by_cases h1 : z < 0
        · rw [if_pos (.inl (by omega))] at hI
          subst hI
          go_wp2_with fail
          go_quiet (fail)
          go_wp2_with fail
          go_ret
          exact ⟨rfl, (unhide HF).drewN _⟩
        · have d1 : decide (z < 0) = false := decide_eq_false h1
          by_cases h2 : n ≤ z
          · rw [if_pos (.inr h2)] at hI
            subst hI
            go_wp2_with fail
            go_quiet (fail)
            go_wp2_with fail
            go_ret
            exact ⟨rfl, (unhide HF).drewN _⟩
          · have d2 : decide (n ≤ z) = false := decide_eq_false h2
            by_cases h3 : z ≤ p
            · rw [if_pos (.inl (by omega))] at hI
              subst hI
              go_wp2_with fail
              go_quiet (fail)
              go_wp2_with fail
              go_ret
              exact ⟨rfl, (unhide HF).drewN _⟩
            · have d3 : decide (z ≤ p) = false := decide_eq_false h3
              rw [if_neg (by omega)] at hI
              have HI := hide hI
              clear hI
              go_wp2_with fail
              go_quiet (fail)
              go_wp2_with fail
              exact ⟨⟨m + 1 + 1, z + 1, by omega, by go_num, (unhide HF).drewN _, unhide HI, .inr ⟨m + 1, z, rfl, unhide HZ, by omega, rfl⟩⟩, by simp [intOf]; omega⟩
    · have hkN : k = N := by omega
      have hlt' : ¬ (k : Int) < (N : Int) := by omega
      rw [List.drop_of_length_le (by omega), rsF] at hI
      subst hI
      have HF := hide hF
      clear hkN hF hK
      go_wp2_with fail
      go_ret
      exact ⟨rfl, unhide HF⟩
end Go.Proofs.YthccbfgjekdiiaaDoor

namespace Go.Proofs.YthccbfgjekdiiaaDoor
open Go.RowKit

theorem Tryd.infoInt : (Tryd.prog.info? 3).map (fun i => (i.zero, i.size, i.bytes)) = some (some (.int .i64 0), 1, 8) := by kernel_rfl
def IV (zs : List Int) : List Value := zs.map (.int .i64 ·)
theorem IV_len (zs : List Int) : (IV zs).length = zs.length := List.length_map _
theorem IV_app (a b : List Int) : IV (a ++ b) = IV a ++ IV b := List.map_append
theorem own_form3 {w : World} {base n : Nat} {v : Value} {xs : List Value} (h : w.ownsRow base 3 1 v n xs) : ∃ ao cap, v = .slice ao n cap := by
  rcases h.2 with ⟨rfl, rfl⟩ | ⟨g, cap, cur, rfl, _⟩
  · exact ⟨none, 0, rfl⟩
  · exact ⟨some ⟨g, 0, none⟩, cap, rfl⟩
/-- append(v, x...) of whole numbers. -/
theorem run_app_in (w : World) (base n : Nat) (v x : Value) (xs : List Value) (zs : List Int) (hown : w.ownsRow base 3 1 v n xs) (hx : Ints w x zs) (hb : n + zs.length ≤ 1000000000) (hbase : base ≤ w.heap.size) :
    ∃ ao cap w', (Builtin.append_ #[23, 23] 23 #[v, x]).run Tryd.prog w = .ok (.slice ao (n + zs.length) cap) w' ∧ w'.ownsRow base 3 1 (.slice ao (n + zs.length) cap) (n + zs.length) (xs ++ IV zs) ∧ w.grownBy w' v.ownBlock ∧
      ((Value.slice ao (n + zs.length) cap).ownBlock = v.ownBlock ∨ (Value.slice ao (n + zs.length) cap).ownBlock = some w.heap.size) := by
  obtain ⟨i0, hi, hz0, hz1, hz2⟩ := info_parts Tryd.infoInt
  have hone : ∀ u ∈ IV zs, u.oneCell' = true := fun u hu => by
    obtain ⟨z, _, rfl⟩ := List.mem_map.1 hu
    rfl
  rcases hx with ⟨rfl, rfl⟩ | ⟨ad, c, rfl, rfl⟩ | ⟨g, o, c, rfl, hlc, hgl, hc⟩
  · have hr := run_append_owned_none (P := Tryd.prog) w base 23 23 3 i0 1 Tryd.underlying23 hi v n xs hown
    obtain ⟨ao, cap, rfl⟩ := own_form3 hown
    exact ⟨ao, cap, w, by simpa using hr, by simpa [IV] using hown, ⟨rfl, rfl, rfl, Nat.le_refl _, fun _ _ _ => rfl⟩, .inl rfl⟩
  · obtain ⟨v', w', hr, h2, h3, _, h5⟩ := run_append_own_at (P := Tryd.prog) w base 23 23 3 i0 (.int .i64 0) 1 8 Tryd.underlying23 hi hz0 hz1 hz2 rfl (by decide) v n xs hown ad 0 c [] rfl (fun j u hu => by simp at hu) (fun u hu => by simp at hu) (by simp only [maxLen]; simp at hb; omega) (by simp at hb; omega) hbase
    obtain ⟨ao, cap, rfl⟩ := own_form3 h2
    exact ⟨ao, cap, w', hr, h2, h3, h5⟩
  · obtain ⟨v', w', hr, h2, h3, _, h5⟩ := run_append_own_at (P := Tryd.prog) w base 23 23 3 i0 (.int .i64 0) 1 8 Tryd.underlying23 hi hz0 hz1 hz2 rfl (by decide) v n xs hown ⟨g, o, none⟩ zs.length c (IV zs) (by simp [IV]) (fun j u hu => by
        have hj : j < zs.length := by have := (List.getElem?_eq_some_iff.1 hu).1; rw [IV_len] at this; exact this
        rw [add_at2, hc j hj]
        rw [IV, List.getElem?_map, List.getElem?_eq_getElem hj] at hu
        rw [List.getD, List.getElem?_eq_getElem hj]
        exact hu) hone (by simp only [maxLen]; omega) (by omega) hbase
    obtain ⟨ao, cap, rfl⟩ := own_form3 h2
    exact ⟨ao, cap, w', hr, h2, h3, h5⟩
/-- Whole numbers in memory of one's own. -/
structure OI (w wr : World) (v : Value) (zs : List Int) : Prop where
  own : wr.ownsRow w.heap.size 3 1 v zs.length (IV zs)
  fr : Fr (fun _ => False) w wr
theorem OI.nil (w : World) : OI w w (.slice none 0 0) [] := ⟨⟨rfl, .inl ⟨rfl, rfl⟩⟩, Fr.refl _ _⟩
theorem OI.form {w wr : World} {v : Value} {zs : List Int} (h : OI w wr v zs) : ∃ ao cap, v = .slice ao zs.length cap := own_form3 h.own
theorem OI.fr0 {w wr wq : World} {v : Value} {zs : List Int} (h : OI w wr v zs) (hf : Fr (fun _ => False) wr wq) : OI w wq v zs :=
  ⟨ownsRow_of_block h.own (fun g hg => hf.block g (h.own.lt g hg).2 (fun h => h)), h.fr.trans hf (fun _ _ h => h)⟩
theorem OI.ints {w wr : World} {v : Value} {zs : List Int} (h : OI w wr v zs) : Ints wr v zs := by
  rcases h.own.2 with ⟨e, e0⟩ | ⟨g, cap, cur, e, _, _, h3, _⟩
  · exact .inl ⟨e, List.length_eq_zero_iff.1 e0⟩
  · subst e
    refine .inr (.inr ⟨g, 0, cap, rfl, h3, (h.own.lt g rfl).2, fun j hj => ?_⟩)
    rw [Nat.zero_add, h.own.cellAt j (by omega), IV, List.getElem?_map, List.getElem?_eq_getElem hj, List.getD, List.getElem?_eq_getElem hj]
    rfl
/-- Others are appended; what lies in another block stays. -/
theorem OI.app {w wr : World} {v x : Value} {zs ys : List Int} (h : OI w wr v zs) (hx : Ints wr x ys) (hb : zs.length + ys.length ≤ 1000000000) :
    ∃ ao cap w', (Builtin.append_ #[23, 23] 23 #[v, x]).run Tryd.prog wr = .ok (.slice ao (zs.length + ys.length) cap) w' ∧ OI w w' (.slice ao (zs.length + ys.length) cap) (zs ++ ys) ∧ wr.grownBy w' v.ownBlock ∧ ((Value.slice ao (zs.length + ys.length) cap).ownBlock = v.ownBlock ∨ (Value.slice ao (zs.length + ys.length) cap).ownBlock = some wr.heap.size) := by
  obtain ⟨ao, cap, w', hr, ho, hg, hat⟩ := run_app_in wr w.heap.size zs.length v x (IV zs) ys h.own hx hb h.fr.size
  refine ⟨ao, cap, w', hr, ⟨?_, h.fr.grown hg (fun g hg => .inr (h.own.lt g hg).1)⟩, hg, hat⟩
  rw [List.length_append, IV_app]
  exact ho
/-- The places below, the others less k. -/
def pa (k : Int) (zs : List Int) : List Int := zs.filter (fun z => decide (z < k))
def pb (k : Int) (zs : List Int) : List Int := (zs.filter (fun z => !decide (z < k))).map (· - k)
theorem pa_le (k : Int) (zs : List Int) : (pa k zs).length ≤ zs.length := List.length_filter_le _ _
theorem pb_le (k : Int) (zs : List Int) : (pb k zs).length ≤ zs.length := by rw [pb, List.length_map]; exact List.length_filter_le _ _
theorem pa_app (k : Int) (a b : List Int) : pa k (a ++ b) = pa k a ++ pa k b := List.filter_append _ _
theorem pb_app (k : Int) (a b : List Int) : pb k (a ++ b) = pb k a ++ pb k b := by rw [pb, List.filter_append, List.map_append]; rfl
/-- Two own lists; one more behind the first. -/
theorem OI.two {w wr : World} {v u : Value} {zs ys : List Int} (h : OI w wr v zs) (h' : OI w wr u ys) (hap : ∀ g, v.ownBlock = some g → u.ownBlock = some g → False) (z : Int) (hb : zs.length < 16000000) :
    ∃ ao cap w', (Builtin.append_ #[23, 23] 23 #[v, .slice (some ⟨wr.heap.size, 0, none⟩) 1 1]).run Tryd.prog (wr.alloc (.cells #[.int .i64 z] 3)) = .ok (.slice ao (zs.length + 1) cap) w' ∧ OI w w' (.slice ao (zs.length + 1) cap) (zs ++ [z]) ∧ OI w w' u ys ∧ ∀ g, (Value.slice ao (zs.length + 1) cap).ownBlock = some g → u.ownBlock = some g → False := by
  have hF : Fr (fun _ => False) wr (wr.alloc (.cells #[.int .i64 z] 3)) := (Fr.refl _ _).alloc _
  have hx : Ints (wr.alloc (.cells #[.int .i64 z] 3)) (.slice (some ⟨wr.heap.size, 0, none⟩) 1 1) [z] := by
    refine .inr (.inr ⟨wr.heap.size, 0, 1, rfl, Nat.le_refl _, by simp, fun j hj => ?_⟩)
    have hj0 : j = 0 := by simp at hj; exact hj
    subst hj0
    rw [World.cell?_alloc_at _ _ _ _ rfl]
    rfl
  obtain ⟨ao, cap, w', hr, hO, hg, hat⟩ := (h.fr0 hF).app hx (by simp; omega)
  refine ⟨ao, cap, w', hr, hO, ⟨ownsRow_of_block (h'.fr0 hF).own (fun g hgu => ?_), hO.fr⟩, fun g h1 h2 => ?_⟩
  · exact hg.block g ((h'.fr0 hF).own.lt g hgu).2 (fun hv => hap g hv.symm hgu)
  · rcases hat with e | e
    · exact hap g ((show _ = v.ownBlock from e).symm.trans h1) h2
    · have e1 : (Value.slice ao (zs.length + 1) cap).ownBlock = some (wr.alloc (.cells #[.int .i64 z] 3)).heap.size := e
      rw [e1] at h1
      have := (h'.own.lt g h2).2
      simp at h1
      omega
end Go.Proofs.YthccbfgjekdiiaaDoor

namespace Go.Proofs.YthccbfgjekdiiaaDoor
open Go.RowKit

theorem own_pre {w : World} {base e g N n cap : Nat} {ys : List Value} (h : w.ownsRow base e 1 (.slice (some ⟨g, 0, none⟩) N cap) N ys) (hn : n ≤ N) : w.ownsRow base e 1 (.slice (some ⟨g, 0, none⟩) n cap) n (ys.take n) := by
  rcases h.2 with ⟨e1, _⟩ | ⟨g', cap', cur, e1, h1, h2, h3, h4, h5, h6⟩
  · simp at e1
  · simp only [Value.slice.injEq, Option.some.injEq, Addr.mk.injEq, and_true, true_and] at e1
    obtain ⟨rfl, rfl⟩ := e1
    have hl : ys.length = N := by simpa using h.1
    refine ⟨by rw [List.length_take, hl]; omega, .inr ⟨g, cap, cur, rfl, h1, h2, by omega, h4, h5, ?_⟩⟩
    rw [← h6, List.take_take]
    congr 1
    omega
/-- What is appended to a row of one's own leaves the row. -/
theorem app_past (w : World) (base t e n cap m : Nat) (i : TypeInfo) (z : Value) (bytes : Nat) (ht : Tryd.prog.underlying t = some (.slice e)) (hi : Tryd.prog.info? e = some i) (hz : i.zero = some z) (hsz : i.size = 1) (hby : i.bytes = bytes) (hzs : z.cells.size = 1) (ao : Option Addr) (xs : List Value)
    (hown : w.ownsRow base e 1 (.slice ao n cap) n xs) (g0 c0 : Nat) (news : List Value) (hl : news.length = m) (hnews : ∀ (j : Nat) u, news[j]? = some u → w.cell? ⟨g0, j, none⟩ = some u) (h1 : ∀ u ∈ news, u.oneCell' = true) (hm : 0 < m) (hb : (n + m) * bytes ≤ 140737488355328) (hb2 : n + m ≤ 1000000000) (hbase : base ≤ w.heap.size) :
    ∃ g cap' w', (Builtin.append_ #[t, t] t #[.slice ao n cap, .slice (some ⟨g0, 0, none⟩) m c0]).run Tryd.prog w = .ok (.slice (some ⟨g, 0, none⟩) (n + m) cap') w' ∧ w'.ownsRow base e 1 (.slice (some ⟨g, 0, none⟩) (n + m) cap') (n + m) (xs ++ news) ∧ w.grownBy w' (Value.slice ao n cap).ownBlock ∧
      ((ao = some ⟨g, 0, none⟩ ∧ cap' = cap) ∨ (g = w.heap.size ∧ ∀ k, k < w.heap.size → w'.heap[k]? = w.heap[k]?)) := by
  have hn' : ∀ (j : Nat) u, news[j]? = some u → w.cell? ((⟨g0, 0, none⟩ : Addr).add j) = some u := fun j u hu => by rw [add_at]; exact hnews j u hu
  obtain ⟨v', w', hr, h2, h3, _, h5⟩ := run_append_own_at (P := Tryd.prog) w base t t e i z 1 bytes ht hi hz hsz hby hzs (by decide) (.slice ao n cap) n xs hown ⟨g0, 0, none⟩ m c0 news (by rw [hl, Nat.mul_one]) hn' h1 (by simp only [maxLen]; omega) hb hbase
  obtain ⟨g, cap', rfl, _, hlt⟩ := h2.form (by omega)
  refine ⟨g, cap', w', hr, h2, h3, ?_⟩
  have hxl : xs.length = n := by simpa using hown.1
  rcases hown.2 with ⟨e1, e2⟩ | ⟨q, cap2, cur, e1, k1, k2, k3, k4, k5, k6⟩
  · simp only [Value.slice.injEq] at e1
    obtain ⟨rfl, rfl, rfl⟩ := e1
    right
    have hr2 := run_append_nil (P := Tryd.prog) w t t e i z ht hi hz ⟨g0, 0, none⟩ m c0 news (by rw [hl, hsz, Nat.mul_one]) hn' hm (by omega) (by rw [hby]; rw [Nat.zero_add] at hb; omega)
    rw [hr] at hr2
    injection hr2 with f1 f2
    injection f1 with f1 _ _
    injection f1 with f1
    injection f1 with f1 _ _
    refine ⟨f1, fun k hk => ?_⟩
    rw [f2]
    exact Below.heap_alloc _ _ _ hk
  · simp only [Value.slice.injEq, true_and] at e1
    obtain ⟨rfl, rfl⟩ := e1
    by_cases hroom : n + m ≤ cap
    · left
      have hr2 := run_append_room (P := Tryd.prog) w t t e i ht hi q n cap cur k2 ⟨g0, 0, none⟩ m c0 news (by rw [hl, hsz, Nat.mul_one]) hn' h1 hroom (by rw [hsz, hl, Nat.mul_one]; omega)
      rw [hr] at hr2
      injection hr2 with f1 f2
      injection f1 with f1 _ f3
      injection f1 with f1
      injection f1 with f1 _ _
      subst f1 f3
      exact ⟨rfl, rfl⟩
    · right
      have hr2 := run_append_grow (P := Tryd.prog) w t t e i z ht hi hz ⟨q, 0, none⟩ n cap xs (by rw [hxl, hsz, Nat.mul_one]) (hown.cells (g := q) rfl) ⟨g0, 0, none⟩ m c0 news (by rw [hl, hsz, Nat.mul_one]) hn' (by omega) (by omega) (by rw [hby]; exact growslice_fits (by omega) hb)
      rw [hr] at hr2
      injection hr2 with f1 f2
      injection f1 with f1 _ _
      injection f1 with f1
      injection f1 with f1 _ _
      refine ⟨f1, fun k hk => ?_⟩
      rw [f2]
      exact Below.heap_alloc _ _ _ hk
/-- A byte of one hash written. -/
theorem OL.setB {w wr : World} {ao : Option Addr} {cp : Nat} {vs : List Value} {ps : List (List Nat)} (h : OL w wr ao cp vs ps) (i j g c u : Nat) (p : List Nat) (hv : vs[i]? = some (.slice (some ⟨g, 0, none⟩) p.length c)) (hp : ps[i]? = some p) (hu : u < 256) :
    OL w (wr.setCell ⟨g, j, none⟩ (.int .u8 (u : Int))) ao cp vs (ps.set i (p.set j u)) := by
  have hil : i < ps.length := (List.getElem?_eq_some_iff.1 hp).1
  obtain ⟨bo, c', e, hO⟩ := h.row i _ p hv hp
  simp only [Value.slice.injEq, true_and] at e
  obtain ⟨rfl, rfl⟩ := e
  have hg := hO.lt
  refine ⟨⟨ownsRow_of_block h.own.own (fun q hq => heap_setCell_other _ _ _ _ (fun e => ?_)), h.own.fr.setCell (.inr hg.1) _⟩, by rw [List.length_set]; exact h.len, fun j' v p' hv' hp' => ?_, h.apart, fun p' hp' => ?_⟩
  · subst e; exact own_ne h.own.own hO _ hq rfl
  · by_cases hji : j' = i
    · subst hji
      rw [List.getElem?_set_self hil] at hp'
      cases hp'
      rw [hv] at hv'
      cases hv'
      exact ⟨_, c, by rw [List.length_set], hO.set j u hu⟩
    · rw [List.getElem?_set_ne (fun e => hji e.symm)] at hp'
      obtain ⟨bo, c2, e, hO2⟩ := h.row j' v p' hv' hp'
      refine ⟨bo, c2, e, ownsRow_of_block hO2 (fun q hq => heap_setCell_other _ _ _ _ (fun e2 => ?_))⟩
      exact h.apart j' i v _ q g hji hv' hv (by rw [e]; exact hq) rfl e2
  · rcases List.mem_or_eq_of_mem_set hp' with h1 | h1
    · exact h.byt p' h1
    · subst h1; exact set_lt p j u hu (h.byt p (List.mem_of_getElem? hp))
end Go.Proofs.YthccbfgjekdiiaaDoor

namespace Go.Proofs.YthccbfgjekdiiaaDoor
open Go.RowKit

def lit9 : Array Value := #[.int .u8 98, .int .u8 98, .int .u8 98, .int .u8 98, .int .u8 98, .int .u8 98, .int .u8 98, .int .u8 98, .int .u8 98]
def lit5 : Array Value := #[.slice none 0 0, .slice none 0 0, .slice none 0 0, .slice none 0 0, .slice none 0 0]
theorem OL.blocks {w wr wq : World} {ao : Option Addr} {cp : Nat} {vs : List Value} {ps : List (List Nat)} (h : OL w wr ao cp vs ps) (hf : Fr (fun _ => False) w wq) (hb : ∀ k, k < wr.heap.size → wq.heap[k]? = wr.heap[k]?) : OL w wq ao cp vs ps :=
  ⟨⟨ownsRow_of_block h.own.own (fun g hg => hb g (h.own.own.lt g hg).2), hf⟩, h.len, fun j v p hv hp => by
    obtain ⟨bo, c, e, hO⟩ := h.row j v p hv hp
    exact ⟨bo, c, e, ownsRow_of_block hO (fun g hg => hb g (World.ownsRow.lt hO g hg).2)⟩, h.apart, h.byt⟩
/-- A hash grown by nine, and the last of them written. -/
theorem OL.past {w wr : World} {ao : Option Addr} {cp : Nat} {vs : List Value} {ps : List (List Nat)} (h : OL w wr ao cp vs ps) (i n c H : Nat) (bo : Option Addr) (p : List Nat) (hv : vs[i]? = some (.slice bo n c)) (hp : ps[i]? = some p) (hn : p.length = n) (hnb : n ≤ 1000000) (hH : ∀ v ∈ vs, ∀ g, v.ownBlock = some g → g < H) :
    ∃ g cap' w2, (Builtin.append_ #[25, 25] 25 #[.slice bo n c, .slice (some ⟨wr.heap.size, 0, none⟩) 9 9]).run Tryd.prog (wr.alloc (.cells lit9 5)) = .ok (.slice (some ⟨g, 0, none⟩) (n + 9) cap') w2 ∧ (∃ u, w2.cell? ⟨g, n + 8, none⟩ = some u) ∧ w2.frozen? ⟨g, n + 8, none⟩ = false ∧
      OL w (w2.setCell ⟨g, n + 8, none⟩ (.int .u8 97)) ao cp vs ps ∧ Fr (fun k => k < H) wr (w2.setCell ⟨g, n + 8, none⟩ (.int .u8 97)) := by
  subst hn
  obtain ⟨bo', c', e, hO⟩ := h.row i _ p hv hp
  simp only [Value.slice.injEq, true_and] at e
  obtain ⟨rfl, rfl⟩ := e
  obtain ⟨i0, hi, hz0, hz1, hz2⟩ := info_parts Tryd.infoU8
  have hFa : Fr (fun _ => False) wr (wr.alloc (.cells lit9 5)) := (Fr.refl _ _).alloc _
  have hOa : (wr.alloc (.cells lit9 5)).ownsRow w.heap.size 5 1 (.slice bo p.length c) p.length (cellsOf p) := hO.fr0 hFa
  have hbo : ∀ q, (Value.slice bo p.length c).ownBlock = some q → q < H ∧ w.heap.size ≤ q ∧ q < wr.heap.size := fun q hq => ⟨hH _ (List.mem_of_getElem? hv) q hq, (World.ownsRow.lt hO q hq).1, (World.ownsRow.lt hO q hq).2⟩
  obtain ⟨g, cap', w2, hr, hown, hg, hat⟩ := app_past (wr.alloc (.cells lit9 5)) w.heap.size 25 5 p.length c 9 i0 (.int .u8 0) 1 Tryd.underlying25 hi hz0 hz1 hz2 rfl bo (cellsOf p) hOa wr.heap.size 9 lit9.toList rfl (fun j u hu => by
    rw [World.cell?_alloc_at _ _ _ _ rfl]; simpa using hu) (fun u hu => by simp [lit9] at hu; subst hu; rfl) (by decide) (by omega) (by omega) (by have := h.own.fr.size; simp; omega)
  have hsz : w.heap.size ≤ wr.heap.size := h.own.fr.size
  have hcell : w2.cell? ⟨g, p.length + 8, none⟩ = _ := hown.cellAt (p.length + 8) (by omega)
  obtain ⟨u, hu⟩ : ∃ u, (cellsOf p ++ lit9.toList)[p.length + 8]? = some u := ⟨_, List.getElem?_eq_getElem (by rw [List.length_append, cellsOf_length]; simp [lit9])⟩
  have hst := (World.ownsRow.stored hown (p.length + 8) (.int .u8 97)).1
  have hgl : g < w2.heap.size := (hown.lt g rfl).2
  have hgb : w.heap.size ≤ g := (hown.lt g rfl).1
  have hF2 : Fr (fun k => (Value.slice bo p.length c).ownBlock = some k) wr w2 := ((Fr.refl _ _).alloc _).grown hg (fun q hq => .inl hq)
  refine ⟨g, cap', w2, hr, ⟨u, hcell.trans hu⟩, hown.frozenAt _, ?_, ?_⟩
  · rcases hat with ⟨rfl, rfl⟩ | ⟨hgn, hbl⟩
    · have hne : ∀ q, (Value.slice ao vs.length cp).ownBlock = some q → q ≠ g := fun q hq e => own_ne h.own.own hO q hq (by rw [e]; rfl)
      have hkeep : ∀ q, q < wr.heap.size → q ≠ g → (w2.setCell ⟨g, p.length + 8, none⟩ (.int .u8 97)).heap[q]? = wr.heap[q]? := fun q hq hqg => by
        rw [heap_setCell_other _ _ _ _ hqg]
        exact hF2.block q hq (fun e => hqg (by simp only [Value.ownBlock, Option.some.injEq] at e; exact e.symm))
      refine ⟨⟨ownsRow_of_block h.own.own (fun q hq => hkeep q (h.own.own.lt q hq).2 (hne q hq)), ?_⟩, h.len, fun j v p' hv' hp' => ?_, h.apart, h.byt⟩
      · exact (h.own.fr.trans hF2 (fun k hk e => by have := (hbo k e).2.1; omega)).setCell (.inr hgb) _
      · by_cases hji : j = i
        · subst hji
          rw [hv] at hv'
          rw [hp] at hp'
          cases hv'
          cases hp'
          refine ⟨_, _, rfl, ?_⟩
          have := own_pre hst (n := p.length) (by omega)
          have e2 : ((cellsOf p ++ lit9.toList).set (p.length + 8) (.int .u8 97)).take p.length = cellsOf p := by
            rw [List.set_append_right _ _ (by rw [cellsOf_length]; omega), List.take_left' (cellsOf_length p)]
          rw [e2] at this
          exact this
        · obtain ⟨bo2, c2, e, hO2⟩ := h.row j v p' hv' hp'
          exact ⟨bo2, c2, e, ownsRow_of_block hO2 (fun q hq => hkeep q (World.ownsRow.lt hO2 q hq).2 (h.apart j i v _ q g hji hv' hv (by rw [e]; exact hq) rfl))⟩
    · have hge : wr.heap.size ≤ g := by rw [hgn]; simp
      refine h.blocks ((h.own.fr.trans hF2 (fun k hk e => by have := (hbo k e).2.1; omega)).setCell (.inr hgb) _) (fun q hq => ?_)
      rw [heap_setCell_other _ _ _ _ (by simp only; omega), hbl q (by simp; omega)]
      exact Below.heap_alloc _ _ _ hq
  · have hF3 : Fr (fun k => k < H) wr w2 := hF2.mono (fun q _ e => (hbo q e).1)
    refine hF3.setCell ?_ _
    rcases hat with ⟨rfl, rfl⟩ | ⟨hgn, hbl⟩
    · exact .inl (hbo g rfl).1
    · right
      show wr.heap.size ≤ g
      rw [hgn]; simp
/-- The list grown by five, and the last of them written. -/
theorem OL.past2 {w wr : World} {ao : Option Addr} {cp : Nat} {vs : List Value} {ps : List (List Nat)} (h : OL w wr ao cp vs ps) (H N : Nat) (hN : vs.length = N) (hnb : N ≤ 16000000) (hH : ∀ g, (Value.slice ao vs.length cp).ownBlock = some g → g < H) :
    ∃ g cap' w2, (Builtin.append_ #[22, 22] 22 #[.slice ao N cp, .slice (some ⟨wr.heap.size, 0, none⟩) 5 5]).run Tryd.prog (wr.alloc (.cells lit5 25)) = .ok (.slice (some ⟨g, 0, none⟩) (N + 5) cap') w2 ∧ (∃ u, w2.cell? ⟨g, N + 4, none⟩ = some u) ∧ w2.frozen? ⟨g, N + 4, none⟩ = false ∧ g < w2.heap.size ∧
      ∀ o za zn zc, OL w ((w2.alloc o).setCell ⟨g, N + 4, none⟩ (.slice za zn zc)) ao cp vs ps ∧ Fr (fun k => k < H) wr ((w2.alloc o).setCell ⟨g, N + 4, none⟩ (.slice za zn zc)) := by
  subst hN
  obtain ⟨i0, hi, hz0, hz1, hz2⟩ := info_parts Tryd.infoSl
  have hFa : Fr (fun _ => False) wr (wr.alloc (.cells lit5 25)) := (Fr.refl _ _).alloc _
  have hOa := (h.fr0 hFa).own.own
  have hbo : ∀ q, (Value.slice ao vs.length cp).ownBlock = some q → q < H ∧ w.heap.size ≤ q ∧ q < wr.heap.size := fun q hq => ⟨hH q hq, (h.own.own.lt q hq).1, (h.own.own.lt q hq).2⟩
  obtain ⟨g, cap', w2, hr, hown, hg, hat⟩ := app_past (wr.alloc (.cells lit5 25)) w.heap.size 22 25 vs.length cp 5 i0 (.slice none 0 0) 24 Tryd.underlying22 hi hz0 hz1 hz2 rfl ao vs hOa wr.heap.size 5 lit5.toList rfl (fun j u hu => by
    rw [World.cell?_alloc_at _ _ _ _ rfl]; simpa using hu) (fun u hu => by simp [lit5] at hu; subst hu; rfl) (by decide) (by omega) (by omega) (by have := h.own.fr.size; simp; omega)
  have hsz : w.heap.size ≤ wr.heap.size := h.own.fr.size
  have hcell : w2.cell? ⟨g, vs.length + 4, none⟩ = _ := hown.cellAt (vs.length + 4) (by omega)
  obtain ⟨u, hu⟩ : ∃ u, (vs ++ lit5.toList)[vs.length + 4]? = some u := ⟨_, List.getElem?_eq_getElem (by rw [List.length_append]; simp [lit5])⟩
  have hgl : g < w2.heap.size := (hown.lt g rfl).2
  have hgb : w.heap.size ≤ g := (hown.lt g rfl).1
  have hF2 : Fr (fun k => (Value.slice ao vs.length cp).ownBlock = some k) wr w2 := ((Fr.refl _ _).alloc _).grown hg (fun q hq => .inl hq)
  refine ⟨g, cap', w2, hr, ⟨u, hcell.trans hu⟩, hown.frozenAt _, hgl, fun o za zn zc => ⟨?_, ?_⟩⟩
  · have hst := (World.ownsRow.stored (hown.alloc o) (vs.length + 4) (.slice za zn zc)).1
    have hF2o := hF2.alloc o
    rcases hat with ⟨rfl, rfl⟩ | ⟨hgn, hbl⟩
    · have hkeep : ∀ q, q < wr.heap.size → q ≠ g → ((w2.alloc o).setCell ⟨g, vs.length + 4, none⟩ (.slice za zn zc)).heap[q]? = wr.heap[q]? := fun q hq hqg => by
        rw [heap_setCell_other _ _ _ _ hqg]
        exact hF2o.block q hq (fun e => hqg (by simp only [Value.ownBlock, Option.some.injEq] at e; exact e.symm))
      refine ⟨⟨?_, (h.own.fr.trans hF2o (fun k hk e => by have := (hbo k e).2.1; omega)).setCell (.inr hgb) _⟩, h.len, fun j v p' hv' hp' => ?_, h.apart, h.byt⟩
      · have := own_pre hst (n := vs.length) (by omega)
        have e2 : ((vs ++ lit5.toList).set (vs.length + 4) (.slice za zn zc)).take vs.length = vs := by
          rw [List.set_append_right _ _ (by omega), List.take_left' rfl]
        rw [e2] at this
        exact this
      · obtain ⟨bo2, c2, e, hO2⟩ := h.row j v p' hv' hp'
        exact ⟨bo2, c2, e, ownsRow_of_block hO2 (fun q hq => hkeep q (World.ownsRow.lt hO2 q hq).2 (fun e2 => own_ne h.own.own hO2 g rfl (by rw [← e2]; exact hq)))⟩
    · have hge : wr.heap.size ≤ g := by rw [hgn]; simp
      refine h.blocks ((h.own.fr.trans hF2o (fun k hk e => by have := (hbo k e).2.1; omega)).setCell (.inr hgb) _) (fun q hq => ?_)
      have hw2 := hg.size
      rw [heap_setCell_other _ _ _ _ (by simp only; omega), Below.heap_alloc _ _ _ (by simp at hw2; omega), hbl q (by simp; omega)]
      exact Below.heap_alloc _ _ _ hq
  · have hF3 : Fr (fun k => k < H) wr (w2.alloc o) := (hF2.mono (fun q _ e => (hbo q e).1)).alloc o
    refine hF3.setCell ?_ _
    rcases hat with ⟨rfl, rfl⟩ | ⟨hgn, hbl⟩
    · exact .inl (hbo g rfl).1
    · right
      show wr.heap.size ≤ g
      rw [hgn]; simp
end Go.Proofs.YthccbfgjekdiiaaDoor

namespace Go.Proofs.YthccbfgjekdiiaaDoor
open Go.RowKit

/-- Each hash that was written over bears its mark. -/
def Mkd (qs : List (List Nat)) (k : Nat) : Prop := ∀ i q, i < k → qs[i]? = some q → ∀ u ∈ q, u = (99 + i) % 256
theorem OL.at_ {w wr : World} {ao : Option Addr} {cp : Nat} {vs : List Value} {ps : List (List Nat)} (h : OL w wr ao cp vs ps) (i : Nat) (hi : i < ps.length) : ∃ g o bo c, ao = some ⟨g, 0, none⟩ ∧ o = 0 + i ∧ vs[i]? = some (.slice bo ps[i].length c) ∧ wr.cell? ⟨g, i, none⟩ = some (.slice bo ps[i].length c) ∧ Ow wr w.heap.size bo c ps[i] := by
  have hvl : i < vs.length := by rw [h.len]; exact hi
  obtain ⟨bo, c, e, hO⟩ := h.row i vs[i] ps[i] (List.getElem?_eq_getElem hvl) (List.getElem?_eq_getElem hi)
  obtain ⟨g, rfl⟩ : ∃ g, ao = some ⟨g, 0, none⟩ := by
    rcases h.own.own.2 with ⟨_, e⟩ | ⟨g, cap, cur, e, _⟩
    · omega
    · simp only [Value.slice.injEq] at e
      exact ⟨g, e.1⟩
  have hv : vs[i]? = some (.slice bo ps[i].length c) := by rw [List.getElem?_eq_getElem hvl, e]
  exact ⟨g, _, bo, c, rfl, rfl, hv, (h.own.own.cellAt i (by omega)).trans hv, hO⟩
set_option maxRecDepth 100000 in
set_option maxHeartbeats 1000000 in
theorem spoil_any {w wr : World} {ao : Option Addr} {cp : Nat} {vs : List Value} {ps : List (List Nat)} (h : OL w wr ao cp vs ps) (H : Nat) (hB : ∀ p ∈ ps, p.length ≤ 1000) (hn : vs.length ≤ 8000000) (hH : ∀ v ∈ vs, ∀ g, v.ownBlock = some g → g < H) (hH2 : ∀ g, (Value.slice ao vs.length cp).ownBlock = some g → g < H) :
    Calls Tryd.prog 71 #[.slice ao vs.length cp] wr fun e w' => e = .returned (.tuple #[]) ∧ ∃ qs, OL w w' ao cp vs qs ∧ Mkd qs vs.length ∧ Fr (fun k => k < H) wr w' := by
  have HG := hide (And.intro h (And.intro hB (And.intro hn (And.intro hH hH2))))
  clear h hB hn hH hH2
  generalize hN : vs.length = N at *
  go_enter Tryd.func71, Tryd.ntmps71
  go_wp2_with fail
  go_loopw [2] (fun iv wq => ∃ (k : Nat) (qs : List (List Nat)), k ≤ N ∧ iv = .int .i64 (k : Nat) ∧ OL w wq ao cp vs qs ∧ (∀ p ∈ qs, p.length ≤ 1000) ∧ Mkd qs k ∧ Fr (fun k => k < H) wr wq) (fun iv _ => N - (intOf iv).toNat)
  case atStart => exact ⟨0, ps, Nat.zero_le _, rfl, (unhide HG).1, (unhide HG).2.1, fun i q hi => by omega, Fr.refl _ _⟩
  case round =>
    obtain ⟨k, qs, hk, rfl, hO, hB, hM, hF⟩ := hrel
    rename World => wq
    have hN8 := (unhide HG).2.2.1
    have hql : qs.length = N := by rw [← hO.len, hN]
    by_cases hlt : k < N
    · have hlt' : (k : Int) < (N : Int) := by omega
      have hkq : k < qs.length := by omega
      obtain ⟨V, hV⟩ : ∃ V, (99 + k) % 256 = V := ⟨_, rfl⟩
      have hV256 : V < 256 := by omega
      have r1 : IntKind.i64.wrap (99 + (k : Int)) = 99 + (k : Int) := by rw [IntKind.wrap_i64]; omega
      have r2 : IntKind.u8.wrap (99 + (k : Int)) = (V : Int) := by rw [IntKind.wrap_u8]; omega
      have hqb := hB qs[k] (List.getElem_mem hkq)
      obtain ⟨L, hL⟩ : ∃ L, qs[k].length = L := ⟨_, rfl⟩
      have HI := hide (And.intro hO (And.intro hB (And.intro hM (And.intro hF (And.intro hL hV)))))
      clear hO hB hM hF hV
      go_wp2_with fail
      go_loopw [3] (fun jv wz => ∃ (j : Nat) (r : List Nat), j ≤ L ∧ jv = .int .i64 (j : Nat) ∧ r.length = L ∧ (∀ t u, t < j → r[t]? = some u → u = V) ∧ OL w wz ao cp vs (qs.set k r) ∧ Fr (fun k => k < H) wr wz) (fun jv _ => L - (intOf jv).toNat)
      case atStart => exact ⟨0, qs[k], Nat.zero_le _, rfl, hL, fun t u ht => by omega, by rw [List.set_getElem_self]; exact (unhide HI).1, (unhide HI).2.2.2.1⟩
      case round =>
        obtain ⟨j, r, hj, rfl, hrl, hrm, hO, hF⟩ := hrel
        rename World => wz
        obtain ⟨g, o, bo, c, rfl, -, hv, hcell, hOw⟩ := hO.at_ k (by rw [List.length_set]; exact hkq)
        simp only [List.getElem_set_self] at hv hcell hOw
        rw [hrl] at hv hcell
        by_cases hjl : j < L
        · have hjl' : (j : Int) < (L : Int) := by omega
          obtain ⟨gb, rfl⟩ : ∃ gb, bo = some ⟨gb, 0, none⟩ := by
            rcases hOw.2 with ⟨_, e⟩ | ⟨g', cap, cur, e, _⟩
            · omega
            · simp only [Value.slice.injEq] at e
              exact ⟨g', e.1⟩
          have hrb : ∀ v ∈ r, v < 256 := hO.byt r (List.mem_of_getElem? (List.getElem?_set_self hkq))
          have hcb := hOw.cell j (by omega) hrb
          have hfz := hOw.fz j
          have hO2 := hO.setB k j gb c V r (by rw [hrl]; exact hv) (List.getElem?_set_self hkq) hV256
          rw [List.set_set] at hO2
          have hgH : gb < H := (unhide HG).2.2.2.1 _ (List.mem_of_getElem? hv) gb rfl
          have hF2 := hF.setCell (p := ⟨gb, j, none⟩) (.inl hgH) (.int .u8 (V : Int))
          have hr2 : (r.set j V).length = L := by rw [List.length_set]; exact hrl
          have hrm2 : ∀ t u, t < j + 1 → (r.set j V)[t]? = some u → u = V := fun t u ht hu => by
            by_cases e : j = t
            · subst e
              rw [List.getElem?_set_self (by omega)] at hu
              exact (Option.some.inj hu).symm
            · rw [List.getElem?_set_ne e] at hu
              exact hrm t u (by omega) hu
          have HN := hide (And.intro hO2 (And.intro hF2 (And.intro hr2 hrm2)))
          clear hO2 hF2 hr2 hrm2 hO hF hOw hrm hrb hgH
          have w3 : IntKind.i64.wrap ((j : Int) + 1) = (j : Int) + 1 := by rw [IntKind.wrap_i64]; omega
          go_wp2_with fail
          exact ⟨⟨j + 1, r.set j V, by omega, by go_num, (unhide HN).2.2.1, (unhide HN).2.2.2, (unhide HN).1, (unhide HN).2.1⟩, by simp [intOf]; omega⟩
        · have hjL : j = L := by omega
          have hjl' : ¬ (j : Int) < (L : Int) := by omega
          obtain ⟨g9, cap9, w9, hr9, ⟨u9, hu9⟩, hz9, hO9, hF9⟩ := hO.past k L c H bo r hv (List.getElem?_set_self hkq) hrl (by omega) (unhide HG).2.2.2.1
          have hF9' := hF.trans hF9 (fun _ _ h => h)
          have hB9 : ∀ p ∈ qs.set k r, p.length ≤ 1000 := fun p hp => by
            rcases List.mem_or_eq_of_mem_set hp with h1 | h1
            · exact (unhide HI).2.1 p h1
            · subst h1; omega
          have hM9 : Mkd (qs.set k r) (k + 1) := fun i q hi hq u hu => by
            by_cases e : k = i
            · subst e
              rw [List.getElem?_set_self hkq] at hq
              cases hq
              obtain ⟨t, ht, rfl⟩ := List.getElem_of_mem hu
              rw [(unhide HI).2.2.2.2.2]
              exact hrm t _ (by omega) (List.getElem?_eq_getElem ht)
            · rw [List.getElem?_set_ne e] at hq
              exact (unhide HI).2.2.1 i q (by omega) hq u hu
          have HN := hide (And.intro hO9 (And.intro hF9' (And.intro hB9 hM9)))
          have HR9 := hide hr9
          clear hO9 hF9 hF9' hB9 hM9 hO hF hOw hrm hr9 hjL
          have w3 : IntKind.i64.wrap ((k : Int) + 1) = (k : Int) + 1 := by rw [IntKind.wrap_i64]; omega
          have w4 : IntKind.i64.wrap ((L : Int) + 9 - 1) = (L : Int) + 8 := by rw [IntKind.wrap_i64]; omega
          go_wp2_with (at_builtin; refine wpList_app rfl (.tmp 33) (.tmp 34) 25 25 rfl _ _ _ rfl rfl (unhide HR9) ?_)
          exact ⟨⟨k + 1, qs.set k r, by omega, by go_num, (unhide HN).1, (unhide HN).2.2.1, (unhide HN).2.2.2, (unhide HN).2.1⟩, by simp [intOf]; omega⟩
    · have hkN : k = N := by omega
      have hlt' : ¬ (k : Int) < (N : Int) := by omega
      obtain ⟨g9, cap9, w9, hr9, ⟨u9, hu9⟩, hz9, hg9, hO9⟩ := hO.past2 H N hN (by omega) (by rw [hN]; exact (unhide HG).2.2.2.2)
      have h10 := hO9 (.cells #[.int .u8 1] 5) (some ⟨w9.heap.size, 0, none⟩) 1 1
      have e10 : (w9.alloc (.cells #[.int .u8 1] 5)).setCell ⟨g9, N + 4, none⟩ (.slice (some ⟨w9.heap.size, 0, none⟩) 1 1) = (w9.setCell ⟨g9, N + 4, none⟩ (.slice (some ⟨w9.heap.size, 0, none⟩) 1 1)).alloc (.cells #[.int .u8 1] 5) := by simp [hg9, go_sem]
      rw [e10] at h10
      clear e10
      have hF10 := hF.trans h10.2 (fun _ _ h => h)
      have HN := hide (And.intro h10.1 (And.intro hF10 (And.intro hM hkN)))
      have HR9 := hide hr9
      clear hO9 h10 hF10 hO hF hM hr9 hkN
      have w4 : IntKind.i64.wrap ((N : Int) + 5 - 1) = (N : Int) + 4 := by rw [IntKind.wrap_i64]; omega
      go_wp2_with (at_builtin; refine wpList_app rfl (.tmp 41) (.tmp 42) 22 22 rfl _ _ _ rfl rfl (unhide HR9) ?_)
      go_end0
      exact ⟨rfl, qs, (unhide HN).1, by rw [← (unhide HN).2.2.2]; exact (unhide HN).2.2.1, (unhide HN).2.1⟩
end Go.Proofs.YthccbfgjekdiiaaDoor

namespace Go.Proofs.YthccbfgjekdiiaaDoor
open Go.RowKit

/-- A claim. -/
def cv (wi tf tn : Nat) (rv x : Value) : Value := .agg #[.int .i64 wi, .int .i64 tf, .int .i64 tn, rv, x]
theorem box52 (w : World) (a0 a1 a2 a3 a4 b0 b1 : Value) (ta tb : Nat) (W : World) (hW : (w.alloc (.cells #[a0, a1, a2, a3, a4] ta)).alloc (.cells #[b0, b1] tb) = W) :
    (W.cell? ⟨w.heap.size, 0, none⟩ = some a0 ∧ W.cell? ⟨w.heap.size, 1, none⟩ = some a1 ∧ W.cell? ⟨w.heap.size, 2, none⟩ = some a2 ∧ W.cell? ⟨w.heap.size, 3, none⟩ = some a3 ∧ W.cell? ⟨w.heap.size, 4, none⟩ = some a4) ∧ W.cell? ⟨w.heap.size + 1, 0, none⟩ = some b0 ∧ W.cell? ⟨w.heap.size + 1, 1, none⟩ = some b1 ∧ Fr (fun _ => False) w W := by
  subst hW
  have e1 : w.heap.size + 1 = (w.alloc (.cells #[a0, a1, a2, a3, a4] ta)).heap.size := by simp
  have A : ∀ j : Nat, ((w.alloc (.cells #[a0, a1, a2, a3, a4] ta)).alloc (.cells #[b0, b1] tb)).cell? ⟨w.heap.size, j, none⟩ = (#[a0, a1, a2, a3, a4] : Array Value)[j]? := fun j => by
    rw [World.cell?_alloc_past _ _ _ (by simp), World.cell?_alloc_at _ _ _ _ rfl]
  have B : ∀ j : Nat, ((w.alloc (.cells #[a0, a1, a2, a3, a4] ta)).alloc (.cells #[b0, b1] tb)).cell? ⟨w.heap.size + 1, j, none⟩ = (#[b0, b1] : Array Value)[j]? := fun j => by
    rw [e1, World.cell?_alloc_at _ _ _ _ rfl]
  exact ⟨⟨A 0, A 1, A 2, A 3, A 4⟩, B 0, B 1, ((Fr.refl _ _).alloc _).alloc _⟩
theorem box5 (w : World) (a0 a1 a2 a3 a4 : Value) (ta : Nat) (W : World) (hW : w.alloc (.cells #[a0, a1, a2, a3, a4] ta) = W) :
    (W.cell? ⟨w.heap.size, 0, none⟩ = some a0 ∧ W.cell? ⟨w.heap.size, 1, none⟩ = some a1 ∧ W.cell? ⟨w.heap.size, 2, none⟩ = some a2 ∧ W.cell? ⟨w.heap.size, 3, none⟩ = some a3 ∧ W.cell? ⟨w.heap.size, 4, none⟩ = some a4) ∧ Fr (fun _ => False) w W := by
  subst hW
  have A : ∀ j : Nat, (w.alloc (.cells #[a0, a1, a2, a3, a4] ta)).cell? ⟨w.heap.size, j, none⟩ = (#[a0, a1, a2, a3, a4] : Array Value)[j]? := fun j => by
    rw [World.cell?_alloc_at _ _ _ _ rfl]
  exact ⟨⟨A 0, A 1, A 2, A 3, A 4⟩, (Fr.refl _ _).alloc _⟩
set_option maxRecDepth 100000 in
set_option maxHeartbeats 1000000 in
theorem inner_any (wi tf tn N xc g o : Nat) (ro : Option Addr) (rn rc : Nat) (v : Value) (w : World) (hc : w.cell? ⟨g, o + N, none⟩ = some v) (hcp : N + 1 ≤ xc) (hN : N < 9223372036854775807) (hv : ∃ a n c, v = .slice a n c) :
    Calls Tryd.prog 60 #[cv wi tf tn (.slice ro rn rc) (.slice (some ⟨g, o, none⟩) (N + 1) xc)] w fun e w' => e = .returned (.tuple #[cv wi tf tn (.slice ro rn rc) (.slice (some ⟨g, o, none⟩) N xc), v]) ∧ Fr (fun _ => False) w w' := by
  obtain ⟨a, n, c, rfl⟩ := hv
  unfold cv
  have w1 : IntKind.i64.wrap ((N : Int) + 1 - 1) = (N : Int) := by rw [IntKind.wrap_i64]; omega
  have hgl : g < w.heap.size := lt_of_cell hc
  have hgl1 : g < w.heap.size + 1 := Nat.lt_succ_of_lt hgl
  have q1 : (N : Int) < (N : Int) + 1 := by omega
  have q2 : (N : Int) ≤ (xc : Int) := by omega
  go_enter Tryd.func60, Tryd.ntmps60
  go_wp2_with fail
  go_returns
  exact ⟨rfl, ((Fr.refl _ _).alloc _).alloc _⟩
set_option maxRecDepth 100000 in
set_option maxHeartbeats 1000000 in
theorem sides_l (wi tf tn f n N xc g o : Nat) (ro : Option Addr) (rn rc : Nat) (v : Value) (w : World) (hc : w.cell? ⟨g, o + N, none⟩ = some v) (hcp : N + 1 ≤ xc) (hN : N < 9223372036854775807) (hv : ∃ a n c, v = .slice a n c) (h2 : 2 ≤ n) (hb : f + n < 9223372036854775808) (hl : tf < f + hf n) (M : List Nat)
    (ht : ∀ w', Fr (fun _ => False) w w' → Calls Tryd.prog 33 #[cv wi tf tn (.slice ro rn rc) (.slice (some ⟨g, o, none⟩) N xc), sv f (hf n)] w' fun e w'' => ∃ uo un uc, e = .returned (.slice uo un uc) ∧ Sl w'' (.slice uo un uc) M ∧ Fr (fun _ => False) w' w'') :
    Calls Tryd.prog 63 #[cv wi tf tn (.slice ro rn rc) (.slice (some ⟨g, o, none⟩) (N + 1) xc), sv f n] w fun e w' => ∃ uo un uc, e = .returned (.tuple #[.slice uo un uc, v]) ∧ Sl w' (.slice uo un uc) M ∧ Fr (fun _ => False) w w' := by
  obtain ⟨va, vn, vc, rfl⟩ := hv
  have hin := fun (w' : World) (hf : Fr (fun _ => False) w w') => inner_any wi tf tn N xc g o ro rn rc (.slice va vn vc) w' ((hf.cell (lt_of_cell hc) (fun h => h)).trans hc) hcp hN ⟨_, _, _, rfl⟩
  have hhv := fun w => halves_any f n w hb h2
  have hbf := fun w => before_any tf tn (f + hf n) (n - hf n) w
  rw [decide_eq_true hl] at hbf
  clear hl hc hcp hN hb h2
  generalize f + hf n = F2 at *
  generalize n - hf n = N2 at *
  generalize hf n = K at *
  have HC := hide (And.intro hhv (And.intro hbf (And.intro hin ht)))
  clear hhv hbf hin ht
  unfold sv cv at *
  go_enter Tryd.func63, Tryd.ntmps63
  go_wp2_with fail
  obtain ⟨W0, hW0⟩ : ∃ W0, (w.alloc (.cells #[.int .i64 wi, .int .i64 tf, .int .i64 tn, .slice ro rn rc, .slice (some ⟨g, o, none⟩) (N + 1) xc] 59)).alloc (.cells #[.int .i64 f, .int .i64 n] 57) = W0 := ⟨_, rfl⟩
  rw [hW0]
  obtain ⟨⟨a0, a1, a2, a3, a4⟩, -, -, hF0⟩ := box52 w _ _ _ _ _ _ _ _ _ W0 hW0
  refine ((unhide HC).1 _).mono ?_
  rintro e' wA ⟨rfl, hFA⟩
  have b0 := (hFA.cell (lt_of_cell a0) (fun h => h)).trans a0
  have b1 := (hFA.cell (lt_of_cell a1) (fun h => h)).trans a1
  have b2 := (hFA.cell (lt_of_cell a2) (fun h => h)).trans a2
  have b3 := (hFA.cell (lt_of_cell a3) (fun h => h)).trans a3
  have b4 := (hFA.cell (lt_of_cell a4) (fun h => h)).trans a4
  have HF := hide (hF0.trans hFA (fun _ _ h => h))
  clear hFA hF0 a0 a1 a2 a3 a4 hW0
  generalize w.heap.size = P at *
  have l0 : P < wA.heap.size := lt_of_cell b0
  have l1 : P < wA.heap.size + 1 := Nat.lt_succ_of_lt l0
  go_wp2_with fail
  obtain ⟨W1, hW1⟩ : ∃ W1, (wA.alloc (.cells #[.int .i64 f, .int .i64 K] 57)).alloc (.cells #[.int .i64 F2, .int .i64 N2] 57) = W1 := ⟨_, rfl⟩
  rw [hW1]
  obtain ⟨x0, x1, y0, y1, hF1⟩ := two2 wA _ _ _ _ _ W1 hW1
  refine ((unhide HC).2.2.1 _ ((unhide HF).trans hF1 (fun _ _ h => h))).mono ?_
  rintro e' wB ⟨rfl, hFB⟩
  have hF1B := hF1.trans hFB (fun _ _ h => h)
  have c1 := (hF1B.cell (lt_of_cell b1) (fun h => h)).trans b1
  have c2 := (hF1B.cell (lt_of_cell b2) (fun h => h)).trans b2
  have u0 := (hFB.cell (lt_of_cell x0) (fun h => h)).trans x0
  have u1 := (hFB.cell (lt_of_cell x1) (fun h => h)).trans x1
  have v0 := (hFB.cell (lt_of_cell y0) (fun h => h)).trans y0
  have v1 := (hFB.cell (lt_of_cell y1) (fun h => h)).trans y1
  have HF2 := hide ((unhide HF).trans hF1B (fun _ _ h => h))
  clear hF1 hFB hF1B hW1 x0 x1 y0 y1 b0 b1 b2 b3 b4 HF l0 l1
  generalize wA.heap.size = Z at *
  have k0 : P < wB.heap.size := lt_of_cell c1
  have k1 : Z < wB.heap.size := lt_of_cell u0
  have k2 : Z + 1 < wB.heap.size := lt_of_cell v0
  go_wp2_with fail
  obtain ⟨W2, hW2⟩ : ∃ W2, wB.alloc (.cells #[.int .i64 wi, .int .i64 tf, .int .i64 tn, .slice ro rn rc, .slice (some ⟨g, o, none⟩) N xc] 59) = W2 := ⟨_, rfl⟩
  rw [hW2]
  obtain ⟨⟨p0, p1, p2, p3, p4⟩, hF3⟩ := box5 wB _ _ _ _ _ _ W2 hW2
  refine ((unhide HC).2.1 _).mono ?_
  rintro e' wC ⟨rfl, hFC⟩
  have hF3C := hF3.trans hFC (fun _ _ h => h)
  have q0 := (hFC.cell (lt_of_cell p0) (fun h => h)).trans p0
  have q1 := (hFC.cell (lt_of_cell p1) (fun h => h)).trans p1
  have q2 := (hFC.cell (lt_of_cell p2) (fun h => h)).trans p2
  have q3 := (hFC.cell (lt_of_cell p3) (fun h => h)).trans p3
  have q4 := (hFC.cell (lt_of_cell p4) (fun h => h)).trans p4
  have m0 := (hF3C.cell (lt_of_cell u0) (fun h => h)).trans u0
  have m1 := (hF3C.cell (lt_of_cell u1) (fun h => h)).trans u1
  have HF4 := hide ((unhide HF2).trans hF3C (fun _ _ h => h))
  clear hF3 hFC hF3C hW2 p0 p1 p2 p3 p4 HF2 u0 u1 v0 v1 c1 c2 k0 k1 k2
  generalize wB.heap.size = Y at *
  go_wp2_with fail
  refine ((unhide HC).2.2.2 _ (unhide HF4)).mono ?_
  rintro e' wD ⟨uo, un, uc, rfl, hS, hFD⟩
  have HD := hide (And.intro hS ((unhide HF4).trans hFD (fun _ _ h => h)))
  clear hS hFD
  go_wp2_with fail
  go_returns
  exact ⟨uo, un, uc, rfl, (unhide HD).1, (unhide HD).2⟩
set_option maxRecDepth 100000 in
set_option maxHeartbeats 1000000 in
theorem sides_r (wi tf tn f n N xc g o : Nat) (ro : Option Addr) (rn rc : Nat) (v : Value) (w : World) (hc : w.cell? ⟨g, o + N, none⟩ = some v) (hcp : N + 1 ≤ xc) (hN : N < 9223372036854775807) (hv : ∃ a n c, v = .slice a n c) (h2 : 2 ≤ n) (hb : f + n < 9223372036854775808) (hl : ¬ tf < f + hf n) (M : List Nat)
    (ht : ∀ w', Fr (fun _ => False) w w' → Calls Tryd.prog 33 #[cv wi tf tn (.slice ro rn rc) (.slice (some ⟨g, o, none⟩) N xc), sv (f + hf n) (n - hf n)] w' fun e w'' => ∃ uo un uc, e = .returned (.slice uo un uc) ∧ Sl w'' (.slice uo un uc) M ∧ Fr (fun _ => False) w' w'') :
    Calls Tryd.prog 63 #[cv wi tf tn (.slice ro rn rc) (.slice (some ⟨g, o, none⟩) (N + 1) xc), sv f n] w fun e w' => ∃ uo un uc, e = .returned (.tuple #[v, .slice uo un uc]) ∧ Sl w' (.slice uo un uc) M ∧ Fr (fun _ => False) w w' := by
  obtain ⟨va, vn, vc, rfl⟩ := hv
  have hin := fun (w' : World) (hf : Fr (fun _ => False) w w') => inner_any wi tf tn N xc g o ro rn rc (.slice va vn vc) w' ((hf.cell (lt_of_cell hc) (fun h => h)).trans hc) hcp hN ⟨_, _, _, rfl⟩
  have hhv := fun w => halves_any f n w hb h2
  have hbf := fun w => before_any tf tn (f + hf n) (n - hf n) w
  rw [decide_eq_false hl] at hbf
  clear hl hc hcp hN hb h2
  generalize f + hf n = F2 at *
  generalize n - hf n = N2 at *
  generalize hf n = K at *
  have HC := hide (And.intro hhv (And.intro hbf (And.intro hin ht)))
  clear hhv hbf hin ht
  unfold sv cv at *
  go_enter Tryd.func63, Tryd.ntmps63
  go_wp2_with fail
  obtain ⟨W0, hW0⟩ : ∃ W0, (w.alloc (.cells #[.int .i64 wi, .int .i64 tf, .int .i64 tn, .slice ro rn rc, .slice (some ⟨g, o, none⟩) (N + 1) xc] 59)).alloc (.cells #[.int .i64 f, .int .i64 n] 57) = W0 := ⟨_, rfl⟩
  rw [hW0]
  obtain ⟨⟨a0, a1, a2, a3, a4⟩, -, -, hF0⟩ := box52 w _ _ _ _ _ _ _ _ _ W0 hW0
  refine ((unhide HC).1 _).mono ?_
  rintro e' wA ⟨rfl, hFA⟩
  have b0 := (hFA.cell (lt_of_cell a0) (fun h => h)).trans a0
  have b1 := (hFA.cell (lt_of_cell a1) (fun h => h)).trans a1
  have b2 := (hFA.cell (lt_of_cell a2) (fun h => h)).trans a2
  have b3 := (hFA.cell (lt_of_cell a3) (fun h => h)).trans a3
  have b4 := (hFA.cell (lt_of_cell a4) (fun h => h)).trans a4
  have HF := hide (hF0.trans hFA (fun _ _ h => h))
  clear hFA hF0 a0 a1 a2 a3 a4 hW0
  generalize w.heap.size = P at *
  have l0 : P < wA.heap.size := lt_of_cell b0
  have l1 : P < wA.heap.size + 1 := Nat.lt_succ_of_lt l0
  go_wp2_with fail
  obtain ⟨W1, hW1⟩ : ∃ W1, (wA.alloc (.cells #[.int .i64 f, .int .i64 K] 57)).alloc (.cells #[.int .i64 F2, .int .i64 N2] 57) = W1 := ⟨_, rfl⟩
  rw [hW1]
  obtain ⟨x0, x1, y0, y1, hF1⟩ := two2 wA _ _ _ _ _ W1 hW1
  refine ((unhide HC).2.2.1 _ ((unhide HF).trans hF1 (fun _ _ h => h))).mono ?_
  rintro e' wB ⟨rfl, hFB⟩
  have hF1B := hF1.trans hFB (fun _ _ h => h)
  have c1 := (hF1B.cell (lt_of_cell b1) (fun h => h)).trans b1
  have c2 := (hF1B.cell (lt_of_cell b2) (fun h => h)).trans b2
  have u0 := (hFB.cell (lt_of_cell x0) (fun h => h)).trans x0
  have u1 := (hFB.cell (lt_of_cell x1) (fun h => h)).trans x1
  have v0 := (hFB.cell (lt_of_cell y0) (fun h => h)).trans y0
  have v1 := (hFB.cell (lt_of_cell y1) (fun h => h)).trans y1
  have HF2 := hide ((unhide HF).trans hF1B (fun _ _ h => h))
  clear hF1 hFB hF1B hW1 x0 x1 y0 y1 b0 b1 b2 b3 b4 HF l0 l1
  generalize wA.heap.size = Z at *
  have k0 : P < wB.heap.size := lt_of_cell c1
  have k1 : Z < wB.heap.size := lt_of_cell u0
  have k2 : Z + 1 < wB.heap.size := lt_of_cell v0
  go_wp2_with fail
  obtain ⟨W2, hW2⟩ : ∃ W2, wB.alloc (.cells #[.int .i64 wi, .int .i64 tf, .int .i64 tn, .slice ro rn rc, .slice (some ⟨g, o, none⟩) N xc] 59) = W2 := ⟨_, rfl⟩
  rw [hW2]
  obtain ⟨⟨p0, p1, p2, p3, p4⟩, hF3⟩ := box5 wB _ _ _ _ _ _ W2 hW2
  refine ((unhide HC).2.1 _).mono ?_
  rintro e' wC ⟨rfl, hFC⟩
  have hF3C := hF3.trans hFC (fun _ _ h => h)
  have q0 := (hFC.cell (lt_of_cell p0) (fun h => h)).trans p0
  have q1 := (hFC.cell (lt_of_cell p1) (fun h => h)).trans p1
  have q2 := (hFC.cell (lt_of_cell p2) (fun h => h)).trans p2
  have q3 := (hFC.cell (lt_of_cell p3) (fun h => h)).trans p3
  have q4 := (hFC.cell (lt_of_cell p4) (fun h => h)).trans p4
  have m0 := (hF3C.cell (lt_of_cell v0) (fun h => h)).trans v0
  have m1 := (hF3C.cell (lt_of_cell v1) (fun h => h)).trans v1
  have HF4 := hide ((unhide HF2).trans hF3C (fun _ _ h => h))
  clear hF3 hFC hF3C hW2 p0 p1 p2 p3 p4 HF2 u0 u1 v0 v1 c1 c2 k0 k1 k2
  generalize wB.heap.size = Y at *
  go_wp2_with fail
  refine ((unhide HC).2.2.2 _ (unhide HF4)).mono ?_
  rintro e' wD ⟨uo, un, uc, rfl, hS, hFD⟩
  have HD := hide (And.intro hS ((unhide HF4).trans hFD (fun _ _ h => h)))
  clear hS hFD
  go_wp2_with fail
  go_returns
  exact ⟨uo, un, uc, rfl, (unhide HD).1, (unhide HD).2⟩
end Go.Proofs.YthccbfgjekdiiaaDoor

namespace Go.Proofs.YthccbfgjekdiiaaDoor
open Go.RowKit

theorem topv_wid (wi : Nat) (hw1 : 1 ≤ wi) (hw32 : wi ≤ 32) (r : List Nat) (hr : r.length = wi) (m : Nat) : ∀ f n tf tn (ps : List (List Nat)), n ≤ m → (topv wi r f n tf tn ps).length = wi := by
  intro f n tf tn ps _
  by_cases e : (f = tf ∧ n = tn) ∨ n < 2
  · rw [topv, dif_pos e]; exact hr
  · by_cases hl : tf < f + hf n
    · rw [topv_l (by omega) (by omega) hl]; exact nd_len wi hw1 hw32 _ _
    · rw [topv_r (by omega) (by omega) hl]; exact nd_len wi hw1 hw32 _ _
theorem getLastD_at (ps : List (List Nat)) (D : Nat) (h : ps.length = D + 1) : ps.getLastD [] = ps[D]'(by omega) := by
  have e : ps.length - 1 = D := by omega
  rw [List.getLastD_eq_getLast?, List.getLast?_eq_getElem?, e, List.getElem?_eq_getElem (by omega)]; rfl
set_option maxRecDepth 100000 in
set_option maxHeartbeats 2000000 in
/-- The root of a span as it comes out of a claim. -/
theorem top_any (wi : Nat) (hw1 : 1 ≤ wi) (hw32 : wi ≤ 32) (m : Nat) : ∀ (f n tf tn : Nat) (w : World) (ro : Option Addr) (rn rc : Nat) (r : List Nat) (x : Value) (vs : List Value) (ps : List (List Nat)), n ≤ m → f + n < 9223372036854775808 → Rch f n tf tn → GS w → Sl w (.slice ro rn rc) r → r.length = wi → Pcs w x vs ps → Cp x → ps.length = dep f n tf tn → (∀ p ∈ ps, p.length = wi) →
    Calls Tryd.prog 33 #[cv wi tf tn (.slice ro rn rc) x, sv f n] w fun e w' => ∃ uo un uc, e = .returned (.slice uo un uc) ∧ Sl w' (.slice uo un uc) (topv wi r f n tf tn ps) ∧ Fr (fun _ => False) w w' := by
  induction m with
  | zero =>
    intro f n tf tn w ro rn rc r x vs ps hm hb hr hg hs hrw hp hcx hpd hpw
    by_cases e : f = tf ∧ n = tn
    · obtain ⟨rfl, rfl⟩ := e
      rw [topv_eq]
      have eqs := fun w => eq_span f n f n w
      simp only [decide_true, and_self] at eqs
      have eg := Tryd.guard_span
      obtain ⟨xo, xc, rfl⟩ := hp.form
      have HS := hide hs
      clear hs hg hp hcx hpd hpw hrw
      generalize ps.length = N at *
      unfold sv cv
      go_enter Tryd.func33, Tryd.ntmps33
      go_wp2_with fail
      go_ret
      exact ⟨ro, rn, rc, rfl, (unhide HS).fr0 (((Fr.refl _ _).alloc _).alloc _), ((Fr.refl _ _).alloc _).alloc _⟩
    · have := (rch_ne hr e).1; omega
  | succ m ih =>
    intro f n tf tn w ro rn rc r x vs ps hm hb hr hg hs hrw hp hcx hpd hpw
    by_cases e : f = tf ∧ n = tn
    · obtain ⟨rfl, rfl⟩ := e
      rw [topv_eq]
      have eqs := fun w => eq_span f n f n w
      simp only [decide_true, and_self] at eqs
      have eg := Tryd.guard_span
      obtain ⟨xo, xc, rfl⟩ := hp.form
      have HS := hide hs
      clear hs hg hp hcx hpd hpw hrw
      generalize ps.length = N at *
      unfold sv cv
      go_enter Tryd.func33, Tryd.ntmps33
      go_wp2_with fail
      go_ret
      exact ⟨ro, rn, rc, rfl, (unhide HS).fr0 (((Fr.refl _ _).alloc _).alloc _), ((Fr.refl _ _).alloc _).alloc _⟩
    · obtain ⟨h2, r1, r2⟩ := rch_ne hr e
      have hlt := hf_lt n h2
      have hpos := hf_pos n
      have eqs := fun w => eq_span f n tf tn w
      rw [decide_eq_false e] at eqs
      have eg := Tryd.guard_span
      by_cases hl : tf < f + hf n
      · have hdp := dep_l h2 e hl
        obtain ⟨D, hD⟩ : ∃ D, dep f (hf n) tf tn = D := ⟨_, rfl⟩
        rw [hD] at hdp
        have hlen : ps.length = D + 1 := by rw [hpd, hdp]
        obtain ⟨xo, xc, rfl⟩ := hp.form
        rw [hlen] at hp hcx ⊢
        obtain ⟨g, o, v, rfl, hcell, -⟩ := hp.cell (Fr.refl _ _) D (by omega)
        have hDb : D ≤ n := by rw [← hD]; have := dep_le _ f (hf n) tf tn (Nat.le_refl _); omega
        have hDc : D < 9223372036854775807 := by have h1 := dep_le _ f n tf tn (Nat.le_refl _); omega
        have hcap : D + 1 ≤ xc := hcx _ _ _ rfl
        have hvD : vs[D]? = some v := by
          have hvl : D < vs.length := by rw [hp.len]; omega
          rcases hp.at_ with ⟨e', _⟩ | ⟨_, _, e', _⟩ | ⟨g', o', c', e', _, hc'⟩
          · simp at e'
          · simp at e'
          · simp only [Value.slice.injEq, Option.some.injEq, Addr.mk.injEq, and_true] at e'
            obtain ⟨⟨rfl, rfl⟩, _⟩ := e'
            have h1 := hc' D _ (List.getElem?_eq_getElem hvl)
            rw [h1] at hcell
            rw [List.getElem?_eq_getElem hvl, Option.some.inj hcell]
        have hsv : Sl w v ps[D] := hp.sl D v _ hvD (List.getElem?_eq_getElem (by omega))
        have hdl : ps.dropLast = ps.take D := by rw [List.dropLast_eq_take, hlen]; rfl
        have hgl : ps.getLastD [] = ps[D] := getLastD_at ps D hlen
        have hp' := hp.take D (by omega)
        have htop : ∀ w', Fr (fun _ => False) w w' → _ := fun w' hf' => ih f (hf n) tf tn w' ro rn rc r _ _ (ps.take D) (by omega) (by omega) (r1 hl) (hg.fr0 hf') (hs.fr0 hf') hrw (hp'.fr0 hf') (fun _ _ _ e => by cases e; omega) (by rw [List.length_take]; omega) (fun p hp => hpw p (List.mem_of_mem_take hp))
        rw [topv_l h2 e hl, hdl, hgl]
        have hTw := topv_wid wi hw1 hw32 r hrw _ f (hf n) tf tn (ps.take D) (Nat.le_refl _)
        have hAw := hpw ps[D] (List.getElem_mem _)
        obtain ⟨va, vn, vc, rfl⟩ : ∃ a n c, v = .slice a n c := by
          obtain ⟨a, c, e⟩ := hsv.form
          exact ⟨_, _, _, e⟩
        have hsd := fun (w' : World) (hf' : Fr (fun _ => False) w w') => sides_l wi tf tn f n D xc g o ro rn rc (.slice va vn vc) w' ((hf'.cell (lt_of_cell hcell) (fun h => h)).trans hcell) hcap hDc ⟨_, _, _, rfl⟩ h2 hb hl _ (fun w'' hf'' => htop w'' (hf'.trans hf'' (fun _ _ h => h)))
        generalize topv wi r f (hf n) tf tn (ps.take D) = T at *
        generalize ps[D] = A at *
        have hnd := nd_len wi hw1 hw32 T A
        have hnode : ∀ w' x y, GS w' → Sl w' x T → Sl w' y A → Calls Tryd.prog 62 #[.int .i64 wi, x, y] w' fun e w'' => ∃ yo, e = .returned (.slice yo wi wi) ∧ OB w' w'' yo wi (nd wi T A) := fun w' x y hg hx hy => by
          have := node_any (wi : Int) x y T A w' hg hx hy (by omega) (by omega)
          rw [hnd] at this
          exact this
        have HC := hide (And.intro hsd (And.intro hnode (And.intro hg (And.intro hsv (And.intro (nd_lt (wi : Int) T A) hnd)))))
        clear hDc hsd hnode hg hsv hp hp' htop hTw hAw hdl hgl hvD hDb hcap hcell hlen hdp hD hs hpw hrw hcx hpd ih r1 r2 hr hlt hpos hl hnd hm h2 hb e
        unfold sv cv at *
        go_enter Tryd.func33, Tryd.ntmps33
        go_wp2_with fail
        obtain ⟨W0, hW0⟩ : ∃ W0, (w.alloc (.cells #[.int .i64 wi, .int .i64 tf, .int .i64 tn, .slice ro rn rc, .slice (some ⟨g, o, none⟩) (D + 1) xc] 59)).alloc (.cells #[.int .i64 f, .int .i64 n] 57) = W0 := ⟨_, rfl⟩
        rw [hW0]
        obtain ⟨⟨a0, -⟩, -, -, hF0⟩ := box52 w _ _ _ _ _ _ _ _ _ W0 hW0
        refine ((unhide HC).1 _ hF0).mono ?_
        rintro e' wA ⟨uo, un, uc, rfl, hS, hFA⟩
        have b0 := (hFA.cell (lt_of_cell a0) (fun h => h)).trans a0
        have HA := hide (And.intro hS (hF0.trans hFA (fun _ _ h => h)))
        clear hFA hF0 a0 hW0 hS
        generalize w.heap.size = P at *
        go_wp2_with fail
        refine ((unhide HC).2.1 _ _ _ ((unhide HC).2.2.1.fr0 (unhide HA).2) (unhide HA).1 ((unhide HC).2.2.2.1.fr0 (unhide HA).2)).mono ?_
        rintro e' wB ⟨zo, rfl, hO⟩
        have hsl := hO.sl (unhide HC).2.2.2.2.1
        rw [(unhide HC).2.2.2.2.2] at hsl
        have HB := hide (And.intro hsl ((unhide HA).2.trans hO.fr (fun _ _ h => h)))
        clear hO hsl
        go_wp2_with fail
        go_ret
        exact ⟨zo, wi, wi, rfl, (unhide HB).1, (unhide HB).2⟩
      · have hdp := dep_r h2 e hl
        obtain ⟨D, hD⟩ : ∃ D, dep (f + hf n) (n - hf n) tf tn = D := ⟨_, rfl⟩
        rw [hD] at hdp
        have hlen : ps.length = D + 1 := by rw [hpd, hdp]
        obtain ⟨xo, xc, rfl⟩ := hp.form
        rw [hlen] at hp hcx ⊢
        obtain ⟨g, o, v, rfl, hcell, -⟩ := hp.cell (Fr.refl _ _) D (by omega)
        have hDb : D ≤ n := by rw [← hD]; have := dep_le _ (f + hf n) (n - hf n) tf tn (Nat.le_refl _); omega
        have hDc : D < 9223372036854775807 := by have h1 := dep_le _ f n tf tn (Nat.le_refl _); omega
        have hcap : D + 1 ≤ xc := hcx _ _ _ rfl
        have hvD : vs[D]? = some v := by
          have hvl : D < vs.length := by rw [hp.len]; omega
          rcases hp.at_ with ⟨e', _⟩ | ⟨_, _, e', _⟩ | ⟨g', o', c', e', _, hc'⟩
          · simp at e'
          · simp at e'
          · simp only [Value.slice.injEq, Option.some.injEq, Addr.mk.injEq, and_true] at e'
            obtain ⟨⟨rfl, rfl⟩, _⟩ := e'
            have h1 := hc' D _ (List.getElem?_eq_getElem hvl)
            rw [h1] at hcell
            rw [List.getElem?_eq_getElem hvl, Option.some.inj hcell]
        have hsv : Sl w v ps[D] := hp.sl D v _ hvD (List.getElem?_eq_getElem (by omega))
        have hdl : ps.dropLast = ps.take D := by rw [List.dropLast_eq_take, hlen]; rfl
        have hgl : ps.getLastD [] = ps[D] := getLastD_at ps D hlen
        have hp' := hp.take D (by omega)
        have htop : ∀ w', Fr (fun _ => False) w w' → _ := fun w' hf' => ih (f + hf n) (n - hf n) tf tn w' ro rn rc r _ _ (ps.take D) (by omega) (by omega) (r2 hl) (hg.fr0 hf') (hs.fr0 hf') hrw (hp'.fr0 hf') (fun _ _ _ e => by cases e; omega) (by rw [List.length_take]; omega) (fun p hp => hpw p (List.mem_of_mem_take hp))
        rw [topv_r h2 e hl, hdl, hgl]
        have hTw := topv_wid wi hw1 hw32 r hrw _ (f + hf n) (n - hf n) tf tn (ps.take D) (Nat.le_refl _)
        have hAw := hpw ps[D] (List.getElem_mem _)
        obtain ⟨va, vn, vc, rfl⟩ : ∃ a n c, v = .slice a n c := by
          obtain ⟨a, c, e⟩ := hsv.form
          exact ⟨_, _, _, e⟩
        have hsd := fun (w' : World) (hf' : Fr (fun _ => False) w w') => sides_r wi tf tn f n D xc g o ro rn rc (.slice va vn vc) w' ((hf'.cell (lt_of_cell hcell) (fun h => h)).trans hcell) hcap hDc ⟨_, _, _, rfl⟩ h2 hb hl _ (fun w'' hf'' => htop w'' (hf'.trans hf'' (fun _ _ h => h)))
        generalize topv wi r (f + hf n) (n - hf n) tf tn (ps.take D) = T at *
        generalize ps[D] = A at *
        have hnd := nd_len wi hw1 hw32 A T
        have hnode : ∀ w' x y, GS w' → Sl w' x A → Sl w' y T → Calls Tryd.prog 62 #[.int .i64 wi, x, y] w' fun e w'' => ∃ yo, e = .returned (.slice yo wi wi) ∧ OB w' w'' yo wi (nd wi A T) := fun w' x y hg hx hy => by
          have := node_any (wi : Int) x y A T w' hg hx hy (by omega) (by omega)
          rw [hnd] at this
          exact this
        have HC := hide (And.intro hsd (And.intro hnode (And.intro hg (And.intro hsv (And.intro (nd_lt (wi : Int) A T) hnd)))))
        clear hDc hsd hnode hg hsv hp hp' htop hTw hAw hdl hgl hvD hDb hcap hcell hlen hdp hD hs hpw hrw hcx hpd ih r1 r2 hr hlt hpos hl hnd hm h2 hb e
        unfold sv cv at *
        go_enter Tryd.func33, Tryd.ntmps33
        go_wp2_with fail
        obtain ⟨W0, hW0⟩ : ∃ W0, (w.alloc (.cells #[.int .i64 wi, .int .i64 tf, .int .i64 tn, .slice ro rn rc, .slice (some ⟨g, o, none⟩) (D + 1) xc] 59)).alloc (.cells #[.int .i64 f, .int .i64 n] 57) = W0 := ⟨_, rfl⟩
        rw [hW0]
        obtain ⟨⟨a0, -⟩, -, -, hF0⟩ := box52 w _ _ _ _ _ _ _ _ _ W0 hW0
        refine ((unhide HC).1 _ hF0).mono ?_
        rintro e' wA ⟨uo, un, uc, rfl, hS, hFA⟩
        have b0 := (hFA.cell (lt_of_cell a0) (fun h => h)).trans a0
        have HA := hide (And.intro hS (hF0.trans hFA (fun _ _ h => h)))
        clear hFA hF0 a0 hW0 hS
        generalize w.heap.size = P at *
        go_wp2_with fail
        refine ((unhide HC).2.1 _ _ _ ((unhide HC).2.2.1.fr0 (unhide HA).2) ((unhide HC).2.2.2.1.fr0 (unhide HA).2) (unhide HA).1).mono ?_
        rintro e' wB ⟨zo, rfl, hO⟩
        have hsl := hO.sl (unhide HC).2.2.2.2.1
        rw [(unhide HC).2.2.2.2.2] at hsl
        have HB := hide (And.intro hsl ((unhide HA).2.trans hO.fr (fun _ _ h => h)))
        clear hO hsl
        go_wp2_with fail
        go_ret
        exact ⟨zo, wi, wi, rfl, (unhide HB).1, (unhide HB).2⟩
end Go.Proofs.YthccbfgjekdiiaaDoor

namespace Go.Proofs.YthccbfgjekdiiaaDoor
open Go.RowKit

/-- Has each the width? -/
def wdq (j : Int) (ps : List (List Nat)) : Bool := ps.all fun p => decide ((p.length : Int) = j)
theorem wdq_take (j : Int) (ps : List (List Nat)) (k : Nat) (hk : k < ps.length) : wdq j (ps.take (k + 1)) = (wdq j (ps.take k) && decide ((ps[k].length : Int) = j)) := by
  rw [wdq, wdq, List.take_add_one, List.getElem?_eq_getElem hk, Option.toList_some, List.all_append]; simp
theorem wdq_false (j : Int) (ps : List (List Nat)) (k : Nat) (hk : k < ps.length) (h : ¬ (ps[k].length : Int) = j) : wdq j ps = false := by
  rw [wdq, List.all_eq_false]
  exact ⟨ps[k], List.getElem_mem hk, by simp [h]⟩
theorem wdq_true {j : Int} {ps : List (List Nat)} (h : wdq j ps = true) : ∀ p ∈ ps, (p.length : Int) = j := fun p hp => by
  rw [wdq, List.all_eq_true] at h
  simpa using h p hp
theorem Pcs.nth {w w' : World} {xo : Option Addr} {n xc : Nat} {vs : List Value} {ps : List (List Nat)} (h : Pcs w (.slice xo n xc) vs ps) (hf : Fr (fun _ => False) w w') (k : Nat) (hk : k < ps.length) : ∃ g o vo vc, xo = some ⟨g, o, none⟩ ∧ w'.cell? ⟨g, o + k, none⟩ = some (.slice vo ps[k].length vc) ∧ Sl w' (.slice vo ps[k].length vc) ps[k] := by
  obtain ⟨g, o, v, e, hc, hs, hcap, hlt, _⟩ := h.cell hf k hk
  obtain ⟨vo, vc, rfl⟩ := hs.form
  exact ⟨g, o, vo, vc, e, hc, hs, hcap, hlt.imp id (fun hh g o n c e => Nat.lt_of_lt_of_le (hh g o n c e) hf.size), h.byt _ (List.getElem_mem hk)⟩
set_option maxRecDepth 100000 in
set_option maxHeartbeats 1000000 in
/-- merkle.wide. -/
theorem wide_any (j : Int) (x : Value) (vs : List Value) (ps : List (List Nat)) (w : World) (hp : Pcs w x vs ps) (hn : ps.length < 4611686018427387904) :
    Calls Tryd.prog 27 #[.int .i64 j, x] w fun e w' => e = .returned (.bool (wdq j ps)) ∧ w' = w := by
  obtain ⟨xo, xc, rfl⟩ := hp.form
  have HG := hide (And.intro hp hn)
  clear hp hn
  generalize hN : ps.length = N at *
  go_enter Tryd.func27, Tryd.ntmps27
  go_wp2_with fail
  go_loopw [9] (fun iv wr => ∃ (k : Nat), k ≤ N ∧ iv = .int .i64 (k : Nat) ∧ wr = w ∧ wdq j (ps.take k) = true) (fun iv _ => N - (intOf iv).toNat)
  case atStart => exact ⟨0, Nat.zero_le _, rfl, rfl, by simp [wdq]⟩
  case round =>
    obtain ⟨k, hk, rfl, rfl, hw⟩ := hrel
    have hN8 := (unhide HG).2
    by_cases hlt : k < N
    · have hlt' : (k : Int) < (N : Int) := by omega
      have hke : k < ps.length := by omega
      obtain ⟨g, o, vo, vc, rfl, hcell, -⟩ := (unhide HG).1.nth (Fr.refl _ _) k hke
      by_cases he : (ps[k].length : Int) = j
      · have hw2 : wdq j (ps.take (k + 1)) = true := by rw [wdq_take j ps k hke, hw, decide_eq_true he]; rfl
        have HW := hide hw2
        clear hw2 hw
        have w1 : IntKind.i64.wrap ((k : Int) + 1) = (k : Int) + 1 := by rw [IntKind.wrap_i64]; omega
        have hee : ((ps[k].length : Int) == j) = true := by rw [he]; simp
        subst he
        generalize ps[k].length = EL at *
        go_wp2_with fail
        exact ⟨⟨k + 1, by omega, by go_num, by first | rfl | trivial, unhide HW⟩, by simp [intOf]; omega⟩
      · have hf := wdq_false j ps k hke he
        have HW := hide hf
        clear hf hw
        have hee : ((ps[k].length : Int) == j) = false := beq_false_of_ne he
        generalize ps[k].length = EL at *
        go_wp2_with fail
        go_ret
        exact ⟨by rw [unhide HW]; rfl, rfl⟩
    · have hkN : k = N := by omega
      have hlt' : ¬ (k : Int) < (N : Int) := by omega
      have htk : ps.take k = ps := List.take_of_length_le (by omega)
      rw [htk] at hw
      have HW := hide hw
      clear hw htk hkN
      go_wp2_with fail
      go_ret
      exact ⟨by rw [unhide HW]; rfl, rfl⟩
set_option maxRecDepth 100000 in
theorem ofEntry_any (wi i : Nat) (ro : Option Addr) (rn rc : Nat) (xo : Option Addr) (xn xc : Nat) (w : World) :
    Calls Tryd.prog 36 #[.int .i64 wi, .slice ro rn rc, .int .i64 i, .slice xo xn xc] w fun e w' => e = .returned (cv wi i 1 (.slice ro rn rc) (.slice xo xn xc)) ∧ Fr (fun _ => False) w w' := by
  unfold cv
  go_enter Tryd.func36, Tryd.ntmps36
  go_wp2_with fail
  go_returns
  exact ⟨rfl, (Fr.refl _ _).alloc _⟩
set_option maxRecDepth 100000 in
set_option maxHeartbeats 1000000 in
theorem fits_any (wi f n tf tn : Nat) (ro : Option Addr) (rn rc : Nat) (xo : Option Addr) (N xc : Nat) (w : World) (hb : f + n < 9223372036854775808) (hr : Rch f n tf tn) :
    Calls Tryd.prog 31 #[cv wi tf tn (.slice ro rn rc) (.slice xo N xc), sv f n] w fun e w' => e = .returned (.bool (decide (N = dep f n tf tn))) ∧ Fr (fun _ => False) w w' := by
  have hd := fun w => depth_any n f n tf tn w (Nat.le_refl _) hb hr
  unfold DepSays at hd
  have hee : ((N : Int) == ((dep f n tf tn : Nat) : Int)) = decide (N = dep f n tf tn) := by
    by_cases h : N = dep f n tf tn
    · simp [h]
    · rw [decide_eq_false h]; exact beq_false_of_ne (by omega)
  generalize dep f n tf tn = D at *
  generalize hB : decide (N = D) = B1 at *
  have HD := hide hd
  clear hd hr hb hB
  unfold cv sv at *
  go_enter Tryd.func31, Tryd.ntmps31
  go_wp2_with fail
  obtain ⟨W0, hW0⟩ : ∃ W0, (w.alloc (.cells #[.int .i64 wi, .int .i64 tf, .int .i64 tn, .slice ro rn rc, .slice xo N xc] 59)).alloc (.cells #[.int .i64 f, .int .i64 n] 57) = W0 := ⟨_, rfl⟩
  rw [hW0]
  obtain ⟨⟨a0, a1, a2, a3, a4⟩, b0, b1, hF0⟩ := box52 w _ _ _ _ _ _ _ _ _ W0 hW0
  have HF := hide hF0
  clear hF0 hW0 a0 a3
  generalize w.heap.size = P at *
  have hS : ∀ w', Fr (fun _ => False) W0 w' → w'.cell? ⟨P, 1, none⟩ = some (.int .i64 tf) ∧ w'.cell? ⟨P, 2, none⟩ = some (.int .i64 tn) ∧ w'.cell? ⟨P, 4, none⟩ = some (.slice xo N xc) ∧ w'.cell? ⟨P + 1, 0, none⟩ = some (.int .i64 f) ∧ w'.cell? ⟨P + 1, 1, none⟩ = some (.int .i64 n) := fun w' hf =>
    ⟨(hf.cell (lt_of_cell a1) (fun h => h)).trans a1, (hf.cell (lt_of_cell a2) (fun h => h)).trans a2, (hf.cell (lt_of_cell a4) (fun h => h)).trans a4, (hf.cell (lt_of_cell b0) (fun h => h)).trans b0, (hf.cell (lt_of_cell b1) (fun h => h)).trans b1⟩
  have HS := hide hS
  clear hS
  go_region_held3 (fun w' => w'.cell? ⟨P, 1, none⟩ = some (.int .i64 tf) ∧ w'.cell? ⟨P, 2, none⟩ = some (.int .i64 tn) ∧ w'.cell? ⟨P, 4, none⟩ = some (.slice xo N xc) ∧ w'.cell? ⟨P + 1, 0, none⟩ = some (.int .i64 f) ∧ w'.cell? ⟨P + 1, 1, none⟩ = some (.int .i64 n))
    (first | assumption | exact (unhide HS) _ (Fr.refl _ _).drew | exact (unhide HS) _ ((Fr.refl _ _).drew.trans fC (fun _ _ h => h)))
    (first
      | (go_at_call 58; refine ((unhide HD) _).mono ?_; rintro e wC ⟨rfl, fC⟩))
  have HE := hide ((unhide HF).drew.trans fC (fun _ _ h => h))
  clear fC
  go_wp2_with fail
  go_ret
  exact ⟨rfl, unhide HE⟩
theorem Sl.ints {w : World} {xo : Option Addr} {n c : Nat} {l : List Nat} (h : Sl w (.slice xo n c) l) : (l.map fun v : Nat => (v : Int)).length = n ∧ Lib.BytesIn w xo n (l.map fun v : Nat => (v : Int)) := by
  obtain ⟨a, c', e⟩ := h.form
  simp only [Value.slice.injEq] at e
  have hn : l.length = n := e.2.1.symm
  refine ⟨by simp [hn], ?_⟩
  by_cases h0 : l = []
  · subst h0
    have : n = 0 := by rw [← hn]; rfl
    subst this
    rcases xo with _ | a
    · exact Lib.BytesIn.nil _ _ _
    · exact Lib.BytesIn.of_cells (fun i hi => by simp at hi)
  · obtain ⟨g, o, rfl, _⟩ := src_cell h.s 0 (List.length_pos_iff.2 h0) h.b
    refine Lib.BytesIn.of_cells (fun i hi => ?_)
    have hi' : i < l.length := by omega
    obtain ⟨g', o', e', hc⟩ := src_cell h.s i hi' h.b
    simp only [Option.some.injEq, Addr.mk.injEq, and_true] at e'
    obtain ⟨rfl, rfl⟩ := e'
    rw [add_at2, hc]
    simp [List.getD, List.getElem?_eq_getElem hi']
theorem bytesOf_inj {a b : List Nat} (ha : ∀ v ∈ a, v < 256) (hb : ∀ v ∈ b, v < 256) : (Lib.bytesOf (a.map fun v : Nat => (v : Int)) == Lib.bytesOf (b.map fun v : Nat => (v : Int))) = decide (a = b) := by
  by_cases h : a = b
  · subst h; simp
  · rw [decide_eq_false h, beq_eq_false_iff_ne]
    intro e
    apply h
    have key : ∀ l : List Nat, (∀ v ∈ l, v < 256) → (Lib.bytesOf (l.map fun v : Nat => (v : Int))).map UInt8.toNat = l := fun l hl => by
      rw [Lib.bytesOf, List.map_map, List.map_map]
      conv => rhs; rw [← List.map_id l]
      apply List.map_congr_left
      intro v hv
      have := hl v hv
      simp
      omega
    rw [← key a ha, ← key b hb, e]
/-- bytes.Equal. -/
theorem beq_sl (x y : Value) (a b : List Nat) (w : World) (hx : Sl w x a) (hy : Sl w y b) : Calls Tryd.prog 29 #[x, y] w fun e w' => e = .returned (.bool (decide (a = b))) ∧ w' = w := by
  obtain ⟨xo, xc, rfl⟩ := hx.form
  obtain ⟨yo, yc, rfl⟩ := hy.form
  have := beq_any xo yo a.length xc b.length yc _ _ w hx.ints.1 hy.ints.1 hx.ints.2 hy.ints.2
  rw [bytesOf_inj hx.b hy.b] at this
  exact this
end Go.Proofs.YthccbfgjekdiiaaDoor

