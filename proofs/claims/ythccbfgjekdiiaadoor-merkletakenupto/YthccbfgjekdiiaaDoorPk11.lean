import Derived.Test.YthccbfgjekdiiaaDoorPk10
import Derived.Test.YthccbfgjekdiiaaDoorPk7
import Derived.Test.YthccbfgjekdiiaaDoorPk4
import Derived.Test.YthccbfgjekdiiaaDoorPk5
import Derived.Test.YthccbfgjekdiiaaDoorPk1
import Derived.Test.YthccbfgjekdiiaaDoorPk8
namespace Go.Proofs.YthccbfgjekdiiaaDoor
open Go.RowKit

set_option maxRecDepth 100000 in
set_option maxHeartbeats 2000000 in
/-- What a proof says, its one hash the root of the part where SUB ends, in a slice of capacity 1. -/
theorem ofProof_r1 (wi m n : Nat) (h0 : 0 < m) (hm : m ≤ n) (hn : n < 9223372036854775808) (he : ¬ (endF 0 n m).1 = 0) (ro : Option Addr) (rn rc : Nat) (g o : Nat) (vo : Option Addr) (vn vc : Nat) (w : World) (hc : w.cell? ⟨g, o, none⟩ = some (.slice vo vn vc)) :
    Calls Tryd.prog 30 #[.int .i64 wi, .int .i64 m, .int .i64 n, .slice ro rn rc, .slice (some ⟨g, o, none⟩) 1 1] w fun e w' => e = .returned (.tuple #[cv wi (endF 0 n m).1 (endF 0 n m).2 (.slice vo vn vc) (.slice (some ⟨g, o, none⟩) 0 0), .bool true]) ∧ Fr (fun _ => False) w w' := by
  have hend := fun w' => end_any n 0 n m w' (Nat.le_refl _) (by omega) h0 (by omega)
  unfold EndSays at hend
  generalize (endF 0 n m).2 = EN at *
  generalize (endF 0 n m).1 = E1 at *
  have q1 : ((E1 : Int) == 0) = false := beq_false_of_ne (by omega)
  have q2 := he
  have HE := hide hend
  clear hend he h0 hm hn
  unfold sv cv at *
  have e0 : ((0 : Nat) : Int) = 0 := rfl
  simp only [e0] at HE ⊢
  clear e0
  go_enter Tryd.func30, Tryd.ntmps30
  go_wp2_with fail
  obtain ⟨W0, hW0⟩ : ∃ W0, w.alloc (.cells #[.int .i64 0, .int .i64 0, .int .i64 0, .slice none 0 0, .slice none 0 0] 59) = W0 := ⟨_, rfl⟩
  rw [hW0]
  obtain ⟨⟨a0, a1, a2, a3, a4⟩, hz, hF0⟩ := nil5 w W0 hW0
  refine ((unhide HE) _).mono ?_
  rintro e w1 ⟨rfl, hF⟩
  have hc1 := ((hF0.trans hF (fun _ _ h => h)).cell (lt_of_cell hc) (fun h => h)).trans hc
  have hgl : g < w1.heap.size := lt_of_cell hc1
  have hgl1 : g < w1.heap.size + 1 := Nat.lt_succ_of_lt hgl
  have hgne : ¬ g = w.heap.size := by have := lt_of_cell hc; exact fun h => by simp at this; omega
  clear hc
  have c0 := (hF.cell (lt_of_cell a0) (fun h => h)).trans a0
  have c1 := (hF.cell (lt_of_cell a1) (fun h => h)).trans a1
  have c2 := (hF.cell (lt_of_cell a2) (fun h => h)).trans a2
  have c3 := (hF.cell (lt_of_cell a3) (fun h => h)).trans a3
  have c4 := (hF.cell (lt_of_cell a4) (fun h => h)).trans a4
  have y0 := (hF.frozen (p := ⟨w.heap.size, 0, none⟩) (lt_of_cell a0) (fun h => h)).trans (hz 0 (by decide))
  have y1 := (hF.frozen (p := ⟨w.heap.size, 1, none⟩) (lt_of_cell a1) (fun h => h)).trans (hz 1 (by decide))
  have y2 := (hF.frozen (p := ⟨w.heap.size, 2, none⟩) (lt_of_cell a2) (fun h => h)).trans (hz 2 (by decide))
  have y3 := (hF.frozen (p := ⟨w.heap.size, 3, none⟩) (lt_of_cell a3) (fun h => h)).trans (hz 3 (by decide))
  have y4 := (hF.frozen (p := ⟨w.heap.size, 4, none⟩) (lt_of_cell a4) (fun h => h)).trans (hz 4 (by decide))
  have HF := hide (hF0.trans hF (fun _ _ h => h))
  have hP : w.heap.size ≤ w.heap.size := Nat.le_refl _
  clear hF hF0 a0 a1 a2 a3 a4 hz hW0
  generalize hPe : w.heap.size = P at *
  have HP := hide hPe
  clear hPe
  have l0 : P < w1.heap.size := lt_of_cell c0
  have l1 : P < w1.heap.size + 1 := Nat.lt_succ_of_lt l0
  go_wp2_with fail
  go_region
  go_wp2_with fail
  obtain ⟨W2, hW2⟩ : ∃ W2, ((((w1.setCell ⟨P, 0, none⟩ (.int .i64 (wi : Int))).setCell ⟨P, 1, none⟩ (.int .i64 (E1 : Int))).setCell ⟨P, 2, none⟩ (.int .i64 (EN : Int))).setCell ⟨P, 3, none⟩ (.slice vo vn vc)).setCell ⟨P, 4, none⟩ (.slice (some ⟨g, o, none⟩) 0 0) = W2 := ⟨_, rfl⟩
  obtain ⟨k0, k1, k2, k3, k4⟩ := set5 w1 P _ _ _ _ _ (fun j hj => by
    match j, hj with
    | 0, _ => rw [c0]; rfl
    | 1, _ => rw [c1]; rfl
    | 2, _ => rw [c2]; rfl
    | 3, _ => rw [c3]; rfl
    | 4, _ => rw [c4]; rfl) W2 hW2
  have hPw : w.heap.size ≤ P := Nat.le_of_eq (unhide HP)
  have hF2 : Fr (fun _ => False) w W2 := by
    rw [← hW2]
    exact (((((unhide HF).setCell (p := ⟨P, 0, none⟩) (.inr hPw) _).setCell (p := ⟨P, 1, none⟩) (.inr hPw) _).setCell (p := ⟨P, 2, none⟩) (.inr hPw) _).setCell (p := ⟨P, 3, none⟩) (.inr hPw) _).setCell (p := ⟨P, 4, none⟩) (.inr hPw) _
  rw [hW2]
  obtain ⟨W3, hW3⟩ : ∃ W3, (W2.alloc (.cells #[.int .i64 (E1 : Int), .int .i64 (EN : Int)] 57)).drew = W3 := ⟨_, rfl⟩
  have hF3 : Fr (fun _ => False) W2 W3 := by rw [← hW3]; exact ((Fr.refl _ _).alloc _).drew
  rw [hW3]
  have j0 := (hF3.cell (lt_of_cell k0) (fun h => h)).trans k0
  have j1 := (hF3.cell (lt_of_cell k1) (fun h => h)).trans k1
  have j2 := (hF3.cell (lt_of_cell k2) (fun h => h)).trans k2
  have j3 := (hF3.cell (lt_of_cell k3) (fun h => h)).trans k3
  have j4 := (hF3.cell (lt_of_cell k4) (fun h => h)).trans k4
  refine bodyPost_ret (by simp [results, Tryd.results30, go_sem, j0, j1, j2, j3, j4]; try rfl) rfl ?_
  exact ⟨rfl, hF2.trans hF3 (fun _ _ h => h)⟩
end Go.Proofs.YthccbfgjekdiiaaDoor

namespace Go.Proofs.YthccbfgjekdiiaaDoor
open Go.RowKit

/-- Whether hashes say of a part that the older root and the root come out of them. -/
def bodyQ (wi n ef en : Nat) (r : List Nat) (qs : List (List Nat)) (old root : List Nat) : Bool :=
  decide (qs.length = dep 0 n ef en) && (decide (olderv wi r 0 n ef en qs = old) && decide (topv wi r 0 n ef en qs = root))
def prfQ (wi n m : Nat) (old root : List Nat) (ps : List (List Nat)) : Bool :=
  if (endF 0 n m).1 = 0 then bodyQ wi n (endF 0 n m).1 (endF 0 n m).2 old ps old root
  else match ps with
    | [] => false
    | p :: q => bodyQ wi n (endF 0 n m).1 (endF 0 n m).2 p q old root
/-- Whether CheckProof takes a proof. -/
def chkQ (j m n : Int) (old root : List Nat) (ps : List (List Nat)) : Bool :=
  decide (1 ≤ j ∧ j ≤ 32) && (decide (0 ≤ m) && (decide (m ≤ n) && (wdq j [old, root] && (wdq j ps &&
    (if m = 0 then decide (ps = []) && (decide (old = sm j []) && (decide (0 < n) || decide (root = sm j []))) else prfQ j.toNat n.toNat m.toNat old root ps)))))
/-- The claim that a proof makes. -/
theorem ofProof_any (wi m n : Nat) (h0 : 0 < m) (hm : m ≤ n) (hn : n < 9223372036854775808) (ov x : Value) (old root : List Nat) (vs : List Value) (ps : List (List Nat)) (w : World) (ho : Sl w ov old) (hp : Pcs w x vs ps) (hcx : Cp x) (how : old.length = wi) (hpw : ∀ p ∈ ps, p.length = wi) (h : (endF 0 n m).1 = 0 ∨ ps ≠ []) :
    ∃ (ro : Option Addr) (rn rc : Nat) (yo : Option Addr) (yc : Nat) (r : List Nat) (us : List Value) (qs : List (List Nat)), Sl w (.slice ro rn rc) r ∧ r.length = wi ∧ Pcs w (.slice yo qs.length yc) us qs ∧ Cp (.slice yo qs.length yc) ∧ (∀ p ∈ qs, p.length = wi) ∧ prfQ wi n m old root ps = bodyQ wi n (endF 0 n m).1 (endF 0 n m).2 r qs old root ∧
      ∀ w', Fr (fun _ => False) w w' → Calls Tryd.prog 30 #[.int .i64 wi, .int .i64 m, .int .i64 n, ov, x] w' fun e w'' => e = .returned (.tuple #[cv wi (endF 0 n m).1 (endF 0 n m).2 (.slice ro rn rc) (.slice yo qs.length yc), .bool true]) ∧ Fr (fun _ => False) w' w'' := by
  obtain ⟨oo, oc, rfl⟩ := ho.form
  obtain ⟨xo, xc, rfl⟩ := hp.form
  by_cases he : (endF 0 n m).1 = 0
  · exact ⟨oo, old.length, oc, xo, xc, old, vs, ps, ho, how, hp, hcx, hpw, by unfold prfQ; rw [if_pos he], fun w' _ => ofProof_l wi m n h0 hm hn he oo _ oc xo _ xc w'⟩
  · have hne := h.resolve_left he
    match ps, hne with
    | p :: q, _ =>
      obtain ⟨g, o, vo, vc, rfl, hc, hs⟩ := hp.nth (Fr.refl _ _) 0 (by simp)
      have hcap : q.length + 1 ≤ xc := hcx _ _ _ rfl
      simp only [List.getElem_cons_zero, Nat.add_zero] at hc hs
      have e : prfQ wi n m old root (p :: q) = bodyQ wi n (endF 0 n m).1 (endF 0 n m).2 p q old root := by unfold prfQ; rw [if_neg he]
      by_cases h1 : xc = 1
      · have hq : q = [] := List.length_eq_zero_iff.1 (by omega)
        subst h1 hq
        refine ⟨vo, p.length, vc, some ⟨g, o, none⟩, 0, p, [], [], hs, hpw p (by simp), ⟨rfl, .inr (.inl ⟨_, _, rfl, rfl⟩), (fun j v p h => by simp at h), (fun p h => by cases h)⟩, (fun _ _ _ e => by cases e; exact Nat.le_refl _), (fun p h => by cases h), e, fun w' hf => ?_⟩
        exact ofProof_r1 wi m n h0 hm hn he oo _ oc g o vo _ vc w' ((hf.cell (lt_of_cell hc) (fun h => h)).trans hc)
      · have hP : Pcs w (.slice (some ⟨g, o + 1, none⟩) q.length (xc - 1)) (vs.drop 1) q := by
          by_cases hq : q.length = 0
          · have hq0 : q = [] := List.length_eq_zero_iff.1 hq
            subst hq0
            have hv : vs.drop 1 = [] := List.length_eq_zero_iff.1 (by rw [List.length_drop, hp.len]; rfl)
            rw [hv]
            exact ⟨rfl, .inr (.inl ⟨_, _, rfl, rfl⟩), (fun j v p h => by simp at h), (fun p h => by cases h)⟩
          · exact hp.drop 1 (by simp; omega)
        refine ⟨vo, p.length, vc, some ⟨g, o + 1, none⟩, xc - 1, p, vs.drop 1, q, hs, hpw p (by simp), hP, fun _ _ _ e => by cases e; omega, fun p' h => hpw p' (by simp [h]), e, fun w' hf => ?_⟩
        exact ofProof_r wi m n h0 hm hn he oo _ oc g o q.length xc vo _ vc w' ((hf.cell (lt_of_cell hc) (fun h => h)).trans hc) hcap h1
end Go.Proofs.YthccbfgjekdiiaaDoor

namespace Go.Proofs.YthccbfgjekdiiaaDoor
open Go.RowKit

theorem hf_mid {n k : Nat} (h1 : hf n < k) (h2 : k ≤ n) : hf k = hf n := by
  have hp := hf_pos n
  have hge := hf_ge n (by omega)
  exact hf_uniq k _ (by unfold hf at h1; exact h1) (by unfold hf at hge; omega)
/-- The older root that a proof's hashes give. -/
theorem olderv_bes (wi : Nat) (L : List (List Nat)) (k : Nat) : ∀ f n m, n ≤ k → f + n ≤ L.length → f < m → m ≤ f + n → olderv wi (mth wi (blk L (endF f n m).1 (endF f n m).2)) f n (endF f n m).1 (endF f n m).2 (bes wi L f n (endF f n m).1 (endF f n m).2) = mth wi (blk L f (m - f)) := by
  induction k with
  | zero => intro f n m h _ h1 h2; omega
  | succ k ih =>
    intro f n m h hL h1 h2
    by_cases e : m = f + n
    · rw [endF_eq e]
      simp only [olderv_eq]
      rw [show m - f = n by omega]
    · have hn2 : 2 ≤ n := by omega
      have hlt := hf_lt n hn2
      have hp := hf_pos n
      by_cases hl : m ≤ f + hf n
      · rw [endF_l hn2 e hl]
        obtain ⟨e1, e2, e3, -, -⟩ := endF_ok _ f (hf n) m (Nat.le_refl _) h1 hl
        have hne : ¬ (f = (endF f (hf n) m).1 ∧ n = (endF f (hf n) m).2) := by omega
        have hlt2 : (endF f (hf n) m).1 < f + hf n := by omega
        rw [olderv_l hn2 hne hlt2, bes_l hn2 hne hlt2]
        simp only [List.dropLast_concat]
        exact ih f (hf n) m (by omega) (by omega) h1 hl
      · rw [endF_r hn2 e hl]
        obtain ⟨e1, e2, e3, -, -⟩ := endF_ok _ (f + hf n) (n - hf n) m (Nat.le_refl _) (by omega) (by omega)
        have hne : ¬ (f = (endF (f + hf n) (n - hf n) m).1 ∧ n = (endF (f + hf n) (n - hf n) m).2) := by omega
        have hlt2 : ¬ (endF (f + hf n) (n - hf n) m).1 < f + hf n := by omega
        rw [olderv_r hn2 hne hlt2, bes_r hn2 hne hlt2]
        simp only [List.dropLast_concat, List.getLastD_concat]
        rw [ih (f + hf n) (n - hf n) m (by omega) (by omega) (by omega) (by omega)]
        have hm : hf (m - f) = hf n := hf_mid (by omega) (by omega)
        rw [blk_halves L f (m - f) (by omega) (by omega) wi, hm]
        rw [show m - f - hf n = m - (f + hf n) by omega]
theorem prf_wid (wi : Nat) (hw1 : 1 ≤ wi) (hw32 : wi ≤ 32) (L : List (List Nat)) (hL : ∀ p ∈ L, p.length = wi) (n m : Nat) : ∀ p ∈ prf wi L n m, p.length = wi := by
  intro p hp
  unfold prf at hp
  split at hp
  · cases hp
  · split at hp
    · exact bes_wid wi hw1 hw32 L hL _ _ _ _ _ (Nat.le_refl _) p hp
    · rcases List.mem_cons.1 hp with rfl | hp
      · exact mth_wid wi hw1 hw32 _ (fun p hp => hL p (blk_mem _ _ _ p hp))
      · exact bes_wid wi hw1 hw32 L hL _ _ _ _ _ (Nat.le_refl _) p hp
theorem wdq_two {j : Int} {a b : List Nat} (ha : (a.length : Int) = j) (hb : (b.length : Int) = j) : wdq j [a, b] = true := by simp [wdq, ha, hb]
/-- A proof that the tree tells is taken. -/
theorem chkQ_prf (wi : Nat) (hw1 : 1 ≤ wi) (hw32 : wi ≤ 32) (L : List (List Nat)) (hL : ∀ p ∈ L, p.length = wi) (m : Nat) (hm : m ≤ L.length) : chkQ wi m L.length (mth wi (L.take m)) (mth wi L) (prf wi L L.length m) = true := by
  have hwd := wdq_of (j := (wi : Int)) (fun p hp => by have := prf_wid wi hw1 hw32 L hL L.length m p hp; omega)
  have h1 := mth_wid wi hw1 hw32 L hL
  have h2 := mth_wid wi hw1 hw32 (L.take m) (fun p hp => hL p (List.mem_of_mem_take hp))
  rw [chkQ, decide_eq_true (by omega), decide_eq_true (by omega), decide_eq_true (by omega), wdq_two (by omega) (by omega), hwd]
  simp only [Bool.true_and, Int.toNat_natCast]
  by_cases h0 : m = 0
  · subst h0
    rw [if_pos (by rfl), prf, if_pos rfl]
    simp only [decide_true, Bool.true_and, List.take_zero, mth_nil]
    rcases L with _ | ⟨a, r⟩
    · simp [mth_nil]
    · simp
  · rw [if_neg (by omega)]
    have hb0 : blk L 0 m = L.take m := by rw [blk, List.drop_zero]
    obtain ⟨e1, e2, e3, e4, -⟩ := endF_ok _ 0 L.length m (Nat.le_refl _) (by omega) (by omega)
    have ho := olderv_bes wi L _ 0 L.length m (Nat.le_refl _) (by omega) (by omega) (by omega)
    have ht := topv_bes wi L _ 0 L.length _ _ (Nat.le_refl _) (by omega) e4
    rw [Nat.sub_zero, hb0] at ho
    rw [blk_all] at ht
    have hl := bes_len wi L _ 0 L.length (endF 0 L.length m).1 (endF 0 L.length m).2 (Nat.le_refl _)
    unfold prfQ prf
    rw [if_neg h0]
    by_cases he : (endF 0 L.length m).1 = 0
    · rw [if_pos he, if_pos he]
      have hb : blk L (endF 0 L.length m).1 (endF 0 L.length m).2 = L.take m := by rw [← hb0, he]; congr 1; omega
      rw [hb] at ho ht
      unfold bodyQ
      rw [hl, ho, ht]
      simp
    · rw [if_neg he, if_neg he]
      simp only
      unfold bodyQ
      rw [hl, ho, ht]
      simp
/-- With a hash more it is not. -/
theorem chkQ_more (wi : Nat) (L : List (List Nat)) (n m : Nat) (old root x : List Nat) : chkQ wi m n old root (prf wi L n m ++ [x]) = false := by
  cases hq : chkQ wi m n old root (prf wi L n m ++ [x]) with
  | false => rfl
  | true =>
    exfalso
    unfold chkQ at hq
    simp only [Bool.and_eq_true, Int.toNat_natCast] at hq
    obtain ⟨-, -, -, -, -, hq⟩ := hq
    by_cases h0 : m = 0
    · subst h0
      rw [if_pos (by rfl)] at hq
      simp at hq
    · rw [if_neg (by omega)] at hq
      have hl := bes_len wi L _ 0 n (endF 0 n m).1 (endF 0 n m).2 (Nat.le_refl _)
      unfold prfQ prf at hq
      rw [if_neg h0] at hq
      by_cases he : (endF 0 n m).1 = 0
      · rw [if_pos he, if_pos he] at hq
        unfold bodyQ at hq
        simp only [Bool.and_eq_true, decide_eq_true_eq, List.length_append, List.length_singleton] at hq
        omega
      · rw [if_neg he, if_neg he] at hq
        simp only [List.cons_append] at hq
        unfold bodyQ at hq
        simp only [Bool.and_eq_true, decide_eq_true_eq, List.length_append, List.length_singleton] at hq
        omega
theorem chkP_more (wi : Nat) (L : List (List Nat)) (n i : Nat) (leaf root x : List Nat) : chkP wi leaf i n (bes wi L 0 n i 1 ++ [x]) root = false := by
  cases hq : chkP wi leaf i n (bes wi L 0 n i 1 ++ [x]) root with
  | false => rfl
  | true =>
    exfalso
    unfold chkP at hq
    simp only [Bool.and_eq_true, Int.toNat_natCast, decide_eq_true_eq, List.length_append, List.length_singleton] at hq
    have hl := bes_len wi L _ 0 n i 1 (Nat.le_refl _)
    omega
end Go.Proofs.YthccbfgjekdiiaaDoor

namespace Go.Proofs.YthccbfgjekdiiaaDoor
open Go.RowKit

theorem OB.fr0 {w wr wq : World} {xo : Option Addr} {cp : Nat} {l : List Nat} (h : OB w wr xo cp l) (hf : Fr (fun _ => False) wr wq) : OB w wq xo cp l := ⟨h.ow.fr0 hf, h.fr.trans hf (fun _ _ h => h)⟩
/-- One hash ahead of hashes that were made behind it. -/
theorem OL.front {w w1 w2 W : World} {yo bo : Option Addr} {yc bc wi : Nat} {us : List Value} {qs : List (List Nat)} {l : List Nat} (hO : OB w w1 yo yc l) (k : OL w1 w2 bo bc us qs) (hb : ∀ v ∈ l, v < 256) (hl : l.length = wi) (hW : w2.alloc (.cells #[.slice yo wi yc] 25) = W) (hn : us.length < 16000000) :
    ∃ ao' cp' w3, (Builtin.append_ #[22, 22] 22 #[.slice (some ⟨w2.heap.size, 0, none⟩) 1 1, .slice bo us.length bc]).run Tryd.prog W = .ok (.slice ao' (1 + us.length) cp') w3 ∧ OL w w3 ao' cp' ([.slice yo wi yc] ++ us) ([l] ++ qs) := by
  have hF : Fr (fun _ => False) w2 W := by rw [← hW]; exact (Fr.refl _ _).alloc _
  have hA := ol_lit1 (hO.fr0 k.own.fr) hb wi hl W hW
  have hB := (k.fr0 hF).base hO.fr
  refine hA.add _ us qs hB.ss hB.len hB.row hB.apart (fun v hv u hu g hg hg' => ?_) hB.byt (by simp; omega)
  simp at hv
  subst hv
  have h2 := (k.inner_lt u hu g hg').1
  have h3 := (World.ownsRow.lt hO.own g (by rw [hl]; exact hg)).2
  omega
/-- The roots of the whole trees. -/
def pks (wi : Nat) (L : List (List Nat)) (f n : Nat) : List (List Nat) :=
  if _h : oc n = 1 ∨ n < 2 then [mth wi (blk L f n)]
  else mth wi (blk L f (hf n)) :: pks wi L (f + hf n) (n - hf n)
termination_by n
decreasing_by
  have := hf_pos n; omega
theorem pks_one {wi : Nat} {L : List (List Nat)} {f n : Nat} (h : oc n = 1) : pks wi L f n = [mth wi (blk L f n)] := by rw [pks, dif_pos (.inl h)]
theorem pks_two {wi : Nat} {L : List (List Nat)} {f n : Nat} (h : ¬ oc n = 1) (h2 : 2 ≤ n) : pks wi L f n = mth wi (blk L f (hf n)) :: pks wi L (f + hf n) (n - hf n) := by
  conv => lhs; rw [pks, dif_neg (by omega)]
theorem pks_le (wi : Nat) (L : List (List Nat)) (k : Nat) : ∀ f n, n ≤ k → (pks wi L f n).length ≤ n + 1 := by
  induction k with
  | zero => intro f n h; rw [pks, dif_pos (by omega)]; simp
  | succ k ih =>
    intro f n h
    by_cases h1 : oc n = 1 ∨ n < 2
    · rw [pks, dif_pos h1]; simp
    · have h3 := hf_lt n (by omega)
      have h4 := hf_pos n
      rw [pks_two (by omega) (by omega)]
      have := ih (f + hf n) (n - hf n) (by omega)
      simp; omega
def PeaksSays (tb wi : Nat) (L : List (List Nat)) (f n : Nat) (w : World) : Prop :=
  Calls Tryd.prog 73 #[pv (.pointer (some ⟨tb, 0, none⟩)) f n] w fun e w' => ∃ ao cp vs, e = .returned (.slice ao vs.length cp) ∧ OL w w' ao cp vs (pks wi L f n)
set_option maxRecDepth 100000 in
set_option maxHeartbeats 2000000 in
theorem peaks_any (tb wi : Nat) (hw1 : 1 ≤ wi) (hw32 : wi ≤ 32) (L : List (List Nat)) (k : Nat) : ∀ (f n : Nat) (w : World), n ≤ k → 1 ≤ n → Tk w tb wi L → Al f n → f + n ≤ L.length → PeaksSays tb wi L f n w := by
  induction k with
  | zero => intro f n w h h1; omega
  | succ k ih =>
    intro f n w hk h1 hT hA hL
    have hle := hT.len
    have hwh := fun w' => whole_any (some ⟨tb, 0, none⟩) f n w' (by omega)
    by_cases hoc : oc n = 1
    · rw [decide_eq_true hoc] at hwh
      have hroot := fun w' (hf : Fr (fun _ => False) w w') => root_any tb wi hw1 hw32 L _ f n w' (Nat.le_refl _) (hT.fr0 hf) hA hL
      have hMw := hT.mw hw1 hw32 f n
      have hMb := hT.mb f n
      unfold PeaksSays
      unfold RootSays at hroot
      rw [pks_one hoc]
      generalize mth wi (blk L f n) = M at *
      have HC := hide (And.intro hwh (And.intro hroot (And.intro hMw hMb)))
      clear hwh hroot hMw hMb hT hA hL ih hoc hk h1 hle
      unfold pv at *
      go_enter Tryd.func73, Tryd.ntmps73
      go_wp2_with fail
      refine ((unhide HC).1 _).mono ?_
      rintro e wA ⟨rfl, hFA⟩
      obtain ⟨b0, b1, b2, hFw⟩ := box3 hFA
      have HFA := hide hFw
      clear hFA hFw
      generalize w.heap.size = P at *
      go_wp2_with fail
      refine ((unhide HC).2.1 _ (unhide HFA)).mono ?_
      rintro e w1 ⟨yo, yc, rfl, hO⟩
      obtain ⟨W, hW⟩ : ∃ W, w1.alloc (.cells #[.slice yo wi yc] 25) = W := ⟨_, rfl⟩
      have hL1 := (ol_lit1 hO (unhide HC).2.2.2 wi (unhide HC).2.2.1 W hW).base (unhide HFA)
      have H1 := hide hL1
      clear hL1 hO
      go_wp2_with fail
      go_ret
      exact ⟨_, 1, _, rfl, unhide H1⟩
    · rw [decide_eq_false hoc] at hwh
      have h3 : 3 ≤ n := by
        have e1 : n ≠ 1 := fun e => hoc (by rw [e]; exact oc_pow 0 (by decide))
        have e2 : n ≠ 2 := fun e => hoc (by rw [e]; exact oc_pow 1 (by decide))
        omega
      have hlt := hf_lt n (by omega)
      have hpos := hf_pos n
      obtain ⟨hA1, hA2⟩ := hA.halves (by omega)
      have hpt := fun w' => parts_any (some ⟨tb, 0, none⟩) f n w' (by omega) (by omega)
      have hroot := fun w' (hf' : Fr (fun _ => False) w w') => root_any tb wi hw1 hw32 L _ f (hf n) w' (Nat.le_refl _) (hT.fr0 hf') hA1 (by omega)
      have hrec := fun w' (hf' : Fr (fun _ => False) w w') => ih (f + hf n) (n - hf n) w' (by omega) (by omega) (hT.fr0 hf') hA2 (by omega)
      have hMw := hT.mw hw1 hw32 f (hf n)
      have hMb := hT.mb f (hf n)
      have hpl := pks_le wi L _ (f + hf n) (n - hf n) (Nat.le_refl _)
      have hpl2 : (pks wi L (f + hf n) (n - hf n)).length < 16000000 := by omega
      unfold PeaksSays at *
      unfold RootSays at hroot
      rw [pks_two hoc (by omega)]
      generalize mth wi (blk L f (hf n)) = M at *
      generalize pks wi L (f + hf n) (n - hf n) = PS at *
      generalize f + hf n = F2 at *
      generalize n - hf n = N2 at *
      generalize hf n = K at *
      have HC := hide (And.intro hwh (And.intro hpt (And.intro hroot (And.intro hrec (And.intro hMw (And.intro hMb hpl2))))))
      clear hwh hpt hroot hrec hMw hMb hpl hpl2 hT hA hL ih hoc hk h1 hle hA1 hA2 h3 hlt hpos
      unfold pv at *
      go_enter Tryd.func73, Tryd.ntmps73
      go_wp2_with fail
      refine ((unhide HC).1 _).mono ?_
      rintro e wA ⟨rfl, hFA⟩
      obtain ⟨b0, b1, b2, hFw⟩ := box3 hFA
      have HFA := hide hFw
      clear hFA hFw
      generalize w.heap.size = P at *
      go_wp2_with fail
      refine ((unhide HC).2.1 _).mono ?_
      rintro e wB ⟨rfl, hFB⟩
      have HFB := hide ((unhide HFA).trans hFB (fun _ _ h => h))
      clear hFB b0 b1 b2 HFA
      go_wp2_with fail
      obtain ⟨W, hW⟩ : ∃ W, (wB.alloc (.cells #[.pointer (some ⟨tb, 0, none⟩), .int .i64 f, .int .i64 K] 79)).alloc (.cells #[.pointer (some ⟨tb, 0, none⟩), .int .i64 F2, .int .i64 N2] 79) = W := ⟨_, rfl⟩
      rw [hW]
      obtain ⟨x0, x1, x2, y0, y1, y2, hFW⟩ := two3 wB _ _ _ _ _ _ _ W hW
      have HFW := hide ((unhide HFB).trans hFW (fun _ _ h => h))
      clear hW hFW
      generalize wB.heap.size = Z at *
      have hS : ∀ w', Fr (fun _ => False) W w' → w'.cell? ⟨Z, 0, none⟩ = some (.pointer (some ⟨tb, 0, none⟩)) ∧ w'.cell? ⟨Z, 1, none⟩ = some (.int .i64 f) ∧ w'.cell? ⟨Z, 2, none⟩ = some (.int .i64 K) ∧ w'.cell? ⟨Z + 1, 0, none⟩ = some (.pointer (some ⟨tb, 0, none⟩)) ∧ w'.cell? ⟨Z + 1, 1, none⟩ = some (.int .i64 F2) ∧ w'.cell? ⟨Z + 1, 2, none⟩ = some (.int .i64 N2) := fun w' hf =>
        ⟨(hf.cell (lt_of_cell x0) (fun h => h)).trans x0, (hf.cell (lt_of_cell x1) (fun h => h)).trans x1, (hf.cell (lt_of_cell x2) (fun h => h)).trans x2, (hf.cell (lt_of_cell y0) (fun h => h)).trans y0, (hf.cell (lt_of_cell y1) (fun h => h)).trans y1, (hf.cell (lt_of_cell y2) (fun h => h)).trans y2⟩
      have HS := hide hS
      clear hS
      go_region_held3 (fun w' => w'.cell? ⟨Z, 0, none⟩ = some (.pointer (some ⟨tb, 0, none⟩)) ∧ w'.cell? ⟨Z, 1, none⟩ = some (.int .i64 f) ∧ w'.cell? ⟨Z, 2, none⟩ = some (.int .i64 K) ∧ w'.cell? ⟨Z + 1, 0, none⟩ = some (.pointer (some ⟨tb, 0, none⟩)) ∧ w'.cell? ⟨Z + 1, 1, none⟩ = some (.int .i64 F2) ∧ w'.cell? ⟨Z + 1, 2, none⟩ = some (.int .i64 N2))
        (first | assumption | exact (unhide HS) _ (Fr.refl _ _).drew | exact (unhide HS) _ fE | exact (unhide HS) _ (fD.alloc _) | exact (unhide HS) _ fD | exact (unhide HS) _ (fC.alloc _) | exact (unhide HS) _ fC)
        (first
          | (go_at_call 50; refine ((unhide HC).2.2.1 _ (by exact (unhide HFW).drew)).mono ?_; rintro e wC ⟨zo, zc, rfl, oC⟩; have fC : Fr (fun _ => False) W wC := (Fr.refl _ _).drew.trans oC.fr (fun _ _ h => h))
          | (go_at_call 73; refine ((unhide HC).2.2.2.1 _ (by first | exact (unhide HFW).trans fC (fun _ _ h => h) | exact ((unhide HFW).trans fC (fun _ _ h => h)).alloc _)).mono ?_; rintro e wD ⟨bo, bc, us, rfl, oD⟩; have fD : Fr (fun _ => False) W wD := by first | exact fC.trans oD.own.fr (fun _ _ h => h) | exact (fC.alloc _).trans oD.own.fr (fun _ _ h => h))
          | (refine Exists.elim ((ol_lit1 oC (unhide HC).2.2.2.2.2.1 wi (unhide HC).2.2.2.2.1 _ rfl).cat oD (by rw [oD.len]; have := (unhide HC).2.2.2.2.2.2; simp; omega)) fun ao2 h => Exists.elim h fun cp2 h => Exists.elim h fun wE h => ?_; have hr2 := h.1; have hO2 := h.2; clear h; have fE : Fr (fun _ => False) W wE := (Fr.refl _ _).drew.trans hO2.own.fr (fun _ _ h => h); refine step_app rfl (.tmp 17) (.tmp 19) 22 22 rfl _ _ _ (by simp [Act.eval]) (by simp [Act.eval]) hr2 ?_)
          | (refine Exists.elim (OL.front oC oD (unhide HC).2.2.2.2.2.1 (unhide HC).2.2.2.2.1 rfl (by rw [oD.len]; exact (unhide HC).2.2.2.2.2.2)) fun ao2 h => Exists.elim h fun cp2 h => Exists.elim h fun wE h => ?_; have hr2 := h.1; have hO2 := h.2; clear h; have fE : Fr (fun _ => False) W wE := (Fr.refl _ _).drew.trans hO2.own.fr (fun _ _ h => h); refine step_app rfl (.tmp 17) (.tmp 19) 22 22 rfl _ _ _ (by simp [Act.eval]) (by simp [Act.eval]) hr2 ?_))
      all_goals
        have HE := hide (hO2.base ((unhide HFW).drew))
        clear oC oD hO2 hr2 fC fD fE
        go_wp2_with fail
        go_ret
        first | exact ⟨ao2, cp2, _, by rw [List.length_append]; rfl, unhide HE⟩ | exact ⟨ao2, cp2, _, by simp, unhide HE⟩
set_option maxRecDepth 100000 in
set_option maxHeartbeats 1000000 in
/-- Tree.Peaks. -/
theorem tpeaks_in (tb wi : Nat) (hw1 : 1 ≤ wi) (hw32 : wi ≤ 32) (L : List (List Nat)) (w : World) (hT : Tk w tb wi L) (h0 : 0 < L.length) :
    Calls Tryd.prog 43 #[.pointer (some ⟨tb, 0, none⟩)] w fun e w' => ∃ ao cp vs, e = .returned (.slice ao vs.length cp) ∧ OL w w' ao cp vs (pks wi L 0 L.length) := by
  obtain ⟨c0, c1, htb⟩ := hT.c0
  have hhas : Calls Tryd.prog 48 #[.pointer (some ⟨tb, 0, none⟩), .int .i64 L.length] w fun e w' => e = .returned (.bool true) ∧ w' = w := by
    have := has_any tb L.length wi L.length w c0 c1
    rw [decide_eq_true (by omega)] at this
    exact this
  have hpk := fun w' (hf : Fr (fun _ => False) w w') => peaks_any tb wi hw1 hw32 L _ 0 L.length w' (Nat.le_refl _) h0 (hT.fr0 hf) (al_zero _) (by omega)
  unfold PeaksSays at hpk
  have HG := hide (And.intro hhas hpk)
  have q1 : ¬ L.length = 0 := by omega
  have q2 : ((L.length : Int) == 0) = false := beq_false_of_ne (by omega)
  clear hhas hpk hT htb c0
  generalize pks wi L 0 L.length = PS at *
  have q3 : ¬ L = [] := fun h => q1 (by rw [h]; rfl)
  generalize L.length = N at *
  go_enter Tryd.func43, Tryd.ntmps43
  go_wp2_with fail
  refine (unhide HG).1.mono ?_
  rintro e w0 ⟨rfl, rfl⟩
  go_wp2_with fail
  refine (first_any _ _ _).mono ?_
  rintro e w1 ⟨rfl, hF1⟩
  have H1 := hide hF1
  clear hF1
  go_wp2_with fail
  refine ((unhide HG).2 w1 (unhide H1)).mono ?_
  rintro e w2 ⟨ao, cp, vs, rfl, hO⟩
  have H2 := hide (hO.base (unhide H1))
  clear hO
  go_wp2_with fail
  go_ret
  exact ⟨ao, cp, vs, rfl, unhide H2⟩
set_option maxRecDepth 100000 in
set_option maxHeartbeats 1000000 in
theorem tpeaks_no (tb n : Nat) (wi : Int) (w : World) (c0 : w.cell? ⟨tb, 0, none⟩ = some (.int .i64 wi)) (c1 : w.cell? ⟨tb, 1, none⟩ = some (.int .i64 n)) (h : ¬ (1 ≤ wi ∧ wi ≤ 32) ∨ n = 0) :
    Calls Tryd.prog 43 #[.pointer (some ⟨tb, 0, none⟩)] w fun e w' => e = .returned (.slice none 0 0) ∧ w' = w := by
  have hhas := has_any tb n wi n w c0 c1
  by_cases hh : 1 ≤ wi ∧ wi ≤ 32
  · rw [decide_eq_true (by omega)] at hhas
    have h0 : n = 0 := by
      rcases h with h | h
      · exact absurd hh h
      · exact h
    subst h0
    have e0 : ((0 : Nat) : Int) = 0 := rfl
    simp only [e0] at hhas c1
    have HG := hide hhas
    clear hhas h hh c0 e0
    go_enter Tryd.func43, Tryd.ntmps43
    go_wp2_with fail
    refine (unhide HG).mono ?_
    rintro e w0 ⟨rfl, rfl⟩
    go_wp2_with fail
    go_ret
    exact ⟨rfl, rfl⟩
  · rw [decide_eq_false (by omega)] at hhas
    have HG := hide hhas
    clear hhas h hh c0
    go_enter Tryd.func43, Tryd.ntmps43
    go_wp2_with fail
    refine (unhide HG).mono ?_
    rintro e w0 ⟨rfl, rfl⟩
    go_wp2_with fail
    go_ret
    exact ⟨rfl, rfl⟩
end Go.Proofs.YthccbfgjekdiiaaDoor

namespace Go.Proofs.YthccbfgjekdiiaaDoor
open Go.RowKit

/-- A root out of peaks, from the last on. -/
def fpk (wi : Int) : List (List Nat) → List Nat
  | [] => []
  | [a] => a
  | a :: b :: r => nd wi a (fpk wi (b :: r))
theorem fpk_cons {wi : Int} {a : List Nat} {r : List (List Nat)} (h : r ≠ []) : fpk wi (a :: r) = nd wi a (fpk wi r) := by
  match r, h with
  | b :: r, _ => rw [fpk]
theorem pks_ne (wi : Nat) (L : List (List Nat)) (f n : Nat) : pks wi L f n ≠ [] := by
  rw [pks]
  split <;> simp
theorem fpk_pks (wi : Nat) (L : List (List Nat)) (k : Nat) : ∀ f n, n ≤ k → 1 ≤ n → f + n ≤ L.length → fpk wi (pks wi L f n) = mth wi (blk L f n) := by
  induction k with
  | zero => intro f n h h1; omega
  | succ k ih =>
    intro f n h h1 hL
    by_cases ho : oc n = 1 ∨ n < 2
    · rw [pks, dif_pos ho, fpk]
    · have h3 := hf_lt n (by omega)
      have h4 := hf_pos n
      rw [pks_two (by omega) (by omega), fpk_cons (pks_ne _ _ _ _), ih _ _ (by omega) (by omega) (by omega), blk_halves L f n (by omega) hL]
theorem pks_wid (wi : Nat) (hw1 : 1 ≤ wi) (hw32 : wi ≤ 32) (L : List (List Nat)) (hL : ∀ p ∈ L, p.length = wi) (k : Nat) : ∀ f n, n ≤ k → ∀ p ∈ pks wi L f n, p.length = wi := by
  have hm : ∀ f n, (mth wi (blk L f n)).length = wi := fun f n => mth_wid wi hw1 hw32 _ (fun p hp => hL p (blk_mem _ _ _ p hp))
  induction k with
  | zero => intro f n h p hp; rw [pks, dif_pos (by omega)] at hp; simp at hp; subst hp; exact hm _ _
  | succ k ih =>
    intro f n h p hp
    by_cases ho : oc n = 1 ∨ n < 2
    · rw [pks, dif_pos ho] at hp; simp at hp; subst hp; exact hm _ _
    · have h3 := hf_lt n (by omega)
      have h4 := hf_pos n
      rw [pks_two (by omega) (by omega)] at hp
      rcases List.mem_cons.1 hp with rfl | hp
      · exact hm _ _
      · exact ih _ _ (by omega) p hp
theorem fpk_wid (wi : Nat) (hw1 : 1 ≤ wi) (hw32 : wi ≤ 32) : ∀ ps : List (List Nat), ps ≠ [] → (∀ p ∈ ps, p.length = wi) → (fpk wi ps).length = wi
  | [], h, _ => absurd rfl h
  | [a], _, h => by rw [fpk]; exact h a (by simp)
  | a :: b :: r, _, _ => by rw [fpk]; exact nd_len wi hw1 hw32 _ _
set_option maxRecDepth 100000 in
theorem width_any (j : Int) (w : World) : ∃ wi : Nat, 1 ≤ wi ∧ wi ≤ 32 ∧ Calls Tryd.prog 5 #[.int .i64 j] w fun e w' => e = .returned (.int .i64 (wi : Int)) ∧ w' = w := by
  by_cases h : 1 ≤ j ∧ j ≤ 32
  · obtain ⟨wi, rfl⟩ : ∃ k : Nat, j = (k : Int) := ⟨j.toNat, by omega⟩
    refine ⟨wi, by omega, by omega, ?_⟩
    have HJ := hide h
    clear h
    go_enter Tryd.func5, Tryd.ntmps5
    go_wp2_with fail
    refine (may_yes _ _ (unhide HJ).1 (unhide HJ).2).mono ?_
    rintro e w0 ⟨rfl, rfl⟩
    go_wp2_with fail
    go_ret
    exact ⟨rfl, rfl⟩
  · refine ⟨8, by decide, by decide, ?_⟩
    have HJ := hide (show j < 1 ∨ 32 < j by omega)
    clear h
    go_enter Tryd.func5, Tryd.ntmps5
    go_wp2_with fail
    refine (may_no _ _ (unhide HJ)).mono ?_
    rintro e w0 ⟨rfl, rfl⟩
    go_wp2_with fail
    go_ret
    exact ⟨rfl, rfl⟩
end Go.Proofs.YthccbfgjekdiiaaDoor

namespace Go.Proofs.YthccbfgjekdiiaaDoor
open Go.RowKit

theorem Pcs.ss {w : World} {x : Value} {vs : List Value} {ps : List (List Nat)} (h : Pcs w x vs ps) : SS w x vs := by
  refine ⟨?_, fun u hu => ?_⟩
  · rcases h.at_ with h | h | ⟨g, o, c, e, _, hc⟩
    · exact .inl h
    · exact .inr (.inl h)
    · exact .inr (.inr ⟨g, o, c, e, hc⟩)
  · obtain ⟨j, hj, rfl⟩ := List.getElem_of_mem hu
    have hj2 : j < ps.length := by rw [← h.len]; exact hj
    obtain ⟨xo, xc, e⟩ := (h.sl j vs[j] ps[j] (List.getElem?_eq_getElem hj) (List.getElem?_eq_getElem hj2)).form
    exact ⟨_, _, _, e⟩
/-- append(append([][]byte{}, p...), r). -/
theorem app_more {w : World} {po : Option Addr} {N pc : Nat} {vs : List Value} {ps : List (List Nat)} {ro : Option Addr} {wi rc : Nat} {r : List Nat} (hp : Pcs w (.slice po N pc) vs ps) (hN : ps.length = N) (hn : N ≤ 8000000) (hr : Sl w (.slice ro wi rc) r) :
    ∃ ao cp w2, (Builtin.append_ #[22, 22] 22 #[.slice (some ⟨w.heap.size, 0, none⟩) 0 0, .slice po N pc]).run Tryd.prog (w.alloc (.cells #[] 25)) = .ok (.slice ao N cp) w2 ∧
      ∃ bo bc w3, (Builtin.append_ #[22, 22] 22 #[.slice ao N cp, .slice (some ⟨w2.heap.size, 0, none⟩) 1 1]).run Tryd.prog (w2.alloc (.cells #[.slice ro wi rc] 25)) = .ok (.slice bo (N + 1) bc) w3 ∧
        Pcs w3 (.slice bo (N + 1) bc) (vs ++ [.slice ro wi rc]) (ps ++ [r]) ∧ Cp (.slice bo (N + 1) bc) ∧ Fr (fun _ => False) w w3 := by
  obtain ⟨WA, hWA⟩ : ∃ WA, w.alloc (.cells #[] 25) = WA := ⟨_, rfl⟩
  have hFA : Fr (fun _ => False) w WA := by rw [← hWA]; exact (Fr.refl _ _).alloc _
  have hown : WA.ownsRow w.heap.size 25 1 (.slice (some ⟨w.heap.size, 0, none⟩) 0 0) 0 [] := by
    have := World.ownsRow_lit (e := 25) (size := 1) w #[] 0 (Nat.le_refl _) (by simp only [maxLen]; omega) rfl
    rw [hWA] at this
    exact this
  have hvl : vs.length = N := by rw [hp.len, hN]
  obtain ⟨ao, cp, w2, hr2, ho2, hg2, -⟩ := run_app_ss WA w.heap.size 0 _ _ [] vs hown (hp.fr0 hFA).ss (by omega) hFA.size
  rw [Nat.zero_add, hvl] at hr2 ho2
  rw [List.nil_append] at ho2
  have hF2 : Fr (fun _ => False) w w2 := hFA.grown hg2 (fun g hg => .inr (hown.lt g hg).1)
  have hOS : OS w w2 ao cp vs := ⟨by rw [hvl]; exact ho2, hF2⟩
  obtain ⟨bo, bc, w3, hr3, hO3, hg3, -⟩ := hOS.app1 ro wi rc (by omega)
  rw [hvl] at hr3
  have hF3 := hO3.fr
  have hpc := hO3.pcs (ps := ps ++ [r]) (by rw [List.length_append, List.length_append, hp.len]; rfl) (fun j v p hv hp' => by
    by_cases hj : j < vs.length
    · rw [List.getElem?_append_left hj] at hv
      rw [List.getElem?_append_left (by rw [← hp.len]; exact hj)] at hp'
      exact (hp.sl j v p hv hp').fr0 hF3
    · have hje : j = vs.length := by
        have := (List.getElem?_eq_some_iff.1 hv).1
        rw [List.length_append, List.length_singleton] at this
        omega
      subst hje
      rw [List.getElem?_append_right (Nat.le_refl _), Nat.sub_self] at hv
      rw [List.getElem?_append_right (by rw [hp.len]; exact Nat.le_refl _), hp.len, Nat.sub_self] at hp'
      simp at hv hp'
      subst hv hp'
      exact hr.fr0 hF3)
  have e : (vs ++ [Value.slice ro wi rc]).length = N + 1 := by rw [List.length_append, hvl]; rfl
  rw [e] at hpc
  refine ⟨ao, cp, w2, by rw [hWA]; exact hr2, bo, bc, w3, hr3, hpc, ?_, hF3⟩
  have := hO3.own
  rw [e] at this
  rcases this.2 with ⟨h, _⟩ | ⟨g, cap, cur, h, _, _, h3, _⟩
  · cases h
  · cases h
    exact fun _ _ _ e => by cases e; exact h3
/-- The hashes for one place are as many as its path has. -/
theorem mny_dep (wi : Nat) (L : List (List Nat)) (m : Nat) : ∀ f n i, n ≤ m → f ≤ i → i < f + n → (mny wi L f n [(i : Int)]).length = dep f n i 1 := by
  induction m with
  | zero => intro f n i h h1 h2; omega
  | succ m ih =>
    intro f n i h h1 h2
    by_cases hn : n < 2
    · have : n = 1 := by omega
      subst this
      have : f = i := by omega
      subst this
      rw [mny_one (by simp) (by decide), dep_eq]; rfl
    · have h3 := hf_lt n (by omega)
      have h4 := hf_pos n
      rw [mny_two (by simp) (by omega), List.length_append]
      by_cases hi : i < f + hf n
      · have hc : ([(i : Int)].countP (· < ((f + hf n : Nat) : Int))) = 1 := by
          rw [List.countP_cons_of_pos (by simp; omega)]; rfl
        rw [hc, dep_l (by omega) (by omega) hi]
        show (mny wi L f (hf n) [(i : Int)]).length + (mny wi L (f + hf n) (n - hf n) []).length = _
        rw [ih f (hf n) i (by omega) h1 hi, mny_nil]; rfl
      · have hc : ([(i : Int)].countP (· < ((f + hf n : Nat) : Int))) = 0 := by
          rw [List.countP_cons_of_neg (by simp; omega)]; rfl
        rw [hc, dep_r (by omega) (by omega) hi]
        show (mny wi L f (hf n) []).length + (mny wi L (f + hf n) (n - hf n) [(i : Int)]).length = _
        rw [ih (f + hf n) (n - hf n) i (by omega) (by omega) (by omega), mny_nil]
        simp
        omega
/-- Hashes for places that the tree tells are taken. -/
theorem chkM_mny (wi : Nat) (hw1 : 1 ≤ wi) (hw32 : wi ≤ 32) (L : List (List Nat)) (hL : ∀ p ∈ L, p.length = wi) (zs : List Int) (hz : rsF L.length 0 zs = true) : chkM wi L.length (zs.map fun z => L.getD z.toNat []) zs (mny wi L 0 L.length zs) (mth wi L) = true := by
  obtain ⟨s1, s2⟩ := rsF_ok L.length zs 0 hz
  have hrt := mth_wid wi hw1 hw32 L hL
  have hlw : ∀ p ∈ zs.map (fun z => L.getD z.toNat []), (p.length : Int) = wi := fun p hp => by
    obtain ⟨z, hz1, rfl⟩ := List.mem_map.1 hp
    have := s2 z hz1
    have hzl : z.toNat < L.length := by omega
    rw [List.getD, List.getElem?_eq_getElem hzl, Option.getD_some, hL _ (List.getElem_mem _)]
  rw [chkM_true (by omega) (by omega) (by omega) hz (List.length_map _) (by omega) (wdq_of hlw) (wdq_of fun p hp => by have := mny_wid wi hw1 hw32 L hL _ 0 L.length zs (Nat.le_refl _) p hp; omega)]
  have := gth_mny wi L L.length 0 L.length zs [] (Nat.le_refl _) (by omega) s1 (fun z hz => by have := s2 z hz; omega)
  rw [List.append_nil, blk_all] at this
  simp only [Int.toNat_natCast]
  rw [this, gEnd]
  simp
/-- With one more they are not. -/
theorem chkM_more (wi : Nat) (L : List (List Nat)) (zs : List Int) (hz : rsF L.length 0 zs = true) (root x : List Nat) : chkM wi L.length (zs.map fun z => L.getD z.toNat []) zs (mny wi L 0 L.length zs ++ [x]) root = false := by
  obtain ⟨s1, s2⟩ := rsF_ok L.length zs 0 hz
  have := gth_mny wi L L.length 0 L.length zs [x] (Nat.le_refl _) (by omega) s1 (fun z hz => by have := s2 z hz; omega)
  have hg : gEnd (some (mth (wi : Int) (blk L 0 L.length), [x])) root = false := rfl
  rw [chkM]
  simp only [Int.toNat_natCast]
  rw [this, hg]
  simp
end Go.Proofs.YthccbfgjekdiiaaDoor

