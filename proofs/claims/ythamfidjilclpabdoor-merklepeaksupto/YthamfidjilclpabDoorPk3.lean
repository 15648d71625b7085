import Derived.Test.YthamfidjilclpabDoorPk2
import Derived.Test.YthamfidjilclpabDoorSre
import Derived.Test.YthamfidjilclpabDoorPk1
namespace Go.Proofs.YthamfidjilclpabDoor
open Go.RowKit

/-- The part where SUB ends. -/
def endF (f n m : Nat) : Nat × Nat :=
  if _h : m = f + n ∨ n < 2 then (f, n)
  else if m ≤ f + hf n then endF f (hf n) m
  else endF (f + hf n) (n - hf n) m
termination_by n
decreasing_by
  · exact hf_lt n (by omega)
  · have := hf_pos n; omega
theorem endF_eq {f n m : Nat} (h : m = f + n) : endF f n m = (f, n) := by rw [endF, dif_pos (.inl h)]
theorem endF_l {f n m : Nat} (h2 : 2 ≤ n) (h : ¬ m = f + n) (hl : m ≤ f + hf n) : endF f n m = endF f (hf n) m := by
  conv => lhs; rw [endF, dif_neg (by omega), if_pos hl]
theorem endF_r {f n m : Nat} (h2 : 2 ≤ n) (h : ¬ m = f + n) (hl : ¬ m ≤ f + hf n) : endF f n m = endF (f + hf n) (n - hf n) m := by
  conv => lhs; rw [endF, dif_neg (by omega), if_neg hl]
theorem endF_ok (k : Nat) : ∀ f n m, n ≤ k → f < m → m ≤ f + n → f ≤ (endF f n m).1 ∧ (endF f n m).1 + (endF f n m).2 = m ∧ 1 ≤ (endF f n m).2 ∧ Rch f n (endF f n m).1 (endF f n m).2 ∧ (Al f n → Al (endF f n m).1 (endF f n m).2) := by
  induction k with
  | zero => intro f n m h1 h2 h3; omega
  | succ k ih =>
    intro f n m h1 h2 h3
    by_cases e : m = f + n
    · rw [endF_eq e]; exact ⟨Nat.le_refl _, e.symm, by show 1 ≤ n; omega, rch_refl f n, fun h => h⟩
    · have hlt := hf_lt n (by omega)
      have hp := hf_pos n
      by_cases hl : m ≤ f + hf n
      · rw [endF_l (by omega) e hl]
        obtain ⟨i1, i2, i3, i4, i5⟩ := ih f (hf n) m (by omega) h2 hl
        refine ⟨i1, i2, i3, ?_, fun h => i5 (h.halves (by omega)).1⟩
        rw [Rch, dif_neg (by omega), dif_neg (by omega), if_pos (by omega)]
        exact i4
      · rw [endF_r (by omega) e hl]
        obtain ⟨i1, i2, i3, i4, i5⟩ := ih (f + hf n) (n - hf n) m (by omega) (by omega) (by omega)
        refine ⟨by omega, i2, i3, ?_, fun h => i5 (h.halves (by omega)).2⟩
        rw [Rch, dif_neg (by omega), dif_neg (by omega), if_neg (by omega)]
        exact i4
def EndSays (f n m : Nat) (w : World) : Prop := Calls Tryd.prog 88 #[sv f n, .int .i64 m] w fun e w' => e = .returned (sv (endF f n m).1 (endF f n m).2) ∧ Fr (fun _ => False) w w'
theorem box22 (w : World) (a0 a1 b0 b1 : Value) (ty : Nat) (W : World) (hW : (w.alloc (.cells #[a0, a1] ty)).alloc (.cells #[b0, b1] ty) = W) :
    W.cell? ⟨w.heap.size + 1, 0, none⟩ = some b0 ∧ W.cell? ⟨w.heap.size + 1, 1, none⟩ = some b1 ∧ W.frozen? ⟨w.heap.size + 1, 0, none⟩ = false ∧ W.frozen? ⟨w.heap.size + 1, 1, none⟩ = false ∧ Fr (fun _ => False) w W := by
  subst hW
  have e1 : w.heap.size + 1 = (w.alloc (.cells #[a0, a1] ty)).heap.size := by simp
  refine ⟨?_, ?_, ?_, ?_, ((Fr.refl _ _).alloc _).alloc _⟩
  iterate 2 (rw [e1, World.cell?_alloc_at _ _ _ _ rfl]; rfl)
  iterate 2 (rw [e1, World.frozen?_alloc_at _ _ _ _ rfl] <;> rfl)
theorem set2 (w : World) (b : Nat) (x y : Value) (h0 : (w.cell? ⟨b, 0, none⟩).isSome = true) (h1 : (w.cell? ⟨b, 1, none⟩).isSome = true) (W : World) (hW : (w.setCell ⟨b, 0, none⟩ x).setCell ⟨b, 1, none⟩ y = W) : W.cell? ⟨b, 0, none⟩ = some x ∧ W.cell? ⟨b, 1, none⟩ = some y := by
  subst hW
  have o : ∀ (v : World) (i j : Nat) (u : Value), i ≠ j → (v.setCell ⟨b, i, none⟩ u).cell? ⟨b, j, none⟩ = v.cell? ⟨b, j, none⟩ := fun v i j u h => World.cell?_setCell_other _ _ _ _ (by intro e; injection e with e1 e2; omega)
  refine ⟨?_, ?_⟩
  · rw [o _ _ _ _ (by decide), World.cell?_setCell_same' _ _ _ h0]
  · rw [World.cell?_setCell_same' _ _ _ (by rw [o _ _ _ _ (by decide)]; exact h1)]
set_option maxRecDepth 100000 in
set_option maxHeartbeats 1000000 in
theorem end_any (k : Nat) : ∀ (f n m : Nat) (w : World), n ≤ k → f + n < 9223372036854775808 → f < m → m ≤ f + n → EndSays f n m w := by
  induction k with
  | zero => intro f n m w h1 _ h2 h3; omega
  | succ k ih =>
    intro f n m w h1 hb h2 h3
    by_cases e : m = f + n
    · unfold EndSays sv
      rw [endF_eq e]
      have w1 : IntKind.i64.wrap ((f : Int) + (n : Int)) = (f : Int) + (n : Int) := by rw [IntKind.wrap_i64]; omega
      have ee : ((m : Int) == (f : Int) + (n : Int)) = true := by
        have : (m : Int) = (f : Int) + (n : Int) := by omega
        rw [this]; simp
      have e' : (m : Int) = (f : Int) + (n : Int) := by omega
      clear e h1 h2 h3 ih
      go_enter Tryd.func88, Tryd.ntmps88
      go_wp2_with fail
      go_returns
      exact ⟨rfl, ((Fr.refl _ _).alloc _).alloc _⟩
    · have hlt := hf_lt n (by omega)
      have hp := hf_pos n
      have hhv := fun w => halves_any f n w hb (by omega)
      have w1 : IntKind.i64.wrap ((f : Int) + (n : Int)) = (f : Int) + (n : Int) := by rw [IntKind.wrap_i64]; omega
      have ee : ((m : Int) == (f : Int) + (n : Int)) = false := beq_false_of_ne (by omega)
      have e' : ¬ (m : Int) = (f : Int) + (n : Int) := by omega
      by_cases hl : m ≤ f + hf n
      · have hrec := fun w => ih f (hf n) m w (by omega) (by omega) h2 hl
        unfold EndSays at *
        rw [endF_l (by omega) e hl]
        generalize endF f (hf n) m = E at *
        have hl' : (m : Int) ≤ ((f + hf n : Nat) : Int) := by omega
        have hl2 := hl
        have HC := hide (And.intro hhv hrec)
        clear hhv hrec hp hlt ih h1 h2 h3 e hb hl
        generalize f + hf n = F2 at *
        generalize n - hf n = N2 at *
        generalize hf n = K at *
        unfold sv at *
        generalize E.1 = E1 at *
        generalize E.2 = E2 at *
        go_enter Tryd.func88, Tryd.ntmps88
        go_wp2_with fail
        obtain ⟨W0, hW0⟩ : ∃ W0, (w.alloc (.cells #[.int .i64 f, .int .i64 n] 61)).alloc (.cells #[.int .i64 0, .int .i64 0] 61) = W0 := ⟨_, rfl⟩
        rw [hW0]
        obtain ⟨b0, b1, z0, z1, hF0⟩ := box22 w _ _ _ _ _ W0 hW0
        refine ((unhide HC).1 _).mono ?_
        rintro e' wA ⟨rfl, hFA⟩
        have c0 := (hFA.cell (lt_of_cell b0) (fun h => h)).trans b0
        have c1 := (hFA.cell (lt_of_cell b1) (fun h => h)).trans b1
        have y0 := (hFA.frozen (p := ⟨w.heap.size + 1, 0, none⟩) (lt_of_cell b0) (fun h => h)).trans z0
        have y1 := (hFA.frozen (p := ⟨w.heap.size + 1, 1, none⟩) (lt_of_cell b1) (fun h => h)).trans z1
        have HF := hide (hF0.trans hFA (fun _ _ h => h))
        have hPB : w.heap.size ≤ w.heap.size + 1 := by omega
        clear hFA hF0 b0 b1 hW0 z0 z1
        generalize w.heap.size + 1 = PB at *
        have l0 : PB < wA.heap.size := lt_of_cell c0
        have l1 : PB < wA.heap.size + 1 := Nat.lt_succ_of_lt l0
        go_wp2_with fail
        obtain ⟨W1, hW1⟩ : ∃ W1, (wA.alloc (.cells #[.int .i64 f, .int .i64 K] 61)).alloc (.cells #[.int .i64 F2, .int .i64 N2] 61) = W1 := ⟨_, rfl⟩
        rw [hW1]
        obtain ⟨x0, x1, x2, x3, hF1⟩ := two2 wA _ _ _ _ _ W1 hW1
        refine ((unhide HC).2 _).mono ?_
        rintro e' wB ⟨rfl, hFB⟩
        have hF1B := hF1.trans hFB (fun _ _ h => h)
        have d0 := (hF1B.cell (lt_of_cell c0) (fun h => h)).trans c0
        have d1 := (hF1B.cell (lt_of_cell c1) (fun h => h)).trans c1
        have u0 := (hF1B.frozen (p := ⟨PB, 0, none⟩) (lt_of_cell c0) (fun h => h)).trans y0
        have u1 := (hF1B.frozen (p := ⟨PB, 1, none⟩) (lt_of_cell c1) (fun h => h)).trans y1
        have hF2 := ((unhide HF).trans hF1B (fun _ _ h => h)).setCell (p := ⟨PB, 0, none⟩) (.inr hPB) (.int .i64 (E1 : Int)) |>.setCell (p := ⟨PB, 1, none⟩) (.inr hPB) (.int .i64 (E2 : Int))
        have HF2 := hide hF2
        clear hF1 hFB hF1B hW1 x0 x1 x2 x3 c0 c1 y0 y1 HF l0 l1 hF2
        go_wp2_with fail
        obtain ⟨W2, hW2⟩ : ∃ W2, (wB.setCell ⟨PB, 0, none⟩ (.int .i64 (E1 : Int))).setCell ⟨PB, 1, none⟩ (.int .i64 (E2 : Int)) = W2 := ⟨_, rfl⟩
        obtain ⟨k0, k1⟩ := set2 wB PB _ _ (by rw [d0]; rfl) (by rw [d1]; rfl) W2 hW2
        have hF3 := unhide HF2
        rw [hW2] at hF3 ⊢
        refine bodyPost_ret (by simp [results, Tryd.results88, go_sem, k0, k1]; try rfl) rfl ?_
        exact ⟨rfl, hF3⟩
      · have hrec := fun w => ih (f + hf n) (n - hf n) m w (by omega) (by omega) (by omega) (by omega)
        unfold EndSays at *
        rw [endF_r (by omega) e hl]
        generalize endF (f + hf n) (n - hf n) m = E at *
        have hl' : ¬ (m : Int) ≤ ((f + hf n : Nat) : Int) := by omega
        have hl2 := hl
        have HC := hide (And.intro hhv hrec)
        clear hhv hrec hp hlt ih h1 h2 h3 e hb hl
        generalize f + hf n = F2 at *
        generalize n - hf n = N2 at *
        generalize hf n = K at *
        unfold sv at *
        generalize E.1 = E1 at *
        generalize E.2 = E2 at *
        go_enter Tryd.func88, Tryd.ntmps88
        go_wp2_with fail
        obtain ⟨W0, hW0⟩ : ∃ W0, (w.alloc (.cells #[.int .i64 f, .int .i64 n] 61)).alloc (.cells #[.int .i64 0, .int .i64 0] 61) = W0 := ⟨_, rfl⟩
        rw [hW0]
        obtain ⟨b0, b1, z0, z1, hF0⟩ := box22 w _ _ _ _ _ W0 hW0
        refine ((unhide HC).1 _).mono ?_
        rintro e' wA ⟨rfl, hFA⟩
        have c0 := (hFA.cell (lt_of_cell b0) (fun h => h)).trans b0
        have c1 := (hFA.cell (lt_of_cell b1) (fun h => h)).trans b1
        have y0 := (hFA.frozen (p := ⟨w.heap.size + 1, 0, none⟩) (lt_of_cell b0) (fun h => h)).trans z0
        have y1 := (hFA.frozen (p := ⟨w.heap.size + 1, 1, none⟩) (lt_of_cell b1) (fun h => h)).trans z1
        have HF := hide (hF0.trans hFA (fun _ _ h => h))
        have hPB : w.heap.size ≤ w.heap.size + 1 := by omega
        clear hFA hF0 b0 b1 hW0 z0 z1
        generalize w.heap.size + 1 = PB at *
        have l0 : PB < wA.heap.size := lt_of_cell c0
        have l1 : PB < wA.heap.size + 1 := Nat.lt_succ_of_lt l0
        go_wp2_with fail
        obtain ⟨W1, hW1⟩ : ∃ W1, (wA.alloc (.cells #[.int .i64 f, .int .i64 K] 61)).alloc (.cells #[.int .i64 F2, .int .i64 N2] 61) = W1 := ⟨_, rfl⟩
        rw [hW1]
        obtain ⟨x0, x1, x2, x3, hF1⟩ := two2 wA _ _ _ _ _ W1 hW1
        refine ((unhide HC).2 _).mono ?_
        rintro e' wB ⟨rfl, hFB⟩
        have hF1B := hF1.trans hFB (fun _ _ h => h)
        have d0 := (hF1B.cell (lt_of_cell c0) (fun h => h)).trans c0
        have d1 := (hF1B.cell (lt_of_cell c1) (fun h => h)).trans c1
        have u0 := (hF1B.frozen (p := ⟨PB, 0, none⟩) (lt_of_cell c0) (fun h => h)).trans y0
        have u1 := (hF1B.frozen (p := ⟨PB, 1, none⟩) (lt_of_cell c1) (fun h => h)).trans y1
        have hF2 := ((unhide HF).trans hF1B (fun _ _ h => h)).setCell (p := ⟨PB, 0, none⟩) (.inr hPB) (.int .i64 (E1 : Int)) |>.setCell (p := ⟨PB, 1, none⟩) (.inr hPB) (.int .i64 (E2 : Int))
        have HF2 := hide hF2
        clear hF1 hFB hF1B hW1 x0 x1 x2 x3 c0 c1 y0 y1 HF l0 l1 hF2
        go_wp2_with fail
        obtain ⟨W2, hW2⟩ : ∃ W2, (wB.setCell ⟨PB, 0, none⟩ (.int .i64 (E1 : Int))).setCell ⟨PB, 1, none⟩ (.int .i64 (E2 : Int)) = W2 := ⟨_, rfl⟩
        obtain ⟨k0, k1⟩ := set2 wB PB _ _ (by rw [d0]; rfl) (by rw [d1]; rfl) W2 hW2
        have hF3 := unhide HF2
        rw [hW2] at hF3 ⊢
        refine bodyPost_ret (by simp [results, Tryd.results88, go_sem, k0, k1]; try rfl) rfl ?_
        exact ⟨rfl, hF3⟩
end Go.Proofs.YthamfidjilclpabDoor

namespace Go.Proofs.YthamfidjilclpabDoor
open Go.RowKit

/-- A literal of one hash. -/
theorem ol_lit1 {w w1 : World} {yo : Option Addr} {yc : Nat} {l : List Nat} (hO : OB w w1 yo yc l) (hb : ∀ v ∈ l, v < 256) (n : Nat) (hn : l.length = n) (W : World) (hW : w1.alloc (.cells #[.slice yo n yc] 23) = W) : OL w W (some ⟨w1.heap.size, 0, none⟩) 1 [.slice yo n yc] [l] := by
  subst hn
  have hF : Fr (fun _ => False) w1 W := by rw [← hW]; exact (Fr.refl _ _).alloc _
  refine ⟨⟨?_, hO.fr.trans hF (fun _ _ h => h)⟩, rfl, fun j v p hv hp => ?_, fun j j' v v' g g' hj hv hv' => ?_, fun p hp => ?_⟩
  · have := World.ownsRow_lit (e := 23) (size := 1) w1 #[.slice yo l.length yc] 1 (Nat.le_refl _) (by simp only [maxLen]; omega) rfl
    rw [hW] at this
    refine ⟨this.1, ?_⟩
    rcases this.2 with h0 | ⟨g, cap, cur, e1, e2, e3⟩
    · exact .inl h0
    · exact .inr ⟨g, cap, cur, e1, Nat.le_trans hO.fr.size e2, e3⟩
  · match j with
    | 0 =>
      simp at hv hp
      subst hv hp
      exact ⟨yo, yc, rfl, hO.ow.fr0 hF⟩
    | j + 1 => simp at hv
  · match j, j' with
    | 0, 0 => exact absurd rfl hj
    | j + 1, _ => simp at hv
    | 0, j' + 1 => simp at hv'
  · simp at hp; subst hp; exact hb
/-- One hash ahead of hashes that were there before it. -/
theorem OL.ahead {w wB wC W : World} {ao yo : Option Addr} {cp yc wi : Nat} {vs : List Value} {ps : List (List Nat)} {l : List Nat} (h : OL w wB ao cp vs ps) (hO : OB wB wC yo yc l) (hb : ∀ v ∈ l, v < 256) (hl : l.length = wi) (hW : wC.alloc (.cells #[.slice yo wi yc] 23) = W) (hn : vs.length < 16000000) :
    ∃ ao' cp' w2, (Builtin.append_ #[22, 22] 22 #[.slice (some ⟨wC.heap.size, 0, none⟩) 1 1, .slice ao vs.length cp]).run Tryd.prog W = .ok (.slice ao' (1 + vs.length) cp') w2 ∧ OL w w2 ao' cp' ([.slice yo wi yc] ++ vs) ([l] ++ ps) := by
  have hF : Fr (fun _ => False) wB W := by rw [← hW]; exact hO.fr.alloc _
  have hA := (ol_lit1 hO hb wi hl W hW).base h.own.fr
  have hB := h.fr0 hF
  refine hA.add _ vs ps hB.ss hB.len hB.row hB.apart (fun v hv u hu g hg hg' => ?_) hB.byt (by simp; omega)
  simp at hv
  subst hv
  have h2 := (h.inner_lt u hu g hg').2
  have h3 := (World.ownsRow.lt hO.own g (by rw [hl]; exact hg)).1
  omega
/-- The proof from the first m. -/
def prf (wi : Nat) (L : List (List Nat)) (n m : Nat) : List (List Nat) :=
  if m = 0 then [] else if (endF 0 n m).1 = 0 then bes wi L 0 n (endF 0 n m).1 (endF 0 n m).2
  else mth wi (blk L (endF 0 n m).1 (endF 0 n m).2) :: bes wi L 0 n (endF 0 n m).1 (endF 0 n m).2
theorem box3p (w : World) (a b c : Value) (ty : Nat) (W : World) (hW : w.alloc (.cells #[a, b, c] ty) = W) : W.cell? ⟨w.heap.size, 0, none⟩ = some a ∧ W.cell? ⟨w.heap.size, 1, none⟩ = some b ∧ W.cell? ⟨w.heap.size, 2, none⟩ = some c ∧ Fr (fun _ => False) w W := by
  subst hW
  exact box3 (Fr.refl _ _)
theorem box2p (w : World) (a b : Value) (ty : Nat) (W : World) (hW : w.alloc (.cells #[a, b] ty) = W) : W.cell? ⟨w.heap.size, 0, none⟩ = some a ∧ W.cell? ⟨w.heap.size, 1, none⟩ = some b ∧ Fr (fun _ => False) w W := by
  subst hW
  have hc : ∀ j, (w.alloc (.cells #[a, b] ty)).cell? ⟨w.heap.size, j, none⟩ = (#[a, b] : Array Value)[j]? := fun j => World.cell?_alloc_at _ _ _ _ rfl
  exact ⟨hc 0, hc 1, (Fr.refl _ _).alloc _⟩
set_option maxRecDepth 100000 in
set_option maxHeartbeats 1000000 in
theorem proof_any (tb wi : Nat) (hw1 : 1 ≤ wi) (hw32 : wi ≤ 32) (L : List (List Nat)) (n m : Nat) (w : World) (hT : Tk w tb wi L) (hn : n ≤ L.length) (h0 : 0 < m) (hm : m ≤ n) :
    Calls Tryd.prog 96 #[pv (.pointer (some ⟨tb, 0, none⟩)) 0 n, .int .i64 m] w fun e w' => ∃ ao cp vs, e = .returned (.slice ao vs.length cp) ∧ OL w w' ao cp vs (prf wi L n m) := by
  have hle := hT.len
  obtain ⟨i1, i2, i3, i4, i5⟩ := endF_ok n 0 n m (Nat.le_refl _) h0 (by omega)
  have hend := fun w' => end_any n 0 n m w' (Nat.le_refl _) (by omega) h0 (by omega)
  have hbes := fun w' (hf : Fr (fun _ => False) w w') => beside_any tb wi hw1 hw32 L n 0 n (endF 0 n m).1 (endF 0 n m).2 w' (Nat.le_refl _) (hT.fr0 hf) (al_zero n) (by omega) i4
  have hroot := fun w' (hf : Fr (fun _ => False) w w') => root_any tb wi hw1 hw32 L _ (endF 0 n m).1 (endF 0 n m).2 w' (Nat.le_refl _) (hT.fr0 hf) (i5 (al_zero n)) (by omega)
  have hMw := hT.mw hw1 hw32 (endF 0 n m).1 (endF 0 n m).2
  have hMb := hT.mb (endF 0 n m).1 (endF 0 n m).2
  have hbl : (bes wi L 0 n (endF 0 n m).1 (endF 0 n m).2).length < 16000000 := by
    rw [bes_len wi L n 0 n _ _ (Nat.le_refl _)]
    have := dep_le n 0 n (endF 0 n m).1 (endF 0 n m).2 (Nat.le_refl _)
    omega
  have hpr : prf wi L n m = if (endF 0 n m).1 = 0 then bes wi L 0 n (endF 0 n m).1 (endF 0 n m).2 else mth wi (blk L (endF 0 n m).1 (endF 0 n m).2) :: bes wi L 0 n (endF 0 n m).1 (endF 0 n m).2 := by
    rw [prf, if_neg (by omega)]
  rw [hpr]
  unfold EndSays BesSays RootSays at *
  clear hpr i1 i2 i3 i4 i5 hle h0 hm hn
  generalize bes wi L 0 n (endF 0 n m).1 (endF 0 n m).2 = BS at *
  generalize mth wi (blk L (endF 0 n m).1 (endF 0 n m).2) = M at *
  generalize (endF 0 n m).1 = E1 at *
  generalize (endF 0 n m).2 = E2 at *
  have HC := hide (And.intro hend (And.intro hbes (And.intro hroot (And.intro hMw (And.intro hMb hbl)))))
  clear hend hbes hroot hMw hMb hbl hT
  unfold sv pv at *
  have e0 : ((0 : Nat) : Int) = 0 := rfl
  simp only [e0] at HC ⊢
  clear e0
  by_cases hE : E1 = 0
  · rw [if_pos hE]
    subst hE
    have e0 : ((0 : Nat) : Int) = 0 := rfl
    simp only [e0] at HC
    clear e0
    go_enter Tryd.func96, Tryd.ntmps96
    go_wp2_with fail
    obtain ⟨W0, hW0⟩ : ∃ W0, w.alloc (.cells #[.pointer (some ⟨tb, 0, none⟩), .int .i64 0, .int .i64 n] 63) = W0 := ⟨_, rfl⟩
    rw [hW0]
    obtain ⟨a0, a1, a2, hF0⟩ := box3p w _ _ _ _ W0 hW0
    refine ((unhide HC).1 _).mono ?_
    rintro e wA ⟨rfl, hFA⟩
    have b0 := (hFA.cell (lt_of_cell a0) (fun h => h)).trans a0
    have b1 := (hFA.cell (lt_of_cell a1) (fun h => h)).trans a1
    have b2 := (hFA.cell (lt_of_cell a2) (fun h => h)).trans a2
    have HF := hide (hF0.trans hFA (fun _ _ h => h))
    clear hF0 hFA hW0 a0 a1 a2
    generalize w.heap.size = P at *
    have l0 : P < wA.heap.size := lt_of_cell b0
    go_wp2_with fail
    obtain ⟨W1, hW1⟩ : ∃ W1, wA.alloc (.cells #[.int .i64 0, .int .i64 E2] 61) = W1 := ⟨_, rfl⟩
    rw [hW1]
    obtain ⟨x0, x1, hF1⟩ := box2p wA _ _ _ W1 hW1
    refine ((unhide HC).2.1 _ ((unhide HF).trans hF1 (fun _ _ h => h))).mono ?_
    rintro e wB ⟨ao, cp, vs, rfl, hO⟩
    have y0 := (hO.own.fr.cell (lt_of_cell x0) (fun h => h)).trans x0
    have HB := hide (hO.base ((unhide HF).trans hF1 (fun _ _ h => h)))
    clear hO hF1 hW1 x0 x1
    go_wp2_with fail
    go_ret
    exact ⟨ao, cp, vs, rfl, unhide HB⟩
  · rw [if_neg hE]
    have hE' : ((E1 : Int) == 0) = false := beq_false_of_ne (by omega)
    go_enter Tryd.func96, Tryd.ntmps96
    go_wp2_with fail
    obtain ⟨W0, hW0⟩ : ∃ W0, w.alloc (.cells #[.pointer (some ⟨tb, 0, none⟩), .int .i64 0, .int .i64 n] 63) = W0 := ⟨_, rfl⟩
    rw [hW0]
    obtain ⟨a0, a1, a2, hF0⟩ := box3p w _ _ _ _ W0 hW0
    refine ((unhide HC).1 _).mono ?_
    rintro e wA ⟨rfl, hFA⟩
    have b0 := (hFA.cell (lt_of_cell a0) (fun h => h)).trans a0
    have b1 := (hFA.cell (lt_of_cell a1) (fun h => h)).trans a1
    have b2 := (hFA.cell (lt_of_cell a2) (fun h => h)).trans a2
    have HF := hide (hF0.trans hFA (fun _ _ h => h))
    clear hF0 hFA hW0 a0 a1 a2
    generalize w.heap.size = P at *
    have l0 : P < wA.heap.size := lt_of_cell b0
    go_wp2_with fail
    obtain ⟨W1, hW1⟩ : ∃ W1, wA.alloc (.cells #[.int .i64 E1, .int .i64 E2] 61) = W1 := ⟨_, rfl⟩
    rw [hW1]
    obtain ⟨x0, x1, hF1⟩ := box2p wA _ _ _ W1 hW1
    refine ((unhide HC).2.1 _ ((unhide HF).trans hF1 (fun _ _ h => h))).mono ?_
    rintro e wB ⟨ao, cp, vs, rfl, hO⟩
    have hF1B := hF1.trans hO.own.fr (fun _ _ h => h)
    have y0 := (hO.own.fr.cell (lt_of_cell x0) (fun h => h)).trans x0
    have y1 := (hO.own.fr.cell (lt_of_cell x1) (fun h => h)).trans x1
    have d0 := (hF1B.cell (lt_of_cell b0) (fun h => h)).trans b0
    have HB := hide (And.intro (hO.base ((unhide HF).trans hF1 (fun _ _ h => h))) ((unhide HF).trans hF1B (fun _ _ h => h)))
    clear hO hF1 hF1B hW1 x0 x1 b0 b1 b2 l0
    generalize wA.heap.size = Z at *
    go_wp2_with fail
    refine ((unhide HC).2.2.1 _ (unhide HB).2).mono ?_
    rintro e wC ⟨yo, yc, rfl, hO⟩
    obtain ⟨W2, hW2⟩ : ∃ W2, wC.alloc (.cells #[.slice yo wi yc] 23) = W2 := ⟨_, rfl⟩
    obtain ⟨ao2, cp2, w3, hr, hO3⟩ := (unhide HB).1.ahead hO (unhide HC).2.2.2.2.1 (unhide HC).2.2.2.1 hW2 (by rw [(unhide HB).1.len]; exact (unhide HC).2.2.2.2.2)
    have HR := hide hr
    have HO := hide hO3
    clear hO hr hO3
    go_wp2_with (at_builtin; refine wpList_app rfl (.tmp 23) (.tmp 24) 22 22 rfl _ _ _ rfl rfl (unhide HR) ?_)
    go_ret
    exact ⟨ao2, cp2, _, by rw [List.length_append]; rfl, unhide HO⟩
set_option maxRecDepth 100000 in
set_option maxHeartbeats 1000000 in
theorem tproof_in (tb wi : Nat) (hw1 : 1 ≤ wi) (hw32 : wi ≤ 32) (L : List (List Nat)) (m n : Nat) (w : World) (hT : Tk w tb wi L) (hn : n ≤ L.length) (hm : m ≤ n) :
    Calls Tryd.prog 61 #[.pointer (some ⟨tb, 0, none⟩), .int .i64 m, .int .i64 n] w fun e w' => ∃ ao cp vs, e = .returned (.tuple #[.slice ao vs.length cp, .int .i64 0]) ∧ OL w w' ao cp vs (prf wi L n m) := by
  obtain ⟨c0, c1, htb⟩ := hT.c0
  have hhas : Calls Tryd.prog 73 #[.pointer (some ⟨tb, 0, none⟩), .int .i64 n] w fun e w' => e = .returned (.bool true) ∧ w' = w := by
    have := has_any tb L.length wi n w c0 c1
    rw [decide_eq_true (by omega)] at this
    exact this
  have q1 : ¬ (m : Int) < 0 := by omega
  have q2 : ¬ (n : Int) < (m : Int) := by omega
  have q3 : ¬ n < m := by omega
  by_cases h0 : m = 0
  · subst h0
    rw [prf, if_pos rfl]
    have HG := hide hhas
    clear hhas hT c0 c1 htb hn hm
    have e0 : ((0 : Nat) : Int) = 0 := rfl
    simp only [e0] at q1 q2 ⊢
    go_enter Tryd.func61, Tryd.ntmps61
    go_wp2_with fail
    refine (unhide HG).mono ?_
    rintro e w0 ⟨rfl, rfl⟩
    go_wp2_with fail
    go_returns
    exact ⟨none, 0, [], rfl, OL.nil _⟩
  · have hpr := fun w' (hf : Fr (fun _ => False) w w') => proof_any tb wi hw1 hw32 L n m w' (hT.fr0 hf) hn (by omega) hm
    have hm0 : ((m : Int) == 0) = false := beq_false_of_ne (by omega)
    have HG := hide (And.intro hhas hpr)
    clear hhas hpr hT c0 c1 htb hn hm
    go_enter Tryd.func61, Tryd.ntmps61
    go_wp2_with fail
    refine (unhide HG).1.mono ?_
    rintro e w0 ⟨rfl, rfl⟩
    go_wp2_with fail
    refine (first_any _ _ _).mono ?_
    rintro e w1 ⟨rfl, hF1⟩
    have H1 := hide hF1
    clear hF1
    go_wp2_with fail
    refine ((unhide HG).2 w1 (unhide H1)).mono ?_
    rintro e w2 ⟨ao, cp, vs, rfl, hO⟩
    have H2 := hide (hO.base (unhide H1))
    clear hO
    go_wp2_with fail
    go_returns
    exact ⟨ao, cp, vs, rfl, unhide H2⟩
set_option maxRecDepth 100000 in
theorem tproof_no (tb n : Nat) (wi i k : Int) (w : World) (c0 : w.cell? ⟨tb, 0, none⟩ = some (.int .i64 wi)) (c1 : w.cell? ⟨tb, 1, none⟩ = some (.int .i64 n)) (h : ¬ (1 ≤ wi ∧ wi ≤ 32 ∧ 0 ≤ k ∧ k ≤ n) ∨ i < 0 ∨ k < i) :
    Calls Tryd.prog 61 #[.pointer (some ⟨tb, 0, none⟩), .int .i64 i, .int .i64 k] w fun e w' => e = .returned (.tuple #[.slice none 0 0, .int .i64 1]) ∧ w' = w := by
  have hhas := has_any tb n wi k w c0 c1
  by_cases hh : 1 ≤ wi ∧ wi ≤ 32 ∧ 0 ≤ k ∧ k ≤ n
  · rw [decide_eq_true hh] at hhas
    have HG := hide hhas
    have h' : i < 0 ∨ k < i := by omega
    clear hhas h c0 c1
    by_cases hi : i < 0
    · clear h' hh
      go_enter Tryd.func61, Tryd.ntmps61
      go_wp2_with fail
      refine (unhide HG).mono ?_
      rintro e w0 ⟨rfl, rfl⟩
      go_wp2_with fail
      go_returns
      exact ⟨rfl, rfl⟩
    · have hk : k < i := by omega
      clear h' hh
      go_enter Tryd.func61, Tryd.ntmps61
      go_wp2_with fail
      refine (unhide HG).mono ?_
      rintro e w0 ⟨rfl, rfl⟩
      go_wp2_with fail
      go_returns
      exact ⟨rfl, rfl⟩
  · rw [decide_eq_false hh] at hhas
    have HG := hide hhas
    clear hhas h hh c0 c1
    go_enter Tryd.func61, Tryd.ntmps61
    go_wp2_with fail
    refine (unhide HG).mono ?_
    rintro e w0 ⟨rfl, rfl⟩
    go_wp2_with fail
    go_returns
    exact ⟨rfl, rfl⟩
set_option maxRecDepth 100000 in
set_option maxHeartbeats 1000000 in
/-- merkle.Proof. -/
theorem mproof_in (wi : Nat) (hw1 : 1 ≤ wi) (hw32 : wi ≤ 32) (x : Value) (us : List Value) (es : List (List Nat)) (i : Nat) (w : World) (hg : GS w) (ht : GT w) (hp : Pcs w x us es) (hB : ∀ e ∈ es, e.length ≤ 16000000) (hn : es.length ≤ 8000000) (hi : i ≤ es.length) :
    Calls Tryd.prog 23 #[.int .i64 wi, x, .int .i64 i] w fun e w' => ∃ ao cp vs, e = .returned (.tuple #[.slice ao vs.length cp, .int .i64 0]) ∧ OL w w' ao cp vs (prf wi (es.map (lf wi)) es.length i) := by
  have hgr := grown_in wi hw1 hw32 x us es w hg hp hB hn
  have htr : ∀ w' tb, Tk w' tb wi (es.map (lf wi)) → _ := fun w' tb hT => tproof_in tb wi hw1 hw32 (es.map (lf wi)) i es.length w' hT (by rw [List.length_map]; exact Nat.le_refl _) hi
  obtain ⟨xo, xc, rfl⟩ := hp.form
  have HT := hide (fun (w' : World) (tb base : Nat) (xo : Option Addr) (cp : Nat) (vs : List Value) (rs : List (List Nat)) (hT : TrAt w' base tb wi es.length xo cp vs rs) hR hf => tk_of hw1 hw32 hT hR hg ht hf hn)
  have HG := hide (And.intro hgr htr)
  clear hgr htr hg ht hp hB hi hn
  generalize prf wi (es.map (lf wi)) es.length i = M at *
  generalize es.length = N at *
  go_enter Tryd.func23, Tryd.ntmps23
  go_wp2_with fail
  refine (unhide HG).1.mono ?_
  rintro e w1 ⟨rfl, yo, cp, vs, rs, hT, hR, hF⟩
  have hk := (unhide HT) _ _ _ _ _ _ _ hT hR hF
  have H1 := hide (And.intro hk hF)
  clear hk hF hT hR
  generalize w.heap.size = TB at *
  go_wp2_with fail
  refine ((unhide HG).2 w1 TB (unhide H1).1).mono ?_
  rintro e w2 ⟨ao, cp, vs, rfl, hO⟩
  have H2 := hide (hO.base (unhide H1).2)
  clear hO
  go_wp2_with fail
  go_returns
  exact ⟨ao, cp, vs, rfl, unhide H2⟩
set_option maxRecDepth 100000 in
set_option maxHeartbeats 1000000 in
theorem mproof_no (j : Int) (i : Int) (x : Value) (us : List Value) (es : List (List Nat)) (w : World) (hg : GS w) (hp : Pcs w x us es) (hB : ∀ e ∈ es, e.length ≤ 16000000) (hn : es.length ≤ 8000000) (hi : (j < 1 ∨ 32 < j) ∨ i < 0 ∨ (es.length : Int) < i) :
    Calls Tryd.prog 23 #[.int .i64 j, x, .int .i64 i] w fun e w' => e = .returned (.tuple #[.slice none 0 0, .int .i64 1]) ∧ Fr (fun _ => False) w w' := by
  have hgr : Calls Tryd.prog 34 #[.int .i64 j, x] w fun e w' => e = .returned (.pointer (some ⟨w.heap.size, 0, none⟩)) ∧ w'.cell? ⟨w.heap.size, 0, none⟩ = some (.int .i64 j) ∧ w'.cell? ⟨w.heap.size, 1, none⟩ = some (.int .i64 es.length) ∧ Fr (fun _ => False) w w' := by
    by_cases hj : 1 ≤ j ∧ j ≤ 32
    · obtain ⟨wi, rfl⟩ : ∃ n : Nat, j = (n : Int) := ⟨j.toNat, by omega⟩
      refine (grown_in wi (by omega) (by omega) x us es w hg hp hB hn).mono ?_
      rintro e w' ⟨rfl, xo, cp, vs, rs, hT, _, hF⟩
      exact ⟨rfl, hT.cells.1, hT.cells.2.1, hF⟩
    · refine (grown_out j (by omega) x us es w hp hn).mono ?_
      rintro e w' ⟨rfl, hT, hF⟩
      exact ⟨rfl, hT.cells.1, hT.cells.2.1, hF⟩
  have htr : ∀ (w' : World) (tb : Nat), w'.cell? ⟨tb, 0, none⟩ = some (.int .i64 j) → w'.cell? ⟨tb, 1, none⟩ = some (.int .i64 es.length) → _ := fun w' tb h0 h1 => tproof_no tb es.length j i es.length w' h0 h1 (by omega)
  obtain ⟨xo, xc, rfl⟩ := hp.form
  have HG := hide (And.intro hgr htr)
  clear hgr htr hp hg hB hn hi
  generalize es.length = N at *
  go_enter Tryd.func23, Tryd.ntmps23
  go_wp2_with fail
  refine (unhide HG).1.mono ?_
  rintro e w1 ⟨rfl, h0, h1, hF⟩
  have H1 := hide (And.intro h0 (And.intro h1 hF))
  clear hF h0 h1
  generalize w.heap.size = TB at *
  go_wp2_with fail
  refine ((unhide HG).2 w1 TB (unhide H1).1 (unhide H1).2.1).mono ?_
  rintro e w2 ⟨rfl, rfl⟩
  go_wp2_with fail
  go_returns
  exact ⟨rfl, (unhide H1).2.2⟩
end Go.Proofs.YthamfidjilclpabDoor

namespace Go.Proofs.YthamfidjilclpabDoor
open Go.RowKit

theorem count_split (t : Int) : ∀ zs : List Int, zs.Pairwise (· < ·) → (∀ z ∈ zs.take (zs.countP (· < t)), z < t) ∧ ∀ z ∈ zs.drop (zs.countP (· < t)), t ≤ z := by
  intro zs
  induction zs with
  | nil => intro _; simp
  | cons a r ih =>
    intro h
    rw [List.pairwise_cons] at h
    obtain ⟨h1, h2⟩ := h
    obtain ⟨i1, i2⟩ := ih h2
    by_cases ha : a < t
    · rw [List.countP_cons_of_pos (by simpa using ha)]
      refine ⟨fun z hz => ?_, fun z hz => ?_⟩
      · rw [List.take_succ_cons] at hz
        rcases List.mem_cons.1 hz with rfl | hz
        · exact ha
        · exact i1 z hz
      · rw [List.drop_succ_cons] at hz; exact i2 z hz
    · have h0 : r.countP (· < t) = 0 := by
        rw [List.countP_eq_zero]
        intro z hz
        have := h1 z hz
        simp; omega
      rw [List.countP_cons_of_neg (by simpa using ha), h0]
      refine ⟨fun z hz => by simp at hz, fun z hz => ?_⟩
      rw [List.drop_zero] at hz
      rcases List.mem_cons.1 hz with rfl | hz
      · omega
      · have := h1 z hz; omega
/-- A slice of numbers. -/
def Ints (w : World) (x : Value) (zs : List Int) : Prop :=
  ((x = .slice none 0 0 ∧ zs = []) ∨ (∃ a c, x = .slice (some a) 0 c ∧ zs = []) ∨ ∃ g o c, x = .slice (some ⟨g, o, none⟩) zs.length c ∧ zs.length ≤ c ∧ g < w.heap.size ∧ ∀ j, j < zs.length → w.cell? ⟨g, o + j, none⟩ = some (.int .i64 (zs.getD j 0)))
theorem Ints.form {w : World} {x : Value} {zs : List Int} (h : Ints w x zs) : ∃ xo xc, x = .slice xo zs.length xc := by
  rcases h with ⟨rfl, rfl⟩ | ⟨a, c, rfl, rfl⟩ | ⟨g, o, c, rfl, _⟩ <;> exact ⟨_, _, rfl⟩
theorem Ints.fr0 {w w' : World} {x : Value} {zs : List Int} (h : Ints w x zs) (hf : Fr (fun _ => False) w w') : Ints w' x zs := by
  rcases h with h | h | ⟨g, o, c, h1, h2, h3, h4⟩
  · exact .inl h
  · exact .inr (.inl h)
  · exact .inr (.inr ⟨g, o, c, h1, h2, Nat.lt_of_lt_of_le h3 hf.size, fun j hj => (hf.cell (p := ⟨g, o + j, none⟩) h3 (fun h => h)).trans (h4 j hj)⟩)
theorem Ints.at_ {w : World} {xo : Option Addr} {n c : Nat} {zs : List Int} (h : Ints w (.slice xo n c) zs) (h0 : 0 < zs.length) : ∃ g o, xo = some ⟨g, o, none⟩ ∧ n = zs.length ∧ zs.length ≤ c ∧ g < w.heap.size ∧ ∀ j, j < zs.length → w.cell? ⟨g, o + j, none⟩ = some (.int .i64 (zs.getD j 0)) := by
  rcases h with ⟨_, rfl⟩ | ⟨a, c, _, rfl⟩ | ⟨g, o, c', e, h2, h3, h4⟩
  · simp at h0
  · simp at h0
  · simp only [Value.slice.injEq] at e
    obtain ⟨rfl, rfl, rfl⟩ := e
    exact ⟨g, o, rfl, rfl, h2, h3, h4⟩
theorem Ints.take {w : World} {g o n c : Nat} {zs : List Int} (hc : zs.length ≤ c) (hg : g < w.heap.size) (h : ∀ j, j < zs.length → w.cell? ⟨g, o + j, none⟩ = some (.int .i64 (zs.getD j 0))) (hn : n ≤ zs.length) : Ints w (.slice (some ⟨g, o, none⟩) n c) (zs.take n) := by
  have hl : (zs.take n).length = n := by rw [List.length_take]; omega
  refine .inr (.inr ⟨g, o, c, by rw [hl], by omega, hg, fun j hj => ?_⟩)
  rw [h j (by omega)]
  simp only [List.getD, List.getElem?_take]
  rw [if_pos (by omega)]
theorem Ints.drop {w : World} {g o n c : Nat} {zs : List Int} (hc : zs.length ≤ c) (hg : g < w.heap.size) (h : ∀ j, j < zs.length → w.cell? ⟨g, o + j, none⟩ = some (.int .i64 (zs.getD j 0))) (hn : n ≤ zs.length) : Ints w (.slice (some ⟨g, o + n, none⟩) (zs.length - n) (c - n)) (zs.drop n) := by
  have hl : (zs.drop n).length = zs.length - n := by rw [List.length_drop]
  refine .inr (.inr ⟨g, o + n, c - n, by rw [hl], by omega, hg, fun j hj => ?_⟩)
  rw [Nat.add_assoc, h (n + j) (by omega)]
  simp only [List.getD, List.getElem?_drop]
/-- The hashes for places. -/
def mny (wi : Nat) (L : List (List Nat)) (f n : Nat) (zs : List Int) : List (List Nat) :=
  if zs = [] then [mth wi (blk L f n)]
  else if _h : n < 2 then []
  else mny wi L f (hf n) (zs.take (zs.countP (· < ((f + hf n : Nat) : Int)))) ++ mny wi L (f + hf n) (n - hf n) (zs.drop (zs.countP (· < ((f + hf n : Nat) : Int))))
termination_by n
decreasing_by
  · exact hf_lt n (by omega)
  · have := hf_pos n; omega
theorem mny_nil (wi : Nat) (L : List (List Nat)) (f n : Nat) : mny wi L f n [] = [mth wi (blk L f n)] := by rw [mny, if_pos rfl]
theorem mny_one {wi : Nat} {L : List (List Nat)} {f n : Nat} {zs : List Int} (hz : zs ≠ []) (h : n < 2) : mny wi L f n zs = [] := by rw [mny, if_neg hz, dif_pos h]
theorem mny_two {wi : Nat} {L : List (List Nat)} {f n : Nat} {zs : List Int} (hz : zs ≠ []) (h : 2 ≤ n) : mny wi L f n zs = mny wi L f (hf n) (zs.take (zs.countP (· < ((f + hf n : Nat) : Int)))) ++ mny wi L (f + hf n) (n - hf n) (zs.drop (zs.countP (· < ((f + hf n : Nat) : Int)))) := by
  conv => lhs; rw [mny, if_neg hz, dif_neg (by omega)]
theorem mny_lt (wi : Nat) (L : List (List Nat)) (k : Nat) : ∀ f n zs, n ≤ k → zs ≠ [] → 1 ≤ n → (mny wi L f n zs).length ≤ n := by
  induction k with
  | zero => intro f n zs h _ h1; omega
  | succ k ih =>
    intro f n zs h hz h1
    by_cases h2 : n < 2
    · rw [mny_one hz h2]; simp
    · rw [mny_two hz (by omega), List.length_append]
      have h3 := hf_lt n (by omega)
      have h4 := hf_pos n
      generalize zs.countP (· < ((f + hf n : Nat) : Int)) = C
      have one : ∀ f' n', 1 ≤ n' → n' ≤ k → ∀ ys, (mny wi L f' n' ys).length ≤ n' := fun f' n' h5 h6 ys => by
        by_cases hy : ys = []
        · rw [hy, mny_nil]; simpa using h5
        · exact ih f' n' ys h6 hy h5
      have i1 := one f (hf n) (by omega) (by omega) (zs.take C)
      have i2 := one (f + hf n) (n - hf n) (by omega) (by omega) (zs.drop C)
      omega
theorem mny_le (wi : Nat) (L : List (List Nat)) (f n : Nat) (zs : List Int) : (mny wi L f n zs).length ≤ n + 1 := by
  by_cases hz : zs = []
  · rw [hz, mny_nil]; simp
  · by_cases h1 : 1 ≤ n
    · have := mny_lt wi L n f n zs (Nat.le_refl _) hz h1; omega
    · rw [mny_one hz (by omega)]; simp
def ManySays (tb wi : Nat) (L : List (List Nat)) (f n : Nat) (zs : List Int) (x : Value) (w : World) : Prop :=
  Calls Tryd.prog 98 #[pv (.pointer (some ⟨tb, 0, none⟩)) f n, x] w fun e w' => ∃ ao cp vs, e = .returned (.slice ao vs.length cp) ∧ OL w w' ao cp vs (mny wi L f n zs)
set_option maxRecDepth 100000 in
set_option maxHeartbeats 1000000 in
theorem many_nil (tb wi : Nat) (hw1 : 1 ≤ wi) (hw32 : wi ≤ 32) (L : List (List Nat)) (f n : Nat) (x : Value) (w : World) (hT : Tk w tb wi L) (hA : Al f n) (hL : f + n ≤ L.length) (hx : Ints w x []) : ManySays tb wi L f n [] x w := by
  have hroot := fun w' (hf : Fr (fun _ => False) w w') => root_any tb wi hw1 hw32 L _ f n w' (Nat.le_refl _) (hT.fr0 hf) hA hL
  have hMw := hT.mw hw1 hw32 f n
  have hMb := hT.mb f n
  unfold ManySays
  unfold RootSays at hroot
  rw [mny_nil]
  generalize mth wi (blk L f n) = M at *
  obtain ⟨xo, xc, rfl⟩ := hx.form
  have HC := hide (And.intro hroot (And.intro hMw hMb))
  clear hroot hMw hMb hT hA hL hx
  unfold pv at *
  simp only [List.length_nil]
  go_enter Tryd.func98, Tryd.ntmps98
  go_wp2_with fail
  refine ((unhide HC).1 _ ((Fr.refl _ _).alloc _)).mono ?_
  rintro e w1 ⟨yo, yc, rfl, hO⟩
  obtain ⟨W, hW⟩ : ∃ W, w1.alloc (.cells #[.slice yo wi yc] 23) = W := ⟨_, rfl⟩
  have hL1 := (ol_lit1 hO (unhide HC).2.2 wi (unhide HC).2.1 W hW).base ((Fr.refl _ _).alloc _)
  have H1 := hide hL1
  clear hL1 hO
  go_wp2_with fail
  go_ret
  exact ⟨_, 1, _, rfl, unhide H1⟩
set_option maxRecDepth 100000 in
set_option maxHeartbeats 1000000 in
theorem many_one (tb wi : Nat) (L : List (List Nat)) (f : Nat) (zs : List Int) (x : Value) (w : World) (hx : Ints w x zs) (hz : zs ≠ []) : ManySays tb wi L f 1 zs x w := by
  unfold ManySays pv
  rw [mny_one hz (by decide)]
  obtain ⟨xo, xc, rfl⟩ := hx.form
  have h0 : 0 < zs.length := List.length_pos_iff.2 hz
  have q0 : ((zs.length : Int) == 0) = false := beq_false_of_ne (by omega)
  have q1 : ¬ zs.length = 0 := by omega
  have q2 : ¬ zs = [] := hz
  clear hx hz
  generalize zs.length = N at *
  have e1 : ((1 : Nat) : Int) = 1 := rfl
  simp only [e1]
  go_enter Tryd.func98, Tryd.ntmps98
  go_wp2_with fail
  go_ret
  exact ⟨none, 0, [], rfl, (OL.nil _).base ((Fr.refl _ _).alloc _)⟩
set_option maxRecDepth 100000 in
set_option maxHeartbeats 2000000 in
theorem many_two (tb wi : Nat) (L : List (List Nat)) (f n : Nat) (zs : List Int) (x : Value) (w : World) (hb : f + n ≤ 8000000) (h2 : 2 ≤ n) (hx : Ints w x zs) (hz : zs ≠ []) (hs : zs.Pairwise (· < ·)) (hzl : zs.length ≤ 16000000)
    (ih1 : ∀ w' x', Fr (fun _ => False) w w' → Ints w' x' (zs.take (zs.countP (· < ((f + hf n : Nat) : Int)))) → ManySays tb wi L f (hf n) (zs.take (zs.countP (· < ((f + hf n : Nat) : Int)))) x' w')
    (ih2 : ∀ w' x', Fr (fun _ => False) w w' → Ints w' x' (zs.drop (zs.countP (· < ((f + hf n : Nat) : Int)))) → ManySays tb wi L (f + hf n) (n - hf n) (zs.drop (zs.countP (· < ((f + hf n : Nat) : Int)))) x' w') : ManySays tb wi L f n zs x w := by
  have h0 : 0 < zs.length := List.length_pos_iff.2 hz
  obtain ⟨xo, xc, rfl⟩ := hx.form
  obtain ⟨g, o, rfl, -, hc, hgl, hcells⟩ := hx.at_ h0
  have hlt := hf_lt n h2
  have hpos := hf_pos n
  have hpt := fun w => parts_any (some ⟨tb, 0, none⟩) f n w (by omega) h2
  have hfind : ∀ w', Fr (fun _ => False) w w' → Calls Tryd.prog 100 #[.slice (some ⟨g, o, none⟩) zs.length xc, .int .i64 ((f + hf n : Nat) : Int)] w' fun e w'' => ∃ bb, e = .returned (.tuple #[.int .i64 (zs.countP (· < ((f + hf n : Nat) : Int)) : Nat), .bool bb]) ∧ Fr (fun _ => False) w' w'' := fun w' hf' => by
    refine (find_any g o zs.length xc zs ((f + hf n : Nat) : Int) w' (Nat.le_refl _) (by omega) (fun j hj => (hf'.cell (p := ⟨g, o + j, none⟩) hgl (fun h => h)).trans (hcells j hj)) (by rw [List.take_length]; exact hs.imp (fun h => by omega))).mono ?_
    rintro e w'' ⟨rfl, q, rfl⟩
    rw [List.take_length]
    exact ⟨_, rfl, (Fr.refl _ _).drewN q⟩
  have hCl : zs.countP (· < ((f + hf n : Nat) : Int)) ≤ zs.length := List.countP_le_length
  have m1 := mny_le wi L f (hf n) (zs.take (zs.countP (· < ((f + hf n : Nat) : Int))))
  have m2 := mny_le wi L (f + hf n) (n - hf n) (zs.drop (zs.countP (· < ((f + hf n : Nat) : Int))))
  unfold ManySays at *
  rw [mny_two hz h2]
  generalize hC : zs.countP (· < ((f + hf n : Nat) : Int)) = C at *
  have r1 := fun w' (hf' : Fr (fun _ => False) w w') => ih1 w' _ hf' ((Ints.take hc hgl hcells hCl).fr0 hf')
  have r2 : ∀ w', Fr (fun _ => False) w w' → _ := fun w' hf' => ih2 w' _ hf' ((Ints.drop hc hgl hcells hCl).fr0 hf')
  have r3 : C = zs.length → ∀ w' a c', Fr (fun _ => False) w w' → _ := fun hCz w' a c' hf' => ih2 w' (.slice (some a) 0 c') hf' (by rw [hCz, List.drop_length]; exact .inr (.inl ⟨a, c', rfl, rfl⟩))
  generalize mny wi L f (hf n) (zs.take C) = A1 at *
  generalize mny wi L (f + hf n) (n - hf n) (zs.drop C) = A2 at *
  have hcat : ∀ (wr w1 : World) (ao bo : Option Addr) (cp bc : Nat) (vs us : List Value), OL w wr ao cp vs A1 → OL wr w1 bo bc us A2 → True := fun _ _ _ _ _ _ _ _ _ _ => trivial
  have m1' : A1.length ≤ 9000000 := by omega
  have m2' : A2.length ≤ 9000000 := by omega
  have HL := hide (And.intro m1' m2')
  clear m1' m2'
  clear hcat m1 m2 ih1 ih2 hC hs hcells hgl hx hz
  generalize hF2 : f + hf n = F2 at *
  generalize n - hf n = N2 at *
  generalize hf n = K at *
  have q0 : ((zs.length : Int) == 0) = false := beq_false_of_ne (by omega)
  have q1 : ¬ zs.length = 0 := by omega
  have q2 : ((n : Int) == 1) = false := beq_false_of_ne (by omega)
  have q3 : ¬ n = 1 := by omega
  have q4 : (C : Int) ≤ (zs.length : Int) := by omega
  have q5 : (C : Int) ≤ (xc : Int) := by omega
  have HC := hide (And.intro hpt (And.intro hfind (And.intro r1 (And.intro r2 r3))))
  clear hpt hfind r1 r2 r3
  unfold pv at *
  by_cases hcC : xc = C
  · have hCz : C = zs.length := by omega
    have HCz := hide hCz
    have hxc : xc = zs.length := by omega
    clear hcC
    subst hxc
    subst hCz
    generalize zs.length = N at *
    go_enter Tryd.func98, Tryd.ntmps98
    go_wp2_with fail
    obtain ⟨W0, hW0⟩ : ∃ W0, w.alloc (.cells #[.pointer (some ⟨tb, 0, none⟩), .int .i64 f, .int .i64 n] 63) = W0 := ⟨_, rfl⟩
    rw [hW0]
    obtain ⟨-, -, -, hF0⟩ := box3p w _ _ _ _ W0 hW0
    refine ((unhide HC).1 _).mono ?_
    rintro e wA ⟨rfl, hFA⟩
    have HF := hide (hF0.trans hFA (fun _ _ h => h))
    clear hF0 hFA hW0
    go_wp2_with fail
    obtain ⟨W1, hW1⟩ : ∃ W1, (wA.alloc (.cells #[.pointer (some ⟨tb, 0, none⟩), .int .i64 f, .int .i64 K] 63)).alloc (.cells #[.pointer (some ⟨tb, 0, none⟩), .int .i64 F2, .int .i64 N2] 63) = W1 := ⟨_, rfl⟩
    rw [hW1]
    obtain ⟨x0, x1, x2, y0, y1, y2, hF1⟩ := two3 wA _ _ _ _ _ _ _ W1 hW1
    refine ((unhide HC).2.1 _ ((unhide HF).trans hF1 (fun _ _ h => h))).mono ?_
    rintro e wB ⟨bb, rfl, hFB⟩
    have u0 := (hFB.cell (lt_of_cell x0) (fun h => h)).trans x0
    have u1 := (hFB.cell (lt_of_cell x1) (fun h => h)).trans x1
    have u2 := (hFB.cell (lt_of_cell x2) (fun h => h)).trans x2
    have v0 := (hFB.cell (lt_of_cell y0) (fun h => h)).trans y0
    have v1 := (hFB.cell (lt_of_cell y1) (fun h => h)).trans y1
    have v2 := (hFB.cell (lt_of_cell y2) (fun h => h)).trans y2
    have HF2 := hide (((unhide HF).trans hF1 (fun _ _ h => h)).trans hFB (fun _ _ h => h))
    clear hF1 hFB hW1 x0 x1 x2 y0 y1 y2 HF
    generalize wA.heap.size = Z at *
    have hS : ∀ w', Fr (fun _ => False) wB w' → w'.cell? ⟨Z, 0, none⟩ = some (.pointer (some ⟨tb, 0, none⟩)) ∧ w'.cell? ⟨Z, 1, none⟩ = some (.int .i64 f) ∧ w'.cell? ⟨Z, 2, none⟩ = some (.int .i64 K) ∧ w'.cell? ⟨Z + 1, 0, none⟩ = some (.pointer (some ⟨tb, 0, none⟩)) ∧ w'.cell? ⟨Z + 1, 1, none⟩ = some (.int .i64 F2) ∧ w'.cell? ⟨Z + 1, 2, none⟩ = some (.int .i64 N2) := fun w' hf =>
      ⟨(hf.cell (lt_of_cell u0) (fun h => h)).trans u0, (hf.cell (lt_of_cell u1) (fun h => h)).trans u1, (hf.cell (lt_of_cell u2) (fun h => h)).trans u2, (hf.cell (lt_of_cell v0) (fun h => h)).trans v0, (hf.cell (lt_of_cell v1) (fun h => h)).trans v1, (hf.cell (lt_of_cell v2) (fun h => h)).trans v2⟩
    have HS := hide hS
    clear hS
    have T1 : True := trivial
    go_wp2_with fail
    go_region_held3 (fun w' => w'.cell? ⟨Z, 0, none⟩ = some (.pointer (some ⟨tb, 0, none⟩)) ∧ w'.cell? ⟨Z, 1, none⟩ = some (.int .i64 f) ∧ w'.cell? ⟨Z, 2, none⟩ = some (.int .i64 K) ∧ w'.cell? ⟨Z + 1, 0, none⟩ = some (.pointer (some ⟨tb, 0, none⟩)) ∧ w'.cell? ⟨Z + 1, 1, none⟩ = some (.int .i64 F2) ∧ w'.cell? ⟨Z + 1, 2, none⟩ = some (.int .i64 N2))
      (first | assumption | exact (unhide HS) _ (Fr.refl _ _).drew | exact (unhide HS) _ fE | exact (unhide HS) _ fD | exact (unhide HS) _ fC)
      (first
        | (go_at_call 98; clear T1; refine ((unhide HC).2.2.1 _ (by exact (unhide HF2).drew)).mono ?_; rintro e wC ⟨ao, cp, vs, rfl, oC⟩; have fC : Fr (fun _ => False) wB wC := (Fr.refl _ _).drew.trans oC.own.fr (fun _ _ h => h))
        | (go_at_call 98; refine ((unhide HC).2.2.2.2 (unhide HCz) _ _ _ (by exact (unhide HF2).trans fC (fun _ _ h => h))).mono ?_; rintro e wD ⟨bo, bc, us, rfl, oD⟩; have fD : Fr (fun _ => False) wB wD := fC.trans oD.own.fr (fun _ _ h => h))
        | (obtain ⟨ao2, cp2, wE, hr2, hO2⟩ := oC.cat oD (by rw [oC.len, oD.len]; have h1 := (unhide HL).1; have h2 := (unhide HL).2; omega); have fE : Fr (fun _ => False) wB wE := (Fr.refl _ _).drew.trans hO2.own.fr (fun _ _ h => h); refine step_app rfl (.tmp 36) (.tmp 41) 22 22 rfl _ _ _ (by simp [Act.eval]) (by simp [Act.eval]) hr2 ?_))
    have HE := hide (hO2.base ((unhide HF2).drew))
    clear oC oD hO2 hr2 fC fD fE
    go_wp2_with fail
    go_ret
    exact ⟨ao2, cp2, _, by rw [List.length_append]; rfl, unhide HE⟩
  · have q6 : ¬ C = xc := fun h => hcC h.symm
    generalize zs.length = N at *
    go_enter Tryd.func98, Tryd.ntmps98
    go_wp2_with fail
    obtain ⟨W0, hW0⟩ : ∃ W0, w.alloc (.cells #[.pointer (some ⟨tb, 0, none⟩), .int .i64 f, .int .i64 n] 63) = W0 := ⟨_, rfl⟩
    rw [hW0]
    obtain ⟨-, -, -, hF0⟩ := box3p w _ _ _ _ W0 hW0
    refine ((unhide HC).1 _).mono ?_
    rintro e wA ⟨rfl, hFA⟩
    have HF := hide (hF0.trans hFA (fun _ _ h => h))
    clear hF0 hFA hW0
    go_wp2_with fail
    obtain ⟨W1, hW1⟩ : ∃ W1, (wA.alloc (.cells #[.pointer (some ⟨tb, 0, none⟩), .int .i64 f, .int .i64 K] 63)).alloc (.cells #[.pointer (some ⟨tb, 0, none⟩), .int .i64 F2, .int .i64 N2] 63) = W1 := ⟨_, rfl⟩
    rw [hW1]
    obtain ⟨x0, x1, x2, y0, y1, y2, hF1⟩ := two3 wA _ _ _ _ _ _ _ W1 hW1
    refine ((unhide HC).2.1 _ ((unhide HF).trans hF1 (fun _ _ h => h))).mono ?_
    rintro e wB ⟨bb, rfl, hFB⟩
    have u0 := (hFB.cell (lt_of_cell x0) (fun h => h)).trans x0
    have u1 := (hFB.cell (lt_of_cell x1) (fun h => h)).trans x1
    have u2 := (hFB.cell (lt_of_cell x2) (fun h => h)).trans x2
    have v0 := (hFB.cell (lt_of_cell y0) (fun h => h)).trans y0
    have v1 := (hFB.cell (lt_of_cell y1) (fun h => h)).trans y1
    have v2 := (hFB.cell (lt_of_cell y2) (fun h => h)).trans y2
    have HF2 := hide (((unhide HF).trans hF1 (fun _ _ h => h)).trans hFB (fun _ _ h => h))
    clear hF1 hFB hW1 x0 x1 x2 y0 y1 y2 HF
    generalize wA.heap.size = Z at *
    have hS : ∀ w', Fr (fun _ => False) wB w' → w'.cell? ⟨Z, 0, none⟩ = some (.pointer (some ⟨tb, 0, none⟩)) ∧ w'.cell? ⟨Z, 1, none⟩ = some (.int .i64 f) ∧ w'.cell? ⟨Z, 2, none⟩ = some (.int .i64 K) ∧ w'.cell? ⟨Z + 1, 0, none⟩ = some (.pointer (some ⟨tb, 0, none⟩)) ∧ w'.cell? ⟨Z + 1, 1, none⟩ = some (.int .i64 F2) ∧ w'.cell? ⟨Z + 1, 2, none⟩ = some (.int .i64 N2) := fun w' hf =>
      ⟨(hf.cell (lt_of_cell u0) (fun h => h)).trans u0, (hf.cell (lt_of_cell u1) (fun h => h)).trans u1, (hf.cell (lt_of_cell u2) (fun h => h)).trans u2, (hf.cell (lt_of_cell v0) (fun h => h)).trans v0, (hf.cell (lt_of_cell v1) (fun h => h)).trans v1, (hf.cell (lt_of_cell v2) (fun h => h)).trans v2⟩
    have HS := hide hS
    clear hS
    have T1 : True := trivial
    go_wp2_with fail
    go_region_held3 (fun w' => w'.cell? ⟨Z, 0, none⟩ = some (.pointer (some ⟨tb, 0, none⟩)) ∧ w'.cell? ⟨Z, 1, none⟩ = some (.int .i64 f) ∧ w'.cell? ⟨Z, 2, none⟩ = some (.int .i64 K) ∧ w'.cell? ⟨Z + 1, 0, none⟩ = some (.pointer (some ⟨tb, 0, none⟩)) ∧ w'.cell? ⟨Z + 1, 1, none⟩ = some (.int .i64 F2) ∧ w'.cell? ⟨Z + 1, 2, none⟩ = some (.int .i64 N2))
      (first | assumption | exact (unhide HS) _ (Fr.refl _ _).drew | exact (unhide HS) _ fE | exact (unhide HS) _ fD | exact (unhide HS) _ fC)
      (first
        | (go_at_call 98; clear T1; refine ((unhide HC).2.2.1 _ (by exact (unhide HF2).drew)).mono ?_; rintro e wC ⟨ao, cp, vs, rfl, oC⟩; have fC : Fr (fun _ => False) wB wC := (Fr.refl _ _).drew.trans oC.own.fr (fun _ _ h => h))
        | (go_at_call 98; refine ((unhide HC).2.2.2.1 _ (by exact (unhide HF2).trans fC (fun _ _ h => h))).mono ?_; rintro e wD ⟨bo, bc, us, rfl, oD⟩; have fD : Fr (fun _ => False) wB wD := fC.trans oD.own.fr (fun _ _ h => h))
        | (obtain ⟨ao2, cp2, wE, hr2, hO2⟩ := oC.cat oD (by rw [oC.len, oD.len]; have h1 := (unhide HL).1; have h2 := (unhide HL).2; omega); have fE : Fr (fun _ => False) wB wE := (Fr.refl _ _).drew.trans hO2.own.fr (fun _ _ h => h); refine step_app rfl (.tmp 36) (.tmp 41) 22 22 rfl _ _ _ (by simp [Act.eval]) (by simp [Act.eval]) hr2 ?_))
    have HE := hide (hO2.base ((unhide HF2).drew))
    clear oC oD hO2 hr2 fC fD fE
    go_wp2_with fail
    go_ret
    exact ⟨ao2, cp2, _, by rw [List.length_append]; rfl, unhide HE⟩
/-- The hashes for places, of a part. -/
theorem many_any (tb wi : Nat) (hw1 : 1 ≤ wi) (hw32 : wi ≤ 32) (L : List (List Nat)) (k : Nat) : ∀ (f n : Nat) (zs : List Int) (x : Value) (w : World), n ≤ k → Tk w tb wi L → Al f n → f + n ≤ L.length → Ints w x zs → zs.Pairwise (· < ·) → (∀ z ∈ zs, (f : Int) ≤ z ∧ z < f + n) → zs.length ≤ 16000000 → ManySays tb wi L f n zs x w := by
  induction k with
  | zero =>
    intro f n zs x w hk hT hA hL hx hs hz hl
    have e : zs = [] := by
      rcases zs with _ | ⟨a, r⟩
      · rfl
      · have := hz a (by simp); omega
    subst e
    exact many_nil tb wi hw1 hw32 L f n x w hT hA hL hx
  | succ k ih =>
    intro f n zs x w hk hT hA hL hx hs hz hl
    by_cases e : zs = []
    · subst e
      exact many_nil tb wi hw1 hw32 L f n x w hT hA hL hx
    · have hn1 : 1 ≤ n := by
        rcases zs with _ | ⟨a, r⟩
        · exact absurd rfl e
        · have := hz a (by simp); omega
      by_cases h1 : n = 1
      · subst h1
        exact many_one tb wi L f zs x w hx e
      · have hlt := hf_lt n (by omega)
        have hpos := hf_pos n
        obtain ⟨hA1, hA2⟩ := hA.halves (by omega)
        obtain ⟨s1, s2⟩ := count_split ((f + hf n : Nat) : Int) zs hs
        have hle := hT.len
        refine many_two tb wi L f n zs x w (by omega) (by omega) hx e hs hl (fun w' x' hf' hx' => ?_) (fun w' x' hf' hx' => ?_)
        · exact ih f (hf n) _ x' w' (by omega) (hT.fr0 hf') hA1 (by omega) hx' (hs.sublist (List.take_sublist _ _)) (fun z hz' => by have h1 := hz z (List.mem_of_mem_take hz'); have h2 := s1 z hz'; omega) (by rw [List.length_take]; omega)
        · exact ih (f + hf n) (n - hf n) _ x' w' (by omega) (hT.fr0 hf') hA2 (by omega) hx' (hs.sublist (List.drop_sublist _ _)) (fun z hz' => by have h1 := hz z (List.mem_of_mem_drop hz'); have h2 := s2 z hz'; omega) (by rw [List.length_drop]; omega)
end Go.Proofs.YthamfidjilclpabDoor

namespace Go.Proofs.YthamfidjilclpabDoor
open Go.RowKit

/-- Are numbers rising, from l on, below n? -/
def rsF (n : Int) : Int → List Int → Bool
  | _, [] => true
  | l, z :: r => if z < l ∨ n ≤ z then false else rsF n (z + 1) r
theorem rsF_ok (n : Int) : ∀ (zs : List Int) (l : Int), rsF n l zs = true → zs.Pairwise (· < ·) ∧ ∀ z ∈ zs, l ≤ z ∧ z < n := by
  intro zs
  induction zs with
  | nil => intro l _; exact ⟨List.Pairwise.nil, fun z h => by cases h⟩
  | cons a r ih =>
    intro l h
    rw [rsF] at h
    split at h
    · cases h
    · obtain ⟨h1, h2⟩ := ih (a + 1) h
      refine ⟨List.pairwise_cons.2 ⟨fun z hz => by have := h2 z hz; omega, h1⟩, fun z hz => ?_⟩
      rcases List.mem_cons.1 hz with rfl | hz
      · omega
      · have := h2 z hz; omega
theorem Ints.cell {w : World} {xo : Option Addr} {n c : Nat} {zs : List Int} (h : Ints w (.slice xo n c) zs) (k : Nat) (hk : k < zs.length) : ∃ g o, xo = some ⟨g, o, none⟩ ∧ w.cell? ⟨g, o + k, none⟩ = some (.int .i64 zs[k]) := by
  obtain ⟨g, o, e, _, _, _, hc⟩ := h.at_ (by omega)
  refine ⟨g, o, e, ?_⟩
  rw [hc k hk, List.getD, List.getElem?_eq_getElem hk, Option.getD_some]
set_option maxRecDepth 100000 in
set_option maxHeartbeats 1000000 in
/-- merkle.rising. -/
theorem rising_any (x : Value) (zs : List Int) (n : Int) (w : World) (hx : Ints w x zs) (hn : n < 9223372036854775808) (hl : zs.length ≤ 16000000) (hb : ∀ z ∈ zs, -9223372036854775808 ≤ z) :
    Calls Tryd.prog 64 #[x, .int .i64 n] w fun e w' => e = .returned (.bool (rsF n 0 zs)) ∧ w' = w := by
  obtain ⟨xo, xc, rfl⟩ := hx.form
  have HG := hide (And.intro hx (And.intro hl hb))
  obtain ⟨B, hB⟩ : ∃ B, rsF n 0 zs = B := ⟨_, rfl⟩
  rw [hB]
  have HB := hide hB
  clear hx hl hb hB
  generalize hN : zs.length = N at *
  go_enter Tryd.func64, Tryd.ntmps64
  go_wp2_with fail
  go_loopw [5, 10] (fun lv iv wr => ∃ (k : Nat) (l : Int), k ≤ N ∧ iv = .int .i64 (k : Nat) ∧ lv = .int .i64 l ∧ wr = w ∧ rsF n l (zs.drop k) = B) (fun _ iv _ => N - (intOf iv).toNat)
  case atStart => exact ⟨0, 0, Nat.zero_le _, rfl, rfl, rfl, unhide HB⟩
  case round =>
    obtain ⟨k, l, hk, rfl, rfl, rfl, hI⟩ := hrel
    have hN8 := (unhide HG).2.1
    by_cases hlt : k < N
    · have hlt' : (k : Int) < (N : Int) := by omega
      have hkz : k < zs.length := by omega
      obtain ⟨g, o, rfl, hcell⟩ := (unhide HG).1.cell k hkz
      have hzb := (unhide HG).2.2 zs[k] (List.getElem_mem hkz)
      rw [List.drop_eq_getElem_cons hkz, rsF] at hI
      generalize zs[k] = z at *
      have w1 : IntKind.i64.wrap ((k : Int) + 1) = (k : Int) + 1 := by rw [IntKind.wrap_i64]; omega
      by_cases h1 : z < l
      · rw [if_pos (.inl h1)] at hI
        subst hI
        go_wp2_with fail
        go_ret
        exact ⟨rfl, by first | rfl | trivial⟩
      · by_cases h2 : n ≤ z
        · rw [if_pos (.inr h2)] at hI
          subst hI
          go_wp2_with fail
          go_ret
          exact ⟨rfl, by first | rfl | trivial⟩
        · rw [if_neg (by omega)] at hI
          have w2 : IntKind.i64.wrap (z + 1) = z + 1 := by rw [IntKind.wrap_i64]; omega
          have HI := hide hI
          clear hI
          go_wp2_with fail
          exact ⟨⟨k + 1, z + 1, by omega, by go_num, by go_num, by first | rfl | trivial, unhide HI⟩, by simp [intOf]; omega⟩
    · have hkN : k = N := by omega
      have hlt' : ¬ (k : Int) < (N : Int) := by omega
      rw [List.drop_of_length_le (by omega), rsF] at hI
      subst hI
      clear hkN
      go_wp2_with fail
      go_ret
      exact ⟨rfl, by first | rfl | trivial⟩
set_option maxRecDepth 100000 in
set_option maxHeartbeats 1000000 in
theorem tmany_in (tb wi : Nat) (hw1 : 1 ≤ wi) (hw32 : wi ≤ 32) (L : List (List Nat)) (n : Nat) (x : Value) (zs : List Int) (w : World) (hT : Tk w tb wi L) (hn : n ≤ L.length) (hx : Ints w x zs) (hl : zs.length ≤ 16000000) (hr : rsF n 0 zs = true) :
    Calls Tryd.prog 63 #[.pointer (some ⟨tb, 0, none⟩), x, .int .i64 n] w fun e w' => ∃ ao cp vs, e = .returned (.tuple #[.slice ao vs.length cp, .int .i64 0]) ∧ OL w w' ao cp vs (mny wi L 0 n zs) := by
  obtain ⟨c0, c1, htb⟩ := hT.c0
  have hle := hT.len
  obtain ⟨s1, s2⟩ := rsF_ok n zs 0 hr
  have hhas : Calls Tryd.prog 73 #[.pointer (some ⟨tb, 0, none⟩), .int .i64 n] w fun e w' => e = .returned (.bool true) ∧ w' = w := by
    have := has_any tb L.length wi n w c0 c1
    rw [decide_eq_true (by omega)] at this
    exact this
  have hri := rising_any x zs n w hx (by omega) hl (fun z hz => by have := s2 z hz; omega)
  rw [hr] at hri
  have hmn := fun w' (hf : Fr (fun _ => False) w w') => many_any tb wi hw1 hw32 L n 0 n zs x w' (Nat.le_refl _) (hT.fr0 hf) (al_zero n) (by omega) (hx.fr0 hf) s1 (fun z hz => by have := s2 z hz; omega) hl
  unfold ManySays at hmn
  obtain ⟨xo, xc, rfl⟩ := hx.form
  have HG := hide (And.intro hhas (And.intro hri hmn))
  clear hhas hri hmn hT c0 c1 htb hn hx s1 s2 hr hl hle
  generalize zs.length = N at *
  go_enter Tryd.func63, Tryd.ntmps63
  go_wp2_with fail
  refine (unhide HG).1.mono ?_
  rintro e w0 ⟨rfl, rfl⟩
  go_wp2_with fail
  refine (unhide HG).2.1.mono ?_
  rintro e w0 ⟨rfl, rfl⟩
  go_wp2_with fail
  refine (first_any _ _ _).mono ?_
  rintro e w1 ⟨rfl, hF1⟩
  have H1 := hide hF1
  clear hF1
  go_wp2_with fail
  refine ((unhide HG).2.2 w1 (unhide H1)).mono ?_
  rintro e w2 ⟨ao, cp, vs, rfl, hO⟩
  have H2 := hide (hO.base (unhide H1))
  clear hO
  go_wp2_with fail
  go_returns
  exact ⟨ao, cp, vs, rfl, unhide H2⟩
set_option maxRecDepth 100000 in
set_option maxHeartbeats 1000000 in
theorem tmany_no (tb n : Nat) (wi k : Int) (x : Value) (zs : List Int) (w : World) (c0 : w.cell? ⟨tb, 0, none⟩ = some (.int .i64 wi)) (c1 : w.cell? ⟨tb, 1, none⟩ = some (.int .i64 n)) (hx : Ints w x zs) (hl : zs.length ≤ 16000000) (hb : ∀ z ∈ zs, -9223372036854775808 ≤ z) (hk : k < 9223372036854775808) (h : ¬ (1 ≤ wi ∧ wi ≤ 32 ∧ 0 ≤ k ∧ k ≤ n) ∨ rsF k 0 zs = false) :
    Calls Tryd.prog 63 #[.pointer (some ⟨tb, 0, none⟩), x, .int .i64 k] w fun e w' => e = .returned (.tuple #[.slice none 0 0, .int .i64 1]) ∧ w' = w := by
  have hhas := has_any tb n wi k w c0 c1
  have hri := rising_any x zs k w hx hk hl hb
  obtain ⟨xo, xc, rfl⟩ := hx.form
  by_cases hh : 1 ≤ wi ∧ wi ≤ 32 ∧ 0 ≤ k ∧ k ≤ n
  · rw [decide_eq_true hh] at hhas
    have h' : rsF k 0 zs = false := by
      rcases h with h | h
      · exact absurd hh h
      · exact h
    rw [h'] at hri
    have HG := hide (And.intro hhas hri)
    clear hhas h c0 c1 hx hl hb hri h' hh
    generalize zs.length = N at *
    go_enter Tryd.func63, Tryd.ntmps63
    go_wp2_with fail
    refine (unhide HG).1.mono ?_
    rintro e w0 ⟨rfl, rfl⟩
    go_wp2_with fail
    refine (unhide HG).2.mono ?_
    rintro e w0 ⟨rfl, rfl⟩
    go_wp2_with fail
    go_returns
    exact ⟨rfl, rfl⟩
  · rw [decide_eq_false hh] at hhas
    have HG := hide hhas
    clear hhas h hh c0 c1 hx hl hb hri
    generalize zs.length = N at *
    go_enter Tryd.func63, Tryd.ntmps63
    go_wp2_with fail
    refine (unhide HG).mono ?_
    rintro e w0 ⟨rfl, rfl⟩
    go_wp2_with fail
    go_returns
    exact ⟨rfl, rfl⟩
set_option maxRecDepth 100000 in
set_option maxHeartbeats 1000000 in
/-- merkle.Many, of rising places. -/
theorem mmany_in (wi : Nat) (hw1 : 1 ≤ wi) (hw32 : wi ≤ 32) (x y : Value) (us : List Value) (es : List (List Nat)) (zs : List Int) (w : World) (hg : GS w) (ht : GT w) (hp : Pcs w x us es) (hB : ∀ e ∈ es, e.length ≤ 16000000) (hn : es.length ≤ 8000000) (hy : Ints w y zs) (hl : zs.length ≤ 16000000) (hr : rsF es.length 0 zs = true) :
    Calls Tryd.prog 25 #[.int .i64 wi, x, y] w fun e w' => ∃ ao cp vs, e = .returned (.tuple #[.slice ao vs.length cp, .int .i64 0]) ∧ OL w w' ao cp vs (mny wi (es.map (lf wi)) 0 es.length zs) := by
  have hgr := grown_in wi hw1 hw32 x us es w hg hp hB hn
  have htr := fun w' tb (hf : Fr (fun _ => False) w w') (hT : Tk w' tb wi (es.map (lf wi))) => tmany_in tb wi hw1 hw32 (es.map (lf wi)) es.length y zs w' hT (by rw [List.length_map]; exact Nat.le_refl _) (hy.fr0 hf) hl hr
  obtain ⟨xo, xc, rfl⟩ := hp.form
  obtain ⟨yo, yc, rfl⟩ := hy.form
  have HT := hide (fun (w' : World) (tb base : Nat) (xo : Option Addr) (cp : Nat) (vs : List Value) (rs : List (List Nat)) (hT : TrAt w' base tb wi es.length xo cp vs rs) hR hf => tk_of hw1 hw32 hT hR hg ht hf hn)
  have HG := hide (And.intro hgr htr)
  clear hgr htr hg ht hp hB hn hy hl hr
  generalize mny wi (es.map (lf wi)) 0 es.length zs = M at *
  generalize es.length = N at *
  generalize zs.length = ZN at *
  go_enter Tryd.func25, Tryd.ntmps25
  go_wp2_with fail
  refine (unhide HG).1.mono ?_
  rintro e w1 ⟨rfl, yo, cp, vs, rs, hT, hR, hF⟩
  have hk := (unhide HT) _ _ _ _ _ _ _ hT hR hF
  have H1 := hide (And.intro hk hF)
  clear hk hF hT hR
  generalize w.heap.size = TB at *
  go_wp2_with fail
  refine ((unhide HG).2 w1 TB (unhide H1).2 (unhide H1).1).mono ?_
  rintro e w2 ⟨ao, cp, vs, rfl, hO⟩
  have H2 := hide (hO.base (unhide H1).2)
  clear hO
  go_wp2_with fail
  go_returns
  exact ⟨ao, cp, vs, rfl, unhide H2⟩
set_option maxRecDepth 100000 in
set_option maxHeartbeats 1000000 in
theorem mmany_no (j : Int) (x y : Value) (us : List Value) (es : List (List Nat)) (zs : List Int) (w : World) (hg : GS w) (hp : Pcs w x us es) (hB : ∀ e ∈ es, e.length ≤ 16000000) (hn : es.length ≤ 8000000) (hy : Ints w y zs) (hl : zs.length ≤ 16000000) (hzb : ∀ z ∈ zs, -9223372036854775808 ≤ z) (hi : (j < 1 ∨ 32 < j) ∨ rsF es.length 0 zs = false) :
    Calls Tryd.prog 25 #[.int .i64 j, x, y] w fun e w' => e = .returned (.tuple #[.slice none 0 0, .int .i64 1]) ∧ Fr (fun _ => False) w w' := by
  have hgr : Calls Tryd.prog 34 #[.int .i64 j, x] w fun e w' => e = .returned (.pointer (some ⟨w.heap.size, 0, none⟩)) ∧ w'.cell? ⟨w.heap.size, 0, none⟩ = some (.int .i64 j) ∧ w'.cell? ⟨w.heap.size, 1, none⟩ = some (.int .i64 es.length) ∧ Fr (fun _ => False) w w' := by
    by_cases hj : 1 ≤ j ∧ j ≤ 32
    · obtain ⟨wi, rfl⟩ : ∃ n : Nat, j = (n : Int) := ⟨j.toNat, by omega⟩
      refine (grown_in wi (by omega) (by omega) x us es w hg hp hB hn).mono ?_
      rintro e w' ⟨rfl, xo, cp, vs, rs, hT, _, hF⟩
      exact ⟨rfl, hT.cells.1, hT.cells.2.1, hF⟩
    · refine (grown_out j (by omega) x us es w hp hn).mono ?_
      rintro e w' ⟨rfl, hT, hF⟩
      exact ⟨rfl, hT.cells.1, hT.cells.2.1, hF⟩
  have htr := fun (w' : World) (tb : Nat) (hf : Fr (fun _ => False) w w') (h0 : w'.cell? ⟨tb, 0, none⟩ = some (.int .i64 j)) (h1 : w'.cell? ⟨tb, 1, none⟩ = some (.int .i64 es.length)) => tmany_no tb es.length j es.length y zs w' h0 h1 (hy.fr0 hf) hl hzb (by omega) (hi.imp (fun h => by omega) id)
  obtain ⟨xo, xc, rfl⟩ := hp.form
  obtain ⟨yo, yc, rfl⟩ := hy.form
  have HG := hide (And.intro hgr htr)
  clear hgr htr hp hg hB hn hi hy hl hzb
  generalize es.length = N at *
  generalize zs.length = ZN at *
  go_enter Tryd.func25, Tryd.ntmps25
  go_wp2_with fail
  refine (unhide HG).1.mono ?_
  rintro e w1 ⟨rfl, h0, h1, hF⟩
  have H1 := hide (And.intro h0 (And.intro h1 hF))
  clear hF h0 h1
  generalize w.heap.size = TB at *
  go_wp2_with fail
  refine ((unhide HG).2 w1 TB (unhide H1).2.2 (unhide H1).1 (unhide H1).2.1).mono ?_
  rintro e w2 ⟨rfl, rfl⟩
  go_wp2_with fail
  go_returns
  exact ⟨rfl, (unhide H1).2.2⟩
end Go.Proofs.YthamfidjilclpabDoor

namespace Go.Proofs.YthamfidjilclpabDoor
open Go.RowKit

theorem OB.fr0 {w wr wq : World} {xo : Option Addr} {cp : Nat} {l : List Nat} (h : OB w wr xo cp l) (hf : Fr (fun _ => False) wr wq) : OB w wq xo cp l := ⟨h.ow.fr0 hf, h.fr.trans hf (fun _ _ h => h)⟩
/-- One hash ahead of hashes that were made behind it. -/
theorem OL.front {w w1 w2 W : World} {yo bo : Option Addr} {yc bc wi : Nat} {us : List Value} {qs : List (List Nat)} {l : List Nat} (hO : OB w w1 yo yc l) (k : OL w1 w2 bo bc us qs) (hb : ∀ v ∈ l, v < 256) (hl : l.length = wi) (hW : w2.alloc (.cells #[.slice yo wi yc] 23) = W) (hn : us.length < 16000000) :
    ∃ ao' cp' w3, (Builtin.append_ #[22, 22] 22 #[.slice (some ⟨w2.heap.size, 0, none⟩) 1 1, .slice bo us.length bc]).run Tryd.prog W = .ok (.slice ao' (1 + us.length) cp') w3 ∧ OL w w3 ao' cp' ([.slice yo wi yc] ++ us) ([l] ++ qs) := by
  have hF : Fr (fun _ => False) w2 W := by rw [← hW]; exact (Fr.refl _ _).alloc _
  have hA := ol_lit1 (hO.fr0 k.own.fr) hb wi hl W hW
  have hB := (k.fr0 hF).base hO.fr
  refine hA.add _ us qs hB.ss hB.len hB.row hB.apart (fun v hv u hu g hg hg' => ?_) hB.byt (by simp; omega)
  simp at hv
  subst hv
  have h2 := (k.inner_lt u hu g hg').1
  have h3 := (World.ownsRow.lt hO.own g (by rw [hl]; exact hg)).2
  omega
/-- The roots of the whole trees. -/
def pks (wi : Nat) (L : List (List Nat)) (f n : Nat) : List (List Nat) :=
  if _h : oc n = 1 ∨ n < 2 then [mth wi (blk L f n)]
  else mth wi (blk L f (hf n)) :: pks wi L (f + hf n) (n - hf n)
termination_by n
decreasing_by
  have := hf_pos n; omega
theorem pks_one {wi : Nat} {L : List (List Nat)} {f n : Nat} (h : oc n = 1) : pks wi L f n = [mth wi (blk L f n)] := by rw [pks, dif_pos (.inl h)]
theorem pks_two {wi : Nat} {L : List (List Nat)} {f n : Nat} (h : ¬ oc n = 1) (h2 : 2 ≤ n) : pks wi L f n = mth wi (blk L f (hf n)) :: pks wi L (f + hf n) (n - hf n) := by
  conv => lhs; rw [pks, dif_neg (by omega)]
theorem pks_le (wi : Nat) (L : List (List Nat)) (k : Nat) : ∀ f n, n ≤ k → (pks wi L f n).length ≤ n + 1 := by
  induction k with
  | zero => intro f n h; rw [pks, dif_pos (by omega)]; simp
  | succ k ih =>
    intro f n h
    by_cases h1 : oc n = 1 ∨ n < 2
    · rw [pks, dif_pos h1]; simp
    · have h3 := hf_lt n (by omega)
      have h4 := hf_pos n
      rw [pks_two (by omega) (by omega)]
      have := ih (f + hf n) (n - hf n) (by omega)
      simp; omega
def PeaksSays (tb wi : Nat) (L : List (List Nat)) (f n : Nat) (w : World) : Prop :=
  Calls Tryd.prog 74 #[pv (.pointer (some ⟨tb, 0, none⟩)) f n] w fun e w' => ∃ ao cp vs, e = .returned (.slice ao vs.length cp) ∧ OL w w' ao cp vs (pks wi L f n)
set_option maxRecDepth 100000 in
set_option maxHeartbeats 2000000 in
theorem peaks_any (tb wi : Nat) (hw1 : 1 ≤ wi) (hw32 : wi ≤ 32) (L : List (List Nat)) (k : Nat) : ∀ (f n : Nat) (w : World), n ≤ k → 1 ≤ n → Tk w tb wi L → Al f n → f + n ≤ L.length → PeaksSays tb wi L f n w := by
  induction k with
  | zero => intro f n w h h1; omega
  | succ k ih =>
    intro f n w hk h1 hT hA hL
    have hle := hT.len
    have hwh := fun w' => whole_any (some ⟨tb, 0, none⟩) f n w' (by omega)
    by_cases hoc : oc n = 1
    · rw [decide_eq_true hoc] at hwh
      have hroot := fun w' (hf : Fr (fun _ => False) w w') => root_any tb wi hw1 hw32 L _ f n w' (Nat.le_refl _) (hT.fr0 hf) hA hL
      have hMw := hT.mw hw1 hw32 f n
      have hMb := hT.mb f n
      unfold PeaksSays
      unfold RootSays at hroot
      rw [pks_one hoc]
      generalize mth wi (blk L f n) = M at *
      have HC := hide (And.intro hwh (And.intro hroot (And.intro hMw hMb)))
      clear hwh hroot hMw hMb hT hA hL ih hoc hk h1 hle
      unfold pv at *
      go_enter Tryd.func74, Tryd.ntmps74
      go_wp2_with fail
      refine ((unhide HC).1 _).mono ?_
      rintro e wA ⟨rfl, hFA⟩
      obtain ⟨b0, b1, b2, hFw⟩ := box3 hFA
      have HFA := hide hFw
      clear hFA hFw
      generalize w.heap.size = P at *
      go_wp2_with fail
      refine ((unhide HC).2.1 _ (unhide HFA)).mono ?_
      rintro e w1 ⟨yo, yc, rfl, hO⟩
      obtain ⟨W, hW⟩ : ∃ W, w1.alloc (.cells #[.slice yo wi yc] 23) = W := ⟨_, rfl⟩
      have hL1 := (ol_lit1 hO (unhide HC).2.2.2 wi (unhide HC).2.2.1 W hW).base (unhide HFA)
      have H1 := hide hL1
      clear hL1 hO
      go_wp2_with fail
      go_ret
      exact ⟨_, 1, _, rfl, unhide H1⟩
    · rw [decide_eq_false hoc] at hwh
      have h3 : 3 ≤ n := by
        have e1 : n ≠ 1 := fun e => hoc (by rw [e]; exact oc_pow 0 (by decide))
        have e2 : n ≠ 2 := fun e => hoc (by rw [e]; exact oc_pow 1 (by decide))
        omega
      have hlt := hf_lt n (by omega)
      have hpos := hf_pos n
      obtain ⟨hA1, hA2⟩ := hA.halves (by omega)
      have hpt := fun w' => parts_any (some ⟨tb, 0, none⟩) f n w' (by omega) (by omega)
      have hroot := fun w' (hf' : Fr (fun _ => False) w w') => root_any tb wi hw1 hw32 L _ f (hf n) w' (Nat.le_refl _) (hT.fr0 hf') hA1 (by omega)
      have hrec := fun w' (hf' : Fr (fun _ => False) w w') => ih (f + hf n) (n - hf n) w' (by omega) (by omega) (hT.fr0 hf') hA2 (by omega)
      have hMw := hT.mw hw1 hw32 f (hf n)
      have hMb := hT.mb f (hf n)
      have hpl := pks_le wi L _ (f + hf n) (n - hf n) (Nat.le_refl _)
      have hpl2 : (pks wi L (f + hf n) (n - hf n)).length < 16000000 := by omega
      unfold PeaksSays at *
      unfold RootSays at hroot
      rw [pks_two hoc (by omega)]
      generalize mth wi (blk L f (hf n)) = M at *
      generalize pks wi L (f + hf n) (n - hf n) = PS at *
      generalize f + hf n = F2 at *
      generalize n - hf n = N2 at *
      generalize hf n = K at *
      have HC := hide (And.intro hwh (And.intro hpt (And.intro hroot (And.intro hrec (And.intro hMw (And.intro hMb hpl2))))))
      clear hwh hpt hroot hrec hMw hMb hpl hpl2 hT hA hL ih hoc hk h1 hle hA1 hA2 h3 hlt hpos
      unfold pv at *
      go_enter Tryd.func74, Tryd.ntmps74
      go_wp2_with fail
      refine ((unhide HC).1 _).mono ?_
      rintro e wA ⟨rfl, hFA⟩
      obtain ⟨b0, b1, b2, hFw⟩ := box3 hFA
      have HFA := hide hFw
      clear hFA hFw
      generalize w.heap.size = P at *
      go_wp2_with fail
      refine ((unhide HC).2.1 _).mono ?_
      rintro e wB ⟨rfl, hFB⟩
      have HFB := hide ((unhide HFA).trans hFB (fun _ _ h => h))
      clear hFB b0 b1 b2 HFA
      go_wp2_with fail
      obtain ⟨W, hW⟩ : ∃ W, (wB.alloc (.cells #[.pointer (some ⟨tb, 0, none⟩), .int .i64 f, .int .i64 K] 63)).alloc (.cells #[.pointer (some ⟨tb, 0, none⟩), .int .i64 F2, .int .i64 N2] 63) = W := ⟨_, rfl⟩
      rw [hW]
      obtain ⟨x0, x1, x2, y0, y1, y2, hFW⟩ := two3 wB _ _ _ _ _ _ _ W hW
      have HFW := hide ((unhide HFB).trans hFW (fun _ _ h => h))
      clear hW hFW
      generalize wB.heap.size = Z at *
      have hS : ∀ w', Fr (fun _ => False) W w' → w'.cell? ⟨Z, 0, none⟩ = some (.pointer (some ⟨tb, 0, none⟩)) ∧ w'.cell? ⟨Z, 1, none⟩ = some (.int .i64 f) ∧ w'.cell? ⟨Z, 2, none⟩ = some (.int .i64 K) ∧ w'.cell? ⟨Z + 1, 0, none⟩ = some (.pointer (some ⟨tb, 0, none⟩)) ∧ w'.cell? ⟨Z + 1, 1, none⟩ = some (.int .i64 F2) ∧ w'.cell? ⟨Z + 1, 2, none⟩ = some (.int .i64 N2) := fun w' hf =>
        ⟨(hf.cell (lt_of_cell x0) (fun h => h)).trans x0, (hf.cell (lt_of_cell x1) (fun h => h)).trans x1, (hf.cell (lt_of_cell x2) (fun h => h)).trans x2, (hf.cell (lt_of_cell y0) (fun h => h)).trans y0, (hf.cell (lt_of_cell y1) (fun h => h)).trans y1, (hf.cell (lt_of_cell y2) (fun h => h)).trans y2⟩
      have HS := hide hS
      clear hS
      go_region_held3 (fun w' => w'.cell? ⟨Z, 0, none⟩ = some (.pointer (some ⟨tb, 0, none⟩)) ∧ w'.cell? ⟨Z, 1, none⟩ = some (.int .i64 f) ∧ w'.cell? ⟨Z, 2, none⟩ = some (.int .i64 K) ∧ w'.cell? ⟨Z + 1, 0, none⟩ = some (.pointer (some ⟨tb, 0, none⟩)) ∧ w'.cell? ⟨Z + 1, 1, none⟩ = some (.int .i64 F2) ∧ w'.cell? ⟨Z + 1, 2, none⟩ = some (.int .i64 N2))
        (first | assumption | exact (unhide HS) _ (Fr.refl _ _).drew | exact (unhide HS) _ fE | exact (unhide HS) _ (fD.alloc _) | exact (unhide HS) _ fD | exact (unhide HS) _ (fC.alloc _) | exact (unhide HS) _ fC)
        (first
          | (go_at_call 75; refine ((unhide HC).2.2.1 _ (by exact (unhide HFW).drew)).mono ?_; rintro e wC ⟨zo, zc, rfl, oC⟩; have fC : Fr (fun _ => False) W wC := (Fr.refl _ _).drew.trans oC.fr (fun _ _ h => h))
          | (go_at_call 74; refine ((unhide HC).2.2.2.1 _ (by first | exact (unhide HFW).trans fC (fun _ _ h => h) | exact ((unhide HFW).trans fC (fun _ _ h => h)).alloc _)).mono ?_; rintro e wD ⟨bo, bc, us, rfl, oD⟩; have fD : Fr (fun _ => False) W wD := by first | exact fC.trans oD.own.fr (fun _ _ h => h) | exact (fC.alloc _).trans oD.own.fr (fun _ _ h => h))
          | (refine Exists.elim ((ol_lit1 oC (unhide HC).2.2.2.2.2.1 wi (unhide HC).2.2.2.2.1 _ rfl).cat oD (by rw [oD.len]; have := (unhide HC).2.2.2.2.2.2; simp; omega)) fun ao2 h => Exists.elim h fun cp2 h => Exists.elim h fun wE h => ?_; have hr2 := h.1; have hO2 := h.2; clear h; have fE : Fr (fun _ => False) W wE := (Fr.refl _ _).drew.trans hO2.own.fr (fun _ _ h => h); refine step_app rfl (.tmp 17) (.tmp 19) 22 22 rfl _ _ _ (by simp [Act.eval]) (by simp [Act.eval]) hr2 ?_)
          | (refine Exists.elim (OL.front oC oD (unhide HC).2.2.2.2.2.1 (unhide HC).2.2.2.2.1 rfl (by rw [oD.len]; exact (unhide HC).2.2.2.2.2.2)) fun ao2 h => Exists.elim h fun cp2 h => Exists.elim h fun wE h => ?_; have hr2 := h.1; have hO2 := h.2; clear h; have fE : Fr (fun _ => False) W wE := (Fr.refl _ _).drew.trans hO2.own.fr (fun _ _ h => h); refine step_app rfl (.tmp 17) (.tmp 19) 22 22 rfl _ _ _ (by simp [Act.eval]) (by simp [Act.eval]) hr2 ?_))
      all_goals
        have HE := hide (hO2.base ((unhide HFW).drew))
        clear oC oD hO2 hr2 fC fD fE
        go_wp2_with fail
        go_ret
        first | exact ⟨ao2, cp2, _, by rw [List.length_append]; rfl, unhide HE⟩ | exact ⟨ao2, cp2, _, by simp, unhide HE⟩
set_option maxRecDepth 100000 in
set_option maxHeartbeats 1000000 in
/-- Tree.Peaks. -/
theorem tpeaks_in (tb wi : Nat) (hw1 : 1 ≤ wi) (hw32 : wi ≤ 32) (L : List (List Nat)) (w : World) (hT : Tk w tb wi L) (h0 : 0 < L.length) :
    Calls Tryd.prog 31 #[.pointer (some ⟨tb, 0, none⟩)] w fun e w' => ∃ ao cp vs, e = .returned (.slice ao vs.length cp) ∧ OL w w' ao cp vs (pks wi L 0 L.length) := by
  obtain ⟨c0, c1, htb⟩ := hT.c0
  have hhas : Calls Tryd.prog 73 #[.pointer (some ⟨tb, 0, none⟩), .int .i64 L.length] w fun e w' => e = .returned (.bool true) ∧ w' = w := by
    have := has_any tb L.length wi L.length w c0 c1
    rw [decide_eq_true (by omega)] at this
    exact this
  have hpk := fun w' (hf : Fr (fun _ => False) w w') => peaks_any tb wi hw1 hw32 L _ 0 L.length w' (Nat.le_refl _) h0 (hT.fr0 hf) (al_zero _) (by omega)
  unfold PeaksSays at hpk
  have HG := hide (And.intro hhas hpk)
  have q1 : ¬ L.length = 0 := by omega
  have q2 : ((L.length : Int) == 0) = false := beq_false_of_ne (by omega)
  clear hhas hpk hT htb c0
  generalize pks wi L 0 L.length = PS at *
  have q3 : ¬ L = [] := fun h => q1 (by rw [h]; rfl)
  generalize L.length = N at *
  go_enter Tryd.func31, Tryd.ntmps31
  go_wp2_with fail
  refine (unhide HG).1.mono ?_
  rintro e w0 ⟨rfl, rfl⟩
  go_wp2_with fail
  refine (first_any _ _ _).mono ?_
  rintro e w1 ⟨rfl, hF1⟩
  have H1 := hide hF1
  clear hF1
  go_wp2_with fail
  refine ((unhide HG).2 w1 (unhide H1)).mono ?_
  rintro e w2 ⟨ao, cp, vs, rfl, hO⟩
  have H2 := hide (hO.base (unhide H1))
  clear hO
  go_wp2_with fail
  go_ret
  exact ⟨ao, cp, vs, rfl, unhide H2⟩
set_option maxRecDepth 100000 in
set_option maxHeartbeats 1000000 in
theorem tpeaks_no (tb n : Nat) (wi : Int) (w : World) (c0 : w.cell? ⟨tb, 0, none⟩ = some (.int .i64 wi)) (c1 : w.cell? ⟨tb, 1, none⟩ = some (.int .i64 n)) (h : ¬ (1 ≤ wi ∧ wi ≤ 32) ∨ n = 0) :
    Calls Tryd.prog 31 #[.pointer (some ⟨tb, 0, none⟩)] w fun e w' => e = .returned (.slice none 0 0) ∧ w' = w := by
  have hhas := has_any tb n wi n w c0 c1
  by_cases hh : 1 ≤ wi ∧ wi ≤ 32
  · rw [decide_eq_true (by omega)] at hhas
    have h0 : n = 0 := by
      rcases h with h | h
      · exact absurd hh h
      · exact h
    subst h0
    have e0 : ((0 : Nat) : Int) = 0 := rfl
    simp only [e0] at hhas c1
    have HG := hide hhas
    clear hhas h hh c0 e0
    go_enter Tryd.func31, Tryd.ntmps31
    go_wp2_with fail
    refine (unhide HG).mono ?_
    rintro e w0 ⟨rfl, rfl⟩
    go_wp2_with fail
    go_ret
    exact ⟨rfl, rfl⟩
  · rw [decide_eq_false (by omega)] at hhas
    have HG := hide hhas
    clear hhas h hh c0
    go_enter Tryd.func31, Tryd.ntmps31
    go_wp2_with fail
    refine (unhide HG).mono ?_
    rintro e w0 ⟨rfl, rfl⟩
    go_wp2_with fail
    go_ret
    exact ⟨rfl, rfl⟩
end Go.Proofs.YthamfidjilclpabDoor

namespace Go.Proofs.YthamfidjilclpabDoor
open Go.RowKit

/-- A root out of peaks, from the last on. -/
def fpk (wi : Int) : List (List Nat) → List Nat
  | [] => []
  | [a] => a
  | a :: b :: r => nd wi a (fpk wi (b :: r))
theorem fpk_cons {wi : Int} {a : List Nat} {r : List (List Nat)} (h : r ≠ []) : fpk wi (a :: r) = nd wi a (fpk wi r) := by
  match r, h with
  | b :: r, _ => rw [fpk]
theorem pks_ne (wi : Nat) (L : List (List Nat)) (f n : Nat) : pks wi L f n ≠ [] := by
  rw [pks]
  split <;> simp
theorem fpk_pks (wi : Nat) (L : List (List Nat)) (k : Nat) : ∀ f n, n ≤ k → 1 ≤ n → f + n ≤ L.length → fpk wi (pks wi L f n) = mth wi (blk L f n) := by
  induction k with
  | zero => intro f n h h1; omega
  | succ k ih =>
    intro f n h h1 hL
    by_cases ho : oc n = 1 ∨ n < 2
    · rw [pks, dif_pos ho, fpk]
    · have h3 := hf_lt n (by omega)
      have h4 := hf_pos n
      rw [pks_two (by omega) (by omega), fpk_cons (pks_ne _ _ _ _), ih _ _ (by omega) (by omega) (by omega), blk_halves L f n (by omega) hL]
theorem pks_wid (wi : Nat) (hw1 : 1 ≤ wi) (hw32 : wi ≤ 32) (L : List (List Nat)) (hL : ∀ p ∈ L, p.length = wi) (k : Nat) : ∀ f n, n ≤ k → ∀ p ∈ pks wi L f n, p.length = wi := by
  have hm : ∀ f n, (mth wi (blk L f n)).length = wi := fun f n => mth_wid wi hw1 hw32 _ (fun p hp => hL p (blk_mem _ _ _ p hp))
  induction k with
  | zero => intro f n h p hp; rw [pks, dif_pos (by omega)] at hp; simp at hp; subst hp; exact hm _ _
  | succ k ih =>
    intro f n h p hp
    by_cases ho : oc n = 1 ∨ n < 2
    · rw [pks, dif_pos ho] at hp; simp at hp; subst hp; exact hm _ _
    · have h3 := hf_lt n (by omega)
      have h4 := hf_pos n
      rw [pks_two (by omega) (by omega)] at hp
      rcases List.mem_cons.1 hp with rfl | hp
      · exact hm _ _
      · exact ih _ _ (by omega) p hp
theorem fpk_wid (wi : Nat) (hw1 : 1 ≤ wi) (hw32 : wi ≤ 32) : ∀ ps : List (List Nat), ps ≠ [] → (∀ p ∈ ps, p.length = wi) → (fpk wi ps).length = wi
  | [], h, _ => absurd rfl h
  | [a], _, h => by rw [fpk]; exact h a (by simp)
  | a :: b :: r, _, _ => by rw [fpk]; exact nd_len wi hw1 hw32 _ _
set_option maxRecDepth 100000 in
theorem width_any (j : Int) (w : World) : ∃ wi : Nat, 1 ≤ wi ∧ wi ≤ 32 ∧ Calls Tryd.prog 22 #[.int .i64 j] w fun e w' => e = .returned (.int .i64 (wi : Int)) ∧ w' = w := by
  by_cases h : 1 ≤ j ∧ j ≤ 32
  · obtain ⟨wi, rfl⟩ : ∃ k : Nat, j = (k : Int) := ⟨j.toNat, by omega⟩
    refine ⟨wi, by omega, by omega, ?_⟩
    have HJ := hide h
    clear h
    go_enter Tryd.func22, Tryd.ntmps22
    go_wp2_with fail
    refine (may_yes _ _ (unhide HJ).1 (unhide HJ).2).mono ?_
    rintro e w0 ⟨rfl, rfl⟩
    go_wp2_with fail
    go_ret
    exact ⟨rfl, rfl⟩
  · refine ⟨8, by decide, by decide, ?_⟩
    have HJ := hide (show j < 1 ∨ 32 < j by omega)
    clear h
    go_enter Tryd.func22, Tryd.ntmps22
    go_wp2_with fail
    refine (may_no _ _ (unhide HJ)).mono ?_
    rintro e w0 ⟨rfl, rfl⟩
    go_wp2_with fail
    go_ret
    exact ⟨rfl, rfl⟩
set_option maxRecDepth 100000 in
set_option maxHeartbeats 4000000 in
theorem peaksLaw_any (j : Int) (x : Value) (vs : List Value) (es : List (List Nat)) (w : World) (hg : GS w) (ht : GT w) (hp : Pcs w x vs es) (hB : ∀ e ∈ es, e.length ≤ 16000000) (hn : es.length ≤ 4000000) :
    Calls Tryd.prog 7 #[.int .i64 j, x] w fun e w' => e = .returned (.bool true) ∧ Fr (fun _ => False) w w' := by
  obtain ⟨wi, hw1, hw32, hwd⟩ := width_any j w
  obtain ⟨xo, xc, rfl⟩ := hp.form
  have hll : (es.map (lf (wi : Int))).length = es.length := List.length_map _
  have hsum : ∀ w', GS w' → Calls Tryd.prog 20 #[.int .i64 wi, .slice none 0 0] w' fun e w'' => ∃ yo, e = .returned (.slice yo wi wi) ∧ OB w' w'' yo wi (sm wi []) := fun w' hg => by
    have := sum_O (wi : Int) [] (.slice none 0 0) w' hg (.inl ⟨rfl, rfl⟩) (fun _ h => by cases h) (by simp) (fun _ _ _ e => by cases e; exact Nat.le_refl _) (fun _ _ _ _ e => by cases e)
    rw [sm_wid wi hw1 hw32] at this
    exact this
  have hro := fun w' (hf : Fr (fun _ => False) w w') => mroot_in wi hw1 hw32 _ vs es w' (hg.fr0 hf) (ht.fr0 hf) (hp.fr0 hf) hB (by omega)
  have htr : ∀ w' tb, Tk w' tb wi (es.map (lf wi)) → Calls Tryd.prog 32 #[.pointer (some ⟨tb, 0, none⟩), .int .i64 es.length] w' fun e w'' => ∃ yo yc, e = .returned (.tuple #[.slice yo wi yc, .int .i64 0]) ∧ OB w' w'' yo yc (mth wi (es.map (lf wi))) := fun w' tb hT => by
    have := troot_in tb wi hw1 hw32 _ es.length w' hT (by omega)
    rw [← hll, blk_all] at this
    rw [hll] at this
    exact this
  have hmb : ∀ v ∈ mth wi (es.map (lf (wi : Int))), v < 256 := mth_lt _ _ _ (Nat.le_refl _) (fun p hp => by obtain ⟨e, _, rfl⟩ := List.mem_map.1 hp; exact lf_lt _ _)
  have hmw : (mth wi (es.map (lf (wi : Int)))).length = wi := mth_wid wi hw1 hw32 _ (map_lf_len wi hw1 hw32 es)
  have HW := hide (And.intro hw1 hw32)
  have HG := hide (And.intro hg (And.intro ht (And.intro hp (And.intro hB hn))))
  have HC := hide (And.intro hsum (And.intro hro (And.intro htr (And.intro hmb hmw))))
  have HX := hide hwd
  clear hsum hro htr hmb hg ht hp hB hn hwd hmw
  generalize hN : es.length = N at *
  go_enter Tryd.func7, Tryd.ntmps7
  go_wp2_with fail
  refine (unhide HX).mono ?_
  rintro e w0 ⟨rfl, rfl⟩
  clear HX
  obtain ⟨TB, hTB⟩ : ∃ TB, w0.heap.size = TB := ⟨_, rfl⟩
  have HTB := hide hTB
  go_wp2_with fail
  refine (mnew_any wi w0).mono ?_
  rintro e w1 ⟨rfl, hT1, hF1⟩
  rw [hTB] at hT1 ⊢
  have H1 := hide (And.intro hT1 hF1)
  clear hT1 hF1 hTB
  go_wp2_with fail
  refine (mlives_any w1 ((unhide HG).1.fr0 (unhide H1).2) ((unhide HG).2.1.fr0 (unhide H1).2)).mono ?_
  rintro e w2 ⟨rfl, hF⟩
  have hT2 := (unhide H1).1.fr hF (fun _ _ h => h)
  have H2 := hide (And.intro hT2 ((unhide H1).2.trans hF (fun _ _ h => h)))
  clear hF hT2 H1
  go_wp2_with fail
  go_loopw [6] (fun iv wr => ∃ (k : Nat) (xo : Option Addr) (cp : Nat) (us : List Value) (rs : List (List Nat)), k ≤ N ∧ iv = .int .i64 (k : Nat) ∧ TrAt wr TB TB wi k xo cp us rs ∧ RowsOf wi ((es.take k).map (lf wi)) 0 rs ∧ Fr (fun _ => False) w0 wr) (fun iv _ => N - (intOf iv).toNat)
  case atStart => exact ⟨0, none, 0, [], [], Nat.zero_le _, rfl, (unhide H2).1, rows_nil wi, (unhide H2).2⟩
  case round =>
    obtain ⟨k, ro, cp, us, rs, hk, rfl, hT, hR, hF⟩ := hrel
    have hN8 := (unhide HG).2.2.2.2
    obtain ⟨hw1, hw32⟩ := unhide HW
    by_cases hlt : k < N
    · have hlt' : (k : Int) < (N : Int) := by omega
      have hke : k < es.length := by omega
      obtain ⟨g, o, v, rfl, hcell, hsrc, hcap, hltv, hgl⟩ := (unhide HG).2.2.1.cell hF k hke
      have hsl : Sl wr v es[k] := ⟨hsrc, hcap, hltv.imp id (fun hh g o n c e => Nat.lt_of_lt_of_le (hh g o n c e) hF.size), (unhide HG).2.2.1.byt es[k] (List.getElem_mem hke)⟩
      have hLk : ((es.take k).map (lf wi)).length = k := by rw [List.length_map, List.length_take]; omega
      obtain ⟨hs1, hs2⟩ := hR.small hw1 hw32 (map_lf_len wi hw1 hw32 _) (by omega)
      have hbase : 6 ≤ TB := by rw [← unhide HTB]; exact (unhide HG).1.1.2
      have hadd := add_in wi hw1 hw32 TB TB k hbase wr ro cp us rs v es[k] hT ((unhide HG).1.fr0 hF) hsl ((unhide HG).2.2.2.1 es[k] (List.getElem_mem hke)) hs1 hs2 (by omega)
      have htk : (es.take (k + 1)).map (lf wi) = (es.take k).map (lf wi) ++ [lf wi es[k]] := by
        rw [List.take_add_one, List.getElem?_eq_getElem hke, Option.toList_some, List.map_append]; rfl
      have hR2 := hR.add hw1 hw32 (lf wi es[k]) (by rw [← htk]; exact map_lf_len wi hw1 hw32 _)
      rw [← htk] at hR2
      have hown : ∀ k, TOwn TB ro us k → TB ≤ k := fun j hj => (hT.lt j hj).1
      obtain ⟨vo, vc, rfl⟩ := hsl.form
      have HI := hide (And.intro hadd (And.intro hR2 (And.intro hF hown)))
      clear hadd hR2 hF hsl hsrc hcap hltv hT hR hs1 hs2 htk hLk hbase hown hw1 hw32
      generalize es[k].length = EL at *
      go_wp2_with fail
      refine (unhide HI).1.mono ?_
      rintro e w3 ⟨rfl, xo', cp', vs', hT2, hF2, hO2⟩
      have hF3 : Fr (fun _ => False) w0 w3 := (unhide HI).2.2.1.trans hF2 (fun j hj hO => by have h1 := (unhide HI).2.2.2 j hO; have h2 := unhide HTB; omega)
      have H3 := hide (And.intro hT2 hF3)
      clear hT2 hF2 hO2 hF3
      go_wp2_with fail
      exact ⟨⟨k + 1, xo', cp', vs', _, by omega, by go_num, (unhide H3).1, (unhide HI).2.1, (unhide H3).2⟩, by simp [intOf]; omega⟩
    · have hkN : k = N := by omega
      have hlt' : ¬ (k : Int) < (N : Int) := by omega
      have htk : es.take k = es := List.take_of_length_le (by omega)
      rw [htk] at hR
      subst hkN
      rw [← hN] at hT
      have hTk : Tk wr TB wi (es.map (lf wi)) := tk_of hw1 hw32 hT hR (unhide HG).1 (unhide HG).2.1 hF (by omega)
      rw [hN] at hT
      by_cases h0 : k = 0
      · have hes : es = [] := List.length_eq_zero_iff.1 (by omega)
        have hpk := tpeaks_no TB k wi wr hT.cells.1 hT.cells.2.1 (.inr h0)
        have hmt : mth wi (es.map (lf (wi : Int))) = sm wi [] := by rw [hes]; exact mth_nil _
        have hrt := (unhide HC).2.2.1 wr TB hTk
        have hmb := (unhide HC).2.2.2.1
        have hmw := (unhide HC).2.2.2.2
        have hsu := (unhide HC).1
        rw [hmt] at hrt hmb hmw
        subst h0
        have e0 : ((0 : Nat) : Int) = 0 := rfl
        simp only [e0] at hrt
        generalize sm (wi : Int) [] = M at *
        have HK := hide (And.intro hpk (And.intro hrt (And.intro hF (And.intro hsu (And.intro hmb hmw)))))
        clear hpk hTk hT hR hF htk hw1 hw32 hes hmt hrt hsu hmb e0 hmw hlt hlt' hk
        go_wp2_with fail
        refine (unhide HK).1.mono ?_
        rintro e w3 ⟨rfl, rfl⟩
        go_wp2_with fail
        refine (unhide HK).2.1.mono ?_
        rintro e w4 ⟨yo, yc, rfl, hO⟩
        have H3 := hide (And.intro (hO.sl (unhide HK).2.2.2.2.1) ((unhide HK).2.2.1.trans hO.fr (fun _ _ h => h)))
        clear hO
        go_wp2_with fail
        refine ((unhide HK).2.2.2.1 w4 ((unhide HG).1.fr0 (unhide H3).2)).mono ?_
        rintro e w5 ⟨zo, rfl, hO⟩
        have H4 := hide (And.intro (hO.sl (unhide HK).2.2.2.2.1) (And.intro ((unhide H3).1.fr0 hO.fr) ((unhide H3).2.trans hO.fr (fun _ _ h => h))))
        clear hO
        go_wp2_with fail
        have hs1 := (unhide H4).2.1
        have hs2 := (unhide H4).1
        rw [(unhide HK).2.2.2.2.2] at hs1 hs2
        have HS := hide (And.intro hs1 hs2)
        clear hs1 hs2
        refine (same_T (unhide HS).1.s (unhide HS).2.s (by rw [(unhide HK).2.2.2.2.2]; have := (unhide HW).2; omega) (sameB_refl _)).mono ?_
        rintro e w6 ⟨rfl, hF⟩
        have H5 := hide ((unhide H4).2.2.trans hF (fun _ _ h => h))
        clear hF
        go_wp2_with fail
        go_ret
        exact ⟨rfl, unhide H5⟩
      · have hpk := tpeaks_in TB wi hw1 hw32 _ wr hTk (by rw [hll]; omega)
        have hfp := fpk_pks wi (es.map (lf wi)) _ 0 (es.map (lf wi)).length (Nat.le_refl _) (by rw [hll]; omega) (by omega)
        rw [blk_all] at hfp
        have hpw := pks_wid wi hw1 hw32 (es.map (lf wi)) (map_lf_len wi hw1 hw32 es) _ 0 (es.map (lf wi)).length (Nat.le_refl _)
        have hpl := pks_le wi (es.map (lf wi)) _ 0 (es.map (lf wi)).length (Nat.le_refl _)
        have hpn := pks_ne wi (es.map (lf wi)) 0 (es.map (lf wi)).length
        have hrt := (unhide HC).2.2.1
        have hro := (unhide HC).2.1
        have hmb := (unhide HC).2.2.2.1
        have hmw := (unhide HC).2.2.2.2
        generalize pks wi (es.map (lf wi)) 0 (es.map (lf wi)).length = PS at *
        rw [hll] at hpl
        generalize mth wi (es.map (lf (wi : Int))) = M at *
        obtain ⟨Q, hQ⟩ : ∃ Q, PS.length = Q + 1 := ⟨PS.length - 1, by have := List.length_pos_iff.2 hpn; omega⟩
        have q1 : ((k : Int) == 0) = false := beq_false_of_ne (by omega)
        have q2 : ¬ es = [] := fun h => h0 (by rw [h] at hN; exact hN.symm)
        have HK := hide (And.intro hpk (And.intro hrt (And.intro hF (And.intro hro (And.intro hmb (And.intro hmw (And.intro hfp (And.intro hpw (And.intro hpl (And.intro hQ hTk))))))))))
        clear hpk hTk hT hR hF htk hw1 hw32 hrt hro hmb hmw hfp hpw hpl hpn hQ hlt hk
        go_wp2_with fail
        refine (unhide HK).1.mono ?_
        rintro e w3 ⟨po, pc, ps, rfl, hO⟩
        have hpsl : ps.length = Q + 1 := hO.len.trans (unhide HK).2.2.2.2.2.2.2.2.2.1
        have hpp := hO.pcs
        rw [hpsl] at hpp ⊢
        have hTk3 := (unhide HK).2.2.2.2.2.2.2.2.2.2.fr0 hO.own.fr
        have H3 := hide (And.intro hpp (And.intro ((unhide HK).2.2.1.trans hO.own.fr (fun _ _ h => h)) hTk3))
        clear hO hpp hpsl hTk3
        go_wp2_with fail
        refine ((unhide HK).2.1 w3 TB (unhide H3).2.2).mono ?_
        rintro e w4 ⟨yo, yc, rfl, hO⟩
        have hsr := hO.sl (unhide HK).2.2.2.2.1
        rw [(unhide HK).2.2.2.2.2.1] at hsr
        have H4 := hide (And.intro hsr (And.intro ((unhide H3).1.fr0 hO.fr) ((unhide H3).2.1.trans hO.fr (fun _ _ h => h))))
        clear hO hsr
        have hQ := (unhide HK).2.2.2.2.2.2.2.2.2.1
        have hQl := (unhide HK).2.2.2.2.2.2.2.2.1
        obtain ⟨g, o, vo, vc, rfl, hcq, hsq⟩ := (unhide H4).2.1.nth (Fr.refl _ _) Q (by omega)
        have hwq : PS[Q].length = wi := (unhide HK).2.2.2.2.2.2.2.1 _ (List.getElem_mem _)
        rw [hwq] at hcq hsq
        have hdq : fpk wi (PS.drop Q) = PS[Q] := by
          rw [List.drop_eq_getElem_cons (by omega), List.drop_of_length_le (by omega), fpk]
        rw [← hdq] at hsq
        have HQ := hide hsq
        clear hsq hdq hwq
        have w1' : IntKind.i64.wrap ((Q : Int) + 1 - 1) = (Q : Int) := by rw [IntKind.wrap_i64]; omega
        have w2' : IntKind.i64.wrap ((Q : Int) + 1 - 2) = (Q : Int) - 1 := by rw [IntKind.wrap_i64]; omega
        have q3 : (Q : Int) < (Q : Int) + 1 := by omega
        have q4 : (((Q : Int) + 1) == 0) = false := beq_false_of_ne (by omega)
        have q5 : ¬ (Q : Int) + 1 = 0 := by omega
        go_wp2_with fail
        go_loopw [10, 11] (fun hv iv wq => ∃ (m : Nat) (ho : Option Addr) (hc : Nat) (z : Int), m ≤ Q ∧ iv = .int .i64 z ∧ z = (m : Int) - 1 ∧ hv = .slice ho wi hc ∧ Sl wq (.slice ho wi hc) (fpk wi (PS.drop m)) ∧ Fr (fun _ => False) w4 wq) (fun _ iv _ => ((intOf iv) + 1).toNat)
        case atStart => exact ⟨Q, vo, vc, _, Nat.le_refl _, rfl, rfl, rfl, unhide HQ, Fr.refl _ _⟩
        case round =>
          obtain ⟨m, ho, hc, z, hm, rfl, hz, rfl, hS, hF⟩ := hrel
          rcases m with _ | m
          · obtain rfl : z = -1 := by omega
            clear hm
            rw [List.drop_zero, (unhide HK).2.2.2.2.2.2.1] at hS
            have HS := hide (And.intro hS (And.intro ((unhide H4).1.fr0 hF) ((unhide H4).2.2.trans hF (fun _ _ h => h))))
            clear hS hF hz hcq
            go_wp2_with fail
            refine (same_T (unhide HS).1.s (unhide HS).2.1.s (by rw [(unhide HK).2.2.2.2.2.1]; have := (unhide HW).2; omega) (sameB_refl _)).mono ?_
            rintro e w7 ⟨rfl, hF⟩
            have H5 := hide (And.intro ((unhide HS).2.1.fr0 hF) ((unhide HS).2.2.trans hF (fun _ _ h => h)))
            clear hF
            go_wp2_with fail
            refine ((unhide HK).2.2.2.1 w7 (unhide H5).2).mono ?_
            rintro e w8 ⟨to, tc, rfl, hO⟩
            have hst := hO.sl (unhide HK).2.2.2.2.1
            rw [(unhide HK).2.2.2.2.2.1] at hst
            have H6 := hide (And.intro hst (And.intro ((unhide H5).1.fr0 hO.fr) ((unhide H5).2.trans hO.fr (fun _ _ h => h))))
            clear hst hO
            go_wp2_with fail
            refine (same_T (unhide H6).2.1.s (unhide H6).1.s (by rw [(unhide HK).2.2.2.2.2.1]; have := (unhide HW).2; omega) (sameB_refl _)).mono ?_
            rintro e w9 ⟨rfl, hF⟩
            have H7 := hide ((unhide H6).2.2.trans hF (fun _ _ h => h))
            clear hF
            go_wp2_with fail
            go_ret
            exact ⟨rfl, unhide H7⟩
          · obtain rfl : z = (m : Int) := by omega
            have hmP : m < PS.length := by omega
            obtain ⟨g', o', uo, uc, eg, hcm, hsm⟩ := (unhide H4).2.1.nth hF m hmP
            cases eg
            have hwm : PS[m].length = wi := (unhide HK).2.2.2.2.2.2.2.1 _ (List.getElem_mem _)
            rw [hwm] at hcm hsm
            have hdm : fpk wi (PS.drop m) = nd wi PS[m] (fpk wi (PS.drop (m + 1))) := by
              rw [List.drop_eq_getElem_cons hmP, fpk_cons]
              intro h
              have := congrArg List.length h
              rw [List.length_drop] at this
              simp at this
              omega
            have hfw : (fpk wi (PS.drop (m + 1))).length = wi := fpk_wid wi (unhide HW).1 (unhide HW).2 _ (fun h => by
              have := congrArg List.length h
              rw [List.length_drop] at this
              simp at this
              omega) (fun p hp => (unhide HK).2.2.2.2.2.2.2.1 p (List.mem_of_mem_drop hp))
            have hW32 := (unhide HW).2
            have hnode := node_any (wi : Int) (.slice uo wi uc) (.slice ho wi hc) PS[m] (fpk wi (PS.drop (m + 1))) _ ((unhide HG).1.fr0 ((unhide H4).2.2.trans hF (fun _ _ h => h))) hsm hS (by omega) (by omega)
            have hnl : (nd wi PS[m] (fpk wi (PS.drop (m + 1)))).length = wi := nd_len wi (unhide HW).1 (unhide HW).2 _ _
            have hnb := nd_lt (wi : Int) PS[m] (fpk wi (PS.drop (m + 1)))
            rw [hnl] at hnode
            rw [← hdm] at hnode hnb hnl
            have HN := hide (And.intro hnode (And.intro hF (And.intro hnb hnl)))
            have w3' : IntKind.i64.wrap ((m : Int) - 1) = (m : Int) - 1 := by rw [IntKind.wrap_i64]; omega
            have q6 : (m : Int) < (Q : Int) + 1 := by omega
            have q7 : (0 : Int) ≤ (m : Int) := by omega
            clear hnode hF hS hsm hdm hfw hnb hnl hwm hz hcq
            go_wp2_with fail
            refine (unhide HN).1.mono ?_
            rintro e w7 ⟨no, rfl, hO⟩
            have hsn := hO.sl (unhide HN).2.2.1
            rw [(unhide HN).2.2.2] at hsn
            have H5 := hide (And.intro hsn ((unhide HN).2.1.trans hO.fr (fun _ _ h => h)))
            clear hO hsn
            go_wp2_with fail
            exact ⟨⟨m, no, wi, _, by omega, rfl, by first | rfl | omega, rfl, (unhide H5).1, (unhide H5).2⟩, by simp [intOf] <;> omega⟩
end Go.Proofs.YthamfidjilclpabDoor

namespace Go.Proofs.YthamfidjilclpabDoor
open Go.ChangeShapes Go.WideShapes Go.ChangeAt Go.RowKit
set_option maxRecDepth 100000

theorem mpeaks_contract (H : Type) (enc : TypeId × Value → H) (W : World) (base : Nat) (args : Array Value) (ds gs : List (DataW H)) (before : List MemPlace)
    (hval : ∀ (j : Nat) t v, Tryd.f7.params[j]? = some t → args[j]? = some v → Value.okWide Tryd.prog W .any base t v)
    (hW : DataW.Whole enc Tryd.prog Tryd.f7.params.toList Rows.merklePeaksSpec.vars false W args.toList ds gs before) (hk : Rows.uptoSmall H (ds ++ gs) = true) (hL : laidMetH Tryd.prog Rows.merklePeaksUptoRow.laid W) (hsh : W.ShapedOpen Tryd.prog) :
    Calls Tryd.prog 7 args W fun e W' => ∃ v, e = .returned v ∧ Rows.merklePeaksSpec.post enc Tryd.prog Tryd.f7 false true false false W args v W' := by
  have hW' := hW
  obtain ⟨p, q, hA0, hV, rfl, hfz, hnd⟩ := hW
  have hA : DataW.TrodAll enc Tryd.prog W 0 (fun _ => true) true Tryd.f7.params.toList args.toList ds p := hA0
  rw [Tryd.params7] at hA hval
  obtain ⟨v0, vs0, d0, ds0, p0, q0, hargs, rfl, rfl, h0, r0⟩ := trodAll_cons hA
  obtain ⟨v1, vs1, d1, ds1, p1, q1, rfl, rfl, rfl, h1, r1⟩ := trodAll_cons r0
  obtain ⟨rfl, rfl, rfl⟩ := trodAll_nil r1
  obtain rfl : args = #[v0, v1] := by cases args; simp_all
  obtain ⟨rfl, rfl⟩ := trodVars_none hV
  obtain ⟨a0, rfl, rfl, rfl, w0⟩ := open_int Tryd.underlying3 (hval 0 3 v0 rfl rfl) h0
  obtain ⟨us1, ps1, hP1, hCp1, hB1, hN1⟩ := pcs_of_readingC (hval 1 22 v1 rfl rfl) h1
  have hk1 : Rows.uptoBulk d1 ≤ 1048576 := by
    have h := of_decide_eq_true hk
    simp only [List.append_nil, Rows.uptoBulkAll] at h
    omega
  have hL2 : laidMet Tryd.prog [("math/bits.deBruijn32tab", Rows.laid_math_bits_deBruijn32tab), ("math/bits.deBruijn64tab", Rows.laid_math_bits_deBruijn64tab), ("almoner/sha.start", Rows.laid_almoner_sha_start), ("almoner/sha.k", Rows.laid_almoner_sha_k)] W := hL
  have hg := gs_of_laid hL2 (.tail _ (.tail _ (.head _))) (.tail _ (.tail _ (.tail _ (.head _)))) (heap_enough hsh)
  have ht := gt_of_laid hL2 (.tail _ (.head _)) (heap_enough hsh)
  clear hA0
  refine (peaksLaw_any a0 v1 us1 ps1 W hg ht hP1 (fun e he => by have := hB1 e he; omega) (by omega)).mono fun e W' ⟨he, hf⟩ => ?_
  subst he
  have hlt : ∀ x ∈ [] ++ (p1 ++ []), x.block < W.heap.size := fun x hx => hW'.lt x (by simpa using hx)
  have hb := hf.below
  refine ⟨_, rfl, _, _, _, [], [] ++ (p1 ++ []), [], hW', ?_, ?_, ?_, hb.frame _, fun h => by cases h⟩
  · exact trodAll_cons_mk (shut_bool Tryd.underlying4 true) trodAll_mk0
  · exact (trodAll_cons_mk (shut_int Tryd.underlying3 w0) (trodAll_cons_mk (Below.trod (by kernel_rfl) (by kernel_rfl) (by decide +kernel) h1 hb (fun x hx => hlt x (by simp [hx]))) trodAll_mk0))
  · rfl

theorem mpeaks_laid_met (os : Os) : laidMetH Tryd.prog Rows.merklePeaksUptoRow.laid ((mWorld os).forCall (fun _ _ => 0) ⟨#[], #[.int .i64 0, .slice none 0 0], []⟩).memory :=
  laidMetH_of_parts (laidMet_of_run' 8 (by kernel_rfl) (by kernel_rfl)) (by kernel_rfl)
theorem mpeaks_reads (os : Os) {H : Type} (enc : TypeId × Value → H) : ∃ places, DataW.whole enc Tryd.prog ((mWorld os).forCall (fun _ _ => 0) ⟨#[], #[.int .i64 0, .slice none 0 0], []⟩).memory Tryd.f7.params.toList Rows.merklePeaksSpec.vars false #[Value.int .i64 0, .slice none 0 0].toList 8 = some ([.lit (.int .i64 0), .nil], [], places) :=
  ⟨[], by kernel_rfl⟩

theorem mpeaks_lifted (os : Os) (started : os.Started) (H : Type) (enc : TypeId × Value → H) (F : Stop.Interp) :
    ReturnsInHanded {} Tryd.checked os 7 .any ((Rows.OpenSpec.upto Rows.merklePeaksSpec).preRow enc Tryd.prog Tryd.f7 Rows.merklePeaksUptoRow.domain false Rows.merklePeaksUptoRow.laid) (((Rows.OpenSpec.upto Rows.merklePeaksSpec).at F).post enc Tryd.prog Tryd.f7 false true false false) := by
  obtain ⟨places, hx⟩ := mpeaks_reads os enc
  refine returnsInHanded_of_row (C := Tryd.checked) (s := Rows.OpenSpec.upto Rows.merklePeaksSpec) Tryd.ownKnob started (by kernel_rfl) Tryd.func7
    (witness_row_atRef (enc := enc) (C := Tryd.checked) false (mWorld os) #[.int .i64 0, .slice none 0 0] rfl (by kernel_rfl) (by kernel_rfl) (by kernel_rfl)
      (OpenSpec.preRow_of_cond 8 hx (by kernel_rfl) (fun k hk => by cases hk; kernel_rfl) (by kernel_rfl) (mpeaks_laid_met os))) ?_
  intro W base args ds gs before hval hW _ hcond _ hL hsh _
  exact mpeaks_contract H enc W base args ds gs before hval hW (hcond _ rfl) hL hsh

theorem mpeaks_said : Rows.MerklePeaksUptoSaid :=
  OpenClaim.holds_of_cond 7 Tryd.f7 rfl rfl rfl rfl rfl rfl rfl ⟨rfl, rfl, rfl, rfl, rfl⟩ rfl rfl rfl rfl rfl (by kernel_rfl) Tryd.func7 (by kernel_rfl)
    (of_decide_eq_true (by kernel_rfl)) (by unfold Func.isWrapper; first | (rw [if_pos (by decide +kernel)]; kernel_rfl) | (rw [if_neg (by decide +kernel)]; exact ⟨rfl, rfl⟩))
    (fun os started H enc _ F => by rw [OpenClaim.pre_eq_preRow]; exact mpeaks_lifted os started H enc F)

theorem mpeaks_plain (f : FuncId) (fn : Func) (hf : Tryd.pinned.checked.prog.funcNamed Rows.merklePeaksUptoRow.func = some f) (hfn : Tryd.pinned.checked.prog.funcs[f]? = some fn) :
    false = Tryd.pinned.checked.prog.looks [] ∧ ∀ (j : Nat) t, fn.params[j]? = some t → Tryd.pinned.checked.prog.wantsStandIn t = false := by
  obtain rfl : f = 7 := Option.some.inj ((show Tryd.prog.funcNamed Rows.merklePeaksUptoRow.func = some 7 by kernel_rfl).symm.trans hf) |>.symm
  obtain rfl : fn = Tryd.f7 := (Option.some.inj (Tryd.func7.symm.trans hfn)).symm
  refine ⟨by kernel_rfl, fun j t ht => ?_⟩
  rw [Tryd.params7] at ht
  have ht' : t = 3 ∨ t = 22 := by simpa using Array.mem_of_getElem? ht
  rcases ht' with rfl | rfl
  · exact (show Tryd.prog.wantsStandIn 3 = false by kernel_rfl)
  · exact (show Tryd.prog.wantsStandIn 22 = false by kernel_rfl)

/-- THE SECOND FORM's CARD. -/
theorem mpeaks_card : Rows.MerklePeaksUptoCardSaid :=
  Claim7.holds_tied_plain_at .later [] _ _ _ _ mpeaks_said (fun _ h => by cases h) (by kernel_rfl) (fun _ h => by cases h) merklePeaksUpto_row_tie rfl ⟨rfl, rfl⟩ (by kernel_rfl) rfl mpeaks_plain (by kernel_rfl)
#print axioms mpeaks_card
end Go.Proofs.YthamfidjilclpabDoor

