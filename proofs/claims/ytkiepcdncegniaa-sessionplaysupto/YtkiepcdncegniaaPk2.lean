import Derived.Test.YtkiepcdncegniaaPk1
import Derived.BigQuiet
import Derived.Laws.StructEq
import Derived.Test.YtkiepcdncegniaaZcc
namespace Go.Proofs.Ytkiepcdncegniaa
open Go.RowKit Go.Maps

/-- Are two fields the same, numbers by their bits? -/
def sameF (f g : F5) : Bool := (f.n.toList == g.n.toList) && (decide (f.k = g.k) && ((f.t.toList == g.t.toList) && (decide (f.u = g.u) && decide (f.v = g.v))))
def F5.cv (f : F5) : Value := .agg #[.string f.n, .int .u8 (f.k : Nat), .string f.t, .float .f32 f.v, .int .u8 (f.u : Nat)]
set_option maxRecDepth 100000 in
set_option maxHeartbeats 4000000 in
theorem sameField_any (f g : F5) (w : World) : Calls Try.prog 53 #[f.cv, g.cv] w fun e w' => e = .returned (.bool (sameF f g)) ∧ Fr (fun _ => False) w w' := by
  obtain ⟨fn, fk, ft, fv, fu⟩ := f
  obtain ⟨gn, gk, gt, gv, gu⟩ := g
  have hfb := Try.fbitsO
  simp only [F5.cv, sameF]
  cases h1 : (fn.toList == gn.toList)
  · go_enter Try.func53, Try.ntmps53
    go_wp2_with fail
    go_quiet (fail)
    go_wp2_with fail
    go_ret
    exact ⟨rfl, ((box1 w _).alloc _).drewN _⟩
  · cases h2 : decide (fk = gk)
    · have eh2 : (((fk : Nat) : Int) == ((gk : Nat) : Int)) = false := by rw [nat_eq]; exact h2
      have gh2 : ¬ ((fk : Nat) : Int) = ((gk : Nat) : Int) := by have := of_decide_eq_false h2; omega
      go_enter Try.func53, Try.ntmps53
      go_wp2_with fail
      go_quiet (fail)
      go_wp2_with fail
      go_ret
      exact ⟨rfl, ((box1 w _).alloc _).drewN _⟩
    · obtain rfl : fk = gk := of_decide_eq_true h2
      clear h2
      cases h3 : (ft.toList == gt.toList)
      · go_enter Try.func53, Try.ntmps53
        go_wp2_with fail
        go_quiet (fail)
        go_wp2_with fail
        go_ret
        exact ⟨rfl, ((box1 w _).alloc _).drewN _⟩
      · cases h4 : decide (fu = gu)
        · have eh4 : (((fu : Nat) : Int) == ((gu : Nat) : Int)) = false := by rw [nat_eq]; exact h4
          have gh4 : ¬ ((fu : Nat) : Int) = ((gu : Nat) : Int) := by have := of_decide_eq_false h4; omega
          go_enter Try.func53, Try.ntmps53
          go_wp2_with fail
          go_quiet (fail)
          go_wp2_with fail
          go_ret
          exact ⟨rfl, ((box1 w _).alloc _).drewN _⟩
        · obtain rfl : fu = gu := of_decide_eq_true h4
          clear h4
          cases h5 : decide (fv = gv)
          · have eh5 : (((fv : Nat) : Int) == ((gv : Nat) : Int)) = false := by rw [nat_eq]; exact h5
            have gh5 : ¬ ((fv : Nat) : Int) = ((gv : Nat) : Int) := by have := of_decide_eq_false h5; omega
            go_enter Try.func53, Try.ntmps53
            go_wp2_with fail
            go_quiet (fail)
            go_wp2_with fail
            go_ret
            exact ⟨rfl, ((box1 w _).alloc _).drewN _⟩
          · obtain rfl : fv = gv := of_decide_eq_true h5
            clear h5
            go_enter Try.func53, Try.ntmps53
            go_wp2_with fail
            go_quiet (fail)
            go_wp2_with fail
            go_ret
            exact ⟨rfl, ((box1 w _).alloc _).drewN _⟩
end Go.Proofs.Ytkiepcdncegniaa

namespace Go.Proofs.Ytkiepcdncegniaa
open Go.RowKit Go.Maps

/-- Are two lists the same, element by element? -/
def sameL {α : Type} (e : α → α → Bool) : List α → List α → Bool
  | [], [] => true
  | f :: r, g :: s => e f g && sameL e r s
  | _, _ => false
theorem sameL_len {α : Type} {e : α → α → Bool} : ∀ {F G : List α}, sameL e F G = true → F.length = G.length
  | [], [], _ => rfl
  | f :: r, g :: s, h => by simp only [sameL, Bool.and_eq_true] at h; simp [sameL_len h.2]
  | [], g :: s, h => by cases h
  | f :: r, [], h => by cases h
theorem sameL_all {α : Type} {e : α → α → Bool} : ∀ {F G : List α}, F.length = G.length → (∀ (i : Nat) f g, F[i]? = some f → G[i]? = some g → e f g = true) → sameL e F G = true
  | [], [], _, _ => rfl
  | f :: r, g :: s, hl, h => by
    simp only [sameL, Bool.and_eq_true]
    exact ⟨h 0 f g rfl rfl, sameL_all (by simpa using hl) (fun i a b ha hb => h (i + 1) a b (by simpa using ha) (by simpa using hb))⟩
  | [], g :: s, hl, _ => by simp at hl
  | f :: r, [], hl, _ => by simp at hl
theorem sameL_at {α : Type} {e : α → α → Bool} : ∀ {F G : List α} {i : Nat} {f g : α}, F[i]? = some f → G[i]? = some g → e f g = false → sameL e F G = false
  | f :: r, g :: s, 0, a, b, ha, hb, h => by simp at ha hb; subst ha; subst hb; simp [sameL, h]
  | f :: r, g :: s, i + 1, a, b, ha, hb, h => by simp only [sameL]; rw [sameL_at (F := r) (G := s) (i := i) (by simpa using ha) (by simpa using hb) h, Bool.and_false]
  | [], G, i, a, b, ha, hb, h => by simp at ha
  | f :: r, [], i, a, b, ha, hb, h => by simp at hb
theorem sameL_ne {α : Type} {e : α → α → Bool} {F G : List α} (h : F.length ≠ G.length) : sameL e F G = false := by
  cases hb : sameL e F G with
  | false => rfl
  | true => exact absurd (sameL_len hb) h
set_option maxRecDepth 100000 in
set_option maxHeartbeats 4000000 in
/-- slices.EqualFunc of fields. -/
theorem eqFields_any (x y : Value) (F G : List F5) (w : World) (hx : Fds w x F) (hy : Fds w y G) (hl : F.length ≤ 1048576) :
    Calls Try.prog 52 #[x, y, .func (.func 53) #[] #[]] w fun e w' => e = .returned (.bool (sameL sameF F G)) ∧ Fr (fun _ => False) w w' := by
  obtain ⟨xo, xc, rfl⟩ := hx.form
  obtain ⟨yo, yc, rfl⟩ := hy.form
  have HX := hide (And.intro hx hy)
  clear hx hy
  by_cases hne : F.length = G.length
  · rw [← hne] at HX ⊢
    obtain ⟨N, hN⟩ : ∃ N, F.length = N := ⟨_, rfl⟩
    have HN := hide (And.intro hN hne)
    rw [hN] at HX ⊢
    rw [hN] at hl
    clear hN hne
    obtain ⟨b, hb⟩ : ∃ b, sameL sameF F G = b := ⟨_, rfl⟩
    have HB := hide hb
    rw [hb]
    clear hb
    go_enter Try.func52, Try.ntmps52
    go_wp2_with fail
    go_loopw [7, 8, 9, 17] (fun _ _ _ iv wr => ∃ j : Nat, j ≤ N ∧ iv = .int .i64 (j : Nat) ∧ (∀ (i : Nat) f g, i < j → F[i]? = some f → G[i]? = some g → sameF f g = true) ∧ Fr (fun _ => False) w wr) (fun _ _ _ iv _ => N - (intOf iv).toNat)
    case atStart => exact ⟨0, Nat.zero_le _, rfl, fun i _ _ h => by omega, Fr.refl _ _⟩
    case round =>
      obtain ⟨j, hj, rfl, hall, hfr⟩ := hrel
      rename World => wr
      have HA := hide (And.intro hall hfr)
      clear hall
      by_cases hlt : j < N
      · have hN := (unhide HN).1
        have hG := (unhide HN).2
        obtain ⟨f, hf⟩ : ∃ f, F[j]? = some f := ⟨_, List.getElem?_eq_getElem (by omega)⟩
        obtain ⟨g, hg⟩ : ∃ g, G[j]? = some g := ⟨_, List.getElem?_eq_getElem (by omega)⟩
        obtain ⟨g1, o1, rfl, c0, c1, c2, c3, c4⟩ := ((unhide HX).1.fr hfr).at_ j (by omega)
        obtain ⟨g2, o2, rfl, d0, d1, d2, d3, d4⟩ := ((unhide HX).2.fr hfr).at_ j (by omega)
        have e1 : F[j]'(by omega) = f := (List.getElem?_eq_some_iff.1 hf).2
        have e2 : G[j]'(by omega) = g := (List.getElem?_eq_some_iff.1 hg).2
        rw [e1] at c0 c1 c2 c3 c4
        rw [e2] at d0 d1 d2 d3 d4
        have hl1 : g1 < wr.heap.size := lt_of_cell c0
        have hl2 : g2 < wr.heap.size := lt_of_cell d0
        have hl2' : g2 < wr.heap.size + 1 := by omega
        have HS := hide (fun W => sameField_any f g W)
        have HE := hide (And.intro hf hg)
        obtain ⟨fn, fk, ft, fv, fu⟩ := f
        obtain ⟨gn, gk, gt, gv, gu⟩ := g
        simp only [F5.cv] at HS
        simp only at c0 c1 c2 c3 c4 d0 d1 d2 d3 d4
        clear e1 e2 hf hg hfr hN hG
        go_wp2_with fail
        refine ((unhide HS) _).mono ?_
        rintro e w2 ⟨rfl, hf2⟩
        have hfw : Fr (fun _ => False) w w2 := (unhide HA).2.trans0 (((box1 wr _).alloc _).trans0 hf2)
        have HF := hide hfw
        clear hf2 hfw HS c0 c1 c2 c3 c4 d0 d1 d2 d3 d4
        cases hs : sameF ⟨fn, fk, ft, fv, fu⟩ ⟨gn, gk, gt, gv, gu⟩
        · obtain rfl : b = false := (unhide HB).symm.trans (sameL_at (unhide HE).1 (unhide HE).2 hs)
          go_wp2_with fail
          go_ret
          exact ⟨rfl, unhide HF⟩
        · have HS := hide hs
          clear hs
          go_wp2_with fail
          go_roundw
          case rel =>
            refine ⟨j + 1, by omega, by go_num, fun i f g hi hf hg => ?_, unhide HF⟩
            by_cases e : i < j
            · exact (unhide HA).1 i f g e hf hg
            · obtain rfl : i = j := by omega
              rw [(unhide HE).1] at hf
              rw [(unhide HE).2] at hg
              cases hf
              cases hg
              exact unhide HS
          case measure => simp [intOf]; omega
      · obtain rfl : b = true := (unhide HB).symm.trans (sameL_all (unhide HN).2 (fun i f g hf hg => (unhide HA).1 i f g (by have h1 := (List.getElem?_eq_some_iff.1 hf).1; have h2 := (unhide HN).1; omega) hf hg))
        obtain rfl : j = N := by omega
        clear hfr hlt hj
        go_wp2_with fail
        go_ret
        exact ⟨rfl, (unhide HA).2⟩
  · rw [sameL_ne hne]
    have hne2 : ¬ (F.length : Int) = (G.length : Int) := by omega
    obtain ⟨N, hN⟩ : ∃ N, F.length = N := ⟨_, rfl⟩
    obtain ⟨M, hM⟩ : ∃ M, G.length = M := ⟨_, rfl⟩
    rw [hN, hM] at hne2 ⊢
    clear HX hN hM hne hl
    go_enter Try.func52, Try.ntmps52
    go_wp2_with fail
    go_ret
    exact ⟨rfl, Fr.refl _ _⟩
/-- Are two summaries the same? -/
def sameM (s t : SM) : Bool := decide (s.au = t.au) && (decide (s.ev = t.ev) && (decide (s.nf = t.nf) && (s.rd == t.rd)))
theorem Try.held_sm : Try.prog.stoodInHeld 81 = false := by kernel_rfl
theorem Try.fields_sm : Try.prog.underlying 81 = some (.struct (Try.prog.fieldsOf 81)) := by kernel_rfl
theorem neq_sm (s t : SM) (w : World) : (binOp .neq 81 (.agg #[.int .u32 (s.au : Nat), .int .u32 (s.ev : Nat), .int .u32 (s.nf : Nat), .bool s.rd]) (.agg #[.int .u32 (t.au : Nat), .int .u32 (t.ev : Nat), .int .u32 (t.nf : Nat), .bool t.rd])).run Try.prog w = .ok (.bool (!(sameM s t))) w := by
  rw [run_neq_struct, show (10000 : Nat) = 9999 + 1 from rfl, run_equalIn_agg _ 9999 _ _ _ Try.fields_sm Try.held_sm]
  unfold sameM
  by_cases h1 : s.au = t.au <;> by_cases h2 : s.ev = t.ev <;> by_cases h3 : s.nf = t.nf <;> cases h4 : s.rd <;> cases h5 : t.rd <;> simp [Program.fieldsOf, Try.underlying81, Op.eqFields, go_sem, h1, h2, h3, nat_eq]
set_option maxRecDepth 100000 in
set_option maxHeartbeats 4000000 in
/-- slices.Equal of summaries. -/
theorem eqSums_any (x y : Value) (F G : List SM) (w : World) (hx : Sms w x F) (hy : Sms w y G) (hl : F.length ≤ 1048576) :
    Calls Try.prog 54 #[x, y] w fun e w' => e = .returned (.bool (sameL sameM F G)) ∧ Fr (fun _ => False) w w' := by
  obtain ⟨xo, xc, rfl⟩ := hx.form
  obtain ⟨yo, yc, rfl⟩ := hy.form
  have HX := hide (And.intro hx hy)
  clear hx hy
  by_cases hne : F.length = G.length
  · rw [← hne] at HX ⊢
    obtain ⟨N, hN⟩ : ∃ N, F.length = N := ⟨_, rfl⟩
    have HN := hide (And.intro hN hne)
    rw [hN] at HX ⊢
    rw [hN] at hl
    clear hN hne
    obtain ⟨b, hb⟩ : ∃ b, sameL sameM F G = b := ⟨_, rfl⟩
    have HB := hide hb
    rw [hb]
    clear hb
    go_enter Try.func54, Try.ntmps54
    go_wp2_with fail
    go_loopw [5, 13] (fun _ iv wr => ∃ j : Nat, j ≤ N ∧ iv = .int .i64 (j : Nat) ∧ (∀ (i : Nat) f g, i < j → F[i]? = some f → G[i]? = some g → sameM f g = true) ∧ Fr (fun _ => False) w wr) (fun _ iv _ => N - (intOf iv).toNat)
    case atStart => exact ⟨0, Nat.zero_le _, rfl, fun i _ _ h => by omega, Fr.refl _ _⟩
    case round =>
      obtain ⟨j, hj, rfl, hall, hfr⟩ := hrel
      rename World => wr
      have HA := hide (And.intro hall hfr)
      clear hall
      by_cases hlt : j < N
      · have hN := (unhide HN).1
        have hG := (unhide HN).2
        obtain ⟨f, hf⟩ : ∃ f, F[j]? = some f := ⟨_, List.getElem?_eq_getElem (by omega)⟩
        obtain ⟨g, hg⟩ : ∃ g, G[j]? = some g := ⟨_, List.getElem?_eq_getElem (by omega)⟩
        obtain ⟨g1, o1, rfl, c0, c1, c2, c3⟩ := ((unhide HX).1.fr hfr).at_ j (by omega)
        obtain ⟨g2, o2, rfl, d0, d1, d2, d3⟩ := ((unhide HX).2.fr hfr).at_ j (by omega)
        have e1 : F[j]'(by omega) = f := (List.getElem?_eq_some_iff.1 hf).2
        have e2 : G[j]'(by omega) = g := (List.getElem?_eq_some_iff.1 hg).2
        rw [e1] at c0 c1 c2 c3
        rw [e2] at d0 d1 d2 d3
        have HE := hide (And.intro hf hg)
        have hjj : (0 : Int) ≤ (j : Int) := by omega
        clear e1 e2 hf hg hfr hN hG
        cases hs : sameM f g
        · have hq : ∀ w : World, (binOp .neq 81 (.agg #[.int .u32 (f.au : Nat), .int .u32 (f.ev : Nat), .int .u32 (f.nf : Nat), .bool f.rd]) (.agg #[.int .u32 (g.au : Nat), .int .u32 (g.ev : Nat), .int .u32 (g.nf : Nat), .bool g.rd])).run Try.prog w = .ok (.bool true) w := fun w => by rw [neq_sm, hs]; rfl
          obtain rfl : b = false := (unhide HB).symm.trans (sameL_at (unhide HE).1 (unhide HE).2 hs)
          clear hs
          go_wp2_with fail
          go_quiet (fail)
          go_wp2_with fail
          go_ret
          exact ⟨rfl, (unhide HA).2.drewN _⟩
        · have hq : ∀ w : World, (binOp .neq 81 (.agg #[.int .u32 (f.au : Nat), .int .u32 (f.ev : Nat), .int .u32 (f.nf : Nat), .bool f.rd]) (.agg #[.int .u32 (g.au : Nat), .int .u32 (g.ev : Nat), .int .u32 (g.nf : Nat), .bool g.rd])).run Try.prog w = .ok (.bool false) w := fun w => by rw [neq_sm, hs]; rfl
          have HS := hide hs
          clear hs
          go_wp2_with fail
          go_quiet (fail)
          go_wp2_with fail
          go_roundw
          case rel =>
            refine ⟨j + 1, by omega, by go_num, fun i f' g' hi hf hg => ?_, (unhide HA).2.drewN _⟩
            by_cases e : i < j
            · exact (unhide HA).1 i f' g' e hf hg
            · obtain rfl : i = j := by omega
              rw [(unhide HE).1] at hf
              rw [(unhide HE).2] at hg
              cases hf
              cases hg
              exact unhide HS
          case measure => simp [intOf]; omega
      · obtain rfl : b = true := (unhide HB).symm.trans (sameL_all (unhide HN).2 (fun i f g hf hg => (unhide HA).1 i f g (by have h1 := (List.getElem?_eq_some_iff.1 hf).1; have h2 := (unhide HN).1; omega) hf hg))
        obtain rfl : j = N := by omega
        clear hfr hlt hj
        go_wp2_with fail
        go_ret
        exact ⟨rfl, (unhide HA).2⟩
  · rw [sameL_ne hne]
    have hne2 : ¬ (F.length : Int) = (G.length : Int) := by omega
    obtain ⟨N, hN⟩ : ∃ N, F.length = N := ⟨_, rfl⟩
    obtain ⟨M, hM⟩ : ∃ M, G.length = M := ⟨_, rfl⟩
    rw [hN, hM] at hne2 ⊢
    clear HX hN hM hne hl
    go_enter Try.func54, Try.ntmps54
    go_wp2_with fail
    go_ret
    exact ⟨rfl, Fr.refl _ _⟩
end Go.Proofs.Ytkiepcdncegniaa

namespace Go.Proofs.Ytkiepcdncegniaa
open Go.RowKit Go.Maps

/-- Are two answers of one id the same? -/
def sameA (a b : AN) (F G : List F5) (H K : List SM) : Bool := decide (a.co = b.co) && (decide (a.rc = b.rc) && (decide (a.ve = b.ve) && (sameL sameF F G && sameL sameM H K)))
set_option maxRecDepth 100000 in
set_option maxHeartbeats 4000000 in
theorem sameAnswer_any (a b : AN) (F G : List F5) (H K : List SM) (w : World) (hF : Fds w a.fv F) (hG : Fds w b.fv G) (hH : Sms w a.hv H) (hK : Sms w b.hv K) (lF : F.length ≤ 1048576) (lH : H.length ≤ 1048576) :
    Calls Try.prog 43 #[.agg a.cs.toArray, .agg b.cs.toArray] w fun e w' => e = .returned (.bool (sameA a b F G H K)) ∧ Fr (fun _ => False) w w' := by
  obtain ⟨acl, anu, aco, arc, ave, afv, ahv⟩ := a
  obtain ⟨bcl, bnu, bco, brc, bve, bfv, bhv⟩ := b
  simp only at hF hG hH hK
  have HE := hide (fun W (hf : Fr (fun _ => False) w W) => eqFields_any afv bfv F G W (hF.fr hf) (hG.fr hf) lF)
  have HM := hide (fun W (hf : Fr (fun _ => False) w W) => eqSums_any ahv bhv H K W (hH.fr hf) (hK.fr hf) lH)
  clear hF hG hH hK lF lH
  simp only [AN.cs, sameA]
  obtain ⟨b1, hb1⟩ : ∃ b1, sameL sameF F G = b1 := ⟨_, rfl⟩
  obtain ⟨b2, hb2⟩ : ∃ b2, sameL sameM H K = b2 := ⟨_, rfl⟩
  rw [hb1] at HE ⊢
  rw [hb2] at HM ⊢
  clear hb1 hb2
  cases h1 : decide (aco = bco)
  · have eh1 : (((aco : Nat) : Int) == ((bco : Nat) : Int)) = false := by rw [nat_eq]; exact h1
    have gh1 : ¬ ((aco : Nat) : Int) = ((bco : Nat) : Int) := by have := of_decide_eq_false h1; omega
    go_enter Try.func43, Try.ntmps43
    go_wp2_with fail
    go_ret
    exact ⟨rfl, (box1 w _).alloc _⟩
  · obtain rfl : aco = bco := of_decide_eq_true h1
    clear h1
    cases h2 : decide (arc = brc)
    · have eh2 : (((arc : Nat) : Int) == ((brc : Nat) : Int)) = false := by rw [nat_eq]; exact h2
      have gh2 : ¬ ((arc : Nat) : Int) = ((brc : Nat) : Int) := by have := of_decide_eq_false h2; omega
      go_enter Try.func43, Try.ntmps43
      go_wp2_with fail
      go_ret
      exact ⟨rfl, (box1 w _).alloc _⟩
    · obtain rfl : arc = brc := of_decide_eq_true h2
      clear h2
      cases h3 : decide (ave = bve)
      · have eh3 : (((ave : Nat) : Int) == ((bve : Nat) : Int)) = false := by rw [nat_eq]; exact h3
        have gh3 : ¬ ((ave : Nat) : Int) = ((bve : Nat) : Int) := by have := of_decide_eq_false h3; omega
        go_enter Try.func43, Try.ntmps43
        go_wp2_with fail
        go_ret
        exact ⟨rfl, (box1 w _).alloc _⟩
      · obtain rfl : ave = bve := of_decide_eq_true h3
        clear h3
        cases b1
        · go_enter Try.func43, Try.ntmps43
          go_wp2_with fail
          refine ((unhide HE) _ ((box1 w _).alloc _)).mono ?_
          rintro e w2 ⟨rfl, hf2⟩
          go_wp2_with fail
          go_ret
          exact ⟨rfl, ((box1 w _).alloc _).trans0 hf2⟩
        · cases b2
          all_goals
            go_enter Try.func43, Try.ntmps43
            go_wp2_with fail
            refine ((unhide HE) _ ((box1 w _).alloc _)).mono ?_
            rintro e w2 ⟨rfl, hf2⟩
            obtain ⟨W1, hW1⟩ : ∃ W1, (w.alloc (.cells #[.int .u32 (acl : Nat), .int .u32 (anu : Nat), .int .u8 (aco : Nat), .int .u32 (arc : Nat), .int .u32 (ave : Nat), afv, ahv] 44)).alloc (.cells #[.int .u32 (bcl : Nat), .int .u32 (bnu : Nat), .int .u8 (aco : Nat), .int .u32 (arc : Nat), .int .u32 (ave : Nat), bfv, bhv] 44) = W1 := ⟨_, rfl⟩
            have hfw : Fr (fun _ => False) w W1 := by rw [← hW1]; exact (box1 w _).alloc _
            have k1 : W1.heap[w.heap.size]? = some (.cells #[.int .u32 (acl : Nat), .int .u32 (anu : Nat), .int .u8 (aco : Nat), .int .u32 (arc : Nat), .int .u32 (ave : Nat), afv, ahv] 44) := by rw [← hW1]; exact (Below.heap_alloc _ _ _ (by simp)).trans (heap_alloc_new w _)
            have k2 : W1.heap[w.heap.size + 1]? = some (.cells #[.int .u32 (bcl : Nat), .int .u32 (bnu : Nat), .int .u8 (aco : Nat), .int .u32 (arc : Nat), .int .u32 (ave : Nat), bfv, bhv] 44) := by
              rw [← hW1]
              have := heap_alloc_new (w.alloc (.cells #[.int .u32 (acl : Nat), .int .u32 (anu : Nat), .int .u8 (aco : Nat), .int .u32 (arc : Nat), .int .u32 (ave : Nat), afv, ahv] 44)) (.cells #[.int .u32 (bcl : Nat), .int .u32 (bnu : Nat), .int .u8 (aco : Nat), .int .u32 (arc : Nat), .int .u32 (ave : Nat), bfv, bhv] 44)
              rwa [World.size_alloc] at this
            rw [hW1] at hf2
            clear hW1
            have q1 : w2.cell? ⟨w.heap.size, 6, none⟩ = some ahv := cell_of_blk ((hf2.block _ (lt_of_block k1) (fun h => h)).trans k1) rfl
            have q2 : w2.cell? ⟨w.heap.size + 1, 6, none⟩ = some bhv := cell_of_blk ((hf2.block _ (lt_of_block k2) (fun h => h)).trans k2) rfl
            have HW2 := hide (hfw.trans0 hf2)
            clear hf2 hfw k1 k2
            go_wp2_with fail
            refine ((unhide HM) _ (unhide HW2)).mono ?_
            rintro e w3 ⟨rfl, hf3⟩
            go_wp2_with fail
            go_ret
            exact ⟨rfl, (unhide HW2).trans0 hf3⟩
end Go.Proofs.Ytkiepcdncegniaa

namespace Go.Proofs.Ytkiepcdncegniaa
open Go.RowKit Go.Maps

theorem wrapU0 (k : Nat) (h : k < 4294967296) : IntKind.u32.wrap (k : Int) = (k : Int) := by
  have e : (k : Int) % 4294967296 = (k : Int) := by omega
  simp [IntKind.wrap, IntKind.bits, IntKind.signed, e]
theorem Rd.at_ {w : World} {xo : Option Addr} {n c z : Nat} {cs : List Value} (h : Rd w (.slice xo n c) n z cs) (hp : 0 < cs.length) : ∃ g o, xo = some ⟨g, o, none⟩ ∧ ∀ j u, cs[j]? = some u → w.cell? ⟨g, o + j, none⟩ = some u := by
  obtain ⟨xo', c', e, _, _, h3⟩ := h.f
  cases e
  obtain ⟨g, o, rfl, _⟩ := h3 0 _ (List.getElem?_eq_getElem hp)
  exact ⟨g, o, rfl, fun j u hu => by
    obtain ⟨g', o', e, hc⟩ := h3 j u hu
    cases e
    exact hc⟩
theorem ids_cells {c : Nat} (ks : List Nat) {j k : Nat} (hk : ks[j]? = some k) : (icells (ks.map fun k => (c, k)))[j * 2]? = some (.int .u32 (c : Nat)) ∧ (icells (ks.map fun k => (c, k)))[j * 2 + 1]? = some (.int .u32 (k : Nat)) := by
  have hl := (List.getElem?_eq_some_iff.1 hk).1
  have hkk : (ks.map fun k => (c, k))[j]? = some (c, k) := by simp [hk]
  have e3 : (ks.map fun k => (c, k))[j]'(by simpa using hl) = (c, k) := (List.getElem?_eq_some_iff.1 hkk).2
  constructor
  · rw [icells_get _ _ (by simp; omega), show j * 2 / 2 = j by omega, show j * 2 % 2 = 0 by omega, getElem!_pos (ks.map fun k => (c, k)) j (by simpa using hl), e3]
    rfl
  · rw [icells_get _ _ (by simp; omega), show (j * 2 + 1) / 2 = j by omega, show (j * 2 + 1) % 2 = 1 by omega, getElem!_pos (ks.map fun k => (c, k)) j (by simpa using hl), e3]
    rfl
set_option maxRecDepth 100000 in
set_option maxHeartbeats 4000000 in
/-- ids, where they are these. -/
theorem ids_true (x y : Value) (c : Nat) (ks : List Nat) (w : World) (hx : Rd w x ks.length 2 (icells (ks.map fun k => (c, k)))) (hy : Rd w y ks.length 1 (ks.map fun k => .int .i64 (k : Nat))) (hl : ks.length ≤ 1048576) (hk : ∀ k ∈ ks, k < 4294967296) :
    Calls Try.prog 12 #[x, .int .u32 (c : Nat), y] w fun e w' => e = .returned (.bool true) ∧ Fr (fun _ => False) w w' := by
  obtain ⟨xo, xc, rfl, _⟩ := hx.f
  obtain ⟨yo, yc, rfl, _⟩ := hy.f
  have HX := hide (And.intro hx (And.intro hy hk))
  clear hx hy hk
  obtain ⟨N, hN⟩ : ∃ N, ks.length = N := ⟨_, rfl⟩
  have HN := hide hN
  rw [hN] at HX hl ⊢
  clear hN
  go_enter Try.func12, Try.ntmps12
  go_wp2_with fail
  go_loopw [7] (fun iv wr => ∃ j : Nat, j ≤ N ∧ iv = .int .i64 (j : Nat) ∧ Fr (fun _ => False) w wr) (fun iv _ => N - (intOf iv).toNat)
  case atStart => exact ⟨0, Nat.zero_le _, rfl, Fr.refl _ _⟩
  case round =>
    obtain ⟨j, hj, rfl, hfr⟩ := hrel
    rename World => wr
    have HF := hide hfr
    by_cases hlt : j < N
    · have hN := unhide HN
      obtain ⟨k, hk⟩ : ∃ k, ks[j]? = some k := ⟨_, List.getElem?_eq_getElem (by omega)⟩
      obtain ⟨g1, o1, rfl, hc1⟩ := ((unhide HX).1.fr0 hfr).at_ (by rw [icells_len, List.length_map]; omega)
      obtain ⟨g2, o2, rfl, hc2⟩ := ((unhide HX).2.1.fr0 hfr).at_ (by rw [List.length_map]; omega)
      have i1 := ids_cells (c := c) ks hk
      have c0 := hc1 _ _ i1.1
      have c1 : wr.cell? ⟨g1, o1 + j * 2 + 1, none⟩ = some (.int .u32 (k : Nat)) := by rw [Nat.add_assoc]; exact hc1 _ _ i1.2
      have d0 : wr.cell? ⟨g2, o2 + j, none⟩ = some (.int .i64 (k : Nat)) := hc2 j _ (by simp [hk])
      have hw := wrapU0 k ((unhide HX).2.2 k (List.mem_of_getElem? hk))
      clear i1 hc1 hc2 hk hfr hN
      go_wp2_with fail
      go_quiet (fail)
      go_wp2_with fail
      go_roundw
      case rel => exact ⟨j + 1, by omega, by go_num, (unhide HF).drewN _⟩
      case measure => simp [intOf]; omega
    · obtain rfl : j = N := by omega
      clear hfr hlt hj
      go_wp2_with fail
      go_ret
      exact ⟨rfl, unhide HF⟩
end Go.Proofs.Ytkiepcdncegniaa

namespace Go.Proofs.Ytkiepcdncegniaa
open Go.RowKit Go.Maps

theorem SS.bYes {w : World} {d c : Nat} {cs : List SC} {dn : List Nat} {T : Nat → Prop} (h : SS w d c cs dn T) (i : Nat) (q : SC) (hq : cs[i]? = some q) (hd : q.d = none) :
    Calls Try.prog 15 #[.pointer (some ⟨d, 0, none⟩), .agg #[.int .u32 (c : Nat), .int .u32 ((i + 1 : Nat) : Int)]] w fun e w' => e = .returned (.tuple #[.int .i64 q.la, .int .i64 (q.n : Nat)]) ∧ Fr (fun _ => False) w w' := by
  obtain ⟨mw, ma, dv, h⟩ := h
  exact sbusy_yes d mw ma c cs dn dv T w h i q hq hd
theorem SS.bNo {w : World} {d c : Nat} {cs : List SC} {dn : List Nat} {T : Nat → Prop} (h : SS w d c cs dn T) (cl k : Nat) (hcl : cl < 4294967296) (hk : k < 4294967296) (hn : cl = c → fW cs k = none) :
    Calls Try.prog 15 #[.pointer (some ⟨d, 0, none⟩), .agg #[.int .u32 (cl : Nat), .int .u32 (k : Nat)]] w fun e w' => e = .returned (.tuple #[.int .i64 0, .int .i64 0]) ∧ Fr (fun _ => False) w w' := by
  obtain ⟨mw, ma, dv, h⟩ := h
  exact sbusy_no d mw ma c cs dn dv T w h cl k hcl hk hn
theorem SS.aYes {w : World} {d c : Nat} {cs : List SC} {dn : List Nat} {T : Nat → Prop} (h : SS w d c cs dn T) (i : Nat) (q : SC) (x : AD) (hq : cs[i]? = some q) (hd : q.d = some x) :
    Calls Try.prog 19 #[.pointer (some ⟨d, 0, none⟩), .agg #[.int .u32 (c : Nat), .int .u32 ((i + 1 : Nat) : Int)]] w fun e w' => ∃ v u, e = .returned (.tuple #[AN.v { x.a with fv := v, hv := u }, .bool true]) ∧ OwF w' w.heap.size v x.F ∧ OwS w' w.heap.size u x.H ∧ Fr (fun _ => False) w w' := by
  obtain ⟨mw, ma, dv, h⟩ := h
  exact sanswer_yes d mw ma c cs dn dv T w h i q x hq hd
theorem SS.aNo {w : World} {d c : Nat} {cs : List SC} {dn : List Nat} {T : Nat → Prop} (h : SS w d c cs dn T) (cl k : Nat) (hcl : cl < 4294967296) (hk : k < 4294967296) (hn : cl = c → fA cs k = none) :
    Calls Try.prog 19 #[.pointer (some ⟨d, 0, none⟩), .agg #[.int .u32 (cl : Nat), .int .u32 (k : Nat)]] w fun e w' => ∃ v u, e = .returned (.tuple #[AN.v ⟨0, 0, 0, 0, 0, v, u⟩, .bool false]) ∧ OwF w' w.heap.size v [] ∧ OwS w' w.heap.size u [] ∧ Fr (fun _ => False) w w' := by
  obtain ⟨mw, ma, dv, h⟩ := h
  exact sanswer_no d mw ma c cs dn dv T w h cl k hcl hk hn
/-- What is answered, as sameAnswer reads it. -/
theorem SS.fdsX {w : World} {d c : Nat} {cs : List SC} {dn : List Nat} {T : Nat → Prop} (h : SS w d c cs dn T) {q : SC} {x : AD} (hq : q ∈ cs) (hd : q.d = some x) : Fds w x.a.fv x.F ∧ Sms w x.a.hv x.H ∧ x.F.length ≤ 1048576 ∧ x.H.length ≤ 1048576 := by
  obtain ⟨mw, ma, dv, h⟩ := h
  have h2 := (h.qs q hq).an x hd
  exact ⟨rd_fds (own_rd h2.1.o (fcells_one _)), OwS.sms (base := 0) h2.2.o, h2.1.l, h2.2.l⟩
/-- SessionKnown, between two calls: the session, and the boxes of its two ids. -/
structure KW (w W : World) (d A B : Nat) (cs : List SC) (dn : List Nat) (T : Nat → Prop) : Prop where
  s : SS W d 3 cs dn T
  a : W.heap[A]? = some (.cells #[.int .u32 3, .int .u32 1] 29)
  b : W.heap[B]? = some (.cells #[.int .u32 3, .int .u32 2] 29)
  t : ∀ g, T g → w.heap.size ≤ g ∧ g ≠ A ∧ g ≠ B
  f : Fr (fun _ => False) w W
theorem KW.fr0 {w W W' : World} {d A B : Nat} {cs : List SC} {dn : List Nat} {T : Nat → Prop} (h : KW w W d A B cs dn T) (hf : Fr (fun _ => False) W W') : KW w W' d A B cs dn T :=
  ⟨h.s.fr0 hf, (hf.block A (lt_of_block h.a) (fun h => h)).trans h.a, (hf.block B (lt_of_block h.b) (fun h => h)).trans h.b, h.t, h.f.trans0 hf⟩
theorem KW.same {w W W' : World} {d A B : Nat} {cs cs' : List SC} {dn dn' : List Nat} {T : Nat → Prop} (h : KW w W d A B cs dn T) (hs : SS W' d 3 cs' dn' T) (hf : Fr T W W') : KW w W' d A B cs' dn' T :=
  ⟨hs, (hf.block A (lt_of_block h.a) (fun e => (h.t _ e).2.1 rfl)).trans h.a, (hf.block B (lt_of_block h.b) (fun e => (h.t _ e).2.2 rfl)).trans h.b, h.t, h.f.trans hf (fun g hg e => by have := (h.t g e).1; omega)⟩
theorem KW.more {w W W' : World} {d A B : Nat} {cs cs' : List SC} {dn dn' : List Nat} {T : Nat → Prop} (h : KW w W d A B cs dn T) (hs : SS W' d 3 cs' dn' (Tn T W W')) (hf : Fr T W W') : KW w W' d A B cs' dn' (Tn T W W') :=
  ⟨hs, (hf.block A (lt_of_block h.a) (fun e => (h.t _ e).2.1 rfl)).trans h.a, (hf.block B (lt_of_block h.b) (fun e => (h.t _ e).2.2 rfl)).trans h.b, fun g hg => by
    rcases hg with hg | hg
    · exact h.t g hg
    · have h1 := h.f.size
      have h2 := lt_of_block h.a
      have h3 := lt_of_block h.b
      have h4 := hg.1
      exact ⟨by omega, by omega, by omega⟩, h.f.trans hf (fun g hg e => by have := (h.t g e).1; omega)⟩
theorem KW.cells {w W : World} {d A B : Nat} {cs : List SC} {dn : List Nat} {T : Nat → Prop} (h : KW w W d A B cs dn T) : W.cell? ⟨A, 0, none⟩ = some (.int .u32 3) ∧ W.cell? ⟨A, 1, none⟩ = some (.int .u32 1) ∧ W.cell? ⟨B, 0, none⟩ = some (.int .u32 3) ∧ W.cell? ⟨B, 1, none⟩ = some (.int .u32 2) :=
  ⟨cell_of_blk h.a rfl, cell_of_blk h.a rfl, cell_of_blk h.b rfl, cell_of_blk h.b rfl⟩
theorem neq_32 (w : World) : (binOp .neq 29 (.agg #[.int .u32 3, .int .u32 2]) (.agg #[.int .u32 3, .int .u32 2])).run Try.prog w = .ok (.bool false) w := neq_id 3 2 3 2 w
theorem neq_31 (w : World) : (binOp .neq 29 (.agg #[.int .u32 3, .int .u32 1]) (.agg #[.int .u32 3, .int .u32 1])).run Try.prog w = .ok (.bool false) w := neq_id 3 1 3 1 w
/-- A refusal told. -/
def busM : List Value := .int .u8 4 :: (zR ++ ([.int .u32 3, .int .u32 2] ++ (zA ++ (.int .u8 5 :: (zE ++ [.int .u32 0])))))
theorem busM_x : MsX busM 4 3 2 5 ⟨0, 0, 0, 0, 0, .slice none 0 0, .slice none 0 0⟩ := ⟨rfl, rfl, rfl, fun j v hj => by
  have h7 : j < 7 := (List.getElem?_eq_some_iff.1 hj).1
  match j, h7 with
  | 0, _ => exact hj
  | 1, _ => exact hj
  | 2, _ => exact hj
  | 3, _ => exact hj
  | 4, _ => exact hj
  | 5, _ => exact hj
  | 6, _ => exact hj, rfl⟩
theorem busM_one : ∀ v ∈ busM, v.oneCell' = true := List.all_eq_true.1 (show List.all busM (fun v => v.oneCell') = true from rfl)
def havM : List Value := .int .u8 6 :: (zR ++ ([.int .u32 0, .int .u32 0] ++ (zA ++ (.int .u8 0 :: (zE ++ [.int .u32 0])))))
theorem havM_x : MsX havM 6 0 0 0 ⟨0, 0, 0, 0, 0, .slice none 0 0, .slice none 0 0⟩ := ⟨rfl, rfl, rfl, fun j v hj => by
  have h7 : j < 7 := (List.getElem?_eq_some_iff.1 hj).1
  match j, h7 with
  | 0, _ => exact hj
  | 1, _ => exact hj
  | 2, _ => exact hj
  | 3, _ => exact hj
  | 4, _ => exact hj
  | 5, _ => exact hj
  | 6, _ => exact hj, rfl⟩
/-- A row just built may be read. -/
theorem rd_new {W W' : World} {n z t : Nat} {xs : List Value} (hb : W'.heap[W.heap.size]? = some (.cells xs.toArray t)) (hl : xs.length = n * z) (h1 : ∀ u ∈ xs, u.oneCell' = true) : Rd W' (.slice (some ⟨W.heap.size, 0, none⟩) n n) n z xs :=
  ⟨⟨_, _, rfl, Nat.le_refl _, fun e => (by cases e), fun j u hu => ⟨W.heap.size, 0, rfl, cell_of_blk hb (by simpa using hu)⟩⟩, hl, h1⟩
theorem rd_at {W' : World} {b n z t : Nat} {xs : List Value} (hb : W'.heap[b]? = some (.cells xs.toArray t)) (hl : xs.length = n * z) (h1 : ∀ u ∈ xs, u.oneCell' = true) : Rd W' (.slice (some ⟨b, 0, none⟩) n n) n z xs :=
  ⟨⟨_, _, rfl, Nat.le_refl _, fun e => (by cases e), fun j u hu => ⟨b, 0, rfl, cell_of_blk hb (by simpa using hu)⟩⟩, hl, h1⟩
end Go.Proofs.Ytkiepcdncegniaa

