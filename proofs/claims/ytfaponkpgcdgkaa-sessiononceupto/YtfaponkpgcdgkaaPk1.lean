import Derived.Test.YtfaponkpgcdgkaaZcb
import Derived.BigQuiet
import Derived.Laws.StructEq
import Derived.Test.YtfaponkpgcdgkaaZcc
namespace Go.Proofs.Ytfaponkpgcdgkaa
open Go.RowKit Go.Maps

/-- Are two fields the same, numbers by their bits? -/
def sameF (f g : F5) : Bool := (f.n.toList == g.n.toList) && (decide (f.k = g.k) && ((f.t.toList == g.t.toList) && (decide (f.u = g.u) && decide (f.v = g.v))))
def F5.cv (f : F5) : Value := .agg #[.string f.n, .int .u8 (f.k : Nat), .string f.t, .float .f32 f.v, .int .u8 (f.u : Nat)]
set_option maxRecDepth 100000 in
set_option maxHeartbeats 4000000 in
theorem sameField_any (f g : F5) (w : World) : Calls Try.prog 53 #[f.cv, g.cv] w fun e w' => e = .returned (.bool (sameF f g)) ∧ Fr (fun _ => False) w w' := by
  obtain ⟨fn, fk, ft, fv, fu⟩ := f
  obtain ⟨gn, gk, gt, gv, gu⟩ := g
  have hfb := Try.fbitsO
  simp only [F5.cv, sameF]
  cases h1 : (fn.toList == gn.toList)
  · go_enter Try.func53, Try.ntmps53
    go_wp2_with fail
    go_quiet (fail)
    go_wp2_with fail
    go_ret
    exact ⟨rfl, ((box1 w _).alloc _).drewN _⟩
  · cases h2 : decide (fk = gk)
    · have eh2 : (((fk : Nat) : Int) == ((gk : Nat) : Int)) = false := by rw [nat_eq]; exact h2
      have gh2 : ¬ ((fk : Nat) : Int) = ((gk : Nat) : Int) := by have := of_decide_eq_false h2; omega
      go_enter Try.func53, Try.ntmps53
      go_wp2_with fail
      go_quiet (fail)
      go_wp2_with fail
      go_ret
      exact ⟨rfl, ((box1 w _).alloc _).drewN _⟩
    · obtain rfl : fk = gk := of_decide_eq_true h2
      clear h2
      cases h3 : (ft.toList == gt.toList)
      · go_enter Try.func53, Try.ntmps53
        go_wp2_with fail
        go_quiet (fail)
        go_wp2_with fail
        go_ret
        exact ⟨rfl, ((box1 w _).alloc _).drewN _⟩
      · cases h4 : decide (fu = gu)
        · have eh4 : (((fu : Nat) : Int) == ((gu : Nat) : Int)) = false := by rw [nat_eq]; exact h4
          have gh4 : ¬ ((fu : Nat) : Int) = ((gu : Nat) : Int) := by have := of_decide_eq_false h4; omega
          go_enter Try.func53, Try.ntmps53
          go_wp2_with fail
          go_quiet (fail)
          go_wp2_with fail
          go_ret
          exact ⟨rfl, ((box1 w _).alloc _).drewN _⟩
        · obtain rfl : fu = gu := of_decide_eq_true h4
          clear h4
          cases h5 : decide (fv = gv)
          · have eh5 : (((fv : Nat) : Int) == ((gv : Nat) : Int)) = false := by rw [nat_eq]; exact h5
            have gh5 : ¬ ((fv : Nat) : Int) = ((gv : Nat) : Int) := by have := of_decide_eq_false h5; omega
            go_enter Try.func53, Try.ntmps53
            go_wp2_with fail
            go_quiet (fail)
            go_wp2_with fail
            go_ret
            exact ⟨rfl, ((box1 w _).alloc _).drewN _⟩
          · obtain rfl : fv = gv := of_decide_eq_true h5
            clear h5
            go_enter Try.func53, Try.ntmps53
            go_wp2_with fail
            go_quiet (fail)
            go_wp2_with fail
            go_ret
            exact ⟨rfl, ((box1 w _).alloc _).drewN _⟩
end Go.Proofs.Ytfaponkpgcdgkaa

namespace Go.Proofs.Ytfaponkpgcdgkaa
open Go.RowKit Go.Maps

/-- Are two lists the same, element by element? -/
def sameL {α : Type} (e : α → α → Bool) : List α → List α → Bool
  | [], [] => true
  | f :: r, g :: s => e f g && sameL e r s
  | _, _ => false
theorem sameL_len {α : Type} {e : α → α → Bool} : ∀ {F G : List α}, sameL e F G = true → F.length = G.length
  | [], [], _ => rfl
  | f :: r, g :: s, h => by simp only [sameL, Bool.and_eq_true] at h; simp [sameL_len h.2]
  | [], g :: s, h => by cases h
  | f :: r, [], h => by cases h
theorem sameL_all {α : Type} {e : α → α → Bool} : ∀ {F G : List α}, F.length = G.length → (∀ (i : Nat) f g, F[i]? = some f → G[i]? = some g → e f g = true) → sameL e F G = true
  | [], [], _, _ => rfl
  | f :: r, g :: s, hl, h => by
    simp only [sameL, Bool.and_eq_true]
    exact ⟨h 0 f g rfl rfl, sameL_all (by simpa using hl) (fun i a b ha hb => h (i + 1) a b (by simpa using ha) (by simpa using hb))⟩
  | [], g :: s, hl, _ => by simp at hl
  | f :: r, [], hl, _ => by simp at hl
theorem sameL_at {α : Type} {e : α → α → Bool} : ∀ {F G : List α} {i : Nat} {f g : α}, F[i]? = some f → G[i]? = some g → e f g = false → sameL e F G = false
  | f :: r, g :: s, 0, a, b, ha, hb, h => by simp at ha hb; subst ha; subst hb; simp [sameL, h]
  | f :: r, g :: s, i + 1, a, b, ha, hb, h => by simp only [sameL]; rw [sameL_at (F := r) (G := s) (i := i) (by simpa using ha) (by simpa using hb) h, Bool.and_false]
  | [], G, i, a, b, ha, hb, h => by simp at ha
  | f :: r, [], i, a, b, ha, hb, h => by simp at hb
theorem sameL_ne {α : Type} {e : α → α → Bool} {F G : List α} (h : F.length ≠ G.length) : sameL e F G = false := by
  cases hb : sameL e F G with
  | false => rfl
  | true => exact absurd (sameL_len hb) h
set_option maxRecDepth 100000 in
set_option maxHeartbeats 4000000 in
/-- slices.EqualFunc of fields. -/
theorem eqFields_any (x y : Value) (F G : List F5) (w : World) (hx : Fds w x F) (hy : Fds w y G) (hl : F.length ≤ 1048576) :
    Calls Try.prog 52 #[x, y, .func (.func 53) #[] #[]] w fun e w' => e = .returned (.bool (sameL sameF F G)) ∧ Fr (fun _ => False) w w' := by
  obtain ⟨xo, xc, rfl⟩ := hx.form
  obtain ⟨yo, yc, rfl⟩ := hy.form
  have HX := hide (And.intro hx hy)
  clear hx hy
  by_cases hne : F.length = G.length
  · rw [← hne] at HX ⊢
    obtain ⟨N, hN⟩ : ∃ N, F.length = N := ⟨_, rfl⟩
    have HN := hide (And.intro hN hne)
    rw [hN] at HX ⊢
    rw [hN] at hl
    clear hN hne
    obtain ⟨b, hb⟩ : ∃ b, sameL sameF F G = b := ⟨_, rfl⟩
    have HB := hide hb
    rw [hb]
    clear hb
    go_enter Try.func52, Try.ntmps52
    go_wp2_with fail
    go_loopw [7, 8, 9, 17] (fun _ _ _ iv wr => ∃ j : Nat, j ≤ N ∧ iv = .int .i64 (j : Nat) ∧ (∀ (i : Nat) f g, i < j → F[i]? = some f → G[i]? = some g → sameF f g = true) ∧ Fr (fun _ => False) w wr) (fun _ _ _ iv _ => N - (intOf iv).toNat)
    case atStart => exact ⟨0, Nat.zero_le _, rfl, fun i _ _ h => by omega, Fr.refl _ _⟩
    case round =>
      obtain ⟨j, hj, rfl, hall, hfr⟩ := hrel
      rename World => wr
      have HA := hide (And.intro hall hfr)
      clear hall
      by_cases hlt : j < N
      · have hN := (unhide HN).1
        have hG := (unhide HN).2
        obtain ⟨f, hf⟩ : ∃ f, F[j]? = some f := ⟨_, List.getElem?_eq_getElem (by omega)⟩
        obtain ⟨g, hg⟩ : ∃ g, G[j]? = some g := ⟨_, List.getElem?_eq_getElem (by omega)⟩
        obtain ⟨g1, o1, rfl, c0, c1, c2, c3, c4⟩ := ((unhide HX).1.fr hfr).at_ j (by omega)
        obtain ⟨g2, o2, rfl, d0, d1, d2, d3, d4⟩ := ((unhide HX).2.fr hfr).at_ j (by omega)
        have e1 : F[j]'(by omega) = f := (List.getElem?_eq_some_iff.1 hf).2
        have e2 : G[j]'(by omega) = g := (List.getElem?_eq_some_iff.1 hg).2
        rw [e1] at c0 c1 c2 c3 c4
        rw [e2] at d0 d1 d2 d3 d4
        have hl1 : g1 < wr.heap.size := lt_of_cell c0
        have hl2 : g2 < wr.heap.size := lt_of_cell d0
        have hl2' : g2 < wr.heap.size + 1 := by omega
        have HS := hide (fun W => sameField_any f g W)
        have HE := hide (And.intro hf hg)
        obtain ⟨fn, fk, ft, fv, fu⟩ := f
        obtain ⟨gn, gk, gt, gv, gu⟩ := g
        simp only [F5.cv] at HS
        simp only at c0 c1 c2 c3 c4 d0 d1 d2 d3 d4
        clear e1 e2 hf hg hfr hN hG
        go_wp2_with fail
        refine ((unhide HS) _).mono ?_
        rintro e w2 ⟨rfl, hf2⟩
        have hfw : Fr (fun _ => False) w w2 := (unhide HA).2.trans0 (((box1 wr _).alloc _).trans0 hf2)
        have HF := hide hfw
        clear hf2 hfw HS c0 c1 c2 c3 c4 d0 d1 d2 d3 d4
        cases hs : sameF ⟨fn, fk, ft, fv, fu⟩ ⟨gn, gk, gt, gv, gu⟩
        · obtain rfl : b = false := (unhide HB).symm.trans (sameL_at (unhide HE).1 (unhide HE).2 hs)
          go_wp2_with fail
          go_ret
          exact ⟨rfl, unhide HF⟩
        · have HS := hide hs
          clear hs
          go_wp2_with fail
          go_roundw
          case rel =>
            refine ⟨j + 1, by omega, by go_num, fun i f g hi hf hg => ?_, unhide HF⟩
            by_cases e : i < j
            · exact (unhide HA).1 i f g e hf hg
            · obtain rfl : i = j := by omega
              rw [(unhide HE).1] at hf
              rw [(unhide HE).2] at hg
              cases hf
              cases hg
              exact unhide HS
          case measure => simp [intOf]; omega
      · obtain rfl : b = true := (unhide HB).symm.trans (sameL_all (unhide HN).2 (fun i f g hf hg => (unhide HA).1 i f g (by have h1 := (List.getElem?_eq_some_iff.1 hf).1; have h2 := (unhide HN).1; omega) hf hg))
        obtain rfl : j = N := by omega
        clear hfr hlt hj
        go_wp2_with fail
        go_ret
        exact ⟨rfl, (unhide HA).2⟩
  · rw [sameL_ne hne]
    have hne2 : ¬ (F.length : Int) = (G.length : Int) := by omega
    obtain ⟨N, hN⟩ : ∃ N, F.length = N := ⟨_, rfl⟩
    obtain ⟨M, hM⟩ : ∃ M, G.length = M := ⟨_, rfl⟩
    rw [hN, hM] at hne2 ⊢
    clear HX hN hM hne hl
    go_enter Try.func52, Try.ntmps52
    go_wp2_with fail
    go_ret
    exact ⟨rfl, Fr.refl _ _⟩
/-- Are two summaries the same? -/
def sameM (s t : SM) : Bool := decide (s.au = t.au) && (decide (s.ev = t.ev) && (decide (s.nf = t.nf) && (s.rd == t.rd)))
theorem Try.held_sm : Try.prog.stoodInHeld 81 = false := by kernel_rfl
theorem Try.fields_sm : Try.prog.underlying 81 = some (.struct (Try.prog.fieldsOf 81)) := by kernel_rfl
theorem neq_sm (s t : SM) (w : World) : (binOp .neq 81 (.agg #[.int .u32 (s.au : Nat), .int .u32 (s.ev : Nat), .int .u32 (s.nf : Nat), .bool s.rd]) (.agg #[.int .u32 (t.au : Nat), .int .u32 (t.ev : Nat), .int .u32 (t.nf : Nat), .bool t.rd])).run Try.prog w = .ok (.bool (!(sameM s t))) w := by
  rw [run_neq_struct, show (10000 : Nat) = 9999 + 1 from rfl, run_equalIn_agg _ 9999 _ _ _ Try.fields_sm Try.held_sm]
  unfold sameM
  by_cases h1 : s.au = t.au <;> by_cases h2 : s.ev = t.ev <;> by_cases h3 : s.nf = t.nf <;> cases h4 : s.rd <;> cases h5 : t.rd <;> simp [Program.fieldsOf, Try.underlying81, Op.eqFields, go_sem, h1, h2, h3, nat_eq]
set_option maxRecDepth 100000 in
set_option maxHeartbeats 4000000 in
/-- slices.Equal of summaries. -/
theorem eqSums_any (x y : Value) (F G : List SM) (w : World) (hx : Sms w x F) (hy : Sms w y G) (hl : F.length ≤ 1048576) :
    Calls Try.prog 54 #[x, y] w fun e w' => e = .returned (.bool (sameL sameM F G)) ∧ Fr (fun _ => False) w w' := by
  obtain ⟨xo, xc, rfl⟩ := hx.form
  obtain ⟨yo, yc, rfl⟩ := hy.form
  have HX := hide (And.intro hx hy)
  clear hx hy
  by_cases hne : F.length = G.length
  · rw [← hne] at HX ⊢
    obtain ⟨N, hN⟩ : ∃ N, F.length = N := ⟨_, rfl⟩
    have HN := hide (And.intro hN hne)
    rw [hN] at HX ⊢
    rw [hN] at hl
    clear hN hne
    obtain ⟨b, hb⟩ : ∃ b, sameL sameM F G = b := ⟨_, rfl⟩
    have HB := hide hb
    rw [hb]
    clear hb
    go_enter Try.func54, Try.ntmps54
    go_wp2_with fail
    go_loopw [5, 13] (fun _ iv wr => ∃ j : Nat, j ≤ N ∧ iv = .int .i64 (j : Nat) ∧ (∀ (i : Nat) f g, i < j → F[i]? = some f → G[i]? = some g → sameM f g = true) ∧ Fr (fun _ => False) w wr) (fun _ iv _ => N - (intOf iv).toNat)
    case atStart => exact ⟨0, Nat.zero_le _, rfl, fun i _ _ h => by omega, Fr.refl _ _⟩
    case round =>
      obtain ⟨j, hj, rfl, hall, hfr⟩ := hrel
      rename World => wr
      have HA := hide (And.intro hall hfr)
      clear hall
      by_cases hlt : j < N
      · have hN := (unhide HN).1
        have hG := (unhide HN).2
        obtain ⟨f, hf⟩ : ∃ f, F[j]? = some f := ⟨_, List.getElem?_eq_getElem (by omega)⟩
        obtain ⟨g, hg⟩ : ∃ g, G[j]? = some g := ⟨_, List.getElem?_eq_getElem (by omega)⟩
        obtain ⟨g1, o1, rfl, c0, c1, c2, c3⟩ := ((unhide HX).1.fr hfr).at_ j (by omega)
        obtain ⟨g2, o2, rfl, d0, d1, d2, d3⟩ := ((unhide HX).2.fr hfr).at_ j (by omega)
        have e1 : F[j]'(by omega) = f := (List.getElem?_eq_some_iff.1 hf).2
        have e2 : G[j]'(by omega) = g := (List.getElem?_eq_some_iff.1 hg).2
        rw [e1] at c0 c1 c2 c3
        rw [e2] at d0 d1 d2 d3
        have HE := hide (And.intro hf hg)
        have hjj : (0 : Int) ≤ (j : Int) := by omega
        clear e1 e2 hf hg hfr hN hG
        cases hs : sameM f g
        · have hq : ∀ w : World, (binOp .neq 81 (.agg #[.int .u32 (f.au : Nat), .int .u32 (f.ev : Nat), .int .u32 (f.nf : Nat), .bool f.rd]) (.agg #[.int .u32 (g.au : Nat), .int .u32 (g.ev : Nat), .int .u32 (g.nf : Nat), .bool g.rd])).run Try.prog w = .ok (.bool true) w := fun w => by rw [neq_sm, hs]; rfl
          obtain rfl : b = false := (unhide HB).symm.trans (sameL_at (unhide HE).1 (unhide HE).2 hs)
          clear hs
          go_wp2_with fail
          go_quiet (fail)
          go_wp2_with fail
          go_ret
          exact ⟨rfl, (unhide HA).2.drewN _⟩
        · have hq : ∀ w : World, (binOp .neq 81 (.agg #[.int .u32 (f.au : Nat), .int .u32 (f.ev : Nat), .int .u32 (f.nf : Nat), .bool f.rd]) (.agg #[.int .u32 (g.au : Nat), .int .u32 (g.ev : Nat), .int .u32 (g.nf : Nat), .bool g.rd])).run Try.prog w = .ok (.bool false) w := fun w => by rw [neq_sm, hs]; rfl
          have HS := hide hs
          clear hs
          go_wp2_with fail
          go_quiet (fail)
          go_wp2_with fail
          go_roundw
          case rel =>
            refine ⟨j + 1, by omega, by go_num, fun i f' g' hi hf hg => ?_, (unhide HA).2.drewN _⟩
            by_cases e : i < j
            · exact (unhide HA).1 i f' g' e hf hg
            · obtain rfl : i = j := by omega
              rw [(unhide HE).1] at hf
              rw [(unhide HE).2] at hg
              cases hf
              cases hg
              exact unhide HS
          case measure => simp [intOf]; omega
      · obtain rfl : b = true := (unhide HB).symm.trans (sameL_all (unhide HN).2 (fun i f g hf hg => (unhide HA).1 i f g (by have h1 := (List.getElem?_eq_some_iff.1 hf).1; have h2 := (unhide HN).1; omega) hf hg))
        obtain rfl : j = N := by omega
        clear hfr hlt hj
        go_wp2_with fail
        go_ret
        exact ⟨rfl, (unhide HA).2⟩
  · rw [sameL_ne hne]
    have hne2 : ¬ (F.length : Int) = (G.length : Int) := by omega
    obtain ⟨N, hN⟩ : ∃ N, F.length = N := ⟨_, rfl⟩
    obtain ⟨M, hM⟩ : ∃ M, G.length = M := ⟨_, rfl⟩
    rw [hN, hM] at hne2 ⊢
    clear HX hN hM hne hl
    go_enter Try.func54, Try.ntmps54
    go_wp2_with fail
    go_ret
    exact ⟨rfl, Fr.refl _ _⟩
end Go.Proofs.Ytfaponkpgcdgkaa

namespace Go.Proofs.Ytfaponkpgcdgkaa
open Go.RowKit Go.Maps

/-- Are two answers of one id the same? -/
def sameA (a b : AN) (F G : List F5) (H K : List SM) : Bool := decide (a.co = b.co) && (decide (a.rc = b.rc) && (decide (a.ve = b.ve) && (sameL sameF F G && sameL sameM H K)))
set_option maxRecDepth 100000 in
set_option maxHeartbeats 4000000 in
theorem sameAnswer_any (a b : AN) (F G : List F5) (H K : List SM) (w : World) (hF : Fds w a.fv F) (hG : Fds w b.fv G) (hH : Sms w a.hv H) (hK : Sms w b.hv K) (lF : F.length ≤ 1048576) (lH : H.length ≤ 1048576) :
    Calls Try.prog 43 #[.agg a.cs.toArray, .agg b.cs.toArray] w fun e w' => e = .returned (.bool (sameA a b F G H K)) ∧ Fr (fun _ => False) w w' := by
  obtain ⟨acl, anu, aco, arc, ave, afv, ahv⟩ := a
  obtain ⟨bcl, bnu, bco, brc, bve, bfv, bhv⟩ := b
  simp only at hF hG hH hK
  have HE := hide (fun W (hf : Fr (fun _ => False) w W) => eqFields_any afv bfv F G W (hF.fr hf) (hG.fr hf) lF)
  have HM := hide (fun W (hf : Fr (fun _ => False) w W) => eqSums_any ahv bhv H K W (hH.fr hf) (hK.fr hf) lH)
  clear hF hG hH hK lF lH
  simp only [AN.cs, sameA]
  obtain ⟨b1, hb1⟩ : ∃ b1, sameL sameF F G = b1 := ⟨_, rfl⟩
  obtain ⟨b2, hb2⟩ : ∃ b2, sameL sameM H K = b2 := ⟨_, rfl⟩
  rw [hb1] at HE ⊢
  rw [hb2] at HM ⊢
  clear hb1 hb2
  cases h1 : decide (aco = bco)
  · have eh1 : (((aco : Nat) : Int) == ((bco : Nat) : Int)) = false := by rw [nat_eq]; exact h1
    have gh1 : ¬ ((aco : Nat) : Int) = ((bco : Nat) : Int) := by have := of_decide_eq_false h1; omega
    go_enter Try.func43, Try.ntmps43
    go_wp2_with fail
    go_ret
    exact ⟨rfl, (box1 w _).alloc _⟩
  · obtain rfl : aco = bco := of_decide_eq_true h1
    clear h1
    cases h2 : decide (arc = brc)
    · have eh2 : (((arc : Nat) : Int) == ((brc : Nat) : Int)) = false := by rw [nat_eq]; exact h2
      have gh2 : ¬ ((arc : Nat) : Int) = ((brc : Nat) : Int) := by have := of_decide_eq_false h2; omega
      go_enter Try.func43, Try.ntmps43
      go_wp2_with fail
      go_ret
      exact ⟨rfl, (box1 w _).alloc _⟩
    · obtain rfl : arc = brc := of_decide_eq_true h2
      clear h2
      cases h3 : decide (ave = bve)
      · have eh3 : (((ave : Nat) : Int) == ((bve : Nat) : Int)) = false := by rw [nat_eq]; exact h3
        have gh3 : ¬ ((ave : Nat) : Int) = ((bve : Nat) : Int) := by have := of_decide_eq_false h3; omega
        go_enter Try.func43, Try.ntmps43
        go_wp2_with fail
        go_ret
        exact ⟨rfl, (box1 w _).alloc _⟩
      · obtain rfl : ave = bve := of_decide_eq_true h3
        clear h3
        cases b1
        · go_enter Try.func43, Try.ntmps43
          go_wp2_with fail
          refine ((unhide HE) _ ((box1 w _).alloc _)).mono ?_
          rintro e w2 ⟨rfl, hf2⟩
          go_wp2_with fail
          go_ret
          exact ⟨rfl, ((box1 w _).alloc _).trans0 hf2⟩
        · cases b2
          all_goals
            go_enter Try.func43, Try.ntmps43
            go_wp2_with fail
            refine ((unhide HE) _ ((box1 w _).alloc _)).mono ?_
            rintro e w2 ⟨rfl, hf2⟩
            obtain ⟨W1, hW1⟩ : ∃ W1, (w.alloc (.cells #[.int .u32 (acl : Nat), .int .u32 (anu : Nat), .int .u8 (aco : Nat), .int .u32 (arc : Nat), .int .u32 (ave : Nat), afv, ahv] 44)).alloc (.cells #[.int .u32 (bcl : Nat), .int .u32 (bnu : Nat), .int .u8 (aco : Nat), .int .u32 (arc : Nat), .int .u32 (ave : Nat), bfv, bhv] 44) = W1 := ⟨_, rfl⟩
            have hfw : Fr (fun _ => False) w W1 := by rw [← hW1]; exact (box1 w _).alloc _
            have k1 : W1.heap[w.heap.size]? = some (.cells #[.int .u32 (acl : Nat), .int .u32 (anu : Nat), .int .u8 (aco : Nat), .int .u32 (arc : Nat), .int .u32 (ave : Nat), afv, ahv] 44) := by rw [← hW1]; exact (Below.heap_alloc _ _ _ (by simp)).trans (heap_alloc_new w _)
            have k2 : W1.heap[w.heap.size + 1]? = some (.cells #[.int .u32 (bcl : Nat), .int .u32 (bnu : Nat), .int .u8 (aco : Nat), .int .u32 (arc : Nat), .int .u32 (ave : Nat), bfv, bhv] 44) := by
              rw [← hW1]
              have := heap_alloc_new (w.alloc (.cells #[.int .u32 (acl : Nat), .int .u32 (anu : Nat), .int .u8 (aco : Nat), .int .u32 (arc : Nat), .int .u32 (ave : Nat), afv, ahv] 44)) (.cells #[.int .u32 (bcl : Nat), .int .u32 (bnu : Nat), .int .u8 (aco : Nat), .int .u32 (arc : Nat), .int .u32 (ave : Nat), bfv, bhv] 44)
              rwa [World.size_alloc] at this
            rw [hW1] at hf2
            clear hW1
            have q1 : w2.cell? ⟨w.heap.size, 6, none⟩ = some ahv := cell_of_blk ((hf2.block _ (lt_of_block k1) (fun h => h)).trans k1) rfl
            have q2 : w2.cell? ⟨w.heap.size + 1, 6, none⟩ = some bhv := cell_of_blk ((hf2.block _ (lt_of_block k2) (fun h => h)).trans k2) rfl
            have HW2 := hide (hfw.trans0 hf2)
            clear hf2 hfw k1 k2
            go_wp2_with fail
            refine ((unhide HM) _ (unhide HW2)).mono ?_
            rintro e w3 ⟨rfl, hf3⟩
            go_wp2_with fail
            go_ret
            exact ⟨rfl, (unhide HW2).trans0 hf3⟩
end Go.Proofs.Ytfaponkpgcdgkaa

namespace Go.Proofs.Ytfaponkpgcdgkaa
open Go.RowKit Go.Maps

theorem wrapU0 (k : Nat) (h : k < 4294967296) : IntKind.u32.wrap (k : Int) = (k : Int) := by
  have e : (k : Int) % 4294967296 = (k : Int) := by omega
  simp [IntKind.wrap, IntKind.bits, IntKind.signed, e]
theorem Rd.at_ {w : World} {xo : Option Addr} {n c z : Nat} {cs : List Value} (h : Rd w (.slice xo n c) n z cs) (hp : 0 < cs.length) : ∃ g o, xo = some ⟨g, o, none⟩ ∧ ∀ j u, cs[j]? = some u → w.cell? ⟨g, o + j, none⟩ = some u := by
  obtain ⟨xo', c', e, _, _, h3⟩ := h.f
  cases e
  obtain ⟨g, o, rfl, _⟩ := h3 0 _ (List.getElem?_eq_getElem hp)
  exact ⟨g, o, rfl, fun j u hu => by
    obtain ⟨g', o', e, hc⟩ := h3 j u hu
    cases e
    exact hc⟩
theorem ids_cells {c : Nat} (ks : List Nat) {j k : Nat} (hk : ks[j]? = some k) : (icells (ks.map fun k => (c, k)))[j * 2]? = some (.int .u32 (c : Nat)) ∧ (icells (ks.map fun k => (c, k)))[j * 2 + 1]? = some (.int .u32 (k : Nat)) := by
  have hl := (List.getElem?_eq_some_iff.1 hk).1
  have hkk : (ks.map fun k => (c, k))[j]? = some (c, k) := by simp [hk]
  have e3 : (ks.map fun k => (c, k))[j]'(by simpa using hl) = (c, k) := (List.getElem?_eq_some_iff.1 hkk).2
  constructor
  · rw [icells_get _ _ (by simp; omega), show j * 2 / 2 = j by omega, show j * 2 % 2 = 0 by omega, getElem!_pos (ks.map fun k => (c, k)) j (by simpa using hl), e3]
    rfl
  · rw [icells_get _ _ (by simp; omega), show (j * 2 + 1) / 2 = j by omega, show (j * 2 + 1) % 2 = 1 by omega, getElem!_pos (ks.map fun k => (c, k)) j (by simpa using hl), e3]
    rfl
set_option maxRecDepth 100000 in
set_option maxHeartbeats 4000000 in
/-- ids, where they are these. -/
theorem ids_true (x y : Value) (c : Nat) (ks : List Nat) (w : World) (hx : Rd w x ks.length 2 (icells (ks.map fun k => (c, k)))) (hy : Rd w y ks.length 1 (ks.map fun k => .int .i64 (k : Nat))) (hl : ks.length ≤ 1048576) (hk : ∀ k ∈ ks, k < 4294967296) :
    Calls Try.prog 12 #[x, .int .u32 (c : Nat), y] w fun e w' => e = .returned (.bool true) ∧ Fr (fun _ => False) w w' := by
  obtain ⟨xo, xc, rfl, _⟩ := hx.f
  obtain ⟨yo, yc, rfl, _⟩ := hy.f
  have HX := hide (And.intro hx (And.intro hy hk))
  clear hx hy hk
  obtain ⟨N, hN⟩ : ∃ N, ks.length = N := ⟨_, rfl⟩
  have HN := hide hN
  rw [hN] at HX hl ⊢
  clear hN
  go_enter Try.func12, Try.ntmps12
  go_wp2_with fail
  go_loopw [7] (fun iv wr => ∃ j : Nat, j ≤ N ∧ iv = .int .i64 (j : Nat) ∧ Fr (fun _ => False) w wr) (fun iv _ => N - (intOf iv).toNat)
  case atStart => exact ⟨0, Nat.zero_le _, rfl, Fr.refl _ _⟩
  case round =>
    obtain ⟨j, hj, rfl, hfr⟩ := hrel
    rename World => wr
    have HF := hide hfr
    by_cases hlt : j < N
    · have hN := unhide HN
      obtain ⟨k, hk⟩ : ∃ k, ks[j]? = some k := ⟨_, List.getElem?_eq_getElem (by omega)⟩
      obtain ⟨g1, o1, rfl, hc1⟩ := ((unhide HX).1.fr0 hfr).at_ (by rw [icells_len, List.length_map]; omega)
      obtain ⟨g2, o2, rfl, hc2⟩ := ((unhide HX).2.1.fr0 hfr).at_ (by rw [List.length_map]; omega)
      have i1 := ids_cells (c := c) ks hk
      have c0 := hc1 _ _ i1.1
      have c1 : wr.cell? ⟨g1, o1 + j * 2 + 1, none⟩ = some (.int .u32 (k : Nat)) := by rw [Nat.add_assoc]; exact hc1 _ _ i1.2
      have d0 : wr.cell? ⟨g2, o2 + j, none⟩ = some (.int .i64 (k : Nat)) := hc2 j _ (by simp [hk])
      have hw := wrapU0 k ((unhide HX).2.2 k (List.mem_of_getElem? hk))
      clear i1 hc1 hc2 hk hfr hN
      go_wp2_with fail
      go_quiet (fail)
      go_wp2_with fail
      go_roundw
      case rel => exact ⟨j + 1, by omega, by go_num, (unhide HF).drewN _⟩
      case measure => simp [intOf]; omega
    · obtain rfl : j = N := by omega
      clear hfr hlt hj
      go_wp2_with fail
      go_ret
      exact ⟨rfl, unhide HF⟩
end Go.Proofs.Ytfaponkpgcdgkaa

namespace Go.Proofs.Ytfaponkpgcdgkaa
open Go.RowKit Go.Maps

theorem SS.bYes {w : World} {d c : Nat} {cs : List SC} {dn : List Nat} {T : Nat → Prop} (h : SS w d c cs dn T) (i : Nat) (q : SC) (hq : cs[i]? = some q) (hd : q.d = none) :
    Calls Try.prog 15 #[.pointer (some ⟨d, 0, none⟩), .agg #[.int .u32 (c : Nat), .int .u32 ((i + 1 : Nat) : Int)]] w fun e w' => e = .returned (.tuple #[.int .i64 q.la, .int .i64 (q.n : Nat)]) ∧ Fr (fun _ => False) w w' := by
  obtain ⟨mw, ma, dv, h⟩ := h
  exact sbusy_yes d mw ma c cs dn dv T w h i q hq hd
theorem SS.bNo {w : World} {d c : Nat} {cs : List SC} {dn : List Nat} {T : Nat → Prop} (h : SS w d c cs dn T) (cl k : Nat) (hcl : cl < 4294967296) (hk : k < 4294967296) (hn : cl = c → fW cs k = none) :
    Calls Try.prog 15 #[.pointer (some ⟨d, 0, none⟩), .agg #[.int .u32 (cl : Nat), .int .u32 (k : Nat)]] w fun e w' => e = .returned (.tuple #[.int .i64 0, .int .i64 0]) ∧ Fr (fun _ => False) w w' := by
  obtain ⟨mw, ma, dv, h⟩ := h
  exact sbusy_no d mw ma c cs dn dv T w h cl k hcl hk hn
theorem SS.aYes {w : World} {d c : Nat} {cs : List SC} {dn : List Nat} {T : Nat → Prop} (h : SS w d c cs dn T) (i : Nat) (q : SC) (x : AD) (hq : cs[i]? = some q) (hd : q.d = some x) :
    Calls Try.prog 19 #[.pointer (some ⟨d, 0, none⟩), .agg #[.int .u32 (c : Nat), .int .u32 ((i + 1 : Nat) : Int)]] w fun e w' => ∃ v u, e = .returned (.tuple #[AN.v { x.a with fv := v, hv := u }, .bool true]) ∧ OwF w' w.heap.size v x.F ∧ OwS w' w.heap.size u x.H ∧ Fr (fun _ => False) w w' := by
  obtain ⟨mw, ma, dv, h⟩ := h
  exact sanswer_yes d mw ma c cs dn dv T w h i q x hq hd
theorem SS.aNo {w : World} {d c : Nat} {cs : List SC} {dn : List Nat} {T : Nat → Prop} (h : SS w d c cs dn T) (cl k : Nat) (hcl : cl < 4294967296) (hk : k < 4294967296) (hn : cl = c → fA cs k = none) :
    Calls Try.prog 19 #[.pointer (some ⟨d, 0, none⟩), .agg #[.int .u32 (cl : Nat), .int .u32 (k : Nat)]] w fun e w' => ∃ v u, e = .returned (.tuple #[AN.v ⟨0, 0, 0, 0, 0, v, u⟩, .bool false]) ∧ OwF w' w.heap.size v [] ∧ OwS w' w.heap.size u [] ∧ Fr (fun _ => False) w w' := by
  obtain ⟨mw, ma, dv, h⟩ := h
  exact sanswer_no d mw ma c cs dn dv T w h cl k hcl hk hn
/-- What is answered, as sameAnswer reads it. -/
theorem SS.fdsX {w : World} {d c : Nat} {cs : List SC} {dn : List Nat} {T : Nat → Prop} (h : SS w d c cs dn T) {q : SC} {x : AD} (hq : q ∈ cs) (hd : q.d = some x) : Fds w x.a.fv x.F ∧ Sms w x.a.hv x.H ∧ x.F.length ≤ 1048576 ∧ x.H.length ≤ 1048576 := by
  obtain ⟨mw, ma, dv, h⟩ := h
  have h2 := (h.qs q hq).an x hd
  exact ⟨rd_fds (own_rd h2.1.o (fcells_one _)), OwS.sms (base := 0) h2.2.o, h2.1.l, h2.2.l⟩
/-- SessionKnown, between two calls: the session, and the boxes of its two ids. -/
structure KW (w W : World) (d A B : Nat) (cs : List SC) (dn : List Nat) (T : Nat → Prop) : Prop where
  s : SS W d 3 cs dn T
  a : W.heap[A]? = some (.cells #[.int .u32 3, .int .u32 1] 29)
  b : W.heap[B]? = some (.cells #[.int .u32 3, .int .u32 2] 29)
  t : ∀ g, T g → w.heap.size ≤ g ∧ g ≠ A ∧ g ≠ B
  f : Fr (fun _ => False) w W
theorem KW.fr0 {w W W' : World} {d A B : Nat} {cs : List SC} {dn : List Nat} {T : Nat → Prop} (h : KW w W d A B cs dn T) (hf : Fr (fun _ => False) W W') : KW w W' d A B cs dn T :=
  ⟨h.s.fr0 hf, (hf.block A (lt_of_block h.a) (fun h => h)).trans h.a, (hf.block B (lt_of_block h.b) (fun h => h)).trans h.b, h.t, h.f.trans0 hf⟩
theorem KW.same {w W W' : World} {d A B : Nat} {cs cs' : List SC} {dn dn' : List Nat} {T : Nat → Prop} (h : KW w W d A B cs dn T) (hs : SS W' d 3 cs' dn' T) (hf : Fr T W W') : KW w W' d A B cs' dn' T :=
  ⟨hs, (hf.block A (lt_of_block h.a) (fun e => (h.t _ e).2.1 rfl)).trans h.a, (hf.block B (lt_of_block h.b) (fun e => (h.t _ e).2.2 rfl)).trans h.b, h.t, h.f.trans hf (fun g hg e => by have := (h.t g e).1; omega)⟩
theorem KW.more {w W W' : World} {d A B : Nat} {cs cs' : List SC} {dn dn' : List Nat} {T : Nat → Prop} (h : KW w W d A B cs dn T) (hs : SS W' d 3 cs' dn' (Tn T W W')) (hf : Fr T W W') : KW w W' d A B cs' dn' (Tn T W W') :=
  ⟨hs, (hf.block A (lt_of_block h.a) (fun e => (h.t _ e).2.1 rfl)).trans h.a, (hf.block B (lt_of_block h.b) (fun e => (h.t _ e).2.2 rfl)).trans h.b, fun g hg => by
    rcases hg with hg | hg
    · exact h.t g hg
    · have h1 := h.f.size
      have h2 := lt_of_block h.a
      have h3 := lt_of_block h.b
      have h4 := hg.1
      exact ⟨by omega, by omega, by omega⟩, h.f.trans hf (fun g hg e => by have := (h.t g e).1; omega)⟩
theorem KW.cells {w W : World} {d A B : Nat} {cs : List SC} {dn : List Nat} {T : Nat → Prop} (h : KW w W d A B cs dn T) : W.cell? ⟨A, 0, none⟩ = some (.int .u32 3) ∧ W.cell? ⟨A, 1, none⟩ = some (.int .u32 1) ∧ W.cell? ⟨B, 0, none⟩ = some (.int .u32 3) ∧ W.cell? ⟨B, 1, none⟩ = some (.int .u32 2) :=
  ⟨cell_of_blk h.a rfl, cell_of_blk h.a rfl, cell_of_blk h.b rfl, cell_of_blk h.b rfl⟩
theorem neq_32 (w : World) : (binOp .neq 29 (.agg #[.int .u32 3, .int .u32 2]) (.agg #[.int .u32 3, .int .u32 2])).run Try.prog w = .ok (.bool false) w := neq_id 3 2 3 2 w
theorem neq_31 (w : World) : (binOp .neq 29 (.agg #[.int .u32 3, .int .u32 1]) (.agg #[.int .u32 3, .int .u32 1])).run Try.prog w = .ok (.bool false) w := neq_id 3 1 3 1 w
/-- A refusal told. -/
def busM : List Value := .int .u8 4 :: (zR ++ ([.int .u32 3, .int .u32 2] ++ (zA ++ (.int .u8 5 :: (zE ++ [.int .u32 0])))))
theorem busM_x : MsX busM 4 3 2 5 ⟨0, 0, 0, 0, 0, .slice none 0 0, .slice none 0 0⟩ := ⟨rfl, rfl, rfl, fun j v hj => by
  have h7 : j < 7 := (List.getElem?_eq_some_iff.1 hj).1
  match j, h7 with
  | 0, _ => exact hj
  | 1, _ => exact hj
  | 2, _ => exact hj
  | 3, _ => exact hj
  | 4, _ => exact hj
  | 5, _ => exact hj
  | 6, _ => exact hj, rfl⟩
theorem busM_one : ∀ v ∈ busM, v.oneCell' = true := List.all_eq_true.1 (show List.all busM (fun v => v.oneCell') = true from rfl)
def havM : List Value := .int .u8 6 :: (zR ++ ([.int .u32 0, .int .u32 0] ++ (zA ++ (.int .u8 0 :: (zE ++ [.int .u32 0])))))
theorem havM_x : MsX havM 6 0 0 0 ⟨0, 0, 0, 0, 0, .slice none 0 0, .slice none 0 0⟩ := ⟨rfl, rfl, rfl, fun j v hj => by
  have h7 : j < 7 := (List.getElem?_eq_some_iff.1 hj).1
  match j, h7 with
  | 0, _ => exact hj
  | 1, _ => exact hj
  | 2, _ => exact hj
  | 3, _ => exact hj
  | 4, _ => exact hj
  | 5, _ => exact hj
  | 6, _ => exact hj, rfl⟩
/-- A row just built may be read. -/
theorem rd_new {W W' : World} {n z t : Nat} {xs : List Value} (hb : W'.heap[W.heap.size]? = some (.cells xs.toArray t)) (hl : xs.length = n * z) (h1 : ∀ u ∈ xs, u.oneCell' = true) : Rd W' (.slice (some ⟨W.heap.size, 0, none⟩) n n) n z xs :=
  ⟨⟨_, _, rfl, Nat.le_refl _, fun e => (by cases e), fun j u hu => ⟨W.heap.size, 0, rfl, cell_of_blk hb (by simpa using hu)⟩⟩, hl, h1⟩
theorem rd_at {W' : World} {b n z t : Nat} {xs : List Value} (hb : W'.heap[b]? = some (.cells xs.toArray t)) (hl : xs.length = n * z) (h1 : ∀ u ∈ xs, u.oneCell' = true) : Rd W' (.slice (some ⟨b, 0, none⟩) n n) n z xs :=
  ⟨⟨_, _, rfl, Nat.le_refl _, fun e => (by cases e), fun j u hu => ⟨b, 0, rfl, cell_of_blk hb (by simpa using hu)⟩⟩, hl, h1⟩
end Go.Proofs.Ytfaponkpgcdgkaa

namespace Go.Proofs.Ytfaponkpgcdgkaa
open Go.RowKit Go.Maps

set_option maxRecDepth 100000 in
set_option maxHeartbeats 16000000 in
theorem gfields_any (x y : Value) (F G : List F5) (w : World) (hx : Fds w x F) (hy : Fds w y G) (hl : F.length ≤ 1048576) :
    Calls Try.prog 41 #[x, y] w fun e w' => e = .returned (.bool (sameL sameF F G)) ∧ Fr (fun _ => False) w w' := by
  obtain ⟨xo, xc, rfl⟩ := hx.form
  obtain ⟨yo, yc, rfl⟩ := hy.form
  have HX := hide (And.intro hx hy)
  clear hx hy
  have hfb := Try.fbitsO
  by_cases hne : F.length = G.length
  · rw [← hne] at HX ⊢
    obtain ⟨N, hN⟩ : ∃ N, F.length = N := ⟨_, rfl⟩
    have HN := hide (And.intro hN hne)
    rw [hN] at HX ⊢
    rw [hN] at hl
    clear hN hne
    obtain ⟨b, hb⟩ : ∃ b, sameL sameF F G = b := ⟨_, rfl⟩
    have HB := hide hb
    rw [hb]
    clear hb
    go_enter Try.func41, Try.ntmps41
    go_wp2_with fail
    go_loopw [5] (fun iv wr => ∃ j : Nat, j ≤ N ∧ iv = .int .i64 (j : Nat) ∧ (∀ (i : Nat) f g, i < j → F[i]? = some f → G[i]? = some g → sameF f g = true) ∧ Fr (fun _ => False) w wr) (fun iv _ => N - (intOf iv).toNat)
    case atStart => exact ⟨0, Nat.zero_le _, rfl, fun i _ _ h => by omega, Fr.refl _ _⟩
    case round =>
      obtain ⟨j, hj, rfl, hall, hfr⟩ := hrel
      rename World => wr
      have HA := hide (And.intro hall hfr)
      clear hall
      by_cases hlt : j < N
      · have hN := (unhide HN).1
        have hG := (unhide HN).2
        obtain ⟨f, hf⟩ : ∃ f, F[j]? = some f := ⟨_, List.getElem?_eq_getElem (by omega)⟩
        obtain ⟨g, hg⟩ : ∃ g, G[j]? = some g := ⟨_, List.getElem?_eq_getElem (by omega)⟩
        obtain ⟨g1, o1, rfl, c0, c1, c2, c3, c4⟩ := ((unhide HX).1.fr hfr).at_ j (by omega)
        obtain ⟨g2, o2, rfl, d0, d1, d2, d3, d4⟩ := ((unhide HX).2.fr hfr).at_ j (by omega)
        have e1 : F[j]'(by omega) = f := (List.getElem?_eq_some_iff.1 hf).2
        have e2 : G[j]'(by omega) = g := (List.getElem?_eq_some_iff.1 hg).2
        rw [e1] at c0 c1 c2 c3 c4
        rw [e2] at d0 d1 d2 d3 d4
        have hl1 : g1 < wr.heap.size := lt_of_cell c0
        have hl2 : g2 < wr.heap.size := lt_of_cell d0
        have hl2' : g2 < wr.heap.size + 1 := by omega
        have hjj : (0 : Int) ≤ (j : Int) := by omega
        have HE := hide (And.intro hf hg)
        obtain ⟨fn, fk, ft, fv, fu⟩ := f
        obtain ⟨gn, gk, gt, gv, gu⟩ := g
        simp only at c0 c1 c2 c3 c4 d0 d1 d2 d3 d4
        clear e1 e2 hf hg hfr hN hG
        have HS : ∀ bb, sameF ⟨fn, fk, ft, fv, fu⟩ ⟨gn, gk, gt, gv, gu⟩ = bb → Hid (sameF ⟨fn, fk, ft, fv, fu⟩ ⟨gn, gk, gt, gv, gu⟩ = bb) := fun _ h => hide h
        cases h1 : (fn.toList == gn.toList)
        · obtain rfl : b = false := (unhide HB).symm.trans (sameL_at (unhide HE).1 (unhide HE).2 (by simp [sameF, h1]))
          clear HS
          go_wp2_with fail
          go_quiet (fail)
          go_wp2_with fail
          go_ret
          exact ⟨rfl, (unhide HA).2.trans0 (((box1 wr _).alloc _).drewN _)⟩
        · cases h2 : decide (fk = gk)
          · have eh2 : (((fk : Nat) : Int) == ((gk : Nat) : Int)) = false := by rw [nat_eq]; exact h2
            have gh2 : ¬ ((fk : Nat) : Int) = ((gk : Nat) : Int) := by have := of_decide_eq_false h2; omega
            obtain rfl : b = false := (unhide HB).symm.trans (sameL_at (unhide HE).1 (unhide HE).2 (by simp [sameF, h1, of_decide_eq_false h2]))
            clear HS
            go_wp2_with fail
            go_quiet (fail)
            go_wp2_with fail
            go_ret
            exact ⟨rfl, (unhide HA).2.trans0 (((box1 wr _).alloc _).drewN _)⟩
          · obtain rfl : fk = gk := of_decide_eq_true h2
            clear h2
            cases h3 : (ft.toList == gt.toList)
            · obtain rfl : b = false := (unhide HB).symm.trans (sameL_at (unhide HE).1 (unhide HE).2 (by simp [sameF, h1, h3]))
              clear HS
              go_wp2_with fail
              go_quiet (fail)
              go_wp2_with fail
              go_ret
              exact ⟨rfl, (unhide HA).2.trans0 (((box1 wr _).alloc _).drewN _)⟩
            · cases h4 : decide (fu = gu)
              · have eh4 : (((fu : Nat) : Int) == ((gu : Nat) : Int)) = false := by rw [nat_eq]; exact h4
                have gh4 : ¬ ((fu : Nat) : Int) = ((gu : Nat) : Int) := by have := of_decide_eq_false h4; omega
                obtain rfl : b = false := (unhide HB).symm.trans (sameL_at (unhide HE).1 (unhide HE).2 (by simp [sameF, h1, h3, of_decide_eq_false h4]))
                clear HS
                go_wp2_with fail
                go_quiet (fail)
                go_wp2_with fail
                go_ret
                exact ⟨rfl, (unhide HA).2.trans0 (((box1 wr _).alloc _).drewN _)⟩
              · obtain rfl : fu = gu := of_decide_eq_true h4
                clear h4
                cases h5 : decide (fv = gv)
                · have eh5 : (((fv : Nat) : Int) == ((gv : Nat) : Int)) = false := by rw [nat_eq]; exact h5
                  have gh5 : ¬ ((fv : Nat) : Int) = ((gv : Nat) : Int) := by have := of_decide_eq_false h5; omega
                  obtain rfl : b = false := (unhide HB).symm.trans (sameL_at (unhide HE).1 (unhide HE).2 (by simp [sameF, h1, h3, of_decide_eq_false h5]))
                  clear HS
                  go_wp2_with fail
                  go_quiet (fail)
                  go_wp2_with fail
                  go_ret
                  exact ⟨rfl, (unhide HA).2.trans0 (((box1 wr _).alloc _).drewN _)⟩
                · obtain rfl : fv = gv := of_decide_eq_true h5
                  clear h5
                  have HS := HS true (by simp [sameF, h1, h3])
                  go_wp2_with fail
                  go_quiet (fail)
                  go_wp2_with fail
                  go_roundw
                  case rel =>
                    refine ⟨j + 1, by omega, by go_num, fun i f g hi hf hg => ?_, (unhide HA).2.trans0 (((box1 wr _).alloc _).drewN _)⟩
                    by_cases e : i < j
                    · exact (unhide HA).1 i f g e hf hg
                    · obtain rfl : i = j := by omega
                      rw [(unhide HE).1] at hf
                      rw [(unhide HE).2] at hg
                      cases hf
                      cases hg
                      exact unhide HS
                  case measure => simp [intOf]; omega
      · obtain rfl : b = true := (unhide HB).symm.trans (sameL_all (unhide HN).2 (fun i f g hf hg => (unhide HA).1 i f g (by have h1 := (List.getElem?_eq_some_iff.1 hf).1; have h2 := (unhide HN).1; omega) hf hg))
        obtain rfl : j = N := by omega
        clear hfr hlt hj
        go_wp2_with fail
        go_ret
        exact ⟨rfl, (unhide HA).2⟩
  · rw [sameL_ne hne]
    have hne2 : ¬ (F.length : Int) = (G.length : Int) := by omega
    obtain ⟨N, hN⟩ : ∃ N, F.length = N := ⟨_, rfl⟩
    obtain ⟨M, hM⟩ : ∃ M, G.length = M := ⟨_, rfl⟩
    rw [hN, hM] at hne2 ⊢
    clear HX hN hM hne hl
    go_enter Try.func41, Try.ntmps41
    go_wp2_with fail
    go_ret
    exact ⟨rfl, Fr.refl _ _⟩
end Go.Proofs.Ytfaponkpgcdgkaa

namespace Go.Proofs.Ytfaponkpgcdgkaa
open Go.RowKit Go.Maps

/-- Are two answers the same? -/
def gsameA (a b : AN) (F G : List F5) (H K : List SM) : Bool := (decide (a.cl = b.cl) && decide (a.nu = b.nu)) && sameA a b F G H K
set_option maxRecDepth 100000 in
set_option maxHeartbeats 16000000 in
theorem gsameAnswer_any (a b : AN) (F G : List F5) (H K : List SM) (w : World) (hF : Fds w a.fv F) (hG : Fds w b.fv G) (hH : Sms w a.hv H) (hK : Sms w b.hv K) (lF : F.length ≤ 1048576) (lH : H.length ≤ 1048576) :
    Calls Try.prog 25 #[.agg a.cs.toArray, .agg b.cs.toArray] w fun e w' => e = .returned (.bool (gsameA a b F G H K)) ∧ Fr (fun _ => False) w w' := by
  obtain ⟨acl, anu, aco, arc, ave, afv, ahv⟩ := a
  obtain ⟨bcl, bnu, bco, brc, bve, bfv, bhv⟩ := b
  simp only at hF hG hH hK
  have HE := hide (fun W (hf : Fr (fun _ => False) w W) => gfields_any afv bfv F G W (hF.fr hf) (hG.fr hf) lF)
  have HM := hide (fun W (hf : Fr (fun _ => False) w W) => And.intro (hH.fr hf) (hK.fr hf))
  clear hF hG lF
  simp only [AN.cs, gsameA, sameA]
  obtain ⟨b1, hb1⟩ : ∃ b1, sameL sameF F G = b1 := ⟨_, rfl⟩
  rw [hb1] at HE ⊢
  clear hb1
  obtain ⟨xo, xc, rfl⟩ := hH.form
  obtain ⟨yo, yc, rfl⟩ := hK.form
  clear hH hK
  by_cases hid : acl = bcl ∧ anu = bnu
  case neg =>
    have hbb : (decide (acl = bcl) && decide (anu = bnu)) = false := by
      cases hx : (decide (acl = bcl) && decide (anu = bnu)) with
      | false => rfl
      | true => simp only [Bool.and_eq_true, decide_eq_true_eq] at hx; exact absurd hx hid
    have hq : ∀ w : World, (binOp .neq 29 (.agg #[.int .u32 (acl : Nat), .int .u32 (anu : Nat)]) (.agg #[.int .u32 (bcl : Nat), .int .u32 (bnu : Nat)])).run Try.prog w = .ok (.bool true) w := fun w => by rw [neq_id, hbb]; rfl
    rw [hbb, Bool.false_and]
    clear hbb hid HE HM
    go_enter Try.func25, Try.ntmps25
    go_wp2_with fail
    go_ret
    exact ⟨rfl, (box1 w _).alloc _⟩
  obtain ⟨rfl, rfl⟩ := hid
  have hq : ∀ w : World, (binOp .neq 29 (.agg #[.int .u32 (acl : Nat), .int .u32 (anu : Nat)]) (.agg #[.int .u32 (acl : Nat), .int .u32 (anu : Nat)])).run Try.prog w = .ok (.bool false) w := fun w => by rw [neq_id]; simp
  rw [show (decide (acl = acl) && decide (anu = anu)) = true by simp, Bool.true_and]
  cases h1 : decide (aco = bco)
  · have eh1 : (((aco : Nat) : Int) == ((bco : Nat) : Int)) = false := by rw [nat_eq]; exact h1
    have gh1 : ¬ ((aco : Nat) : Int) = ((bco : Nat) : Int) := by have := of_decide_eq_false h1; omega
    go_enter Try.func25, Try.ntmps25
    go_wp2_with fail
    go_ret
    exact ⟨rfl, (box1 w _).alloc _⟩
  · obtain rfl : aco = bco := of_decide_eq_true h1
    clear h1
    cases h2 : decide (arc = brc)
    · have eh2 : (((arc : Nat) : Int) == ((brc : Nat) : Int)) = false := by rw [nat_eq]; exact h2
      have gh2 : ¬ ((arc : Nat) : Int) = ((brc : Nat) : Int) := by have := of_decide_eq_false h2; omega
      go_enter Try.func25, Try.ntmps25
      go_wp2_with fail
      go_ret
      exact ⟨rfl, (box1 w _).alloc _⟩
    · obtain rfl : arc = brc := of_decide_eq_true h2
      clear h2
      cases h3 : decide (ave = bve)
      · have eh3 : (((ave : Nat) : Int) == ((bve : Nat) : Int)) = false := by rw [nat_eq]; exact h3
        have gh3 : ¬ ((ave : Nat) : Int) = ((bve : Nat) : Int) := by have := of_decide_eq_false h3; omega
        go_enter Try.func25, Try.ntmps25
        go_wp2_with fail
        go_ret
        exact ⟨rfl, (box1 w _).alloc _⟩
      · obtain rfl : ave = bve := of_decide_eq_true h3
        clear h3
        cases b1
        · go_enter Try.func25, Try.ntmps25
          go_wp2_with fail
          refine ((unhide HE) _ ((box1 w _).alloc _)).mono ?_
          rintro e w2 ⟨rfl, hf2⟩
          go_wp2_with fail
          go_ret
          exact ⟨rfl, ((box1 w _).alloc _).trans0 hf2⟩
        · by_cases hne : H.length = K.length
          · rw [← hne] at HM ⊢
            obtain ⟨N, hN⟩ : ∃ N, H.length = N := ⟨_, rfl⟩
            have HN := hide (And.intro hN hne)
            rw [hN] at HM ⊢
            rw [hN] at lH
            clear hN hne
            obtain ⟨b, hb⟩ : ∃ b, sameL sameM H K = b := ⟨_, rfl⟩
            have HB := hide hb
            rw [hb, Bool.true_and]
            clear hb
            go_enter Try.func25, Try.ntmps25
            go_wp2_with fail
            refine ((unhide HE) _ ((box1 w _).alloc _)).mono ?_
            rintro e w2 ⟨rfl, hf2⟩
            obtain ⟨W1, hW1⟩ : ∃ W1, (w.alloc (.cells #[.int .u32 (acl : Nat), .int .u32 (anu : Nat), .int .u8 (aco : Nat), .int .u32 (arc : Nat), .int .u32 (ave : Nat), afv, (.slice xo N xc)] 44)).alloc (.cells #[.int .u32 (acl : Nat), .int .u32 (anu : Nat), .int .u8 (aco : Nat), .int .u32 (arc : Nat), .int .u32 (ave : Nat), bfv, (.slice yo N yc)] 44) = W1 := ⟨_, rfl⟩
            have hfw : Fr (fun _ => False) w W1 := by rw [← hW1]; exact (box1 w _).alloc _
            have k1 : W1.heap[w.heap.size]? = some (.cells #[.int .u32 (acl : Nat), .int .u32 (anu : Nat), .int .u8 (aco : Nat), .int .u32 (arc : Nat), .int .u32 (ave : Nat), afv, (.slice xo N xc)] 44) := by rw [← hW1]; exact (Below.heap_alloc _ _ _ (by simp)).trans (heap_alloc_new w _)
            have k2 : W1.heap[w.heap.size + 1]? = some (.cells #[.int .u32 (acl : Nat), .int .u32 (anu : Nat), .int .u8 (aco : Nat), .int .u32 (arc : Nat), .int .u32 (ave : Nat), bfv, (.slice yo N yc)] 44) := by
              rw [← hW1]
              have := heap_alloc_new (w.alloc (.cells #[.int .u32 (acl : Nat), .int .u32 (anu : Nat), .int .u8 (aco : Nat), .int .u32 (arc : Nat), .int .u32 (ave : Nat), afv, (.slice xo N xc)] 44)) (.cells #[.int .u32 (acl : Nat), .int .u32 (anu : Nat), .int .u8 (aco : Nat), .int .u32 (arc : Nat), .int .u32 (ave : Nat), bfv, (.slice yo N yc)] 44)
              rwa [World.size_alloc] at this
            rw [hW1] at hf2
            clear hW1
            have q1 : w2.cell? ⟨w.heap.size, 6, none⟩ = some (.slice xo N xc) := cell_of_blk ((hf2.block _ (lt_of_block k1) (fun h => h)).trans k1) rfl
            have q2 : w2.cell? ⟨w.heap.size + 1, 6, none⟩ = some (.slice yo N yc) := cell_of_blk ((hf2.block _ (lt_of_block k2) (fun h => h)).trans k2) rfl
            have HW2 := hide (hfw.trans0 hf2)
            clear hf2 hfw k1 k2
            go_wp2_with fail
            go_loopw [5] (fun iv wr => ∃ j : Nat, j ≤ N ∧ iv = .int .i64 (j : Nat) ∧ (∀ (i : Nat) f g, i < j → H[i]? = some f → K[i]? = some g → sameM f g = true) ∧ Fr (fun _ => False) w2 wr) (fun iv _ => N - (intOf iv).toNat)
            case atStart => exact ⟨0, Nat.zero_le _, rfl, fun i _ _ h => by omega, Fr.refl _ _⟩
            case round =>
              obtain ⟨j, hj, rfl, hall, hfr⟩ := hrel
              rename World => wr
              have HA := hide (And.intro hall hfr)
              clear hall
              replace q1 := (hfr.cell (p := ⟨w.heap.size, 6, none⟩) (lt_of_cell q1) (fun h => h)).trans q1
              replace q2 := (hfr.cell (p := ⟨w.heap.size + 1, 6, none⟩) (lt_of_cell q2) (fun h => h)).trans q2
              by_cases hlt : j < N
              · have hN := (unhide HN).1
                have hG := (unhide HN).2
                obtain ⟨f, hf⟩ : ∃ f, H[j]? = some f := ⟨_, List.getElem?_eq_getElem (by omega)⟩
                obtain ⟨g, hg⟩ : ∃ g, K[j]? = some g := ⟨_, List.getElem?_eq_getElem (by omega)⟩
                have hm := (unhide HM) wr ((unhide HW2).trans0 hfr)
                obtain ⟨g1, o1, rfl, c0, c1, c2, c3⟩ := hm.1.at_ j (by omega)
                obtain ⟨g2, o2, rfl, d0, d1, d2, d3⟩ := hm.2.at_ j (by omega)
                have e1 : H[j]'(by omega) = f := (List.getElem?_eq_some_iff.1 hf).2
                have e2 : K[j]'(by omega) = g := (List.getElem?_eq_some_iff.1 hg).2
                rw [e1] at c0 c1 c2 c3
                rw [e2] at d0 d1 d2 d3
                have HE := hide (And.intro hf hg)
                have hjj : (0 : Int) ≤ (j : Int) := by omega
                clear e1 e2 hf hg hfr hN hG hm
                cases hs : sameM f g
                · have hq : ∀ w : World, (binOp .neq 81 (.agg #[.int .u32 (f.au : Nat), .int .u32 (f.ev : Nat), .int .u32 (f.nf : Nat), .bool f.rd]) (.agg #[.int .u32 (g.au : Nat), .int .u32 (g.ev : Nat), .int .u32 (g.nf : Nat), .bool g.rd])).run Try.prog w = .ok (.bool true) w := fun w => by rw [neq_sm, hs]; rfl
                  obtain rfl : b = false := (unhide HB).symm.trans (sameL_at (unhide HE).1 (unhide HE).2 hs)
                  clear hs
                  go_wp2_with fail
                  go_quiet (fail)
                  go_wp2_with fail
                  go_ret
                  exact ⟨rfl, (unhide HW2).trans0 ((unhide HA).2.drewN _)⟩
                · have hq : ∀ w : World, (binOp .neq 81 (.agg #[.int .u32 (f.au : Nat), .int .u32 (f.ev : Nat), .int .u32 (f.nf : Nat), .bool f.rd]) (.agg #[.int .u32 (g.au : Nat), .int .u32 (g.ev : Nat), .int .u32 (g.nf : Nat), .bool g.rd])).run Try.prog w = .ok (.bool false) w := fun w => by rw [neq_sm, hs]; rfl
                  have HS := hide hs
                  clear hs
                  go_wp2_with fail
                  go_quiet (fail)
                  go_wp2_with fail
                  go_roundw
                  case rel =>
                    refine ⟨j + 1, by omega, by go_num, fun i f' g' hi hf hg => ?_, (unhide HA).2.drewN _⟩
                    by_cases e : i < j
                    · exact (unhide HA).1 i f' g' e hf hg
                    · obtain rfl : i = j := by omega
                      rw [(unhide HE).1] at hf
                      rw [(unhide HE).2] at hg
                      cases hf
                      cases hg
                      exact unhide HS
                  case measure => simp [intOf]; omega
              · obtain rfl : b = true := (unhide HB).symm.trans (sameL_all (unhide HN).2 (fun i f g hf hg => (unhide HA).1 i f g (by have h1 := (List.getElem?_eq_some_iff.1 hf).1; have h2 := (unhide HN).1; omega) hf hg))
                obtain rfl : j = N := by omega
                clear hfr hlt hj
                go_wp2_with fail
                go_ret
                exact ⟨rfl, (unhide HW2).trans0 (unhide HA).2⟩
          · rw [sameL_ne hne, Bool.and_false]
            have hne2 : ¬ (H.length : Int) = (K.length : Int) := by omega
            obtain ⟨N, hN⟩ : ∃ N, H.length = N := ⟨_, rfl⟩
            obtain ⟨M, hM⟩ : ∃ M, K.length = M := ⟨_, rfl⟩
            rw [hN, hM] at hne2 ⊢
            rw [hN, hM] at HM
            rw [hN] at lH
            clear HM hN hM hne
            go_enter Try.func25, Try.ntmps25
            go_wp2_with fail
            refine ((unhide HE) _ ((box1 w _).alloc _)).mono ?_
            rintro e w2 ⟨rfl, hf2⟩
            obtain ⟨W1, hW1⟩ : ∃ W1, (w.alloc (.cells #[.int .u32 (acl : Nat), .int .u32 (anu : Nat), .int .u8 (aco : Nat), .int .u32 (arc : Nat), .int .u32 (ave : Nat), afv, (.slice xo N xc)] 44)).alloc (.cells #[.int .u32 (acl : Nat), .int .u32 (anu : Nat), .int .u8 (aco : Nat), .int .u32 (arc : Nat), .int .u32 (ave : Nat), bfv, (.slice yo M yc)] 44) = W1 := ⟨_, rfl⟩
            have hfw : Fr (fun _ => False) w W1 := by rw [← hW1]; exact (box1 w _).alloc _
            have k1 : W1.heap[w.heap.size]? = some (.cells #[.int .u32 (acl : Nat), .int .u32 (anu : Nat), .int .u8 (aco : Nat), .int .u32 (arc : Nat), .int .u32 (ave : Nat), afv, (.slice xo N xc)] 44) := by rw [← hW1]; exact (Below.heap_alloc _ _ _ (by simp)).trans (heap_alloc_new w _)
            have k2 : W1.heap[w.heap.size + 1]? = some (.cells #[.int .u32 (acl : Nat), .int .u32 (anu : Nat), .int .u8 (aco : Nat), .int .u32 (arc : Nat), .int .u32 (ave : Nat), bfv, (.slice yo M yc)] 44) := by
              rw [← hW1]
              have := heap_alloc_new (w.alloc (.cells #[.int .u32 (acl : Nat), .int .u32 (anu : Nat), .int .u8 (aco : Nat), .int .u32 (arc : Nat), .int .u32 (ave : Nat), afv, (.slice xo N xc)] 44)) (.cells #[.int .u32 (acl : Nat), .int .u32 (anu : Nat), .int .u8 (aco : Nat), .int .u32 (arc : Nat), .int .u32 (ave : Nat), bfv, (.slice yo M yc)] 44)
              rwa [World.size_alloc] at this
            rw [hW1] at hf2
            clear hW1
            have q1 : w2.cell? ⟨w.heap.size, 6, none⟩ = some (.slice xo N xc) := cell_of_blk ((hf2.block _ (lt_of_block k1) (fun h => h)).trans k1) rfl
            have q2 : w2.cell? ⟨w.heap.size + 1, 6, none⟩ = some (.slice yo M yc) := cell_of_blk ((hf2.block _ (lt_of_block k2) (fun h => h)).trans k2) rfl
            have HW2 := hide (hfw.trans0 hf2)
            clear hf2 hfw k1 k2
            go_wp2_with fail
            go_ret
            exact ⟨rfl, unhide HW2⟩
theorem sameL_refl {α : Type} {e : α → α → Bool} (he : ∀ x, e x x = true) : ∀ F : List α, sameL e F F = true
  | [] => rfl
  | f :: r => by simp [sameL, he, sameL_refl he r]
theorem sameF_refl (f : F5) : sameF f f = true := by simp [sameF]
theorem sameM_refl (f : SM) : sameM f f = true := by simp [sameM]
/-- An answer is the same as itself, wherever its lists lie. -/
theorem gsameA_refl (a b : AN) (F : List F5) (H : List SM) (h1 : a.cl = b.cl) (h2 : a.nu = b.nu) (h3 : a.co = b.co) (h4 : a.rc = b.rc) (h5 : a.ve = b.ve) : gsameA a b F F H H = true := by
  simp [gsameA, sameA, h1, h2, h3, h4, h5, sameL_refl sameF_refl, sameL_refl sameM_refl]
end Go.Proofs.Ytfaponkpgcdgkaa

namespace Go.Proofs.Ytfaponkpgcdgkaa
open Go.RowKit Go.Maps

/-- A message that came in: its cells, what Take looks at, what its answer's lists hold. -/
structure MG where
  xs : List Value
  ki : Nat
  icl : Nat
  inu : Nat
  co : Nat
  a : AN
  F : List F5
  H : List SM
structure MG.Ok (w : World) (m : MG) : Prop where
  x : MsX m.xs m.ki m.icl m.inu m.co m.a
  len : m.xs.length = 35
  one : ∀ v ∈ m.xs, v.oneCell' = true
  bk : m.ki < 256
  bi : m.icl < 4294967296
  bn : m.inu < 4294967296
  bc : m.co < 256
  ac : m.a.cl < 4294967296
  an : m.a.nu < 4294967296
  f : Rd w m.a.fv m.F.length 5 (fcells m.F)
  h : Rd w m.a.hv m.H.length 4 (scells m.H)
  fl : m.F.length ≤ 1048576
  hl : m.H.length ≤ 1048576
theorem MG.Ok.fr0 {w w' : World} {m : MG} (h : m.Ok w) (hf : Fr (fun _ => False) w w') : m.Ok w' :=
  ⟨h.x, h.len, h.one, h.bk, h.bi, h.bn, h.bc, h.ac, h.an, h.f.fr0 hf, h.h.fr0 hf, h.fl, h.hl⟩
/-- Messages that came in. -/
structure MgR (w : World) (v : Value) (l : List MG) : Prop where
  f : ∃ vo c, v = .slice vo l.length c ∧ ∀ j m, l[j]? = some m → m.Ok w ∧ ∃ g o, vo = some ⟨g, o, none⟩ ∧ w.rangeAt g (o + j * 35) m.xs
  l : l.length ≤ 1048576
/-- Is it the first answer of a request? -/
def fresh (c : Nat) (cs : List SC) (m : MG) : Prop := m.ki = 3 ∧ m.a.cl = c ∧ ∃ i q, m.a.nu = i + 1 ∧ cs[i]? = some q ∧ q.d = none
/-- What a message that is none leaves. -/
structure Kept (cs cs' : List SC) : Prop where
  n : cs'.length = cs.length
  q : ∀ (i : Nat) (x : SC), cs[i]? = some x → ∃ y, cs'[i]? = some y ∧ y.d = x.d ∧ y.n ≤ x.n + 1
theorem Kept.refl (cs : List SC) : Kept cs cs := ⟨rfl, fun i x h => ⟨x, h, rfl, by omega⟩⟩
theorem Kept.busy {cs : List SC} {i : Nat} {q : SC} (hq : cs[i]? = some q) (la : Int) : Kept cs (cs.set i { q with la := la, n := q.n + 1 }) :=
  ⟨List.length_set .., fun j x hj => by
    by_cases e : i = j
    · subst e
      rw [hq] at hj
      cases hj
      have hl := (List.getElem?_eq_some_iff.1 hq).1
      exact ⟨{ q with la := la, n := q.n + 1 }, by rw [List.getElem?_set_self hl], rfl, Nat.le_refl _⟩
    · exact ⟨x, by rw [List.getElem?_set_ne e]; exact hj, rfl, by omega⟩⟩
theorem sms_of_rd {w : World} {x : Value} {l : List SM} (h : Rd w x l.length 4 (scells l)) : Sms w x l := by
  obtain ⟨xo, c, rfl, h1, h2, h3⟩ := h.f
  cases l with
  | nil => exact .inl ⟨xo, c, rfl, rfl⟩
  | cons f r =>
    obtain ⟨e0, _⟩ := scells_at (f :: r) 0 (by simp)
    obtain ⟨g, o, rfl, _⟩ := h3 _ _ e0
    refine .inr ⟨g, o, c, rfl, fun j hj => ?_⟩
    obtain ⟨d0, d1, d2, d3⟩ := scells_at (f :: r) j hj
    have k : ∀ i u, (scells (f :: r))[i]? = some u → w.cell? ⟨g, o + i, none⟩ = some u := fun i u hu => by
      obtain ⟨g', o', e, hc⟩ := h3 i u hu
      cases e
      exact hc
    exact ⟨k _ _ d0, by rw [Nat.add_assoc]; exact k _ _ d1, by rw [Nat.add_assoc]; exact k _ _ d2, by rw [Nat.add_assoc]; exact k _ _ d3⟩
/-- Take of a message that is no first answer. -/
theorem SS.takeOld {w : World} {d c : Nat} {cs : List SC} {dn : List Nat} {T : Nat → Prop} (h : SS w d c cs dn T) (m : MG) (hm : m.Ok w) (hn : ¬ fresh c cs m) (hb : ∀ q ∈ cs, q.n ≤ 1000000000000) :
    Calls Try.prog 14 #[.pointer (some ⟨d, 0, none⟩), .agg m.xs.toArray] w fun e w' => ∃ r cs', e = .returned (.int .i64 r) ∧ Kept cs cs' ∧ SS w' d c cs' dn T ∧ Fr T w w' := by
  have hT : ∀ {W : World}, Fr (fun _ => False) w W → Fr T w W := fun hf => hf.mono (fun _ _ e => e.elim)
  obtain ⟨xs, ki, icl, inu, co, a, F, H⟩ := m
  by_cases h3 : ki = 3
  · subst h3
    by_cases hu : a.cl = c ∧ a.nu ≠ 0 ∧ a.nu ≤ cs.length
    · obtain ⟨hc, h0, hl⟩ := hu
      obtain ⟨q, hq⟩ : ∃ q, cs[a.nu - 1]? = some q := ⟨_, List.getElem?_eq_getElem (by omega)⟩
      cases hd : q.d with
      | none => exact absurd ⟨rfl, hc, a.nu - 1, q, by simp only; omega, hq, hd⟩ hn
      | some x =>
        have hx := h.fdsX (List.mem_of_getElem? hq) hd
        have hf := rd_fds hm.f
        have hh := sms_of_rd hm.h
        refine (h.ansDone xs icl inu co a hm.x (a.nu - 1) q x hq hd hc (by omega) (sameA x.a a x.F F x.H H) (fun W' hf' => sameAnswer_any x.a a x.F F x.H H W' (hx.1.fr hf') (hf.fr hf') (hx.2.1.fr hf') (hh.fr hf') hx.2.2.1 hx.2.2.2)).mono ?_
        rintro e w' ⟨r, rfl, _, hfr⟩
        exact ⟨r, cs, rfl, Kept.refl _, h.fr0 hfr, hT hfr⟩
    · refine (h.ansNone xs icl inu co a hm.x (fun e => ?_) hm.ac hm.an).mono ?_
      · by_cases h0 : a.nu = 0
        · exact .inl h0
        · exact .inr (by
            have : ¬ a.nu ≤ cs.length := fun hl => hu ⟨e, h0, hl⟩
            omega)
      · rintro e w' ⟨r, rfl, _, hfr⟩
        exact ⟨r, cs, rfl, Kept.refl _, h.fr0 hfr, hT hfr⟩
  · by_cases h4 : ki = 4
    · subst h4
      by_cases hu : icl = c ∧ inu ≠ 0 ∧ inu ≤ cs.length
      · obtain ⟨hc, h0, hl⟩ := hu
        subst hc
        obtain ⟨i, rfl⟩ : ∃ i, inu = i + 1 := ⟨inu - 1, by omega⟩
        obtain ⟨q, hq⟩ : ∃ q, cs[i]? = some q := ⟨_, List.getElem?_eq_getElem (by omega)⟩
        cases hd : q.d with
        | none =>
          refine (h.busy xs co a i hm.x hm.bc q hq hd (hb q (List.mem_of_getElem? hq))).mono ?_
          rintro e w' ⟨r, rfl, _, hs, hfr⟩
          exact ⟨r, _, rfl, Kept.busy hq _, hs, hfr⟩
        | some x =>
          refine (h.busyDone xs co a i hm.x hm.bc q x hq hd).mono ?_
          rintro e w' ⟨r, rfl, _, hfr⟩
          exact ⟨r, cs, rfl, Kept.refl _, h.fr0 hfr, hT hfr⟩
      · refine (h.busyNone xs icl inu co a hm.x hm.bc (fun e => ?_) hm.bi hm.bn).mono ?_
        · by_cases h0 : inu = 0
          · exact .inl h0
          · exact .inr (by
              have : ¬ inu ≤ cs.length := fun hl => hu ⟨e, h0, hl⟩
              omega)
        · rintro e w' ⟨r, rfl, _, hfr⟩
          exact ⟨r, cs, rfl, Kept.refl _, h.fr0 hfr, hT hfr⟩
    · refine (stake_no d xs ki icl inu co a hm.x h3 h4 w).mono ?_
      rintro e w' ⟨rfl, hfr⟩
      exact ⟨1, cs, rfl, Kept.refl _, h.fr0 hfr, hT hfr⟩
/-- As many wait as are not answered. -/
theorem wl_count (cs : List SC) : (wl cs).length = nW cs := by
  unfold wl nW
  rw [List.length_filterMap_eq_countP]
  have key : ∀ n, n ≤ cs.length → List.countP (fun j => ((if (cs[j]?.any fun q => q.d.isNone) = true then some (j + 1) else none) : Option Nat).isSome) (List.range n) = List.countP (fun q => q.d.isNone) (cs.take n) := by
    intro n
    induction n with
    | zero => simp
    | succ n ih =>
      intro hn
      obtain ⟨q, hq⟩ : ∃ q, cs[n]? = some q := ⟨_, List.getElem?_eq_getElem (by omega)⟩
      rw [List.range_succ, List.countP_append, ih (by omega), List.take_add_one, List.countP_append, hq]
      cases hd : q.d <;> simp [hq, hd]
  have := key cs.length (Nat.le_refl _)
  rw [List.take_length] at this
  exact this
end Go.Proofs.Ytfaponkpgcdgkaa

namespace Go.Proofs.Ytfaponkpgcdgkaa
open Go.RowKit Go.Maps

theorem wrapS (k : Nat) (h : k ≤ 1000000000) : wrap64 ((k : Int) + 1) = (k : Int) + 1 := by unfold wrap64; omega
theorem wrapU (k : Nat) (h : k ≤ 1000000000) : IntKind.u32.wrap ((k : Int) + 1) = (k : Int) + 1 := by
  have e : ((k : Int) + 1) % 4294967296 = (k : Int) + 1 := by omega
  simp [IntKind.wrap, IntKind.bits, IntKind.signed, e]
theorem eql_00 (w : World) : (binOp .eql 29 (.agg #[.int .u32 0, .int .u32 0]) (.agg #[.int .u32 0, .int .u32 0])).run Try.prog w = .ok (.bool true) w := eql_id 0 0 0 0 w
/-- SessionMany's loop: all that were called are answered. -/
structure MI (w wr : World) (d i : Nat) (cs : List SC) (dn : List Nat) (T : Nat → Prop) : Prop where
  s : SS wr d 15 cs dn T
  c : cs.length = i
  n : dn.length = i
  a : ∀ q ∈ cs, q.d.isSome = true
  b : ∀ g, T g → w.heap.size ≤ g
  f : Fr (fun _ => False) w wr
theorem wl_nil {cs : List SC} (h : ∀ q ∈ cs, q.d.isSome = true) : wl cs = [] := by
  apply List.eq_nil_iff_forall_not_mem.2
  intro k hk
  have h1 := (wl_mem cs k).1 hk
  unfold fW at h1
  split at h1
  · cases h1
  · cases hq : cs[k - 1]? with
    | none => rw [hq] at h1; cases h1
    | some q =>
      rw [hq] at h1
      have := h q (List.mem_of_getElem? hq)
      cases hd : q.d with
      | none => rw [hd] at this; cases this
      | some x => simp [hd] at h1
set_option maxRecDepth 100000 in
set_option maxHeartbeats 4000000 in
/-- SessionMany. -/
theorem smany_any (w : World) : Calls Try.prog 6 #[] w fun e w' => e = .returned (.bool true) ∧ Fr (fun _ => False) w w' := by
  go_enter Try.func6, Try.ntmps6
  go_wp2_with fail
  refine (awake17 w).mono ?_
  rintro e w0 ⟨rfl, hf0⟩
  have HF0 := hide hf0
  clear hf0
  go_wp2_with fail
  refine (SS.new 15 w0 (by omega)).mono ?_
  rintro e w1 ⟨d, rfl, hs1, hf1⟩
  have HM : Hid (MI w w1 d 0 [] [] (Nb w0 w1)) := hide ⟨hs1, rfl, rfl, (fun q hq => by simp at hq), (fun g hg => Nat.le_trans (unhide HF0).size hg.1), (unhide HF0).trans0 hf1⟩
  clear hs1 hf1
  go_wp2_with fail
  go_loopw [3] (fun iv wr => ∃ (i : Nat) (cs : List SC) (dn : List Nat) (T : Nat → Prop), i ≤ 4096 ∧ iv = .int .i64 (i : Nat) ∧ MI w wr d i cs dn T) (fun iv _ => 4096 - (intOf iv).toNat)
  case atStart => exact ⟨0, [], [], _, by omega, rfl, unhide HM⟩
  case round =>
    obtain ⟨i, cs, dn, T, hi, rfl, hM⟩ := hrel
    clear HM
    rename World => wr
    have HI := hide hM
    clear hM
    by_cases hlt : i < 4096
    · have hlt2 : (i : Int) < 4096 := by omega
      go_wp2_with fail
      refine (create_any _).mono ?_
      rintro e w2 ⟨rfl, hf2⟩
      have HC : Hid (Calls Try.prog 10 #[.pointer (some ⟨d, 0, none⟩), crR.v] w2 fun e w' => e = .returned (.tuple #[.agg #[.int .u32 15, .int .u32 ((i : Int) + 1)], .int .i64 0]) ∧ (∃ v, SS w' d 15 (cs ++ [⟨⟨15, i + 1, 1, 1, 0, 0, 7, 6, v, ⟨#[]⟩⟩, [], 0, 0, none⟩]) dn (Tn T w2 w')) ∧ Fr T w2 w') := hide (by
        have := ((unhide HI).s.fr0 hf2).call crR [] (Rd.nil w2 5) (by simp) (fun f hf => by simp at hf) rfl (by rw [(unhide HI).c]; exact hlt)
        rw [(unhide HI).c] at this
        exact this)
      have HF2 := hide hf2
      clear hf2
      go_wp2_with fail
      refine (unhide HC).mono ?_
      rintro e w3 ⟨rfl, ⟨v, hs3⟩, hf3⟩
      have HS3 := hide (And.intro hs3 hf3)
      clear hs3 hf3 HC
      have hw1 := wrapS i (by omega)
      have hw2 := wrapU i (by omega)
      go_wp2_with fail
      have HA : Hid (∀ W, Calls Try.prog 16 #[.int .u32 15, .int .u32 ((i : Int) + 1), .int .u32 1] W fun e w' => e = .returned (.agg (ansM 15 (i + 1) 1).toArray) ∧ Fr (fun _ => False) W w') := hide (fun W => answered_any 15 (i + 1) 1 W)
      refine ((unhide HA) _).mono ?_
      rintro e w5 ⟨rfl, hf5⟩
      have hf35 : Fr (fun _ => False) w3 w5 := (box1 w3 _).trans0 hf5
      have hlc := (unhide HI).c
      have hln := (unhide HI).n
      have HT := hide (((unhide HS3).1.fr0 hf35).answer (ansM 15 (i + 1) 1) 0 0 0 (ansA 15 (i + 1) 1) (ansM_x 15 (i + 1) 1) i _ (by rw [← hlc]; exact List.getElem?_concat_length) rfl rfl rfl [] [] (Rd.nil w5 5) (Rd.nil w5 4) (by simp) (by simp) (by omega))
      have HF5 := hide hf35
      clear hf5 hf35 HA hlc hln
      go_wp2_with fail
      refine (unhide HT).mono ?_
      rintro e w6 ⟨r6, rfl, rfl, ⟨v6, u6, hs6⟩, hf6⟩
      clear HT
      have h2 := unhide HF2
      have h3 := (unhide HS3).2
      have h5 := unhide HF5
      have hb := (unhide HI).b
      have hbT3 : ∀ g, Tn T w2 w3 g → w.heap.size ≤ g := fun g hg => by
        rcases hg with hg | hg
        · exact hb g hg
        · have := hg.1; have := (unhide HI).f.size; have := h2.size; omega
      have hfw3 : Fr (fun _ => False) w w3 := ((unhide HI).f.trans0 h2).trans h3 (fun g hg e => by have := hb g e; omega)
      have hfw5 := hfw3.trans0 h5
      have hfw6 : Fr (fun _ => False) w w6 := hfw5.trans hf6 (fun g hg e => by have := hbT3 g e; omega)
      have hset : ∀ x y : SC, (cs ++ [x]).set i y = cs ++ [y] := fun x y => by
        rw [List.set_append_right _ _ (by rw [(unhide HI).c]; exact Nat.le_refl _), (unhide HI).c, Nat.sub_self]
        rfl
      rw [hset] at hs6
      have HM6 : Hid (∃ cs' dn' T', MI w w6 d (i + 1) cs' dn' T') := hide ⟨_, _, _, hs6, by simp [(unhide HI).c], by simp [(unhide HI).n], (fun q hq => by
        rcases List.mem_append.1 hq with hq' | hq'
        · exact (unhide HI).a q hq'
        · simp at hq'; subst hq'; rfl), (fun g hg => by
          rcases hg with hg | hg
          · exact hbT3 g hg
          · have := hg.1; have := hfw5.size; omega), hfw6⟩
      clear h2 h3 h5 hb hbT3 hfw3 hfw5 hfw6 hs6 hf6 HF5 HS3 HF2 hset
      go_wp2_with fail
      go_roundw
      case rel =>
        obtain ⟨cs', dn', T', hm⟩ := unhide HM6
        exact ⟨i + 1, cs', dn', T', by omega, by go_num, hm⟩
      case measure => simp [intOf]; omega
    · obtain rfl : i = 4096 := by omega
      clear hlt
      go_wp2_with fail
      refine (create_any _).mono ?_
      rintro e w2 ⟨rfl, hf2⟩
      have HC := hide (((unhide HI).s.fr0 hf2).full crR [] (Rd.nil w2 5) (by simp) (fun f hf => by simp at hf) rfl (unhide HI).c)
      have HF2 := hide hf2
      clear hf2
      go_wp2_with fail
      refine (unhide HC).mono ?_
      rintro e w3 ⟨rfl, hf3⟩
      have HF3 := hide hf3
      clear HC hf3
      have heq := eql_00
      go_wp2_with fail
      have hs4 : SS (w3.alloc (.cells #[.int .u32 0, .int .u32 0] 29)) d 15 cs dn T := (((unhide HI).s.fr0 (unhide HF2)).fr0 (unhide HF3)).fr0 (box1 _ _)
      have hl := (unhide HI).n
      refine hs4.done.mono ?_
      rintro e w5 ⟨v5, rfl, ho5, hf5⟩
      obtain ⟨ao5, cap5, e5⟩ := own_formX ho5
      rw [List.length_map, hl] at e5
      subst e5
      have hs5 := hs4.fr0 hf5
      have HS5 := hide (And.intro hs5 hf5)
      clear hs4 hs5 hf5 ho5 hl
      go_wp2_with fail
      refine (unhide HS5).1.waiting.mono ?_
      rintro e w6 ⟨v6, rfl, ho6, hf6⟩
      rw [wl_nil (unhide HI).a] at ho6
      obtain ⟨ao6, cap6, e6⟩ := own_formX ho6
      have e6' : v6 = .slice ao6 0 cap6 := e6
      subst e6'
      have HF6 : Hid (Fr (fun _ => False) w w6) := hide ((((((unhide HI).f.trans0 (unhide HF2)).trans0 (unhide HF3)).trans0 (box1 _ _)).trans0 (unhide HS5).2).trans0 hf6)
      clear ho6 hf6 e6
      go_wp2_with fail
      go_ret
      exact ⟨rfl, unhide HF6⟩
end Go.Proofs.Ytfaponkpgcdgkaa

namespace Go.Proofs.Ytfaponkpgcdgkaa
open Go.RowKit Go.Maps

theorem tmod_abs (c : Int) : ∃ n : Nat, n ≤ 8 ∧ ((Int.tmod c 9 = (n : Int)) ∨ (Int.tmod c 9 = -(n : Int) ∧ 0 < n)) := by
  have h1 : Int.tmod c 9 < 9 := Int.tmod_lt_of_pos c (by omega)
  have h2 : -9 < Int.tmod c 9 := by
    have := Int.tmod_lt_of_pos (-c) (b := 9) (by omega)
    rw [Int.neg_tmod] at this
    omega
  by_cases h : 0 ≤ Int.tmod c 9
  · exact ⟨(Int.tmod c 9).toNat, by omega, .inl (by omega)⟩
  · exact ⟨(-Int.tmod c 9).toNat, by omega, .inr ⟨by omega, by omega⟩⟩
/-- SessionOnce's first loop: nothing is answered. -/
structure OI (w wr : World) (d i : Nat) (cs : List SC) (T : Nat → Prop) : Prop where
  s : SS wr d 1 cs [] T
  c : cs.length = i
  a : ∀ q ∈ cs, q.d = none ∧ q.n = 0
  b : ∀ g, T g → w.heap.size ≤ g
  f : Fr (fun _ => False) w wr
/-- SessionOnce's second loop: what is answered stands in the two rows. -/
structure PI (w W : World) (d A B n k : Nat) (cs : List SC) (dn : List Nat) (T : Nat → Prop) (fs hs : List Value) : Prop where
  s : SS W d 1 cs dn T
  c : cs.length = n
  ba : W.heap[A]? = some (.cells fs.toArray 72)
  fl : fs.length = 63
  bb : W.heap[B]? = some (.cells hs.toArray 73)
  hl : hs.length = 9
  hh : ∀ (j : Nat) (q : SC), cs[j]? = some q → hs[j]? = some (.bool q.d.isSome)
  hf : ∀ (j : Nat) (q : SC) (x : AD), cs[j]? = some q → q.d = some x → x.a.cl = 1 ∧ x.a.nu = j + 1 ∧ ∃ fv hv, Rd w fv x.F.length 5 (fcells x.F) ∧ Rd w hv x.H.length 4 (scells x.H) ∧ ∀ i v, (AN.cs { x.a with fv := fv, hv := hv })[i]? = some v → fs[j * 7 + i]? = some v
  dl : dn.length = nA cs
  nb : ∀ q ∈ cs, q.n ≤ k
  t : ∀ g, T g → w.heap.size ≤ g ∧ g ≠ A ∧ g ≠ B
  ab : A ≠ B ∧ w.heap.size ≤ A ∧ w.heap.size ≤ B
  f : Fr (fun _ => False) w W
theorem PI.fr0 {w W W' : World} {d A B n k : Nat} {cs : List SC} {dn : List Nat} {T : Nat → Prop} {fs hs : List Value} (h : PI w W d A B n k cs dn T fs hs) (hf : Fr (fun _ => False) W W') : PI w W' d A B n k cs dn T fs hs :=
  ⟨h.s.fr0 hf, h.c, (hf.block A (lt_of_block h.ba) (fun h => h)).trans h.ba, h.fl, (hf.block B (lt_of_block h.bb) (fun h => h)).trans h.bb, h.hl, h.hh, h.hf, h.dl, h.nb, h.t, h.ab, h.f.trans0 hf⟩
theorem nA_map (cs : List SC) : nA cs = (cs.map (·.d)).countP Option.isSome := by
  unfold nA
  rw [List.countP_map]
  rfl
theorem Kept.nA {cs cs' : List SC} (h : Kept cs cs') : nA cs' = nA cs := by
  rw [nA_map, nA_map]
  congr 1
  apply List.ext_getElem?
  intro i
  rw [List.getElem?_map, List.getElem?_map]
  by_cases hi : i < cs.length
  · obtain ⟨y, hy, hd, _⟩ := h.q i _ (List.getElem?_eq_getElem hi)
    rw [hy, List.getElem?_eq_getElem hi]
    simp [hd]
  · rw [List.getElem?_eq_none (by rw [h.n]; omega), List.getElem?_eq_none (by omega)]
theorem Kept.back {cs cs' : List SC} (h : Kept cs cs') {i : Nat} {y : SC} (hy : cs'[i]? = some y) : ∃ x, cs[i]? = some x ∧ y.d = x.d ∧ y.n ≤ x.n + 1 := by
  have hi : i < cs.length := by rw [← h.n]; exact (List.getElem?_eq_some_iff.1 hy).1
  obtain ⟨y', h1, h2, h3⟩ := h.q i _ (List.getElem?_eq_getElem hi)
  rw [hy] at h1
  cases h1
  exact ⟨_, List.getElem?_eq_getElem hi, h2, h3⟩
/-- A message that is no first answer. -/
theorem PI.old {w W W' : World} {d A B n k : Nat} {cs cs' : List SC} {dn : List Nat} {T : Nat → Prop} {fs hs : List Value} (h : PI w W d A B n k cs dn T fs hs) (hk : Kept cs cs') (hs' : SS W' d 1 cs' dn T) (hf : Fr T W W') : PI w W' d A B n (k + 1) cs' dn T fs hs :=
  ⟨hs', hk.n.trans h.c, (hf.block A (lt_of_block h.ba) (fun e => (h.t _ e).2.1 rfl)).trans h.ba, h.fl, (hf.block B (lt_of_block h.bb) (fun e => (h.t _ e).2.2 rfl)).trans h.bb, h.hl, fun j q hq => by
      obtain ⟨x, hx, hd, _⟩ := hk.back hq
      rw [hd]
      exact h.hh j x hx, fun j q x hq hd => by
      obtain ⟨y, hy, hd2, _⟩ := hk.back hq
      exact h.hf j y x hy (hd2.symm.trans hd), h.dl.trans hk.nA.symm, fun q hq => by
      obtain ⟨i, hi⟩ := List.getElem?_of_mem hq
      obtain ⟨x, hx, _, hn⟩ := hk.back hi
      have := h.nb x (List.mem_of_getElem? hx)
      omega, h.t, h.ab, h.f.trans hf (fun g hg e => by have := (h.t g e).1; omega)⟩
/-- A first answer, behind Take and the two stores. -/
theorem PI.new {w W W1 W2 : World} {d A B n k i : Nat} {cs : List SC} {dn : List Nat} {T : Nat → Prop} {fs hs fs' hs' : List Value} (h : PI w W d A B n k cs dn T fs hs) {q : SC} {x : AD} (hq : cs[i]? = some q) (hd : q.d = none) (hs1 : SS W1 d 1 (cs.set i { q with d := some x }) (dn ++ [i + 1]) (Tn T W W1)) (hf1 : Fr T W W1) (hf2 : Fr (fun g => g = A ∨ g = B) W1 W2)
    (hba : W2.heap[A]? = some (.cells fs'.toArray 72)) (hfl : fs'.length = 63) (hbb : W2.heap[B]? = some (.cells hs'.toArray 73)) (hhl : hs'.length = 9)
    (hhi : hs'[i]? = some (.bool true)) (hho : ∀ j, j ≠ i → hs'[j]? = hs[j]?)
    (hxc : x.a.cl = 1 ∧ x.a.nu = i + 1) (fv hv : Value) (hfv : Rd w fv x.F.length 5 (fcells x.F)) (hhv : Rd w hv x.H.length 4 (scells x.H)) (hfi : ∀ t v, (AN.cs { x.a with fv := fv, hv := hv })[t]? = some v → fs'[i * 7 + t]? = some v) (hfo : ∀ j, (j < i * 7 ∨ i * 7 + 7 ≤ j) → fs'[j]? = fs[j]?) :
    PI w W2 d A B n (k + 1) (cs.set i { q with d := some x }) (dn ++ [i + 1]) (Tn T W W1) fs' hs' := by
  have hil := (List.getElem?_eq_some_iff.1 hq).1
  have hlA := lt_of_block h.ba
  have hlB := lt_of_block h.bb
  have ht : ∀ g, Tn T W W1 g → w.heap.size ≤ g ∧ g ≠ A ∧ g ≠ B := fun g hg => by
    rcases hg with hg | hg
    · exact h.t g hg
    · have h1 := h.f.size
      have h4 := hg.1
      exact ⟨by omega, by omega, by omega⟩
  refine ⟨hs1.fr hf2 (fun g hg e => ?_), by rw [List.length_set]; exact h.c, hba, hfl, hbb, hhl, fun j p hp => ?_, fun j p y hp hy => ?_, ?_, fun p hp => ?_, ht, h.ab, (h.f.trans hf1 (fun g hg e => by have := (h.t g e).1; omega)).trans hf2 (fun g hg e => by have := h.ab; rcases e with e | e <;> omega)⟩
  · have := ht g hg
    rcases e with e | e
    · exact this.2.1 e
    · exact this.2.2 e
  · by_cases e : i = j
    · subst e
      rw [List.getElem?_set_self hil] at hp
      cases hp
      exact hhi
    · rw [List.getElem?_set_ne e] at hp
      rw [hho j (fun h => e h.symm)]
      exact h.hh j p hp
  · by_cases e : i = j
    · subst e
      rw [List.getElem?_set_self hil] at hp
      cases hp
      simp only [Option.some.injEq] at hy
      subst hy
      exact ⟨hxc.1, hxc.2, fv, hv, hfv, hhv, hfi⟩
    · rw [List.getElem?_set_ne e] at hp
      obtain ⟨a1, a2, fv', hv', a3, a4, a5⟩ := h.hf j p y hp hy
      refine ⟨a1, a2, fv', hv', a3, a4, fun t v ht => ?_⟩
      have h7 : t < 7 := (List.getElem?_eq_some_iff.1 ht).1
      rw [hfo _ (by omega)]
      exact a5 t v ht
  · have := (nA_set cs i q { q with d := some x } hq hd rfl).1
    rw [this, List.length_append, h.dl]
    rfl
  · obtain ⟨j, hj⟩ := List.getElem?_of_mem hp
    by_cases e : i = j
    · subst e
      rw [List.getElem?_set_self hil] at hj
      cases hj
      have := h.nb q (List.mem_of_getElem? hq)
      simp only
      omega
    · rw [List.getElem?_set_ne e] at hj
      have := h.nb p (List.mem_of_getElem? hj)
      omega
/-- What a row of nine answers, of nine truths holds at first. -/
def zF : List Value := zA ++ (zA ++ (zA ++ (zA ++ (zA ++ (zA ++ (zA ++ (zA ++ zA)))))))
def zH : List Value := [.bool false, .bool false, .bool false, .bool false, .bool false, .bool false, .bool false, .bool false, .bool false]
theorem OI.start {w wr : World} {d n : Nat} {cs : List SC} {T : Nat → Prop} (h : OI w wr d n cs T) (hn : n ≤ 8) : PI w ((wr.alloc (.cells zF.toArray 72)).alloc (.cells zH.toArray 73)) d wr.heap.size (wr.heap.size + 1) n 0 cs [] T zF zH := by
  have hf := ((box1 wr (.cells zF.toArray 72)).alloc (.cells zH.toArray 73))
  have hsz := h.f.size
  refine ⟨h.s.fr0 hf, h.c, (Below.heap_alloc _ _ _ (by simp)).trans (heap_alloc_new wr _), rfl, ?_, rfl, fun j q hq => ?_, fun j q x hq hd => ?_, ?_, fun q hq => ?_, fun g hg => ⟨h.b g hg, ?_, ?_⟩, ⟨by omega, by omega, by omega⟩, h.f.trans0 hf⟩
  · have := heap_alloc_new (wr.alloc (.cells zF.toArray 72)) (.cells zH.toArray 73)
    rwa [World.size_alloc] at this
  · have hj := (List.getElem?_eq_some_iff.1 hq).1
    rw [((h.a q (List.mem_of_getElem? hq)).1)]
    have hj8 : j < 8 := by have := h.c; omega
    match j, hj8 with
    | 0, _ => rfl
    | 1, _ => rfl
    | 2, _ => rfl
    | 3, _ => rfl
    | 4, _ => rfl
    | 5, _ => rfl
    | 6, _ => rfl
    | 7, _ => rfl
  · rw [(h.a q (List.mem_of_getElem? hq)).1] at hd
    cases hd
  · have : nA cs = 0 := by
      unfold nA
      rw [List.countP_eq_zero]
      intro q hq
      rw [(h.a q hq).1]
      simp
    rw [this]
    rfl
  · rw [(h.a q hq).2]
    exact Nat.zero_le _
  · have := h.s.lt g hg
    omega
  · have := h.s.lt g hg
    omega
theorem setCells_mid (g t : Nat) : ∀ (vs fs : List Value) (o : Nat) (w : World), w.heap[g]? = some (.cells fs.toArray t) → o + vs.length ≤ fs.length → ∃ fs', (w.setCells g o vs).heap[g]? = some (.cells (List.toArray fs') t) ∧ fs'.length = fs.length ∧ (∀ i v, vs[i]? = some v → fs'[o + i]? = some v) ∧ ∀ j, (j < o ∨ o + vs.length ≤ j) → fs'[j]? = fs[j]?
  | [], fs, o, w, h, _ => ⟨fs, h, rfl, by simp, fun _ _ => rfl⟩
  | v :: vs, fs, o, w, h, hl => by
    rw [World.setCells]
    have hl2 : o + (vs.length + 1) ≤ fs.length := hl
    obtain ⟨fs', a1, a2, a3, a4⟩ := setCells_mid g t vs (fs.set o v) (o + 1) (w.setCell ⟨g, o, none⟩ v) (by rw [blkset h]; simp) (by rw [List.length_set]; omega)
    refine ⟨fs', a1, by rw [a2, List.length_set], fun i u hu => ?_, fun j hj => ?_⟩
    · cases i with
      | zero =>
        simp only [List.getElem?_cons_zero, Option.some.injEq] at hu
        subst hu
        rw [Nat.add_zero, a4 o (by omega), List.getElem?_set_self (by omega)]
      | succ i =>
        have := a3 i u (by simpa using hu)
        rw [← this]
        congr 1
        omega
    · have hj2 : j < o ∨ o + (vs.length + 1) ≤ j := hj
      rw [a4 j (by omega), List.getElem?_set_ne (by omega)]
/-- A struct is stored into a row. -/
theorem st_mid {P : Program} {W : World} {g t ty o : Nat} (fs news : List Value) (hb : W.heap[g]? = some (.cells fs.toArray t)) (hl : o + news.length ≤ fs.length) (hi : (P.info? ty).map (·.size) = some news.length) (h1 : ∀ v ∈ news, v.oneCell' = true) :
    ∃ W8, (Instr.storeAt ty (.pointer (some ⟨g, o, none⟩)) (.agg news.toArray)).run P W = .ok () W8 ∧ (∃ fs', W8.heap[g]? = some (.cells (List.toArray fs') t) ∧ fs'.length = fs.length ∧ (∀ i v, news[i]? = some v → fs'[o + i]? = some v) ∧ ∀ j, (j < o ∨ o + news.length ≤ j) → fs'[j]? = fs[j]?) ∧ Fr (fun k => k = g) W W8 := by
  refine ⟨W.setCells g o news, run_storeAt_mid W g o ty news.toArray (fun j hj => ?_) (by simpa using hi) (all_oneCell_toArray h1), setCells_mid g t news fs o W hb hl, setCells_fr g news o W⟩
  have hj : j < news.length := by simpa using hj
  have hj2 : o + j < fs.length := by omega
  refine ⟨?_, by simp [World.frozen?, hb]⟩
  simp [World.cell?, hb, hj2]
end Go.Proofs.Ytfaponkpgcdgkaa

namespace Go.Proofs.Ytfaponkpgcdgkaa
open Go.RowKit Go.Maps

set_option maxRecDepth 100000 in
set_option maxHeartbeats 4000000 in
theorem sonce_pos (w : World) (c : Int) (x : Value) (ms : List MG) (hx : MgR w x ms) (n : Nat) (hn : n ≤ 8) (hc : Int.tmod c 9 = (n : Int)) : Calls Try.prog 5 #[.int .i64 c, x] w fun e w' => e = .returned (.bool true) ∧ Fr (fun _ => False) w w' := by
  obtain ⟨vo, vc, rfl, hms⟩ := hx.f
  have HX := hide hx
  have HMS := hide hms
  have hml := hx.l
  obtain ⟨N, hN⟩ : ∃ N, ms.length = N := ⟨_, rfl⟩
  have HNN := hide hN
  rw [hN] at HX hml ⊢
  clear hx hms hN
  · have hc1 : ¬ (n : Int) < 0 := by omega
    go_enter Try.func5, Try.ntmps5
    go_wp2_with fail
    refine (awake17 w).mono ?_
    rintro e w0 ⟨rfl, hf0⟩
    have HF0 := hide hf0
    clear hf0
    go_wp2_with fail
    refine (SS.new 1 w0 (by omega)).mono ?_
    rintro e w1 ⟨d, rfl, hs1, hf1⟩
    have HM : Hid (OI w w1 d 0 [] (Nb w0 w1)) := hide ⟨hs1, rfl, (fun q hq => by simp at hq), (fun g hg => Nat.le_trans (unhide HF0).size hg.1), (unhide HF0).trans0 hf1⟩
    clear hs1 hf1 HF0
    go_wp2_with fail
    go_loopw [8] (fun iv wr => ∃ (i : Nat) (cs : List SC) (T : Nat → Prop), i ≤ n ∧ iv = .int .i64 (i : Nat) ∧ OI w wr d i cs T) (fun iv _ => n - (intOf iv).toNat)
    case atStart => exact ⟨0, [], _, by omega, rfl, unhide HM⟩
    case round =>
      obtain ⟨i, cs, T, hi, rfl, hM⟩ := hrel
      clear HM
      rename World => wr
      have HI := hide hM
      clear hM
      by_cases hlt : i < n
      · have hlt2 : (i : Int) < (n : Int) := by omega
        go_wp2_with fail
        refine (create_any _).mono ?_
        rintro e w2 ⟨rfl, hf2⟩
        have HC : Hid (Calls Try.prog 10 #[.pointer (some ⟨d, 0, none⟩), crR.v] w2 fun e w' => e = .returned (.tuple #[.agg #[.int .u32 1, .int .u32 ((i : Int) + 1)], .int .i64 0]) ∧ (∃ v, SS w' d 1 (cs ++ [⟨⟨1, i + 1, 1, 1, 0, 0, 7, 6, v, ⟨#[]⟩⟩, [], 0, 0, none⟩]) [] (Tn T w2 w')) ∧ Fr T w2 w') := hide (by
          have := ((unhide HI).s.fr0 hf2).call crR [] (Rd.nil w2 5) (by simp) (fun f hf => by simp at hf) rfl (by rw [(unhide HI).c]; omega)
          rw [(unhide HI).c] at this
          exact this)
        have HF2 := hide hf2
        clear hf2
        go_wp2_with fail
        refine (unhide HC).mono ?_
        rintro e w3 ⟨rfl, ⟨v, hs3⟩, hf3⟩
        clear HC
        have hb := (unhide HI).b
        have hfw3 : Fr (fun _ => False) w w3 := ((unhide HI).f.trans0 (unhide HF2)).trans hf3 (fun g hg e => by have := hb g e; omega)
        have HM6 : Hid (∃ cs' T', OI w (w3.alloc (.cells #[.int .u32 1, .int .u32 ((i : Int) + 1)] 29)) d (i + 1) cs' T') := hide ⟨_, _, hs3.fr0 (box1 _ _), by simp [(unhide HI).c], (fun q hq => by
          rcases List.mem_append.1 hq with hq' | hq'
          · exact (unhide HI).a q hq'
          · simp at hq'; subst hq'; exact ⟨rfl, rfl⟩), (fun g hg => by
            rcases hg with hg | hg
            · exact hb g hg
            · have := hg.1; have := (unhide HI).f.size; have := (unhide HF2).size; omega), hfw3.trans0 (box1 _ _)⟩
        clear hs3 hf3 hb hfw3 HF2
        have hw1 := wrapS i (by omega)
        have hw2 := wrapU i (by omega)
        have hq : ∀ w : World, (binOp .neq 29 (.agg #[.int .u32 1, .int .u32 ((i : Int) + 1)]) (.agg #[.int .u32 1, .int .u32 ((i : Int) + 1)])).run Try.prog w = .ok (.bool false) w := fun w => by
          have := neq_id 1 (i + 1) 1 (i + 1) w
          simpa using this
        go_wp2_with fail
        go_roundw
        case rel =>
          obtain ⟨cs', T', hm⟩ := unhide HM6
          exact ⟨i + 1, cs', T', by omega, by go_num, hm⟩
        case measure => simp [intOf]; omega
      · obtain rfl : i = n := by omega
        clear hlt
        obtain ⟨A, hA⟩ : ∃ A, wr.heap.size = A := ⟨_, rfl⟩
        have HP : Hid (PI w ((wr.alloc (.cells zF.toArray 72)).alloc (.cells zH.toArray 73)) d A (A + 1) i 0 cs [] T zF zH) := hide (hA ▸ (unhide HI).start hn)
        go_wp2_with fail
        go_loopw [13, 14] (fun cv iv wq => ∃ (k D : Nat) (cs : List SC) (dn : List Nat) (T : Nat → Prop) (fs hs : List Value), k ≤ N ∧ dn.length = D ∧ cv = .int .i64 (D : Nat) ∧ iv = .int .i64 (k : Nat) ∧ PI w wq d A (A + 1) i k cs dn T fs hs) (fun _ iv _ => N - (intOf iv).toNat)
        case atStart => exact ⟨0, 0, cs, [], T, zF, zH, Nat.zero_le _, rfl, rfl, rfl, unhide HP⟩
        case round =>
          clear HP HI hA
          clear cs T
          obtain ⟨k, D, cs, dn, T, fs, hs, hk, hD, rfl, rfl, hP⟩ := hrel
          rename World => wr
          have HP := hide hP
          clear hP
          by_cases hlt : k < N
          · have hlt2 : (k : Int) < (N : Int) := by omega
            obtain ⟨m, hm⟩ : ∃ m, ms[k]? = some m := ⟨_, List.getElem?_eq_getElem (by have := unhide HNN; omega)⟩
            obtain ⟨hok, g, o, rfl, hrg⟩ := (unhide HMS) k m hm
            obtain ⟨xs, ki, icl, inu, co, ⟨cl, nu, aco, arc, ave, afv, ahv⟩, F, H⟩ := m
            simp only at hrg
            have hrg2 : wr.rangeAt g (o + k * 35) xs := fun j v hv => ((unhide HP).f.cell (p := ⟨g, o + k * 35 + j, none⟩) (lt_of_cell (hrg j v hv)) (fun h => h)).trans (hrg j v hv)
            obtain ⟨W8, hst, hb8, hf8⟩ := st_all (P := Try.prog) (ty := 49) zM xs (heap_alloc_new wr (.cells zM.toArray 49)) hok.len.symm (by rw [hok.len]; exact Try.sizeMs) hok.one
            have hsz : (Try.prog.info? 49).map (·.size) = some xs.length := by rw [hok.len]; exact Try.sizeMs
            have HRG := hide hrg2
            have HST := hide hst
            have HR8 := hide (range_of_block hb8)
            have HSZ := hide hsz
            have hjj : (0 : Int) ≤ (k : Int) := by omega
            clear hrg hrg2 hst hsz hm
            obtain ⟨X, hXe⟩ : ∃ X, wr.heap.size = X := ⟨_, rfl⟩
            have hfr8 : Fr (fun _ => False) wr W8 := (box1 wr _).trans hf8 (fun g hg e => by rw [e] at hg; exact Nat.lt_irrefl _ hg)
            have HXT : Hid (∀ g, T g → g ≠ X) := hide (fun g hg e => by have := (unhide HP).s.lt g hg; omega)
            have HP8 := hide ((unhide HP).fr0 hfr8)
            have HOK := hide hok
            rw [hXe] at hb8 HR8 HST
            have HB8 := hide hb8
            have HX2 : Hid (A + 1 < X) := hide (by have := lt_of_block (unhide HP).bb; omega)
            clear hok hfr8 hb8 hf8 HP
            go_wp2_with (first | refine wpList_load_mid rfl 49 (.tmp 63) rfl g (o + k * 35) rfl _ _ (unhide HRG) Try.underlying49 rfl (unhide HSZ) ?_ | refine wpList_stN rfl 49 (.tmp 15) (.tmp 64) rfl _ _ rfl rfl (unhide HST) ?_ | refine wpList_load_mid rfl 49 (.tmp 15) rfl X 0 rfl _ _ (unhide HR8) Try.underlying49 rfl (unhide HSZ) ?_)
            by_cases hfr : fresh 1 cs ⟨xs, ki, icl, inu, co, ⟨cl, nu, aco, arc, ave, afv, ahv⟩, F, H⟩
            · obtain ⟨rfl, rfl, j, q, hnj, hq, hd⟩ := hfr
              simp only at hnj
              have hil : j < i := by have := (unhide HP8).c; have := (List.getElem?_eq_some_iff.1 hq).1; omega
              have hdl : dn.length ≤ 1048575 := by have h1 := (unhide HP8).dl; have h2 := nWA cs; have h3 := (unhide HP8).c; omega
              have hwD := wrapS D (by have h1 := (unhide HP8).dl; have h2 := nWA cs; have h3 := (unhide HP8).c; omega)
              have hwn : wrap64 (nu : Int) = (nu : Int) := by have := (unhide HOK).an; simp only at this; unfold wrap64; omega
              have e6 : j < 9 := Nat.lt_of_lt_of_le hil (Nat.le_trans hn (by decide))
              have e4 : (0 : Int) ≤ (j : Int) := Int.natCast_nonneg j
              have e5 : (j : Int) < 9 := Int.ofNat_lt.2 e6
              have e1 : (1 : Int) ≤ (nu : Int) := Int.ofNat_le.2 (by rw [hnj]; exact Nat.le_add_left 1 j)
              have e2 : (nu : Int) ≤ (i : Int) := Int.ofNat_le.2 (by rw [hnj]; exact hil)
              have e3 : IntKind.u32.wrap ((nu : Int) - 1) = (j : Int) := by
                have hz : ((nu : Int) - 1) = (j : Int) := by rw [hnj]; exact Int.add_sub_cancel (j : Int) 1
                have e : ((nu : Int) - 1) % 4294967296 = (j : Int) := by rw [hz]; exact Int.emod_eq_of_lt e4 (Int.lt_trans e5 (by decide))
                simp [IntKind.wrap, IntKind.bits, IntKind.signed, e]
              have hXA : X ≠ A + 1 := fun e => Nat.lt_irrefl _ (e ▸ unhide HX2)
              have hAA : A ≠ A + 1 := Nat.ne_of_lt (Nat.lt_succ_self A)
              have hl79 : j * 7 + 7 ≤ 63 := Nat.add_le_add_right (Nat.mul_le_mul_right 7 (Nat.le_of_lt_succ e6)) 7
              have hok8 := (unhide HOK).fr0 (unhide HP8).f
              refine ((unhide HP8).s.answer xs icl inu co _ hok8.x j q hq hd rfl hnj F H hok8.f hok8.h hok8.fl hok8.hl hdl).mono ?_
              clear hok8 hdl
              rintro e w4 ⟨r4, rfl, rfl, ⟨v4, u4', hs4⟩, hf4⟩
              have hb4 := (hf4.block X (lt_of_block (unhide HB8)) (fun e => (unhide HXT) _ e rfl)).trans (unhide HB8)
              have hX4 : X < w4.heap.size := lt_of_block hb4
              have hbA := (hf4.block A (lt_of_block (unhide HP8).ba) (fun e => ((unhide HP8).t _ e).2.1 rfl)).trans (unhide HP8).ba
              have hbB := (hf4.block (A + 1) (lt_of_block (unhide HP8).bb) (fun e => ((unhide HP8).t _ e).2.2 rfl)).trans (unhide HP8).bb
              have hA4 : A + 1 < w4.heap.size := lt_of_block hbB
              have hA5 : A < w4.heap.size := Nat.lt_of_succ_lt hA4
              have c0 : w4.cell? ⟨X, 0, none⟩ = some (.int .u8 3) := cell_of_blk hb4 (by simpa using (unhide HOK).x.k)
              have c13 : w4.cell? ⟨X, 13, none⟩ = some (.int .u32 1) := cell_of_blk hb4 (by simpa using (unhide HOK).x.an 0 _ rfl)
              have c14 : w4.cell? ⟨X, 14, none⟩ = some (.int .u32 (nu : Nat)) := cell_of_blk hb4 (by simpa using (unhide HOK).x.an 1 _ rfl)
              have cB : w4.cell? ⟨A + 1, j, none⟩ = some (.bool false) := by
                have := (unhide HP8).hh _ q hq
                rw [hd] at this
                exact cell_of_blk hbB (by simpa using this)
              have zB : w4.frozen? ⟨A + 1, j, none⟩ = false := by simp [World.frozen?, hbB]
              obtain ⟨W6, hW6⟩ : ∃ W6, (w4.alloc (.cells #[.int .u32 1, .int .u32 (nu : Nat)] 29)).setCell ⟨A + 1, j, none⟩ (.bool true) = W6 := ⟨_, rfl⟩
              have hf45 := box1 w4 (.cells #[.int .u32 1, .int .u32 (nu : Nat)] 29)
              have hf56 : Fr (fun g => g = A + 1) (w4.alloc (.cells #[.int .u32 1, .int .u32 (nu : Nat)] 29)) W6 := by rw [← hW6]; exact (Fr.refl (fun g => g = A + 1) _).setCell (p := ⟨A + 1, j, none⟩) (.inl rfl) _
              have hf46 : Fr (fun g => g = A + 1) w4 W6 := (hf45.mono (fun _ _ e => e.elim)).trans hf56 (fun _ _ e => e)
              have c16 : W6.cell? ⟨w4.heap.size, 1, none⟩ = some (.int .u32 (nu : Nat)) := cell_of_blk ((hf56.block w4.heap.size (by rw [World.size_alloc]; exact Nat.lt_succ_self _) (fun e => absurd hA4 (by rw [e]; exact Nat.lt_irrefl _))).trans (heap_alloc_new w4 _)) rfl
              have hbB6 : W6.heap[A + 1]? = some (.cells ((hs.set j (.bool true)).toArray) 73) := by
                rw [← hW6, blkset ((hf45.block (A + 1) hA4 (fun h => h)).trans hbB)]
                simp
              have hbA6 : W6.heap[A]? = _ := (hf46.block A hA5 (fun e => hAA e)).trans hbA
              have hb46 : W6.heap[X]? = _ := (hf46.block X hX4 (fun e => hXA e)).trans hb4
              have HR6 : Hid (W6.rangeAt X 13 [.int .u32 1, .int .u32 (nu : Nat), .int .u8 (aco : Nat), .int .u32 (arc : Nat), .int .u32 (ave : Nat), afv, ahv]) := hide (fun t v ht => cell_of_blk hb46 (by simpa using (unhide HOK).x.an t v ht))
              have h7 : ∀ v ∈ [.int .u32 1, .int .u32 (nu : Nat), .int .u8 (aco : Nat), .int .u32 (arc : Nat), .int .u32 (ave : Nat), afv, ahv], v.oneCell' = true := fun v hv => by
                obtain ⟨t, ht⟩ := List.getElem?_of_mem hv
                exact (unhide HOK).one v (List.mem_of_getElem? ((unhide HOK).x.an t v ht))
              obtain ⟨W7, hst7, ⟨fs', hbA7, hfl7, hfi7, hfo7⟩, hf67⟩ := st_mid (P := Try.prog) (ty := 44) (o := j * 7) fs [.int .u32 1, .int .u32 (nu : Nat), .int .u8 (aco : Nat), .int .u32 (arc : Nat), .int .u32 (ave : Nat), afv, ahv] hbA6 (by rw [(unhide HP8).fl]; exact hl79) Try.sizeAn h7
              have hbB7 : W7.heap[A + 1]? = _ := (hf67.block (A + 1) (lt_of_block hbB6) (fun e => hAA e.symm)).trans hbB6
              have hP7 := (unhide HP8).new (fs' := fs') (hs' := hs.set j (.bool true)) hq hd hs4 hf4 ((hf46.mono (fun _ _ e => .inr e)).trans (hf67.mono (fun _ _ e => .inl e)) (fun _ _ e => e)) hbA7 (hfl7.trans (unhide HP8).fl) hbB7 (by rw [List.length_set]; exact (unhide HP8).hl) (List.getElem?_set_self (by rw [(unhide HP8).hl]; exact e6)) (fun t ht => List.getElem?_set_ne (fun e => ht e.symm)) ⟨rfl, rfl⟩ afv ahv (unhide HOK).f (unhide HOK).h (by subst hnj; exact hfi7) (fun t ht => hfo7 t ht)
              have hD5 : (dn ++ [j + 1]).length = D + 1 := by rw [List.length_append, hD]; rfl
              clear hD
              have HST7 := hide hst7
              generalize hcs : cs.set j { q with d := some ⟨⟨1, j + 1, aco, arc, ave, v4, u4'⟩, F, H⟩ } = cs' at hP7
              have HP5 := hide hP7
              clear hP7 hs4 hf4 hb4 hbA hbB hf45 hf56 hf46 hbB6 hbA6 hb46 h7 hst7 hbA7 hfl7 hfi7 hfo7 hf67 hbB7 hnj hcs hd hq
              go_wp2_with (first | refine wpList_load_mid rfl 44 (.tmp 106) rfl X 13 rfl _ _ (unhide HR6) Try.underlying44 rfl Try.sizeAn ?_ | refine wpList_stN rfl 44 (.tmp 108) (.tmp 107) rfl _ _ rfl rfl (unhide HST7) ?_)
              simp only [hwD]
              clear e3 hwn hwD
              clear c0 c13 c14 cB zB c16 hW6 e1 e2 HR6 HST7
              have HD5 := hide hD5
              clear hD5
              refine (unhide HP5).s.done.mono ?_
              rintro e w6 ⟨v6, rfl, ho6, hf6⟩
              obtain ⟨ao6, cap6, e6⟩ := own_formX ho6
              rw [List.length_map, unhide HD5] at e6
              subst e6
              have HP6 := hide ((unhide HP5).fr0 hf6)
              clear HP5 ho6 hf6
              go_wp2_with fail
              refine (unhide HP6).s.waiting.mono ?_
              rintro e w7 ⟨v7, rfl, ho7, hf7⟩
              obtain ⟨ao7, cap7, e7⟩ := own_formX ho7
              rw [List.length_map] at e7
              obtain ⟨Wn, hWn⟩ : ∃ Wn, (wl cs').length = Wn := ⟨_, rfl⟩
              rw [hWn] at e7
              subst e7
              have hsub : wrap64 ((i : Int) - ((D : Int) + 1)) = (Wn : Int) := by
                have h0 := unhide HD5
                have h1 := wl_count cs'
                have h2 := nWA cs'
                have h3 := (unhide HP6).dl
                have h4 := (unhide HP6).c
                unfold wrap64
                omega
              have HP7 := hide ((unhide HP6).fr0 hf7)
              clear HP6 ho7 hf7 hWn
              go_wp2_with fail
              go_roundw
              case rel => exact ⟨k + 1, D + 1, _, _, _, _, _, by omega, unhide HD5, by go_num, by go_num, unhide HP7⟩
              case measure => simp [intOf]; omega
            · have hko := SS.takeOld (unhide HP8).s _ ((unhide HOK).fr0 (unhide HP8).f) hfr (fun q hq => by have := (unhide HP8).nb q hq; omega)
              refine hko.mono ?_
              clear hko
              rintro e w4 ⟨r4, cs', rfl, hkept, hs4, hf4⟩
              have hP4 := (unhide HP8).old hkept hs4 hf4
              have hb4 := (hf4.block X (lt_of_block (unhide HB8)) (fun e => (unhide HXT) _ e rfl)).trans (unhide HB8)
              have hX4 : X < w4.heap.size := lt_of_block hb4
              have hA4 : A + 1 < w4.heap.size := lt_of_block hP4.bb
              have c0 : w4.cell? ⟨X, 0, none⟩ = some (.int .u8 (ki : Nat)) := cell_of_blk hb4 (by simpa using (unhide HOK).x.k)
              have c13 : w4.cell? ⟨X, 13, none⟩ = some (.int .u32 (cl : Nat)) := cell_of_blk hb4 (by simpa using (unhide HOK).x.an 0 _ rfl)
              have c14 : w4.cell? ⟨X, 14, none⟩ = some (.int .u32 (nu : Nat)) := cell_of_blk hb4 (by simpa using (unhide HOK).x.an 1 _ rfl)
              have hD5 := hD
              clear hD
              have HP5 : Hid (PI w (w4.alloc (.cells #[.int .u32 (cl : Nat), .int .u32 (nu : Nat)] 29)) d A (A + 1) i (k + 1) cs' dn T fs hs) := hide (hP4.fr0 (box1 _ _))
              have hcase : ki ≠ 3 ∨ (ki = 3 ∧ cl ≠ 1) ∨ (ki = 3 ∧ cl = 1 ∧ nu = 0) ∨ (ki = 3 ∧ cl = 1 ∧ nu ≠ 0 ∧ i < nu) ∨ (ki = 3 ∧ cl = 1 ∧ ∃ j, nu = j + 1 ∧ j < i ∧ w4.cell? ⟨A + 1, j, none⟩ = some (.bool true)) := by
                by_cases h1 : ki = 3
                · by_cases h2 : cl = 1
                  · by_cases h3 : nu = 0
                    · exact .inr (.inr (.inl ⟨h1, h2, h3⟩))
                    · by_cases h4 : i < nu
                      · exact .inr (.inr (.inr (.inl ⟨h1, h2, h3, h4⟩)))
                      · refine .inr (.inr (.inr (.inr ⟨h1, h2, nu - 1, by omega, by omega, ?_⟩)))
                        have hcl := (unhide HP8).c
                        obtain ⟨q, hq⟩ : ∃ q, cs[nu - 1]? = some q := ⟨_, List.getElem?_eq_getElem (by omega)⟩
                        have hqd : q.d.isSome = true := by
                          cases hd : q.d with
                          | none => exact absurd ⟨h1, h2, nu - 1, q, by simp only; omega, hq, hd⟩ hfr
                          | some x => rfl
                        have := (unhide HP8).hh _ q hq
                        rw [hqd] at this
                        exact cell_of_blk hP4.bb (by simpa using this)
                  · exact .inr (.inl ⟨h1, h2⟩)
                · exact .inl h1
              have hwn : wrap64 (nu : Int) = (nu : Int) := by have := (unhide HOK).an; simp only at this; unfold wrap64; omega
              clear hP4 hs4 hf4 hb4 hkept hfr
              rcases hcase with h1 | ⟨rfl, h2⟩ | ⟨rfl, rfl, rfl⟩ | ⟨rfl, rfl, h3, h4⟩ | ⟨rfl, rfl, j, hnj, hj, cB⟩
              · have e1 : ¬ (ki : Int) = 3 := by omega
                have e2 : ((ki : Int) == 3) = false := by simpa using e1
                go_wp2_with fail
                have HD5 := hide hD5
                clear hD5
                refine (unhide HP5).s.done.mono ?_
                rintro e w6 ⟨v6, rfl, ho6, hf6⟩
                obtain ⟨ao6, cap6, e6⟩ := own_formX ho6
                rw [List.length_map, unhide HD5] at e6
                subst e6
                have HP6 := hide ((unhide HP5).fr0 hf6)
                clear HP5 ho6 hf6
                go_wp2_with fail
                refine (unhide HP6).s.waiting.mono ?_
                rintro e w7 ⟨v7, rfl, ho7, hf7⟩
                obtain ⟨ao7, cap7, e7⟩ := own_formX ho7
                rw [List.length_map] at e7
                obtain ⟨Wn, hWn⟩ : ∃ Wn, (wl cs').length = Wn := ⟨_, rfl⟩
                rw [hWn] at e7
                subst e7
                have hsub : wrap64 ((i : Int) - (D : Int)) = (Wn : Int) := by
                  have h0 := unhide HD5
                  have h1 := wl_count cs'
                  have h2 := nWA cs'
                  have h3 := (unhide HP6).dl
                  have h4 := (unhide HP6).c
                  unfold wrap64
                  omega
                have HP7 := hide ((unhide HP6).fr0 hf7)
                clear HP6 ho7 hf7 hWn
                go_wp2_with fail
                go_roundw
                case rel => exact ⟨k + 1, D, _, _, _, _, _, by omega, unhide HD5, by go_num, by go_num, unhide HP7⟩
                case measure => simp [intOf]; omega
              · have e1 : ¬ (cl : Int) = 1 := by omega
                have e2 : ((cl : Int) == 1) = false := by simpa using e1
                go_wp2_with fail
                have HD5 := hide hD5
                clear hD5
                refine (unhide HP5).s.done.mono ?_
                rintro e w6 ⟨v6, rfl, ho6, hf6⟩
                obtain ⟨ao6, cap6, e6⟩ := own_formX ho6
                rw [List.length_map, unhide HD5] at e6
                subst e6
                have HP6 := hide ((unhide HP5).fr0 hf6)
                clear HP5 ho6 hf6
                go_wp2_with fail
                refine (unhide HP6).s.waiting.mono ?_
                rintro e w7 ⟨v7, rfl, ho7, hf7⟩
                obtain ⟨ao7, cap7, e7⟩ := own_formX ho7
                rw [List.length_map] at e7
                obtain ⟨Wn, hWn⟩ : ∃ Wn, (wl cs').length = Wn := ⟨_, rfl⟩
                rw [hWn] at e7
                subst e7
                have hsub : wrap64 ((i : Int) - (D : Int)) = (Wn : Int) := by
                  have h0 := unhide HD5
                  have h1 := wl_count cs'
                  have h2 := nWA cs'
                  have h3 := (unhide HP6).dl
                  have h4 := (unhide HP6).c
                  unfold wrap64
                  omega
                have HP7 := hide ((unhide HP6).fr0 hf7)
                clear HP6 ho7 hf7 hWn
                go_wp2_with fail
                go_roundw
                case rel => exact ⟨k + 1, D, _, _, _, _, _, by omega, unhide HD5, by go_num, by go_num, unhide HP7⟩
                case measure => simp [intOf]; omega
              · go_wp2_with fail
                have HD5 := hide hD5
                clear hD5
                refine (unhide HP5).s.done.mono ?_
                rintro e w6 ⟨v6, rfl, ho6, hf6⟩
                obtain ⟨ao6, cap6, e6⟩ := own_formX ho6
                rw [List.length_map, unhide HD5] at e6
                subst e6
                have HP6 := hide ((unhide HP5).fr0 hf6)
                clear HP5 ho6 hf6
                go_wp2_with fail
                refine (unhide HP6).s.waiting.mono ?_
                rintro e w7 ⟨v7, rfl, ho7, hf7⟩
                obtain ⟨ao7, cap7, e7⟩ := own_formX ho7
                rw [List.length_map] at e7
                obtain ⟨Wn, hWn⟩ : ∃ Wn, (wl cs').length = Wn := ⟨_, rfl⟩
                rw [hWn] at e7
                subst e7
                have hsub : wrap64 ((i : Int) - (D : Int)) = (Wn : Int) := by
                  have h0 := unhide HD5
                  have h1 := wl_count cs'
                  have h2 := nWA cs'
                  have h3 := (unhide HP6).dl
                  have h4 := (unhide HP6).c
                  unfold wrap64
                  omega
                have HP7 := hide ((unhide HP6).fr0 hf7)
                clear HP6 ho7 hf7 hWn
                go_wp2_with fail
                go_roundw
                case rel => exact ⟨k + 1, D, _, _, _, _, _, by omega, unhide HD5, by go_num, by go_num, unhide HP7⟩
                case measure => simp [intOf]; omega
              · have e1 : (1 : Int) ≤ (nu : Int) := by omega
                have e2 : ¬ (nu : Int) ≤ (i : Int) := by omega
                go_wp2_with fail
                have HD5 := hide hD5
                clear hD5
                refine (unhide HP5).s.done.mono ?_
                rintro e w6 ⟨v6, rfl, ho6, hf6⟩
                obtain ⟨ao6, cap6, e6⟩ := own_formX ho6
                rw [List.length_map, unhide HD5] at e6
                subst e6
                have HP6 := hide ((unhide HP5).fr0 hf6)
                clear HP5 ho6 hf6
                go_wp2_with fail
                refine (unhide HP6).s.waiting.mono ?_
                rintro e w7 ⟨v7, rfl, ho7, hf7⟩
                obtain ⟨ao7, cap7, e7⟩ := own_formX ho7
                rw [List.length_map] at e7
                obtain ⟨Wn, hWn⟩ : ∃ Wn, (wl cs').length = Wn := ⟨_, rfl⟩
                rw [hWn] at e7
                subst e7
                have hsub : wrap64 ((i : Int) - (D : Int)) = (Wn : Int) := by
                  have h0 := unhide HD5
                  have h1 := wl_count cs'
                  have h2 := nWA cs'
                  have h3 := (unhide HP6).dl
                  have h4 := (unhide HP6).c
                  unfold wrap64
                  omega
                have HP7 := hide ((unhide HP6).fr0 hf7)
                clear HP6 ho7 hf7 hWn
                go_wp2_with fail
                go_roundw
                case rel => exact ⟨k + 1, D, _, _, _, _, _, by omega, unhide HD5, by go_num, by go_num, unhide HP7⟩
                case measure => simp [intOf]; omega
              · have e1 : (1 : Int) ≤ (nu : Int) := by omega
                have e2 : (nu : Int) ≤ (i : Int) := by omega
                have e3 : IntKind.u32.wrap ((nu : Int) - 1) = (j : Int) := by
                  have e : ((nu : Int) - 1) % 4294967296 = (j : Int) := by have := (unhide HOK).an; simp only at this; omega
                  simp [IntKind.wrap, IntKind.bits, IntKind.signed, e]
                have e4 : (0 : Int) ≤ (j : Int) := by omega
                have e5 : (j : Int) < 9 := by omega
                have e6 : j < 9 := by omega
                clear hnj
                go_wp2_with fail
                have HD5 := hide hD5
                clear hD5
                refine (unhide HP5).s.done.mono ?_
                rintro e w6 ⟨v6, rfl, ho6, hf6⟩
                obtain ⟨ao6, cap6, e6⟩ := own_formX ho6
                rw [List.length_map, unhide HD5] at e6
                subst e6
                have HP6 := hide ((unhide HP5).fr0 hf6)
                clear HP5 ho6 hf6
                go_wp2_with fail
                refine (unhide HP6).s.waiting.mono ?_
                rintro e w7 ⟨v7, rfl, ho7, hf7⟩
                obtain ⟨ao7, cap7, e7⟩ := own_formX ho7
                rw [List.length_map] at e7
                obtain ⟨Wn, hWn⟩ : ∃ Wn, (wl cs').length = Wn := ⟨_, rfl⟩
                rw [hWn] at e7
                subst e7
                have hsub : wrap64 ((i : Int) - (D : Int)) = (Wn : Int) := by
                  have h0 := unhide HD5
                  have h1 := wl_count cs'
                  have h2 := nWA cs'
                  have h3 := (unhide HP6).dl
                  have h4 := (unhide HP6).c
                  unfold wrap64
                  omega
                have HP7 := hide ((unhide HP6).fr0 hf7)
                clear HP6 ho7 hf7 hWn
                go_wp2_with fail
                go_roundw
                case rel => exact ⟨k + 1, D, _, _, _, _, _, by omega, unhide HD5, by go_num, by go_num, unhide HP7⟩
                case measure => simp [intOf]; omega
          · have hkn : ¬ (k : Int) < (N : Int) := by omega
            clear hlt
            go_wp2_with fail
            go_loopw [17] (fun iv wq => ∃ t : Nat, t ≤ i ∧ iv = .int .i64 (t : Nat) ∧ PI w wq d A (A + 1) i k cs dn T fs hs) (fun iv _ => i - (intOf iv).toNat)
            case atStart => exact ⟨0, Nat.zero_le _, rfl, unhide HP⟩
            case round =>
              clear HP
              obtain ⟨t, hti, rfl, hP⟩ := hrel
              rename World => wr
              have HP := hide hP
              clear hP
              by_cases hlt : t < i
              · have hlt2 : (t : Int) < (i : Int) := by omega
                have hw1 := wrapS t (by omega)
                have hw2 := wrapU t (by omega)
                have e4 : (0 : Int) ≤ (t : Int) := by omega
                have e5 : (t : Int) < 9 := by omega
                have e6 : t < 9 := by omega
                obtain ⟨q, hq⟩ : ∃ q, cs[t]? = some q := ⟨_, List.getElem?_eq_getElem (by have := (unhide HP).c; omega)⟩
                cases hd : q.d with
                | none =>
                  have HC : Hid (Calls Try.prog 19 #[.pointer (some ⟨d, 0, none⟩), .agg #[.int .u32 1, .int .u32 ((t : Int) + 1)]] wr fun e w' => ∃ v u, e = .returned (.tuple #[.agg #[.int .u32 0, .int .u32 0, .int .u8 0, .int .u32 0, .int .u32 0, v, u], .bool false]) ∧ OwF w' wr.heap.size v [] ∧ OwS w' wr.heap.size u [] ∧ Fr (fun _ => False) wr w') := hide ((unhide HP).s.aNo 1 (t + 1) (by omega) (by omega) (fun _ => by simp [fA, hq, hd]))
                  go_wp2_with fail
                  refine (unhide HC).mono ?_
                  rintro e w2 ⟨v2, u2, rfl, hF2, hH2, hf2⟩
                  obtain ⟨fo, fc, rfl⟩ := own_formX hF2
                  obtain ⟨ho, hc2, rfl⟩ := own_formX hH2
                  clear HC hF2 hH2
                  have HP2 := hide ((unhide HP).fr0 hf2)
                  clear HP hf2
                  go_wp2_with fail
                  obtain ⟨W3, hW3⟩ : ∃ W3, w2.alloc (.cells #[.int .u32 0, .int .u32 0, .int .u8 0, .int .u32 0, .int .u32 0, .slice fo 0 fc, .slice ho 0 hc2] 44) = W3 := ⟨_, rfl⟩
                  have hf3 : Fr (fun _ => False) w2 W3 := by rw [← hW3]; exact box1 w2 _
                  rw [hW3]
                  have HP3 := hide ((unhide HP2).fr0 hf3)
                  clear hW3 hf3 HP2 hw1 hw2
                  have HS : Hid (∀ W', Fr (fun _ => False) W3 W' → (fun W : World => W.cell? ⟨A + 1, t, none⟩ = some (.bool false)) W') := hide (fun W' hf => by
                    have h := (unhide HP3).fr0 hf
                    have hb := h.hh t q hq
                    rw [hd] at hb
                    exact cell_of_blk h.bb (by simpa using hb))
                  refine wp_region_held_drew (S := (fun W : World => W.cell? ⟨A + 1, t, none⟩ = some (.bool false))) (by kernel_rfl) ((unhide HS) _ (Fr.refl _ _).drew) (fun hHeld => ?_)
                  refine wtk2 (i := 0) rfl hHeld ?_
                  (try simp only [Act.put, nrm])
                  refine wtk2 (i := 1) rfl hHeld ?_
                  (try simp only [Act.put, nrm])
                  refine wtk2 (i := 2) rfl hHeld ?_
                  (try simp only [Act.put, nrm])
                  refine wtk2 (i := 3) rfl hHeld ?_
                  (try simp only [Act.put, nrm])
                  refine wtk2 (i := 4) rfl hHeld ?_
                  (try simp only [Act.put, nrm])
                  refine wtk2 (i := 5) rfl hHeld ?_
                  (try simp only [Act.put, nrm])
                  refine wtk2 (i := 6) rfl hHeld ?_
                  (try simp only [Act.put, nrm])
                  refine wtk2 (i := 7) rfl hHeld ?_
                  (try simp only [Act.put, nrm])
                  refine wtk (i := 8) rfl (Or.inr ⟨rfl, rfl⟩) hHeld ?_
                  (try simp only [Act.put, nrm])
                  refine wtk (i := 9) rfl (Or.inr ⟨rfl, rfl⟩) hHeld ?_
                  (try simp only [Act.put, nrm])
                  refine wtk (i := 10) rfl (Or.inr ⟨rfl, rfl⟩) hHeld ?_
                  (try simp only [Act.put, nrm])
                  refine wtk (i := 11) rfl (Or.inr ⟨rfl, rfl⟩) hHeld ?_
                  (try simp only [Act.put, nrm])
                  refine wtk (i := 12) rfl (Or.inr ⟨rfl, rfl⟩) hHeld ?_
                  (try simp only [Act.put, nrm])
                  refine wtk (i := 13) rfl (Or.inr ⟨rfl, rfl⟩) hHeld ?_
                  (try simp only [Act.put, nrm])
                  refine wtk2 (i := 14) rfl hHeld ?_
                  (try simp only [Act.put, nrm])
                  refine wtk2 (i := 15) rfl hHeld ?_
                  (try simp only [Act.put, nrm])
                  refine wpAnyH_done (by kernel_rfl) ?_ _
                  clear hHeld HS
                  have HP4 := hide ((unhide HP3).fr0 (Fr.refl _ _).drew)
                  clear HP3
                  go_wp2_with fail
                  go_roundw
                  case rel => exact ⟨t + 1, by omega, by go_num, unhide HP4⟩
                  case measure => simp [intOf]; omega
                | some x =>
                  obtain ⟨⟨xcl, xnu, xco, xrc, xve, xfv, xhv⟩, F, H⟩ := x
                  obtain ⟨hcl, hnu, fv, hv, hRf, hRh, hfs⟩ := (unhide HP).hf t q _ hq hd
                  obtain ⟨_, _, lF, lH⟩ := (unhide HP).s.fdsX (List.mem_of_getElem? hq) hd
                  simp only at hcl hnu hRf hRh hfs lF lH
                  subst hcl hnu
                  have HC : Hid (Calls Try.prog 19 #[.pointer (some ⟨d, 0, none⟩), .agg #[.int .u32 1, .int .u32 ((t : Int) + 1)]] wr fun e w' => ∃ v u, e = .returned (.tuple #[.agg #[.int .u32 1, .int .u32 ((t : Int) + 1), .int .u8 (xco : Nat), .int .u32 (xrc : Nat), .int .u32 (xve : Nat), v, u], .bool true]) ∧ OwF w' wr.heap.size v F ∧ OwS w' wr.heap.size u H ∧ Fr (fun _ => False) wr w') := hide ((unhide HP).s.aYes t q _ hq hd)
                  go_wp2_with fail
                  refine (unhide HC).mono ?_
                  rintro e w2 ⟨v2, u2, rfl, hF2, hH2, hf2⟩
                  obtain ⟨fo, fc, rfl⟩ := own_formX hF2
                  obtain ⟨ho, hc2, rfl⟩ := own_formX hH2
                  have HO2 := hide (And.intro hF2 hH2)
                  have HR := hide (And.intro hRf (And.intro hRh (And.intro lF (And.intro lH hfs))))
                  clear HC hF2 hH2 hRf hRh hfs lF lH
                  have HP2 := hide ((unhide HP).fr0 hf2)
                  clear HP hf2
                  go_wp2_with fail
                  obtain ⟨W3, hW3⟩ : ∃ W3, w2.alloc (.cells #[.int .u32 1, .int .u32 ((t : Int) + 1), .int .u8 (xco : Nat), .int .u32 (xrc : Nat), .int .u32 (xve : Nat), .slice fo F.length fc, .slice ho H.length hc2] 44) = W3 := ⟨_, rfl⟩
                  have hf3 : Fr (fun _ => False) w2 W3 := by rw [← hW3]; exact box1 w2 _
                  have hb3 : W3.heap[w2.heap.size]? = some (.cells #[.int .u32 1, .int .u32 ((t : Int) + 1), .int .u8 (xco : Nat), .int .u32 (xrc : Nat), .int .u32 (xve : Nat), .slice fo F.length fc, .slice ho H.length hc2] 44) := by rw [← hW3]; exact heap_alloc_new w2 _
                  rw [hW3]
                  have HP3 := hide ((unhide HP2).fr0 hf3)
                  have HG : Hid (∀ W', Fr (fun _ => False) W3 W' → Calls Try.prog 25 #[.agg #[.int .u32 1, .int .u32 ((t : Int) + 1), .int .u8 (xco : Nat), .int .u32 (xrc : Nat), .int .u32 (xve : Nat), .slice fo F.length fc, .slice ho H.length hc2], .agg #[.int .u32 1, .int .u32 ((t : Int) + 1), .int .u8 (xco : Nat), .int .u32 (xrc : Nat), .int .u32 (xve : Nat), fv, hv]] W' fun e w' => e = .returned (.bool true) ∧ Fr (fun _ => False) W' w') := hide (fun W' hf => by
                    have hfw := (unhide HP3).f.trans0 hf
                    have := gsameAnswer_any ⟨1, t + 1, xco, xrc, xve, .slice fo F.length fc, .slice ho H.length hc2⟩ ⟨1, t + 1, xco, xrc, xve, fv, hv⟩ F F H H W' ((OwF.fds (unhide HO2).1).fr (hf3.trans0 hf)) (rd_fds ((unhide HR).1.fr0 hfw)) ((OwS.sms (unhide HO2).2).fr (hf3.trans0 hf)) (sms_of_rd ((unhide HR).2.1.fr0 hfw)) (unhide HR).2.2.1 (unhide HR).2.2.2.1
                    have e := gsameA_refl ⟨1, t + 1, xco, xrc, xve, .slice fo F.length fc, .slice ho H.length hc2⟩ ⟨1, t + 1, xco, xrc, xve, fv, hv⟩ F H rfl rfl rfl rfl rfl
                    rw [e] at this
                    exact this)
                  have HS : Hid (∀ W', Fr (fun _ => False) W3 W' → (fun W : World => W.cell? ⟨A + 1, t, none⟩ = some (.bool true) ∧ W.rangeAt w2.heap.size 0 [.int .u32 1, .int .u32 ((t : Int) + 1), .int .u8 (xco : Nat), .int .u32 (xrc : Nat), .int .u32 (xve : Nat), .slice fo F.length fc, .slice ho H.length hc2] ∧ W.rangeAt A (t * 7) [.int .u32 1, .int .u32 ((t : Int) + 1), .int .u8 (xco : Nat), .int .u32 (xrc : Nat), .int .u32 (xve : Nat), fv, hv]) W') := hide (fun W' hf => by
                    have h := (unhide HP3).fr0 hf
                    have hb := h.hh t q hq
                    rw [hd] at hb
                    refine ⟨cell_of_blk h.bb (by simpa using hb), range_of_block ((hf.block _ (lt_of_block hb3) (fun h => h)).trans hb3), fun i v hv => ?_⟩
                    exact cell_of_blk h.ba (by simpa using (unhide HR).2.2.2.2 i v hv))
                  clear hW3 hf3 HP2 HO2 HR hb3 hw1 hw2
                  refine wp_region_held_drew (S := (fun W : World => W.cell? ⟨A + 1, t, none⟩ = some (.bool true) ∧ W.rangeAt w2.heap.size 0 [.int .u32 1, .int .u32 ((t : Int) + 1), .int .u8 (xco : Nat), .int .u32 (xrc : Nat), .int .u32 (xve : Nat), .slice fo F.length fc, .slice ho H.length hc2] ∧ W.rangeAt A (t * 7) [.int .u32 1, .int .u32 ((t : Int) + 1), .int .u8 (xco : Nat), .int .u32 (xrc : Nat), .int .u32 (xve : Nat), fv, hv])) (by kernel_rfl) ((unhide HS) _ (Fr.refl _ _).drew) (fun hHeld => ?_)
                  refine wtk2 (i := 0) rfl hHeld ?_
                  (try simp only [Act.put, nrm])
                  refine wtk2 (i := 1) rfl hHeld ?_
                  (try simp only [Act.put, nrm])
                  refine wtk2 (i := 2) rfl hHeld ?_
                  (try simp only [Act.put, nrm])
                  refine wtk2 (i := 3) rfl hHeld ?_
                  (try simp only [Act.put, nrm])
                  refine wtk2 (i := 4) rfl hHeld ?_
                  (try simp only [Act.put, nrm])
                  refine wtk2 (i := 5) rfl hHeld ?_
                  (try simp only [Act.put, nrm])
                  refine wtk2 (i := 6) rfl hHeld ?_
                  (try simp only [Act.put, nrm])
                  refine wtk2 (i := 7) rfl hHeld ?_
                  (try simp only [Act.put, nrm])
                  refine wtk (i := 8) rfl (yieldsIf_load_mid rfl 44 (.tmp 18) rfl w2.heap.size 0 rfl _ _ (fun w h => h.2.1) Try.underlying44 rfl Try.sizeAn) hHeld ?_
                  (try simp only [Act.put, nrm])
                  refine wtk2 (i := 9) rfl hHeld ?_
                  (try simp only [Act.put, nrm])
                  refine wtk2 (i := 10) rfl hHeld ?_
                  (try simp only [Act.put, nrm])
                  refine wtk (i := 11) rfl (yieldsIf_load_mid rfl 44 (.tmp 149) rfl A (t * 7) rfl _ _ (fun w h => h.2.2) Try.underlying44 rfl Try.sizeAn) hHeld ?_
                  (try simp only [Act.put, nrm])
                  refine wpAnyH_ready (rs := [12]) (by kernel_rfl) (by simp) (AllReadyH.cons rfl (fun K hK => ?_) AllReadyH.nil)
                  go_simp
                  refine ((unhide HG) _ (Fr.refl _ _).drew).mono ?_
                  rintro e w4 ⟨rfl, hf4⟩
                  have hf34 : Fr (fun _ => False) W3 w4 := (Fr.refl _ _).drew.trans0 hf4
                  clear hf4
                  try dsimp only
                  refine hK.out _ _ ((unhide HS) _ hf34) (fun hHeld => ?_)
                  clear hK K
                  (try simp only [Act.put, nrm])
                  refine wtk2 (i := 13) rfl hHeld ?_
                  (try simp only [Act.put, nrm])
                  refine wtk2 (i := 14) rfl hHeld ?_
                  (try simp only [Act.put, nrm])
                  refine wtk2 (i := 15) rfl hHeld ?_
                  (try simp only [Act.put, nrm])
                  refine wpAnyH_done (by kernel_rfl) ?_ _
                  clear hHeld HS HG
                  have HP4 := hide ((unhide HP3).fr0 hf34)
                  clear HP3 hf34
                  go_wp2_with fail
                  go_roundw
                  case rel => exact ⟨t + 1, by omega, by go_num, unhide HP4⟩
                  case measure => simp [intOf]; omega
              · have hkn2 : ¬ (t : Int) < (i : Int) := by omega
                go_wp2_with fail
                go_ret
                exact ⟨rfl, (unhide HP).f⟩
end Go.Proofs.Ytfaponkpgcdgkaa

