import Derived.Test.YtedmhpplhbaglaaDka
import Derived.Maps.RangeWalk
import Derived.Maps.OwnSet
import Derived.Maps.OwnOps
import Derived.Maps.Ext
import Derived.Lib.SlKeysI
namespace Go.Proofs.Ytedmhpplhbaglaa
open Go.RowKit Go.ChangeShapes Go.WideShapes Go.Maps

/-- A packet as the map holds it. -/
structure PV where
  n : Int
  f : Int
  t : Int
  a : Option Addr
  l : Nat
  c : Nat
def PV.v (p : PV) : Value := .agg #[.int .i64 p.n, .int .i64 p.f, .int .i64 p.t, .slice p.a p.l p.c]
/-- How it reads: as itself. -/
def RVl : List Value → Option PV
  | [.int .i64 n, .int .i64 f, .int .i64 t, .slice a l c] => some ⟨n, f, t, a, l, c⟩
  | _ => none
def RV : Value → Option (DataW PV × List MemPlace)
  | .agg cs => (RVl cs.toList).map fun p => (.held p, [])
  | _ => none
theorem RV_v (p : PV) : RV p.v = some (.held p, []) := rfl
theorem RVl_inv {l : List Value} {p : PV} (h : RVl l = some p) : l = [.int .i64 p.n, .int .i64 p.f, .int .i64 p.t, .slice p.a p.l p.c] := by
  unfold RVl at h
  split at h
  · cases h; rfl
  · cases h
theorem RV_inv {v : Value} {y : DataW PV × List MemPlace} (h : RV v = some y) : ∃ p : PV, v = p.v ∧ y = (.held p, []) := by
  cases v <;> simp only [RV, Option.map_eq_some_iff, reduceCtorEq] at h
  rename_i cs
  obtain ⟨p, h1, h2⟩ := h
  refine ⟨p, ?_, h2.symm⟩
  have := RVl_inv h1
  unfold PV.v
  rw [← this]
/-- A packet that ever was: Gone 0 under way, 1 delivered, 2 lost. -/
structure PK where
  f : Int
  t : Int
  b : List Nat
  gone : Nat
  cp : Bool
def cS (ps : List PK) : Nat := ps.countP fun p => !p.cp
def cC (ps : List PK) : Nat := ps.countP fun p => p.cp
def cD (ps : List PK) : Nat := ps.countP fun p => p.gone == 1
def cL (ps : List PK) : Nat := ps.countP fun p => p.gone == 2
theorem cSC (ps : List PK) : cS ps + cC ps = ps.length := by
  induction ps with
  | nil => rfl
  | cons p ps ih =>
    simp only [cS, cC, List.countP_cons, List.length_cons] at *
    cases p.cp <;> simp <;> omega
/-- Is the packet of that number under way? -/
def und (ps : List PK) (z : Int) : Bool := decide (1 ≤ z) && (ps[(z - 1).toNat]?.any fun p => p.gone == 0)
theorem und_nat (ps : List PK) (k : Nat) : und ps ((k : Int) + 1) = (ps[k]?.any fun p => p.gone == 0) := by
  unfold und
  rw [show ((k : Int) + 1 - 1).toNat = k by omega, decide_eq_true (show (1 : Int) ≤ (k : Int) + 1 by omega), Bool.true_and]
theorem und_some {ps : List PK} {z : Int} (h : und ps z = true) : ∃ k p, z = ((k : Nat) : Int) + 1 ∧ ps[k]? = some p ∧ p.gone = 0 := by
  simp only [und, Bool.and_eq_true, decide_eq_true_eq, Option.any_eq_true] at h
  obtain ⟨h1, p, h2, h3⟩ := h
  exact ⟨(z - 1).toNat, p, by omega, h2, by simpa using h3⟩
theorem und_put (ps : List PK) (p : PK) (hp : p.gone = 0) (z : Int) : und (ps ++ [p]) z = (und ps z || decide (z = (ps.length : Int) + 1)) := by
  by_cases h1 : 1 ≤ z
  · obtain ⟨k, rfl⟩ : ∃ k : Nat, z = (k : Int) + 1 := ⟨(z - 1).toNat, by omega⟩
    rw [und_nat, und_nat]
    by_cases hk : k < ps.length
    · rw [List.getElem?_append_left hk]
      have : decide ((k : Int) + 1 = (ps.length : Int) + 1) = false := by simp; omega
      rw [this, Bool.or_false]
    · rw [List.getElem?_eq_none (l := ps) (by omega)]
      by_cases e : k = ps.length
      · subst e
        simp [hp]
      · rw [List.getElem?_eq_none (by simp; omega)]
        simp; omega
  · have e1 : ∀ l, und l z = false := fun l => by simp [und, h1]
    rw [e1, e1]
    simp; omega
theorem und_set (ps : List PK) (k : Nat) (p : PK) (hk : k < ps.length) (hp : p.gone ≠ 0) (z : Int) : und (ps.set k p) z = (und ps z && !decide (z = (k : Int) + 1)) := by
  by_cases h1 : 1 ≤ z
  · obtain ⟨j, rfl⟩ : ∃ k : Nat, z = (k : Int) + 1 := ⟨(z - 1).toNat, by omega⟩
    rw [und_nat, und_nat, List.getElem?_set]
    by_cases e : k = j
    · subst e
      simp [hk, hp]
    · rw [if_neg e]
      have : decide ((j : Int) + 1 = (k : Int) + 1) = false := by simp; omega
      rw [this]; simp
  · have e1 : ∀ l, und l z = false := fun l => by simp [und, h1]
    rw [e1, e1]; rfl
/-- Lost on the way TO a place. -/
def lostTo (TO : Int) (p : PK) : PK := if p.gone = 0 ∧ p.t = TO then { p with gone := 2 } else p
/-- How many. -/
def loseN (TO : Int) (ps : List PK) : Nat := ps.countP fun p => decide (p.gone = 0 ∧ p.t = TO)
theorem und_lose (ps : List PK) (TO : Int) (k : Nat) : und (ps.map (lostTo TO)) ((k : Int) + 1) = (ps[k]?.any fun p => p.gone == 0 && !decide (p.t = TO)) := by
  rw [und_nat, List.getElem?_map]
  cases h : ps[k]? with
  | none => rfl
  | some p =>
    simp only [Option.map_some, Option.any_some, lostTo]
    by_cases h0 : p.gone = 0
    · by_cases ht : p.t = TO
      · simp [h0, ht]
      · simp [h0, ht]
    · simp [h0]
theorem und_neg (ps : List PK) (z : Int) (h : z ≤ 0) : und ps z = false := by
  have : ¬ 1 ≤ z := by omega
  simp [und, this]
theorem lose_cS (ps : List PK) (TO : Int) : cS (ps.map (lostTo TO)) = cS ps ∧ cC (ps.map (lostTo TO)) = cC ps ∧ cD (ps.map (lostTo TO)) = cD ps ∧ cL (ps.map (lostTo TO)) = cL ps + loseN TO ps := by
  induction ps with
  | nil => exact ⟨rfl, rfl, rfl, rfl⟩
  | cons p ps ih =>
    obtain ⟨i1, i2, i3, i4⟩ := ih
    simp only [cS, cC, cD, cL, loseN, List.map_cons, List.countP_cons] at *
    rw [i1, i2, i3, i4]
    by_cases h : p.gone = 0 ∧ p.t = TO
    · simp [lostTo, h]; omega
    · have h2 : decide (p.gone = 0 ∧ p.t = TO) = false := by simpa using h
      rw [show lostTo TO p = p by simp [lostTo, h], h2]
      simp
      omega
/-- The numbers under way among the first ones, rising. -/
def upK (ps : List PK) (i : Nat) : List Int := (List.range i).filterMap fun (j : Nat) => if und ps ((j : Int) + 1) then some ((j : Int) + 1) else none
def up (ps : List PK) : List Int := upK ps ps.length
theorem upK_succ (ps : List PK) (i : Nat) : upK ps (i + 1) = upK ps i ++ (if und ps ((i : Int) + 1) then [(i : Int) + 1] else []) := by
  unfold upK
  rw [List.range_succ, List.filterMap_append]
  by_cases h : und ps ((i : Int) + 1) = true <;> simp [h]
theorem upK_le (ps : List PK) (i n : Nat) (h : i ≤ n) : ∃ r, upK ps n = upK ps i ++ r := by
  induction n with
  | zero =>
    obtain rfl : i = 0 := by omega
    exact ⟨[], by simp⟩
  | succ n ih =>
    by_cases e : i = n + 1
    · subst e; exact ⟨[], by simp⟩
    · obtain ⟨r, hr⟩ := ih (by omega)
      exact ⟨_, by rw [upK_succ, hr, List.append_assoc]⟩
theorem up_at (ps : List PK) (i : Nat) (hi : i < ps.length) (hu : und ps ((i : Int) + 1) = true) : (up ps)[(upK ps i).length]? = some ((i : Int) + 1) := by
  obtain ⟨r, hr⟩ := upK_le ps (i + 1) ps.length (by omega)
  unfold up
  rw [hr, upK_succ, if_pos hu]
  simp
theorem upK_len (ps : List PK) (i : Nat) (hi : i ≤ ps.length) : (upK ps i).length ≤ (up ps).length := by
  obtain ⟨r, hr⟩ := upK_le ps i ps.length hi
  unfold up
  rw [hr]
  simp
theorem upK_short (ps : List PK) (i : Nat) : (upK ps i).length ≤ i := by
  unfold upK
  have := List.length_filterMap_le (fun (j : Nat) => if und ps ((j : Int) + 1) then some ((j : Int) + 1) else none) (List.range i)
  simpa using this
theorem up_mem (ps : List PK) (x : Int) : x ∈ up ps ↔ und ps x = true := by
  unfold up upK
  simp only [List.mem_filterMap, List.mem_range]
  constructor
  · rintro ⟨j, _, h⟩
    split at h
    · next hu => cases h; exact hu
    · cases h
  · intro h
    obtain ⟨k, p, rfl, hp, _⟩ := und_some h
    have := (List.getElem?_eq_some_iff.1 hp).1
    exact ⟨k, this, by rw [if_pos h]⟩
theorem up_rise (ps : List PK) : (up ps).Pairwise (· < ·) := by
  unfold up upK
  refine List.Pairwise.filterMap _ (R := fun a b : Nat => a < b) ?_ (List.pairwise_lt_range)
  intro a b hab c hc d hd
  split at hc
  · split at hd
    · cases hc; cases hd; omega
    · cases hd
  · cases hc
theorem up_sorted {ss : List Int} (ps : List PK) (h : ss.Perm (up ps)) : ss.mergeSort (fun x y => decide (x ≤ y)) = up ps := by
  have tr : ∀ a b c : Int, leI a b = true → leI b c = true → leI a c = true := fun a b c h1 h2 => by simp only [leI, decide_eq_true_eq] at *; exact Int.le_trans h1 h2
  have TO : ∀ a b : Int, (leI a b || leI b a) = true := fun a b => by simp only [leI, Bool.or_eq_true, decide_eq_true_eq]; exact Int.le_total a b
  refine List.Perm.eq_of_pairwise (le := fun a b => leI a b = true) (fun a b _ _ h1 h2 => ?_) (List.pairwise_mergeSort tr TO ss) ?_ ((List.mergeSort_perm ss leI).trans h)
  · simp only [leI, decide_eq_true_eq] at h1 h2
    exact Int.le_antisymm h1 h2
  · exact (up_rise ps).imp (fun h => by simp only [leI, decide_eq_true_eq]; omega)
theorem up_perm {P : Program} {k : TypeId} {R : Value → Option (DataW PV × List MemPlace)} {w : World} {b n : Nat} {D : DataW PV} (ps : List PK) (hown : w.ownsMap P k R b n D) (K : Keyed P k) (hk : P.underlying k = some (.int .i64)) (hh : ∀ z : Int, has D (.int .i64 z) = und ps z) : (up ps).Perm (intKeys D) :=
  CollectedI.perm (left := fun _ => false) ⟨(up_rise ps).imp (fun h => by omega), fun x => by rw [up_mem, hh]; simp⟩ hown K hk (fun _ => rfl)
/-- Those of which the loop has met all but what is left. -/
def lp (TO : Int) (left : Lit → Bool) (ps : List PK) : List PK := ps.mapIdx fun k p => if left (.int .i64 ((k : Int) + 1)) then p else lostTo TO p
theorem lp_len (TO : Int) (left : Lit → Bool) (ps : List PK) : (lp TO left ps).length = ps.length := by simp [lp]
theorem lp_at (TO : Int) (left : Lit → Bool) (ps : List PK) (k : Nat) : (lp TO left ps)[k]? = ps[k]?.map fun p => if left (.int .i64 ((k : Int) + 1)) then p else lostTo TO p := by simp [lp]
theorem lost_gone {TO : Int} {p : PK} (h : p.gone ≠ 0) : lostTo TO p = p := by simp [lostTo, h]
theorem lost_other {TO : Int} {p : PK} (h : p.t ≠ TO) : lostTo TO p = p := by simp [lostTo, h]
theorem lp_start (TO : Int) (left : Lit → Bool) (ps : List PK) (h : ∀ z : Int, left (.int .i64 z) = und ps z) : lp TO left ps = ps := by
  refine List.ext_getElem? fun k => ?_
  rw [lp_at]
  cases e : ps[k]? with
  | none => rfl
  | some p =>
    simp only [Option.map_some, Option.some.injEq]
    rw [h, und_nat, e]
    by_cases hp : p.gone = 0
    · simp [hp]
    · simp [lost_gone hp]
theorem lp_end (TO : Int) (left : Lit → Bool) (ps : List PK) (h : ∀ kl, left kl = false) : lp TO left ps = ps.map (lostTo TO) := by
  refine List.ext_getElem? fun k => ?_
  rw [lp_at, List.getElem?_map]
  simp [h]
theorem lp_met (TO : Int) (left : Lit → Bool) (ps : List PK) (k : Nat) (p : PK) (hk : ps[k]? = some p) : lp TO (fun z => left z && !z.sameKey (.int .i64 ((k : Int) + 1))) ps = (lp TO left ps).set k (lostTo TO p) := by
  have hkl := (List.getElem?_eq_some_iff.1 hk).1
  refine List.ext_getElem? fun j => ?_
  rw [lp_at, List.getElem?_set, lp_at]
  by_cases e : k = j
  · subst e
    rw [if_pos rfl, if_pos (by rw [lp_len]; exact hkl), hk]
    simp [Lit.sameKey]
  · rw [if_neg e]
    have : (Lit.int .i64 ((j : Int) + 1)).sameKey (.int .i64 ((k : Int) + 1)) = false := sameKey_ne (fun e2 => e (by injection e2; omega))
    simp [this]
end Go.Proofs.Ytedmhpplhbaglaa
