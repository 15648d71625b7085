import Derived.Test.YthccbfgjekdiiaaDoorPk3
import Derived.Test.YthccbfgjekdiiaaDoorSlq
import Derived.Deep.RegionHeld3
import Derived.Laws.StructEq
namespace Go.Proofs.YthccbfgjekdiiaaDoor

theorem sm_wid (wi : Nat) (h1 : 1 ≤ wi) (h2 : wi ≤ 32) (m : List Nat) : (sm (wi : Int) m).length = wi := by
  have := sm_len (i := (wi : Int)) (m := m) ⟨by omega, by omega⟩
  simpa using this
theorem nd_len (wi : Nat) (h1 : 1 ≤ wi) (h2 : wi ≤ 32) (a b : List Nat) : (nd (wi : Int) a b).length = wi := sm_wid wi h1 h2 _
theorem lf_len (wi : Nat) (h1 : 1 ≤ wi) (h2 : wi ≤ 32) (a : List Nat) : (lf (wi : Int) a).length = wi := sm_wid wi h1 h2 _
/-- The entries from f on, n of them. -/
def blk (L : List (List Nat)) (f n : Nat) : List (List Nat) := (L.drop f).take n
/-- The first c roots of 2^h entries each, one behind the other. -/
def rowOf (wi : Nat) (L : List (List Nat)) (h c : Nat) : List Nat := ((List.range c).map fun j => mth wi (blk L (j * 2 ^ h) (2 ^ h))).flatten
theorem blk_len (L : List (List Nat)) (f n : Nat) (h : f + n ≤ L.length) : (blk L f n).length = n := by rw [blk, List.length_take, List.length_drop]; omega
theorem blk_app (L M : List (List Nat)) (f n : Nat) (h : f + n ≤ L.length) : blk (L ++ M) f n = blk L f n := by
  rw [blk, blk, List.drop_append_of_le_length (by omega), List.take_append_of_le_length (by rw [List.length_drop]; omega)]
theorem blk_take (L : List (List Nat)) (f n k : Nat) (h : k ≤ n) : (blk L f n).take k = blk L f k := by
  rw [blk, blk, List.take_take, Nat.min_eq_left h]
theorem blk_drop (L : List (List Nat)) (f n k : Nat) : (blk L f n).drop k = blk L (f + k) (n - k) := by
  rw [blk, blk, List.drop_take, List.drop_drop]
theorem blk_mem (L : List (List Nat)) (f n : Nat) : ∀ p ∈ blk L f n, p ∈ L := fun _ h => List.mem_of_mem_drop (List.mem_of_mem_take h)
theorem blk_all (L : List (List Nat)) : blk L 0 L.length = L := by rw [blk, List.drop_zero, List.take_length]
theorem mth_wid (wi : Nat) (h1 : 1 ≤ wi) (h2 : wi ≤ 32) (ps : List (List Nat)) (h : ∀ p ∈ ps, p.length = wi) : (mth wi ps).length = wi := by
  by_cases h3 : ps.length < 2
  · match ps, h3 with
    | [], _ => rw [mth_nil]; exact sm_wid wi h1 h2 _
    | [p], _ => rw [mth_one]; exact h p (by simp)
  · rw [mth_two _ _ (by omega)]; exact nd_len wi h1 h2 _ _
theorem rowOf_succ (wi : Nat) (L : List (List Nat)) (h c : Nat) : rowOf wi L h (c + 1) = rowOf wi L h c ++ mth wi (blk L (c * 2 ^ h) (2 ^ h)) := by
  rw [rowOf, List.range_succ, List.map_append, List.flatten_append, rowOf]; simp
theorem rowOf_len (wi : Nat) (h1 : 1 ≤ wi) (h2 : wi ≤ 32) (L : List (List Nat)) (hL : ∀ p ∈ L, p.length = wi) (h c : Nat) : (rowOf wi L h c).length = c * wi := by
  induction c with
  | zero => simp [rowOf]
  | succ c ih => rw [rowOf_succ, List.length_append, ih, mth_wid wi h1 h2 _ (fun p hp => hL p (blk_mem _ _ _ p hp)), Nat.succ_mul]
theorem rowOf_app (wi : Nat) (L M : List (List Nat)) (h c : Nat) (hc : c * 2 ^ h ≤ L.length) : rowOf wi (L ++ M) h c = rowOf wi L h c := by
  induction c with
  | zero => rfl
  | succ c ih =>
    have : (c + 1) * 2 ^ h = c * 2 ^ h + 2 ^ h := Nat.succ_mul _ _
    have hp : 0 < 2 ^ h := Nat.pow_pos (by decide)
    rw [rowOf_succ, rowOf_succ, ih (by omega), blk_app _ _ _ _ (by omega)]
theorem rwt_row (wi : Nat) (h1 : 1 ≤ wi) (h2 : wi ≤ 32) (L : List (List Nat)) (hL : ∀ p ∈ L, p.length = wi) (h c j : Nat) (hj : j < c) : rwt wi (rowOf wi L h c) j = mth wi (blk L (j * 2 ^ h) (2 ^ h)) := by
  induction c with
  | zero => omega
  | succ c ih =>
    have hw := mth_wid wi h1 h2 (blk L (c * 2 ^ h) (2 ^ h)) (fun p hp => hL p (blk_mem _ _ _ p hp))
    have hl := rowOf_len wi h1 h2 L hL h c
    rw [rowOf_succ, rwt]
    by_cases e : j = c
    · subst e
      rw [List.drop_append, hl, Nat.sub_self, List.drop_zero, List.drop_of_length_le (by omega), List.nil_append, List.take_of_length_le (by omega)]
    · have hjc : j < c := by omega
      have : (j + 1) * wi ≤ c * wi := Nat.mul_le_mul_right _ (by omega)
      have e1 : (j + 1) * wi = j * wi + wi := Nat.succ_mul _ _
      rw [List.drop_append_of_le_length (by omega), List.take_append_of_le_length (by rw [List.length_drop]; omega)]
      exact ih hjc
theorem mth_dbl (wi : Nat) (L : List (List Nat)) (f h : Nat) (hf' : f + 2 ^ (h + 1) ≤ L.length) : mth wi (blk L f (2 ^ (h + 1))) = nd wi (mth wi (blk L f (2 ^ h))) (mth wi (blk L (f + 2 ^ h) (2 ^ h))) := by
  have hp : 0 < 2 ^ h := Nat.pow_pos (by decide)
  have e : 2 ^ (h + 1) = 2 * 2 ^ h := by rw [Nat.pow_succ, Nat.mul_comm]
  have hl := blk_len L f (2 ^ (h + 1)) hf'
  rw [mth_two _ _ (by omega), hl, hf_uniq (2 ^ (h + 1)) h (by omega) (by omega), blk_take _ _ _ _ (by omega), blk_drop, e, show 2 * 2 ^ h - 2 ^ h = 2 ^ h by omega]
/-- The rows of a tree of leaves, from the height h on. -/
structure RowsOf (wi : Nat) (L : List (List Nat)) (h : Nat) (rs : List (List Nat)) : Prop where
  row : ∀ k, k < rs.length → rs[k]? = some (rowOf wi L (h + k) (L.length / 2 ^ (h + k)))
  all : L.length < 2 ^ (h + rs.length)
  few : rs = [] ∨ 2 ^ (h + rs.length) ≤ 2 * L.length
theorem div_dvd_succ (n d : Nat) (hd : 0 < d) (h : d ∣ n + 1) : (n + 1) / d = n / d + 1 := by
  obtain ⟨q, hq⟩ := h
  have hq0 : 0 < q := by
    rcases Nat.eq_zero_or_pos q with e | e
    · subst e; omega
    · exact e
  have e1 : (n + 1) / d = q := by rw [hq]; exact Nat.mul_div_cancel_left _ hd
  have e2 : n / d = q - 1 := by
    have e3 : d * q = d * (q - 1) + d := by
      have : q = (q - 1) + 1 := by omega
      conv => lhs; rw [this, Nat.mul_add, Nat.mul_one]
    have e4 : n = d * (q - 1) + (d - 1) := by omega
    rw [e4, Nat.mul_add_div hd, Nat.div_eq_of_lt (by omega), Nat.add_zero]
  omega
theorem div_ndvd_succ (n d : Nat) (h : ¬ d ∣ n + 1) : (n + 1) / d = n / d := by
  rw [Nat.succ_div, if_neg h]; rfl
theorem kpb_rows (wi : Nat) (h1 : 1 ≤ wi) (h2 : wi ≤ 32) (L : List (List Nat)) (r0 : List Nat) (hL : ∀ p ∈ L ++ [r0], p.length = wi) : ∀ (rs : List (List Nat)) (h : Nat) (r : List Nat), RowsOf wi L h rs → 2 ^ h ∣ L.length + 1 → r = mth wi (blk (L ++ [r0]) (L.length + 1 - 2 ^ h) (2 ^ h)) → RowsOf wi (L ++ [r0]) h (kpb wi rs r) := by
  have hl' : (L ++ [r0]).length = L.length + 1 := by simp
  intro rs
  induction rs with
  | nil =>
    intro h r hR hd hr
    have hle : 2 ^ h ≤ L.length + 1 := Nat.le_of_dvd (by omega) hd
    have hall := hR.all
    have e : L.length + 1 = 2 ^ h := by simp at hall; omega
    have e2 : 2 ^ (h + 1) = 2 * 2 ^ h := by rw [Nat.pow_succ, Nat.mul_comm]
    rw [kpb]
    refine ⟨fun k hk => ?_, by rw [hl', List.length_singleton]; omega, .inr (by rw [hl', List.length_singleton]; omega)⟩
    have hk0 : k = 0 := by simp at hk; omega
    subst hk0
    have hp : 0 < 2 ^ h := Nat.pow_pos (by decide)
    rw [Nat.add_zero, hl', e, Nat.div_self hp, rowOf_succ, hr, e, Nat.sub_self]
    simp [rowOf]
  | cons row rest ih =>
    intro h r hR hd hr
    have hp : 0 < 2 ^ h := Nat.pow_pos (by decide)
    have e2 : 2 ^ (h + 1) = 2 * 2 ^ h := by rw [Nat.pow_succ, Nat.mul_comm]
    have hrow : row = rowOf wi L h (L.length / 2 ^ h) := by
      have := hR.row 0 (by simp)
      simpa using this
    have hdv := div_dvd_succ L.length (2 ^ h) hp hd
    obtain ⟨q, hq⟩ := hd
    have hq1 : (L.length + 1) / 2 ^ h = q := by rw [hq]; exact Nat.mul_div_cancel_left _ hp
    have hq0 : 1 ≤ q := by rw [← hq1, hdv]; exact Nat.le_add_left _ _
    have hqn : L.length / 2 ^ h = q - 1 := by rw [← hq1, hdv]; rfl
    have e3 : (q - 1) * 2 ^ h + 2 ^ h = L.length + 1 := by
      have : (q - 1) * 2 ^ h + 2 ^ h = ((q - 1) + 1) * 2 ^ h := (Nat.succ_mul _ _).symm
      rw [this, show q - 1 + 1 = q by omega, hq, Nat.mul_comm]
    have hrr : row ++ r = rowOf wi (L ++ [r0]) h q := by
      conv => rhs; rw [show q = (q - 1) + 1 by omega, rowOf_succ]
      rw [rowOf_app _ _ _ _ _ (by omega), hrow, hqn, hr]
      congr 3
      omega
    have hlen : (row ++ r).length / wi = q := by
      rw [hrr, rowOf_len wi h1 h2 _ hL]; exact Nat.mul_div_cancel _ h1
    rw [kpb, hlen]
    by_cases hc : q % 2 = 0
    · rw [if_pos hc]
      have hd2 : 2 ^ (h + 1) ∣ L.length + 1 := ⟨q / 2, by
        rw [hq, e2, Nat.mul_comm 2, Nat.mul_assoc]
        congr 1
        omega⟩
      have hle2 : 2 ^ (h + 1) ≤ L.length + 1 := Nat.le_of_dvd (by omega) hd2
      have hq2 : 2 ≤ q := by omega
      have e4 : (q - 2) * 2 ^ h + 2 ^ h = (q - 1) * 2 ^ h := by rw [← Nat.succ_mul]; congr 1; omega
      have hr' : nd wi (rwt wi (row ++ r) (q - 2)) (rwt wi (row ++ r) (q - 1)) = mth wi (blk (L ++ [r0]) (L.length + 1 - 2 ^ (h + 1)) (2 ^ (h + 1))) := by
        rw [hrr, rwt_row wi h1 h2 _ hL _ _ _ (by omega), rwt_row wi h1 h2 _ hL _ _ _ (by omega), mth_dbl wi _ _ h (by rw [hl']; omega)]
        congr 3 <;> omega
      have hI := ih (h + 1) _ ⟨fun k hk => by
          have := hR.row (k + 1) (by simp; omega)
          rw [List.getElem?_cons_succ] at this
          rw [this, show h + (k + 1) = h + 1 + k by omega], by
          have := hR.all
          rw [List.length_cons, show h + (rest.length + 1) = h + 1 + rest.length by omega] at this
          exact this, by
          rcases hR.few with e | e
          · cases e
          · right
            rw [List.length_cons, show h + (rest.length + 1) = h + 1 + rest.length by omega] at e
            exact e⟩ hd2 hr'
      refine ⟨fun k hk => ?_, ?_, .inr ?_⟩
      · match k with
        | 0 => rw [List.getElem?_cons_zero, hrr, Nat.add_zero, hl', hq1]
        | k + 1 =>
          rw [List.getElem?_cons_succ, hI.row k (by simp at hk; omega), show h + (k + 1) = h + 1 + k by omega]
      · have := hI.all
        rw [List.length_cons, show h + ((kpb wi rest (nd wi (rwt wi (row ++ r) (q - 2)) (rwt wi (row ++ r) (q - 1)))).length + 1) = h + 1 + (kpb wi rest (nd wi (rwt wi (row ++ r) (q - 2)) (rwt wi (row ++ r) (q - 1)))).length by omega]
        exact this
      · rcases hI.few with e | e
        · exfalso
          cases rest <;> (rw [kpb] at e; try split at e) <;> cases e
        · rw [List.length_cons, show h + ((kpb wi rest (nd wi (rwt wi (row ++ r) (q - 2)) (rwt wi (row ++ r) (q - 1)))).length + 1) = h + 1 + (kpb wi rest (nd wi (rwt wi (row ++ r) (q - 2)) (rwt wi (row ++ r) (q - 1)))).length by omega]
          exact e
    · rw [if_neg hc]
      have hnd : ∀ k, ¬ 2 ^ (h + (k + 1)) ∣ L.length + 1 := fun k hk => by
        have h3 : 2 ^ (h + 1) ∣ L.length + 1 := Nat.dvd_trans (Nat.pow_dvd_pow 2 (by omega)) hk
        obtain ⟨z, hz⟩ := h3
        have : 2 ^ h * q = 2 ^ h * (2 * z) := by rw [← hq, hz, e2, Nat.mul_comm 2, Nat.mul_assoc]
        have := Nat.eq_of_mul_eq_mul_left hp this
        omega
      refine ⟨fun k hk => ?_, ?_, .inr ?_⟩
      · match k with
        | 0 => rw [List.getElem?_cons_zero, hrr, Nat.add_zero, hl', hq1]
        | k + 1 =>
          have := hR.row (k + 1) (by simpa using hk)
          rw [List.getElem?_cons_succ] at this ⊢
          rw [this, hl', div_ndvd_succ _ _ (hnd k), rowOf_app _ _ _ _ _ (Nat.div_mul_le_self _ _)]
      · have h3 := hR.all
        have h4 := hnd rest.length
        rw [hl', List.length_cons]
        rw [List.length_cons] at h3
        rcases Nat.lt_or_ge (L.length + 1) (2 ^ (h + (rest.length + 1))) with h5 | h5
        · exact h5
        · exfalso
          apply h4
          rw [show L.length + 1 = 2 ^ (h + (rest.length + 1)) by omega]
          exact Nat.dvd_refl _
      · rcases hR.few with e | e
        · cases e
        · rw [hl']; simp only [List.length_cons] at e ⊢; omega
theorem rows_nil (wi : Nat) : RowsOf wi [] 0 [] := ⟨fun k hk => by simp at hk, by simp, .inl rfl⟩
/-- A row of a tree's. -/
theorem RowsOf.at_ {wi : Nat} {L rs : List (List Nat)} (h : RowsOf wi L 0 rs) (k : Nat) (hk : 2 ^ k ≤ L.length) : k < rs.length ∧ rs[k]? = some (rowOf wi L k (L.length / 2 ^ k)) := by
  have h1 := h.all
  have h2 : k < rs.length := by
    apply Classical.byContradiction
    intro hc
    have : 2 ^ (0 + rs.length) ≤ 2 ^ k := Nat.pow_le_pow_right (by decide) (by omega)
    omega
  refine ⟨h2, ?_⟩
  have := h.row k h2
  rwa [Nat.zero_add] at this
theorem blk_halves (L : List (List Nat)) (f n : Nat) (h2 : 2 ≤ n) (hl : f + n ≤ L.length) (wi : Nat) : mth wi (blk L f n) = nd wi (mth wi (blk L f (hf n))) (mth wi (blk L (f + hf n) (n - hf n))) := by
  have hlen := blk_len L f n hl
  have := hf_lt n h2
  rw [mth_two _ _ (by omega), hlen, blk_take _ _ _ _ (by omega), blk_drop]
/-- The roots of the halves left aside on the way from a part down to another. -/
def bes (wi : Nat) (L : List (List Nat)) (f n tf tn : Nat) : List (List Nat) :=
  if _h : (f = tf ∧ n = tn) ∨ n < 2 then []
  else if tf < f + hf n then bes wi L f (hf n) tf tn ++ [mth wi (blk L (f + hf n) (n - hf n))]
  else bes wi L (f + hf n) (n - hf n) tf tn ++ [mth wi (blk L f (hf n))]
termination_by n
decreasing_by
  · exact hf_lt n (by omega)
  · have := hf_pos n; omega
/-- Is a part found by halving another? -/
def Rch (f n tf tn : Nat) : Prop :=
  if _e : f = tf ∧ n = tn then True
  else if _h : n < 2 then False
  else if tf < f + hf n then Rch f (hf n) tf tn
  else Rch (f + hf n) (n - hf n) tf tn
termination_by n
decreasing_by
  · exact hf_lt n (by omega)
  · have := hf_pos n; omega
/-- How many halvings lead to it. -/
def dep (f n tf tn : Nat) : Nat :=
  if _h : (f = tf ∧ n = tn) ∨ n < 2 then 0
  else if tf < f + hf n then dep f (hf n) tf tn + 1
  else dep (f + hf n) (n - hf n) tf tn + 1
termination_by n
decreasing_by
  · exact hf_lt n (by omega)
  · have := hf_pos n; omega
/-- The root of a part as it comes out of another's root and the halves aside. -/
def topv (wi : Nat) (r : List Nat) (f n tf tn : Nat) (path : List (List Nat)) : List Nat :=
  if _h : (f = tf ∧ n = tn) ∨ n < 2 then r
  else if tf < f + hf n then nd wi (topv wi r f (hf n) tf tn path.dropLast) (path.getLastD [])
  else nd wi (path.getLastD []) (topv wi r (f + hf n) (n - hf n) tf tn path.dropLast)
termination_by n
decreasing_by
  · exact hf_lt n (by omega)
  · have := hf_pos n; omega
theorem bes_eq (wi : Nat) (L : List (List Nat)) (f n : Nat) : bes wi L f n f n = [] := by rw [bes, dif_pos (.inl ⟨rfl, rfl⟩)]
theorem bes_l {wi : Nat} {L : List (List Nat)} {f n tf tn : Nat} (h2 : 2 ≤ n) (hne : ¬ (f = tf ∧ n = tn)) (hlt : tf < f + hf n) : bes wi L f n tf tn = bes wi L f (hf n) tf tn ++ [mth wi (blk L (f + hf n) (n - hf n))] := by
  conv => lhs; rw [bes, dif_neg (by omega), if_pos hlt]
theorem bes_r {wi : Nat} {L : List (List Nat)} {f n tf tn : Nat} (h2 : 2 ≤ n) (hne : ¬ (f = tf ∧ n = tn)) (hlt : ¬ tf < f + hf n) : bes wi L f n tf tn = bes wi L (f + hf n) (n - hf n) tf tn ++ [mth wi (blk L f (hf n))] := by
  conv => lhs; rw [bes, dif_neg (by omega), if_neg hlt]
theorem rch_ne {f n tf tn : Nat} (h : Rch f n tf tn) (hne : ¬ (f = tf ∧ n = tn)) : 2 ≤ n ∧ (tf < f + hf n → Rch f (hf n) tf tn) ∧ (¬ tf < f + hf n → Rch (f + hf n) (n - hf n) tf tn) := by
  rw [Rch, dif_neg hne] at h
  by_cases h2 : n < 2
  · rw [dif_pos h2] at h; exact h.elim
  · rw [dif_neg h2] at h
    refine ⟨by omega, fun hl => by rwa [if_pos hl] at h, fun hl => by rwa [if_neg hl] at h⟩
theorem rch_refl (f n : Nat) : Rch f n f n := by rw [Rch, dif_pos ⟨rfl, rfl⟩]; trivial
theorem rch_one (m : Nat) : ∀ f n i, n ≤ m → f ≤ i → i < f + n → Rch f n i 1 := by
  induction m with
  | zero => intro f n i h1 h2 h3; omega
  | succ m ih =>
    intro f n i h1 h2 h3
    by_cases e : f = i ∧ n = 1
    · rw [Rch, dif_pos e]; trivial
    · have hlt := hf_lt n (by omega)
      have hp := hf_pos n
      rw [Rch, dif_neg e, dif_neg (by omega)]
      split
      · exact ih _ _ _ (by omega) h2 (by omega)
      · exact ih _ _ _ (by omega) (by omega) (by omega)
theorem dep_eq (f n : Nat) : dep f n f n = 0 := by rw [dep, dif_pos (.inl ⟨rfl, rfl⟩)]
theorem dep_l {f n tf tn : Nat} (h2 : 2 ≤ n) (hne : ¬ (f = tf ∧ n = tn)) (hlt : tf < f + hf n) : dep f n tf tn = dep f (hf n) tf tn + 1 := by
  conv => lhs; rw [dep, dif_neg (by omega), if_pos hlt]
theorem dep_r {f n tf tn : Nat} (h2 : 2 ≤ n) (hne : ¬ (f = tf ∧ n = tn)) (hlt : ¬ tf < f + hf n) : dep f n tf tn = dep (f + hf n) (n - hf n) tf tn + 1 := by
  conv => lhs; rw [dep, dif_neg (by omega), if_neg hlt]
theorem bes_len (wi : Nat) (L : List (List Nat)) (m : Nat) : ∀ f n tf tn, n ≤ m → (bes wi L f n tf tn).length = dep f n tf tn := by
  induction m with
  | zero => intro f n tf tn h; rw [bes, dep, dif_pos (by omega), dif_pos (by omega)]; rfl
  | succ m ih =>
    intro f n tf tn h
    by_cases e : (f = tf ∧ n = tn) ∨ n < 2
    · rw [bes, dep, dif_pos e, dif_pos e]; rfl
    · have hlt := hf_lt n (by omega)
      have hp := hf_pos n
      by_cases hl : tf < f + hf n
      · rw [bes_l (by omega) (by omega) hl, dep_l (by omega) (by omega) hl, List.length_append, ih _ _ _ _ (by omega)]; rfl
      · rw [bes_r (by omega) (by omega) hl, dep_r (by omega) (by omega) hl, List.length_append, ih _ _ _ _ (by omega)]; rfl
theorem topv_eq (wi : Nat) (r : List Nat) (f n : Nat) (p : List (List Nat)) : topv wi r f n f n p = r := by rw [topv, dif_pos (.inl ⟨rfl, rfl⟩)]
theorem topv_l {wi : Nat} {r : List Nat} {f n tf tn : Nat} {p : List (List Nat)} (h2 : 2 ≤ n) (hne : ¬ (f = tf ∧ n = tn)) (hlt : tf < f + hf n) : topv wi r f n tf tn p = nd wi (topv wi r f (hf n) tf tn p.dropLast) (p.getLastD []) := by
  conv => lhs; rw [topv, dif_neg (by omega), if_pos hlt]
theorem topv_r {wi : Nat} {r : List Nat} {f n tf tn : Nat} {p : List (List Nat)} (h2 : 2 ≤ n) (hne : ¬ (f = tf ∧ n = tn)) (hlt : ¬ tf < f + hf n) : topv wi r f n tf tn p = nd wi (p.getLastD []) (topv wi r (f + hf n) (n - hf n) tf tn p.dropLast) := by
  conv => lhs; rw [topv, dif_neg (by omega), if_neg hlt]
/-- What is told is taken. -/
theorem topv_bes (wi : Nat) (L : List (List Nat)) (m : Nat) : ∀ f n tf tn, n ≤ m → f + n ≤ L.length → Rch f n tf tn → topv wi (mth wi (blk L tf tn)) f n tf tn (bes wi L f n tf tn) = mth wi (blk L f n) := by
  induction m with
  | zero =>
    intro f n tf tn h _ hr
    by_cases e : f = tf ∧ n = tn
    · rw [e.1, e.2, topv_eq]
    · have := (rch_ne hr e).1; omega
  | succ m ih =>
    intro f n tf tn h hL hr
    by_cases e : f = tf ∧ n = tn
    · rw [e.1, e.2, topv_eq]
    · obtain ⟨h2, r1, r2⟩ := rch_ne hr e
      have hlt := hf_lt n h2
      have hp := hf_pos n
      rw [blk_halves L f n h2 hL]
      by_cases hl : tf < f + hf n
      · rw [topv_l h2 e hl, bes_l h2 e hl]
        simp only [List.dropLast_concat, List.getLastD_concat]
        rw [ih _ _ _ _ (by omega) (by omega) (r1 hl)]
      · rw [topv_r h2 e hl, bes_r h2 e hl]
        simp only [List.dropLast_concat, List.getLastD_concat]
        rw [ih _ _ _ _ (by omega) (by omega) (r2 hl)]
/-- The path of a leaf. -/
def pth (wi : Nat) (ls : List (List Nat)) (i : Nat) : List (List Nat) :=
  if _h : ls.length < 2 then []
  else if i < hf ls.length then pth wi (ls.take (hf ls.length)) i ++ [mth wi (ls.drop (hf ls.length))]
  else pth wi (ls.drop (hf ls.length)) (i - hf ls.length) ++ [mth wi (ls.take (hf ls.length))]
termination_by ls.length
decreasing_by
  · rw [List.length_take]; have := hf_lt ls.length (by omega); omega
  · rw [List.length_drop]; have := hf_pos ls.length; omega
theorem pth_short (wi : Nat) (ls : List (List Nat)) (i : Nat) (h : ls.length < 2) : pth wi ls i = [] := by rw [pth, dif_pos h]
theorem pth_l {wi : Nat} {ls : List (List Nat)} {i : Nat} (h : 2 ≤ ls.length) (hi : i < hf ls.length) : pth wi ls i = pth wi (ls.take (hf ls.length)) i ++ [mth wi (ls.drop (hf ls.length))] := by
  conv => lhs; rw [pth, dif_neg (by omega), if_pos hi]
theorem pth_r {wi : Nat} {ls : List (List Nat)} {i : Nat} (h : 2 ≤ ls.length) (hi : ¬ i < hf ls.length) : pth wi ls i = pth wi (ls.drop (hf ls.length)) (i - hf ls.length) ++ [mth wi (ls.take (hf ls.length))] := by
  conv => lhs; rw [pth, dif_neg (by omega), if_neg hi]
theorem bes_pth (wi : Nat) (L : List (List Nat)) (m : Nat) : ∀ f n i, n ≤ m → f + n ≤ L.length → f ≤ i → i < f + n → bes wi L f n i 1 = pth wi (blk L f n) (i - f) := by
  induction m with
  | zero => intro f n i h _ h1 h2; omega
  | succ m ih =>
    intro f n i h hL h1 h2
    have hlen := blk_len L f n hL
    by_cases e : n < 2
    · have e1 : n = 1 := by omega
      have e2 : f = i := by omega
      rw [pth_short _ _ _ (by omega), e1, e2, bes_eq]
    · have hlt := hf_lt n (by omega)
      have hp := hf_pos n
      by_cases hl : i < f + hf n
      · rw [bes_l (by omega) (by omega) hl, pth_l (by omega) (by rw [hlen]; omega), hlen, blk_take _ _ _ _ (by omega), blk_drop, ih _ _ _ (by omega) (by omega) h1 hl]
      · rw [bes_r (by omega) (by omega) hl, pth_r (by omega) (by rw [hlen]; omega), hlen, blk_take _ _ _ _ (by omega), blk_drop, ih _ _ _ (by omega) (by omega) (by omega) (by omega), Nat.sub_sub]
end Go.Proofs.YthccbfgjekdiiaaDoor

namespace Go.Proofs.YthccbfgjekdiiaaDoor
open Go.RowKit

/-- The count of a tree written. -/
theorem TrAt.setN {w : World} {base tb : Nat} {wi : Int} {n : Nat} {xo : Option Addr} {cp : Nat} {vs : List Value} {rs : List (List Nat)} (h : TrAt w base tb wi n xo cp vs rs) (m : Nat) :
    TrAt (w.setCell ⟨tb, 1, none⟩ (.int .i64 (m : Int))) base tb wi m xo cp vs rs := by
  have hne := h.ne
  refine ⟨h.lo, ?_, ownsRow_of_block h.own (fun q hq => heap_setCell_other _ _ _ _ ?_), h.len, fun j v r hv hr => ?_, h.apart, h.byt⟩
  · rw [heap_setCell_same _ _ _ _ _ _ h.obj]; rfl
  · rcases h.own.2 with ⟨e, _⟩ | ⟨g', cap, cur, e, _⟩
    · rw [e] at hq; cases hq
    · rw [e] at hq
      simp only [Value.ownBlock, Option.some.injEq] at hq
      simp only [Value.slice.injEq] at e
      exact hne.1 q 0 (by rw [e.1, hq])
  · obtain ⟨ao, c, e, hO⟩ := h.row j v r hv hr
    exact ⟨ao, c, e, ownsRow_of_block hO (fun q hq => heap_setCell_other _ _ _ _ (hne.2 v (List.mem_of_getElem? hv) q (by rw [e]; exact hq)).1)⟩
set_option maxRecDepth 100000 in
set_option maxHeartbeats 1000000 in
/-- Tree.Add, where the width may be. -/
theorem add_in (wi : Nat) (hw1 : 1 ≤ wi) (hw32 : wi ≤ 32) (base tb n : Nat) (hbase : 6 ≤ base) (w : World) (xo : Option Addr) (cp : Nat) (vs : List Value) (rs : List (List Nat)) (x : Value) (e : List Nat) (hT : TrAt w base tb wi n xo cp vs rs) (hg : GS w)
    (hx : Sl w x e) (he : e.length ≤ 16000000) (hrs : ∀ (j : Nat) row, rs[j]? = some row → (∃ q, row.length = q * wi) ∧ row.length ≤ 1000000000000) (hN : rs.length < 1000) (hn : n < 4611686018427387904) :
    Calls Tryd.prog 22 #[.pointer (some ⟨tb, 0, none⟩), x] w fun e' w' => e' = .returned (.int .i64 n) ∧ ∃ xo' cp' vs', TrAt w' base tb wi (n + 1) xo' cp' vs' (kpb wi rs (lf wi e)) ∧ Fr (TOwn tb xo vs) w w' ∧ ∀ k, TOwn tb xo' vs' k → TOwn tb xo vs k ∨ w.heap.size ≤ k := by
  have hleaf := leaf_any (wi : Int) x e w hg hx he
  have hll := lf_len wi hw1 hw32 e
  rw [hll] at hleaf
  have hkeep : ∀ w' yo, OB w w' yo wi (lf wi e) → Calls Tryd.prog 51 #[.pointer (some ⟨tb, 0, none⟩), .int .i64 0, .slice yo wi wi] w' fun e' w'' => e' = .returned (.tuple #[]) ∧ ∃ xo' cp' vs', TrAt w'' base tb wi n xo' cp' vs' (kpb wi rs (lf wi e)) ∧ Fr (TOwn tb xo vs) w w'' ∧ ∀ k, TOwn tb xo' vs' k → TOwn tb xo vs k ∨ w.heap.size ≤ k := fun w' yo hO => by
    have hT' := hT.fr hO.fr (fun _ _ h => h)
    have := keep_any wi hw1 hw32 base tb n rs.length hbase hN rs.length 0 (by omega) w' xo cp vs rs yo wi (lf wi e) rfl hT' (hg.fr0 hO.fr) (fun w'' hf => by
      have hs := hO.src
      rw [hll] at hs
      refine hs.fr hf (fun g' o' m' c'' e hO' => ?_)
      have h1 := hO.own.lt g' (by rw [hll, e]; rfl)
      have h2 := (hT.lt g' hO').2
      omega) hll (lf_lt _ _) (fun j row _ hrow => hrs j row hrow)
    refine this.mono ?_
    rintro e' w'' ⟨rfl, xo', cp', vs', h1, h2, h3⟩
    refine ⟨rfl, xo', cp', vs', by simpa using h1, ?_, fun k hk => ?_⟩
    · exact (hO.fr.mono (T := TOwn tb xo vs) (fun _ _ h => h.elim)).trans h2 (fun _ _ h => h)
    · rcases h3 k hk with h4 | h4
      · exact .inl h4
      · exact .inr (Nat.le_trans hO.fr.size h4)
  obtain ⟨c0, c1, c2, hfz, htb⟩ := hT.cells
  have HG := hide (And.intro hleaf hkeep)
  have hm : 1 ≤ (wi : Int) ∧ (wi : Int) ≤ 32 := by omega
  have HM := hide hm
  obtain ⟨xo1, xc1, rfl⟩ := hx.form
  clear hleaf hkeep hT hg hx he hrs hN hm hll c1 c2 hfz
  generalize e.length = E at *
  generalize lf (wi : Int) e = R at *
  have w1 : IntKind.i64.wrap ((n : Int) + 1) = (n : Int) + 1 := by rw [IntKind.wrap_i64]; omega
  have w2 : IntKind.i64.wrap ((n : Int) + 1 - 1) = (n : Int) := by rw [IntKind.wrap_i64]; omega
  go_enter Tryd.func22, Tryd.ntmps22
  go_wp2_with (go_at_call 26; refine (maybe_any wi _).mono ?_; rintro e' w' ⟨rfl, hw'⟩; rw [hw', decide_eq_true (unhide HM)])
  refine (unhide HG).1.mono ?_
  rintro e' wA ⟨yo, rfl, hO⟩
  have HA := hide hO
  clear hO
  go_wp2_with fail
  refine ((unhide HG).2 wA yo (unhide HA)).mono ?_
  rintro e' wB ⟨rfl, xo', cp', vs', hT', hF', hO'⟩
  obtain ⟨d0, d1, d2, dz, dl⟩ := hT'.cells
  have d1z := dz 1
  have hTN := hT'.setN (n + 1)
  have hFN := hF'.setCell (p := ⟨tb, 1, none⟩) (.inl (.inl rfl)) (.int .i64 ((n + 1 : Nat) : Int))
  have eN : ((n + 1 : Nat) : Int) = (n : Int) + 1 := by omega
  rw [eN] at hTN hFN
  have HB := hide (And.intro hTN (And.intro hFN hO'))
  clear hTN hFN hO' hT' hF' dz eN d0 d2
  go_wp2_with fail
  go_ret
  exact ⟨rfl, xo', cp', vs', (unhide HB).1, (unhide HB).2.1, (unhide HB).2.2⟩
set_option maxRecDepth 100000 in
/-- Tree.Add, where the width may not be. -/
theorem add_out (i : Int) (hi : i < 1 ∨ 32 < i) (base tb n : Nat) (w : World) (xo : Option Addr) (cp : Nat) (vs : List Value) (rs : List (List Nat)) (x : Value) (hT : TrAt w base tb i n xo cp vs rs) (hn : n < 4611686018427387904) :
    Calls Tryd.prog 22 #[.pointer (some ⟨tb, 0, none⟩), x] w fun e' w' => e' = .returned (.int .i64 n) ∧ TrAt w' base tb i (n + 1) xo cp vs rs ∧ Fr (TOwn tb xo vs) w w' := by
  obtain ⟨c0, c1, c2, hfz, htb⟩ := hT.cells
  have hm : ¬ (1 ≤ i ∧ i ≤ 32) := by omega
  have HM := hide hm
  have hTN := hT.setN (n + 1)
  have hFN := (Fr.refl (TOwn tb xo vs) w).setCell (p := ⟨tb, 1, none⟩) (.inl (.inl rfl)) (.int .i64 ((n + 1 : Nat) : Int))
  have eN : ((n + 1 : Nat) : Int) = (n : Int) + 1 := by omega
  rw [eN] at hTN hFN
  have HB := hide (And.intro hTN hFN)
  have d1z := hfz 1
  clear hTN hFN hT hfz hm eN c2
  have w1 : IntKind.i64.wrap ((n : Int) + 1) = (n : Int) + 1 := by rw [IntKind.wrap_i64]; omega
  have w2 : IntKind.i64.wrap ((n : Int) + 1 - 1) = (n : Int) := by rw [IntKind.wrap_i64]; omega
  go_enter Tryd.func22, Tryd.ntmps22
  go_wp2_with (go_at_call 26; refine (maybe_any i _).mono ?_; rintro e' w' ⟨rfl, hw'⟩; rw [hw', decide_eq_false (unhide HM)])
  go_ret
  exact ⟨rfl, (unhide HB).1, (unhide HB).2⟩
theorem RowsOf.small {wi : Nat} {L rs : List (List Nat)} (h : RowsOf wi L 0 rs) (h1 : 1 ≤ wi) (h2 : wi ≤ 32) (hL : ∀ p ∈ L, p.length = wi) (hn : L.length ≤ 8000000) : (∀ (j : Nat) row, rs[j]? = some row → (∃ q, row.length = q * wi) ∧ row.length ≤ 1000000000000) ∧ rs.length < 1000 := by
  refine ⟨fun j row hr => ?_, ?_⟩
  · have hj : j < rs.length := (List.getElem?_eq_some_iff.1 hr).1
    have := h.row j hj
    rw [hr, Nat.zero_add] at this
    have e : row = rowOf wi L j (L.length / 2 ^ j) := Option.some.inj this
    rw [e, rowOf_len wi h1 h2 L hL]
    refine ⟨⟨_, rfl⟩, ?_⟩
    have h3 : L.length / 2 ^ j ≤ 8000000 := Nat.le_trans (Nat.div_le_self _ _) hn
    have h4 := Nat.mul_le_mul h3 h2
    omega
  · rcases h.few with e | e
    · rw [e]; simp
    · apply Classical.byContradiction
      intro hc
      have : 2 ^ 25 ≤ 2 ^ (0 + rs.length) := Nat.pow_le_pow_right (by decide) (by omega)
      have h5 : (2 : Nat) ^ 25 = 33554432 := by decide
      omega
/-- A row of a tree is there behind one entry more. -/
theorem RowsOf.add {wi : Nat} {L rs : List (List Nat)} (h : RowsOf wi L 0 rs) (h1 : 1 ≤ wi) (h2 : wi ≤ 32) (r : List Nat) (hL : ∀ p ∈ L ++ [r], p.length = wi) : RowsOf wi (L ++ [r]) 0 (kpb wi rs r) :=
  kpb_rows wi h1 h2 L r hL rs 0 r h (Nat.one_dvd _) (by
    have : blk (L ++ [r]) (L.length + 1 - 2 ^ 0) (2 ^ 0) = [r] := by
      rw [blk, show L.length + 1 - 2 ^ 0 = L.length by simp, List.drop_left]
      rfl
    rw [this, mth_one])
theorem map_lf_len (wi : Nat) (h1 : 1 ≤ wi) (h2 : wi ≤ 32) (es : List (List Nat)) : ∀ p ∈ es.map (lf (wi : Int)), p.length = wi := fun p hp => by
  obtain ⟨e, _, rfl⟩ := List.mem_map.1 hp
  exact lf_len wi h1 h2 e
set_option maxRecDepth 100000 in
set_option maxHeartbeats 1000000 in
/-- merkle.grown, where the width may be. -/
theorem grown_in (wi : Nat) (hw1 : 1 ≤ wi) (hw32 : wi ≤ 32) (x : Value) (us : List Value) (es : List (List Nat)) (w : World) (hg : GS w) (hp : Pcs w x us es) (hB : ∀ e ∈ es, e.length ≤ 16000000) (hn : es.length ≤ 8000000) :
    Calls Tryd.prog 19 #[.int .i64 wi, x] w fun e w' => e = .returned (.pointer (some ⟨w.heap.size, 0, none⟩)) ∧ ∃ xo cp vs rs, TrAt w' w.heap.size w.heap.size wi es.length xo cp vs rs ∧ RowsOf wi (es.map (lf wi)) 0 rs ∧ Fr (fun _ => False) w w' := by
  obtain ⟨xo1, xc1, rfl⟩ := hp.form
  have HG := hide (And.intro hg (And.intro hp (And.intro hB hn)))
  clear hg hp hB hn
  generalize hN : es.length = N at *
  obtain ⟨TB, hTB⟩ : ∃ TB, w.heap.size = TB := ⟨_, rfl⟩
  have HTB := hide hTB
  go_enter Tryd.func19, Tryd.ntmps19
  go_wp2_with fail
  refine (mnew_any wi w).mono ?_
  rintro e w1 ⟨rfl, hT1, hF1⟩
  rw [hTB] at hT1 ⊢
  have H1 := hide (And.intro hT1 hF1)
  clear hT1 hF1 hTB
  go_wp2_with fail
  go_loopw [12] (fun iv wr => ∃ (k : Nat) (xo : Option Addr) (cp : Nat) (vs : List Value) (rs : List (List Nat)), k ≤ N ∧ iv = .int .i64 (k : Nat) ∧ TrAt wr TB TB wi k xo cp vs rs ∧ RowsOf wi ((es.take k).map (lf wi)) 0 rs ∧ Fr (fun _ => False) w wr) (fun iv _ => N - (intOf iv).toNat)
  case atStart => exact ⟨0, none, 0, [], [], Nat.zero_le _, rfl, (unhide H1).1, rows_nil wi, (unhide H1).2⟩
  case round =>
    obtain ⟨k, xo, cp, vs, rs, hk, rfl, hT, hR, hF⟩ := hrel
    have hN8 := (unhide HG).2.2.2
    by_cases hlt : k < N
    · have hlt' : (k : Int) < (N : Int) := by omega
      have hke : k < es.length := by omega
      obtain ⟨g, o, v, rfl, hcell, hsrc, hcap, hltv, hgl⟩ := (unhide HG).2.1.cell hF k hke
      have hsl : Sl wr v es[k] := ⟨hsrc, hcap, hltv.imp id (fun hh g o n c e => Nat.lt_of_lt_of_le (hh g o n c e) hF.size), (unhide HG).2.1.byt es[k] (List.getElem_mem hke)⟩
      have hLk : ((es.take k).map (lf wi)).length = k := by rw [List.length_map, List.length_take]; omega
      obtain ⟨hs1, hs2⟩ := hR.small hw1 hw32 (map_lf_len wi hw1 hw32 _) (by omega)
      have hbase : 6 ≤ TB := by rw [← unhide HTB]; exact (unhide HG).1.1.2
      have hadd := add_in wi hw1 hw32 TB TB k hbase wr xo cp vs rs v es[k] hT ((unhide HG).1.fr0 hF) hsl ((unhide HG).2.2.1 es[k] (List.getElem_mem hke)) hs1 hs2 (by omega)
      have htk : (es.take (k + 1)).map (lf wi) = (es.take k).map (lf wi) ++ [lf wi es[k]] := by
        rw [List.take_add_one, List.getElem?_eq_getElem hke, Option.toList_some, List.map_append]; rfl
      have hR2 := hR.add hw1 hw32 (lf wi es[k]) (by rw [← htk]; exact map_lf_len wi hw1 hw32 _)
      rw [← htk] at hR2
      have hown : ∀ k, TOwn TB xo vs k → TB ≤ k := fun j hj => (hT.lt j hj).1
      obtain ⟨vo, vc, rfl⟩ := hsl.form
      have HI := hide (And.intro hadd (And.intro hR2 (And.intro hF hown)))
      clear hadd hR2 hF hsl hsrc hcap hltv hT hR hs1 hs2 htk hLk hbase hown
      generalize es[k].length = EL at *
      go_wp2_with fail
      refine (unhide HI).1.mono ?_
      rintro e w2 ⟨rfl, xo', cp', vs', hT2, hF2, hO2⟩
      have hF3 : Fr (fun _ => False) w w2 := (unhide HI).2.2.1.trans hF2 (fun j hj hO => by have h1 := (unhide HI).2.2.2 j hO; have h2 := unhide HTB; omega)
      have H2 := hide (And.intro hT2 hF3)
      clear hT2 hF2 hO2 hF3
      go_wp2_with fail
      exact ⟨⟨k + 1, xo', cp', vs', _, by omega, by go_num, (unhide H2).1, (unhide HI).2.1, (unhide H2).2⟩, by simp [intOf]; omega⟩
    · have hkN : k = N := by omega
      have hlt' : ¬ (k : Int) < (N : Int) := by omega
      have htk : es.take k = es := List.take_of_length_le (by omega)
      rw [htk] at hR
      have HI := hide (And.intro hT (And.intro hR (And.intro hF hkN)))
      clear hT hR hF hkN htk
      go_wp2_with fail
      go_ret
      obtain ⟨h1, h2, h3, h4⟩ := unhide HI
      subst h4
      rw [unhide HTB]
      exact ⟨rfl, xo, cp, vs, rs, h1, h2, h3⟩
set_option maxRecDepth 100000 in
set_option maxHeartbeats 1000000 in
/-- merkle.grown, where the width may not be. -/
theorem grown_out (i : Int) (hi : i < 1 ∨ 32 < i) (x : Value) (us : List Value) (es : List (List Nat)) (w : World) (hp : Pcs w x us es) (hn : es.length ≤ 8000000) :
    Calls Tryd.prog 19 #[.int .i64 i, x] w fun e w' => e = .returned (.pointer (some ⟨w.heap.size, 0, none⟩)) ∧ TrAt w' w.heap.size w.heap.size i es.length none 0 [] [] ∧ Fr (fun _ => False) w w' := by
  obtain ⟨xo1, xc1, rfl⟩ := hp.form
  have HG := hide (And.intro hi (And.intro hp hn))
  clear hp hn hi
  generalize hN : es.length = N at *
  obtain ⟨TB, hTB⟩ : ∃ TB, w.heap.size = TB := ⟨_, rfl⟩
  have HTB := hide hTB
  go_enter Tryd.func19, Tryd.ntmps19
  go_wp2_with fail
  refine (mnew_any i w).mono ?_
  rintro e w1 ⟨rfl, hT1, hF1⟩
  rw [hTB] at hT1 ⊢
  have H1 := hide (And.intro hT1 hF1)
  clear hT1 hF1 hTB
  go_wp2_with fail
  go_loopw [12] (fun iv wr => ∃ (k : Nat), k ≤ N ∧ iv = .int .i64 (k : Nat) ∧ TrAt wr TB TB i k none 0 [] [] ∧ Fr (fun _ => False) w wr) (fun iv _ => N - (intOf iv).toNat)
  case atStart => exact ⟨0, Nat.zero_le _, rfl, (unhide H1).1, (unhide H1).2⟩
  case round =>
    obtain ⟨k, hk, rfl, hT, hF⟩ := hrel
    have hN8 := (unhide HG).2.2
    by_cases hlt : k < N
    · have hlt' : (k : Int) < (N : Int) := by omega
      have hke : k < es.length := by omega
      obtain ⟨g, o, v, rfl, hcell, hsrc, hcap, hltv, hgl⟩ := (unhide HG).2.1.cell hF k hke
      have hadd := add_out i (unhide HG).1 TB TB k wr none 0 [] [] v hT (by omega)
      have hown : ∀ k, TOwn TB none [] k → TB ≤ k := fun j hj => (hT.lt j hj).1
      obtain ⟨vo, vc, rfl⟩ := hsrc.form
      have HI := hide (And.intro hadd (And.intro hF hown))
      clear hadd hF hsrc hcap hltv hT hown
      generalize es[k].length = EL at *
      go_wp2_with fail
      refine (unhide HI).1.mono ?_
      rintro e w2 ⟨rfl, hT2, hF2⟩
      have hF3 : Fr (fun _ => False) w w2 := (unhide HI).2.1.trans hF2 (fun j hj hO => by have h1 := (unhide HI).2.2 j hO; have h2 := unhide HTB; omega)
      have H2 := hide (And.intro hT2 hF3)
      clear hT2 hF2 hF3
      go_wp2_with fail
      exact ⟨⟨k + 1, by omega, by go_num, (unhide H2).1, (unhide H2).2⟩, by simp [intOf]; omega⟩
    · have hkN : k = N := by omega
      have hlt' : ¬ (k : Int) < (N : Int) := by omega
      have HI := hide (And.intro hT (And.intro hF hkN))
      clear hT hF hkN
      go_wp2_with fail
      go_ret
      obtain ⟨h1, h3, h4⟩ := unhide HI
      subst h4
      rw [unhide HTB]
      exact ⟨rfl, h1, h3⟩
end Go.Proofs.YthccbfgjekdiiaaDoor

namespace Go.Proofs.YthccbfgjekdiiaaDoor
open Go.RowKit

theorem Ow.sl {w : World} {base : Nat} {bo : Option Addr} {c : Nat} {p : List Nat} (h : Ow w base bo c p) (hb : ∀ v ∈ p, v < 256) : Sl w (.slice bo p.length c) p := by
  refine ⟨h.src, fun _ _ _ e => ?_, .inr (fun g o n c' e => ?_), hb⟩
  · cases e
    rcases h.2 with ⟨e1, e2⟩ | ⟨g, cap, cur, e1, _, _, h3, _⟩
    · omega
    · simp only [Value.slice.injEq, true_and] at e1
      rw [e1.2]; exact h3
  · simp only [Value.slice.injEq] at e
    obtain ⟨rfl, _⟩ := e
    exact (World.ownsRow.lt h g rfl).2
/-- The cells of a slice of slices. -/
def SS (w : World) (x : Value) (us : List Value) : Prop :=
  ((x = .slice none 0 0 ∧ us = []) ∨ (∃ a c, x = .slice (some a) 0 c ∧ us = []) ∨ ∃ g o c, x = .slice (some ⟨g, o, none⟩) us.length c ∧ ∀ (j : Nat) u, us[j]? = some u → w.cell? ⟨g, o + j, none⟩ = some u) ∧ ∀ u ∈ us, ∃ a n c, u = .slice a n c
theorem own_form2 {w : World} {base n : Nat} {v : Value} {xs : List Value} (h : w.ownsRow base 25 1 v n xs) : ∃ ao cap, v = .slice ao n cap := by
  rcases h.2 with ⟨rfl, rfl⟩ | ⟨g, cap, cur, rfl, _⟩
  · exact ⟨none, 0, rfl⟩
  · exact ⟨some ⟨g, 0, none⟩, cap, rfl⟩
theorem SS.one {w : World} {x : Value} {us : List Value} (h : SS w x us) : ∀ u ∈ us, u.oneCell' = true := fun u hu => by
  obtain ⟨a, n, c, rfl⟩ := h.2 u hu
  rfl
theorem add_at2 (g o j : Nat) : (⟨g, o, none⟩ : Addr).add j = ⟨g, o + j, none⟩ := by unfold Addr.add; split <;> simp_all
/-- append(v, x...) of slices of bytes. -/
theorem run_app_ss (w : World) (base n : Nat) (v x : Value) (xs us : List Value) (hown : w.ownsRow base 25 1 v n xs) (hx : SS w x us) (hb : n + us.length ≤ 1000000000) (hbase : base ≤ w.heap.size) :
    ∃ ao cap w', (Builtin.append_ #[22, 22] 22 #[v, x]).run Tryd.prog w = .ok (.slice ao (n + us.length) cap) w' ∧ w'.ownsRow base 25 1 (.slice ao (n + us.length) cap) (n + us.length) (xs ++ us) ∧ w.grownBy w' v.ownBlock ∧
      ((Value.slice ao (n + us.length) cap).ownBlock = v.ownBlock ∨ (Value.slice ao (n + us.length) cap).ownBlock = some w.heap.size) := by
  obtain ⟨i0, hi, hz0, hz1, hz2⟩ := info_parts Tryd.infoSl
  have hone := hx.one
  rcases hx.1 with ⟨rfl, rfl⟩ | ⟨ad, c, rfl, rfl⟩ | ⟨g, o, c, rfl, hc⟩
  · have hr := run_append_owned_none (P := Tryd.prog) w base 22 22 25 i0 1 Tryd.underlying22 hi v n xs hown
    obtain ⟨ao, cap, rfl⟩ := own_form2 hown
    exact ⟨ao, cap, w, by simpa using hr, by simpa using hown, ⟨rfl, rfl, rfl, Nat.le_refl _, fun _ _ _ => rfl⟩, .inl rfl⟩
  · obtain ⟨v', w', hr, h2, h3, _, h5⟩ := run_append_own_at (P := Tryd.prog) w base 22 22 25 i0 (.slice none 0 0) 1 24 Tryd.underlying22 hi hz0 hz1 hz2 rfl (by decide) v n xs hown ad 0 c [] rfl (fun j u hu => by simp at hu) (fun u hu => by simp at hu) (by simp only [maxLen]; simp at hb; omega) (by simp at hb; omega) hbase
    obtain ⟨ao, cap, rfl⟩ := own_form2 h2
    exact ⟨ao, cap, w', hr, h2, h3, h5⟩
  · obtain ⟨v', w', hr, h2, h3, _, h5⟩ := run_append_own_at (P := Tryd.prog) w base 22 22 25 i0 (.slice none 0 0) 1 24 Tryd.underlying22 hi hz0 hz1 hz2 rfl (by decide) v n xs hown ⟨g, o, none⟩ us.length c us (by simp) (fun j u hu => by
        rw [add_at2]; exact hc j u hu) hone (by simp only [maxLen]; omega) (by omega) hbase
    obtain ⟨ao, cap, rfl⟩ := own_form2 h2
    exact ⟨ao, cap, w', hr, h2, h3, h5⟩
/-- A row of slices and a row of bytes lie in two blocks. -/
theorem own_ne {w : World} {base base' n m : Nat} {x y : Value} {vs cs : List Value} (ho : w.ownsRow base 25 1 x n vs) (hi : w.ownsRow base' 5 1 y m cs) : ∀ g, x.ownBlock = some g → y.ownBlock = some g → False := fun g hx hy => by
  rcases ho.2 with ⟨e, _⟩ | ⟨g1, cap, cur, e, _, h1, _⟩
  · rw [e] at hx; cases hx
  · rcases hi.2 with ⟨e', _⟩ | ⟨g2, cap', cur', e', _, h2, _⟩
    · rw [e'] at hy; cases hy
    · rw [e] at hx
      rw [e'] at hy
      simp only [Value.ownBlock, Option.some.injEq] at hx hy
      rw [hx] at h1
      rw [hy, h1] at h2
      simp at h2
/-- Hashes of one's own in a slice of one's own, each in memory of its own. -/
structure OL (w wr : World) (ao : Option Addr) (cp : Nat) (vs : List Value) (ps : List (List Nat)) : Prop where
  own : OS w wr ao cp vs
  len : vs.length = ps.length
  row : ∀ (j : Nat) v p, vs[j]? = some v → ps[j]? = some p → ∃ bo c, v = .slice bo p.length c ∧ Ow wr w.heap.size bo c p
  apart : ∀ (j j' : Nat) v v' g g', j ≠ j' → vs[j]? = some v → vs[j']? = some v' → v.ownBlock = some g → v'.ownBlock = some g' → g ≠ g'
  byt : ∀ p ∈ ps, ∀ u ∈ p, u < 256
theorem OL.nil (w : World) : OL w w none 0 [] [] := ⟨OS.nil w, rfl, fun j v p h => by simp at h, fun j j' v v' g g' _ h => by simp at h, fun p h => by simp at h⟩
theorem OL.fr0 {w wr wq : World} {ao : Option Addr} {cp : Nat} {vs : List Value} {ps : List (List Nat)} (h : OL w wr ao cp vs ps) (hf : Fr (fun _ => False) wr wq) : OL w wq ao cp vs ps :=
  ⟨h.own.fr0 hf, h.len, fun j v p hv hp => by
    obtain ⟨bo, c, e, hO⟩ := h.row j v p hv hp
    exact ⟨bo, c, e, hO.fr0 hf⟩, h.apart, h.byt⟩
theorem OL.pcs {w wr : World} {ao : Option Addr} {cp : Nat} {vs : List Value} {ps : List (List Nat)} (h : OL w wr ao cp vs ps) : Pcs wr (.slice ao vs.length cp) vs ps :=
  h.own.pcs h.len (fun j v p hv hp => by
    obtain ⟨bo, c, rfl, hO⟩ := h.row j v p hv hp
    exact hO.sl (h.byt p (List.mem_of_getElem? hp)))
theorem OL.slices {w wr : World} {ao : Option Addr} {cp : Nat} {vs : List Value} {ps : List (List Nat)} (h : OL w wr ao cp vs ps) : ∀ u ∈ vs, ∃ a n c, u = .slice a n c := fun u hu => by
  obtain ⟨j, hj, rfl⟩ := List.getElem_of_mem hu
  obtain ⟨bo, c, e, _⟩ := h.row j vs[j] (ps[j]'(by have := h.len; omega)) (List.getElem?_eq_getElem hj) (List.getElem?_eq_getElem _)
  exact ⟨bo, _, c, e⟩
theorem OL.ss {w wr : World} {ao : Option Addr} {cp : Nat} {vs : List Value} {ps : List (List Nat)} (h : OL w wr ao cp vs ps) : SS wr (.slice ao vs.length cp) vs := by
  refine ⟨?_, h.slices⟩
  rcases h.pcs.at_ with h1 | h1 | ⟨g, o, c, e, _, hc⟩
  · exact .inl h1
  · exact .inr (.inl h1)
  · exact .inr (.inr ⟨g, o, c, e, hc⟩)
theorem OL.inner_lt {w wr : World} {ao : Option Addr} {cp : Nat} {vs : List Value} {ps : List (List Nat)} (h : OL w wr ao cp vs ps) : ∀ v ∈ vs, ∀ g, v.ownBlock = some g → w.heap.size ≤ g ∧ g < wr.heap.size := fun v hv g hg => by
  obtain ⟨j, hj, rfl⟩ := List.getElem_of_mem hv
  obtain ⟨bo, c, e, hO⟩ := h.row j vs[j] (ps[j]'(by have := h.len; omega)) (List.getElem?_eq_getElem hj) (List.getElem?_eq_getElem _)
  rw [e] at hg
  exact World.ownsRow.lt hO g hg
theorem OL.cap {w wr : World} {ao : Option Addr} {cp : Nat} {vs : List Value} {ps : List (List Nat)} (h : OL w wr ao cp vs ps) : vs.length ≤ cp := by
  rcases h.own.own.2 with ⟨e, e2⟩ | ⟨g, cap, cur, e, _, _, h3, _⟩
  · omega
  · simp only [Value.slice.injEq, true_and] at e
    rw [e.2]; exact h3
/-- More hashes behind them. -/
theorem OL.add {w wr : World} {ao : Option Addr} {cp : Nat} {vs : List Value} {ps : List (List Nat)} (h : OL w wr ao cp vs ps) (x : Value) (us : List Value) (qs : List (List Nat)) (hx : SS wr x us) (hl : us.length = qs.length)
    (hrow : ∀ (j : Nat) v p, us[j]? = some v → qs[j]? = some p → ∃ bo c, v = .slice bo p.length c ∧ Ow wr w.heap.size bo c p)
    (hap : ∀ (j j' : Nat) v v' g g', j ≠ j' → us[j]? = some v → us[j']? = some v' → v.ownBlock = some g → v'.ownBlock = some g' → g ≠ g')
    (hcr : ∀ v ∈ vs, ∀ u ∈ us, ∀ g, v.ownBlock = some g → u.ownBlock = some g → False) (hb : ∀ p ∈ qs, ∀ u ∈ p, u < 256) (hn : vs.length + us.length ≤ 1000000000) :
    ∃ ao' cp' w2, (Builtin.append_ #[22, 22] 22 #[.slice ao vs.length cp, x]).run Tryd.prog wr = .ok (.slice ao' (vs.length + us.length) cp') w2 ∧ OL w w2 ao' cp' (vs ++ us) (ps ++ qs) := by
  obtain ⟨ao', cp', w2, hr, hown, hg, hat⟩ := run_app_ss wr w.heap.size vs.length _ x vs us h.own.own hx hn h.own.fr.size
  have hF : Fr (fun k => (Value.slice ao vs.length cp).ownBlock = some k) wr w2 := (Fr.refl _ _).grown hg (fun g hg => .inl hg)
  have hpass : ∀ {bo : Option Addr} {c : Nat} {p : List Nat}, Ow wr w.heap.size bo c p → Ow w2 w.heap.size bo c p := fun {bo c p} hO => by
    refine ownsRow_of_block hO (fun g hg => hF.block g (World.ownsRow.lt hO g hg).2 (fun e => own_ne h.own.own hO g e hg))
  refine ⟨ao', cp', w2, hr, ⟨by rw [List.length_append]; exact hown, h.own.fr.grown hg (fun g hg => .inr (h.own.own.lt g hg).1)⟩, by rw [List.length_append, List.length_append, h.len, hl], fun j v p hv hp => ?_, fun j j' v v' g g' hj hv hv' hg hg' => ?_, fun p hp => ?_⟩
  · by_cases hjl : j < vs.length
    · rw [List.getElem?_append_left hjl] at hv
      rw [List.getElem?_append_left (by rw [← h.len]; exact hjl)] at hp
      obtain ⟨bo, c, e, hO⟩ := h.row j v p hv hp
      exact ⟨bo, c, e, hpass hO⟩
    · rw [List.getElem?_append_right (by omega)] at hv
      rw [List.getElem?_append_right (by rw [← h.len]; omega), ← h.len] at hp
      obtain ⟨bo, c, e, hO⟩ := hrow _ v p hv hp
      exact ⟨bo, c, e, hpass hO⟩
  · by_cases hjl : j < vs.length
    · rw [List.getElem?_append_left hjl] at hv
      by_cases hjl' : j' < vs.length
      · rw [List.getElem?_append_left hjl'] at hv'
        exact h.apart j j' v v' g g' hj hv hv' hg hg'
      · rw [List.getElem?_append_right (by omega)] at hv'
        intro e
        subst e
        exact hcr v (List.mem_of_getElem? hv) v' (List.mem_of_getElem? hv') g hg hg'
    · rw [List.getElem?_append_right (by omega)] at hv
      by_cases hjl' : j' < vs.length
      · rw [List.getElem?_append_left hjl'] at hv'
        intro e
        subst e
        exact hcr v' (List.mem_of_getElem? hv') v (List.mem_of_getElem? hv) g hg' hg
      · rw [List.getElem?_append_right (by omega)] at hv'
        exact hap _ _ v v' g g' (by omega) hv hv' hg hg'
  · rcases List.mem_append.1 hp with hp | hp
    · exact h.byt p hp
    · exact hb p hp
/-- One hash more. -/
theorem OL.step {w wr w1 : World} {ao : Option Addr} {cp : Nat} {vs : List Value} {ps : List (List Nat)} (h : OL w wr ao cp vs ps) (l : List Nat) (yo : Option Addr) (yc : Nat) (hO : OB wr w1 yo yc l) (hb : ∀ v ∈ l, v < 256) (hn : vs.length < 16000000) :
    ∃ ao' cp' w2, (Builtin.append_ #[22, 22] 22 #[.slice ao vs.length cp, .slice (some ⟨w1.heap.size, 0, none⟩) 1 1]).run Tryd.prog (w1.alloc (.cells #[.slice yo l.length yc] 25)) = .ok (.slice ao' (vs.length + 1) cp') w2 ∧ OL w w2 ao' cp' (vs ++ [.slice yo l.length yc]) (ps ++ [l]) := by
  have hFa : Fr (fun _ => False) wr (w1.alloc (.cells #[.slice yo l.length yc] 25)) := hO.fr.alloc _
  have h1 := h.fr0 hFa
  refine h1.add (.slice (some ⟨w1.heap.size, 0, none⟩) 1 1) [.slice yo l.length yc] [l] ⟨.inr (.inr ⟨w1.heap.size, 0, 1, rfl, fun j u hu => ?_⟩), fun u hu => ?_⟩ rfl (fun j v p hv hp => ?_) (fun j j' v v' g g' hj hv hv' => ?_) (fun v hv u hu g hg hg' => ?_) (fun p hp => ?_) (by simp; omega)
  · rw [World.cell?_alloc_at _ _ _ _ (by simp)]
    match j with
    | 0 => simpa using hu
    | j + 1 => simp at hu
  · simp at hu; subst hu; exact ⟨_, _, _, rfl⟩
  · match j with
    | 0 =>
      simp at hv hp
      subst hv hp
      exact ⟨yo, yc, rfl, (hO.ow.base h.own.fr.size).fr0 ((Fr.refl _ _).alloc _)⟩
    | j + 1 => simp at hv
  · match j, j' with
    | 0, 0 => exact absurd rfl hj
    | j + 1, _ => simp at hv
    | 0, j' + 1 => simp at hv'
  · simp at hu
    subst hu
    have h2 := (h.inner_lt v hv g hg).2
    have h3 := (World.ownsRow.lt hO.own g hg').1
    omega
  · simp at hp; subst hp; exact hb
/-- Hashes behind hashes. -/
theorem OL.cat {w wr w1 : World} {ao bo : Option Addr} {cp bc : Nat} {vs us : List Value} {ps qs : List (List Nat)} (h : OL w wr ao cp vs ps) (k : OL wr w1 bo bc us qs) (hn : vs.length + us.length ≤ 1000000000) :
    ∃ ao' cp' w2, (Builtin.append_ #[22, 22] 22 #[.slice ao vs.length cp, .slice bo us.length bc]).run Tryd.prog w1 = .ok (.slice ao' (vs.length + us.length) cp') w2 ∧ OL w w2 ao' cp' (vs ++ us) (ps ++ qs) := by
  refine (h.fr0 k.own.fr).add _ us qs k.ss k.len (fun j v p hv hp => ?_) k.apart (fun v hv u hu g hg hg' => ?_) k.byt hn
  · obtain ⟨b, c, e, hO⟩ := k.row j v p hv hp
    exact ⟨b, c, e, hO.base h.own.fr.size⟩
  · have h2 := (h.inner_lt v hv g hg).2
    have h3 := (k.inner_lt u hu g hg').1
    omega
theorem OB.base' {w0 w wr : World} {xo : Option Addr} {cp : Nat} {l : List Nat} (h : OB w wr xo cp l) (hf : Fr (fun _ => False) w0 w) : OB w0 wr xo cp l := ⟨h.ow.base hf.size, hf.trans h.fr (fun _ _ h => h)⟩
theorem OL.base {w0 w wr : World} {ao : Option Addr} {cp : Nat} {vs : List Value} {ps : List (List Nat)} (h : OL w wr ao cp vs ps) (hf : Fr (fun _ => False) w0 w) : OL w0 wr ao cp vs ps := by
  refine ⟨⟨?_, hf.trans h.own.fr (fun _ _ h => h)⟩, h.len, fun j v p hv hp => ?_, h.apart, h.byt⟩
  · refine ⟨h.own.own.1, ?_⟩
    rcases h.own.own.2 with h0 | ⟨g, cap, cur, e1, e2, e3⟩
    · exact .inl h0
    · exact .inr ⟨g, cap, cur, e1, Nat.le_trans hf.size e2, e3⟩
  · obtain ⟨bo, c, e, hO⟩ := h.row j v p hv hp
    exact ⟨bo, c, e, hO.base hf.size⟩
end Go.Proofs.YthccbfgjekdiiaaDoor

namespace Go.Proofs.YthccbfgjekdiiaaDoor
open Go.RowKit

/-- The table of bits.TrailingZeros64. -/
def GT (w : World) : Prop := TabAt 4 Lib.deBruijn64tab w ∧ 6 ≤ w.heap.size
theorem GT.fr {w w' : World} {S : Nat → Prop} (h : GT w) (hf : Fr S w w') (hS : ∀ k, k < 6 → ¬ S k) : GT w' :=
  ⟨fun j hj => (hf.cell (p := ⟨4, j, none⟩) (Nat.lt_of_lt_of_le (show 4 < 6 by decide) h.2) (hS _ (show 4 < 6 by decide))).trans (h.1 j hj), Nat.le_trans h.2 hf.size⟩
theorem GT.fr0 {w w' : World} (h : GT w) (hf : Fr (fun _ => False) w w') : GT w' := h.fr hf (fun _ _ h => h)
theorem ctz_pow (k : Nat) (hk : k < 64) : Lib.ctz 64 (2 ^ k) = k := by
  have : ∀ k : Fin 64, Lib.ctz 64 (2 ^ k.val) = k.val := by decide +kernel
  exact this ⟨k, hk⟩
/-- bytes.Clone. -/
theorem clone_any (g o n c : Nat) (l : List Nat) (w : World) (h : Sl w (.slice (some ⟨g, o, none⟩) n c) l) (hl : l.length = n) (hn : n ≤ 1000000000) :
    Calls Tryd.prog 79 #[.slice (some ⟨g, o, none⟩) n c] w fun e w' => ∃ yo yc, e = .returned (.slice yo n yc) ∧ OB w w' yo yc l := by
  refine (clone_at ⟨g, o, none⟩ n c (l.map fun v : Nat => (v : Int)) w (by simp [hl]) (by omega) (fun i hi => ?_)).mono ?_
  · obtain ⟨g', o', e, hc⟩ := src_cell h.s i (by omega) h.b
    simp only [Option.some.injEq, Addr.mk.injEq, and_true] at e
    obtain ⟨rfl, rfl⟩ := e
    rw [add_at2, hc]
    simp [List.getD, List.getElem?_eq_getElem (show i < l.length by omega)]
  · rintro e w' ⟨v', rfl, hO, _, hB⟩
    obtain ⟨ao, cap, rfl⟩ := own_form hO
    refine ⟨ao, cap, rfl, ?_, ⟨hB.os, hB.tape, hB.output, hB.size, fun k hk _ => hB.block k hk⟩⟩
    have e : (l.map fun v : Nat => (v : Int)).map (Value.int .u8) = cellsOf l := by
      rw [List.map_map, cellsOf]
      apply List.map_congr_left
      intro c hc
      simp [B, Nat.mod_eq_of_lt (h.b c hc)]
    rw [e] at hO
    rw [hl]
    exact hO
/-- A tree that is known: its leaves. -/
structure Tk (w : World) (tb wi : Nat) (L : List (List Nat)) : Prop where
  at_ : ∃ base xo cp vs rs, TrAt w base tb wi L.length xo cp vs rs ∧ RowsOf wi L 0 rs
  gs : GS w
  gt : GT w
  wid : ∀ p ∈ L, p.length = wi
  byt : ∀ p ∈ L, ∀ v ∈ p, v < 256
  len : L.length ≤ 8000000
theorem Tk.fr0 {w w' : World} {tb wi : Nat} {L : List (List Nat)} (h : Tk w tb wi L) (hf : Fr (fun _ => False) w w') : Tk w' tb wi L := by
  obtain ⟨base, xo, cp, vs, rs, h1, h2⟩ := h.at_
  exact ⟨⟨base, xo, cp, vs, rs, h1.fr hf (fun _ _ h => h), h2⟩, h.gs.fr0 hf, h.gt.fr0 hf, h.wid, h.byt, h.len⟩
theorem Tk.c0 {w : World} {tb wi : Nat} {L : List (List Nat)} (h : Tk w tb wi L) : w.cell? ⟨tb, 0, none⟩ = some (.int .i64 wi) ∧ w.cell? ⟨tb, 1, none⟩ = some (.int .i64 L.length) ∧ tb < w.heap.size := by
  obtain ⟨base, xo, cp, vs, rs, h1, _⟩ := h.at_
  exact ⟨h1.cells.1, h1.cells.2.1, h1.cells.2.2.2.2⟩
theorem Tk.mw {w : World} {tb wi : Nat} {L : List (List Nat)} (h : Tk w tb wi L) (hw1 : 1 ≤ wi) (hw32 : wi ≤ 32) (f n : Nat) : (mth wi (blk L f n)).length = wi := mth_wid wi hw1 hw32 _ (fun p hp => h.wid p (blk_mem _ _ _ p hp))
theorem Tk.mb {w : World} {tb wi : Nat} {L : List (List Nat)} (h : Tk w tb wi L) (f n : Nat) : ∀ v ∈ mth wi (blk L f n), v < 256 := mth_lt _ _ _ (Nat.le_refl _) (fun p hp => h.byt p (blk_mem _ _ _ p hp))
theorem Tk.kept {w : World} {tb wi : Nat} {L : List (List Nat)} (h : Tk w tb wi L) (hw1 : 1 ≤ wi) (hw32 : wi ≤ 32) (k j : Nat) (hj : (j + 1) * 2 ^ k ≤ L.length) :
    Calls Tryd.prog 80 #[.pointer (some ⟨tb, 0, none⟩), .int .i64 k, .int .i64 j] w fun e w' => ∃ g J c, e = .returned (.slice (some ⟨g, J, none⟩) wi c) ∧ Fr (fun _ => False) w w' ∧ Sl w' (.slice (some ⟨g, J, none⟩) wi c) (mth wi (blk L (j * 2 ^ k) (2 ^ k))) := by
  have hL := h.wid
  have hn := h.len
  obtain ⟨base, xo, cp, vs, rs, hT, hR⟩ := h.at_
  have hp : 0 < 2 ^ k := Nat.pow_pos (by decide)
  have hjk : (j + 1) * 2 ^ k = j * 2 ^ k + 2 ^ k := Nat.succ_mul _ _
  obtain ⟨hkl, hrow⟩ := hR.at_ k (by omega)
  have hcnt : j + 1 ≤ L.length / 2 ^ k := (Nat.le_div_iff_mul_le hp).2 hj
  have hrl := rowOf_len wi hw1 hw32 L hL k (L.length / 2 ^ k)
  have hcl : L.length / 2 ^ k ≤ 8000000 := Nat.le_trans (Nat.div_le_self _ _) hn
  have hrwt := rwt_row wi hw1 hw32 L hL k (L.length / 2 ^ k) j (by omega)
  generalize L.length / 2 ^ k = C at *
  have hvl : vs.length = rs.length := hT.len
  have hv : vs[k]? = some vs[k] := List.getElem?_eq_getElem (by omega)
  obtain ⟨ao, c, e, hO⟩ := hT.row k _ _ hv hrow
  rw [e] at hv
  have hbyt := hT.byt _ (List.mem_of_getElem? hrow)
  have hCw : (j + 1) * wi ≤ C * wi := Nat.mul_le_mul_right _ hcnt
  have hjw : (j + 1) * wi = j * wi + wi := Nat.succ_mul _ _
  have hcw2 : C * wi ≤ 8000000 * 32 := Nat.mul_le_mul hcl hw32
  obtain ⟨g, rfl⟩ : ∃ g, ao = some ⟨g, 0, none⟩ := by
    rcases hO.2 with ⟨_, e6⟩ | ⟨g, _, _, e6, _⟩
    · rw [hrl] at e6; omega
    · simp only [Value.slice.injEq] at e6
      exact ⟨g, e6.1⟩
  obtain ⟨wb, rfl⟩ : ∃ wb, xo = some ⟨wb, 0, none⟩ := by
    rcases hT.own.2 with ⟨_, e6⟩ | ⟨g', cap, cur, e6, _⟩
    · omega
    · simp only [Value.slice.injEq] at e6
      exact ⟨g', e6.1⟩
  obtain ⟨c0, _, c2, _⟩ := hT.cells
  have ch := (hT.own.cellAt k (by omega)).trans hv
  have hcap := hO.cap
  have hpart := hO.part (j * wi) wi (by rw [hrl]; omega) hbyt
  have e2 : ((rowOf wi L k C).drop (j * wi)).take wi = mth wi (blk L (j * 2 ^ k) (2 ^ k)) := hrwt
  rw [e2] at hpart
  refine (kept_any tb wb cp g k j wi vs.length (rowOf wi L k C).length c (j * wi) w c0 c2 ch (by omega) rfl (by rw [hrl]; omega) hcap (by rw [hrl]; omega) (by omega) hw1).mono ?_
  rintro e' w' ⟨rfl, q, rfl⟩
  exact ⟨g, j * wi, c - j * wi, rfl, (Fr.refl _ _).drewN q, hpart.fr0 ((Fr.refl _ _).drewN q)⟩
/-- A part begins at a multiple of a power of two not below its size. -/
def Al (f n : Nat) : Prop := ∃ k, n ≤ 2 ^ k ∧ 2 ^ k ∣ f
theorem al_zero (n : Nat) : Al 0 n := ⟨n, Nat.le_of_lt Nat.lt_two_pow_self, Nat.dvd_zero _⟩
theorem hf_pow (n : Nat) : ∃ t, hf n = 2 ^ t := ⟨_, rfl⟩
theorem Al.halves {f n : Nat} (h : Al f n) (h2 : 2 ≤ n) : Al f (hf n) ∧ Al (f + hf n) (n - hf n) := by
  obtain ⟨k, h3, h4⟩ := h
  obtain ⟨t, ht⟩ := hf_pow n
  have hl := hf_lt n h2
  have hg := hf_ge n h2
  have htk : t ≤ k := by
    apply Classical.byContradiction
    intro hc
    have : 2 ^ k ≤ 2 ^ t := Nat.pow_le_pow_right (by decide) (by omega)
    omega
  have hd : 2 ^ t ∣ f := Nat.dvd_trans (Nat.pow_dvd_pow 2 htk) h4
  rw [ht] at *
  exact ⟨⟨t, Nat.le_refl _, hd⟩, ⟨t, by omega, Nat.dvd_add hd (Nat.dvd_refl _)⟩⟩
theorem Al.whole {f t : Nat} (h : Al f (2 ^ t)) : f / 2 ^ t * 2 ^ t = f := by
  obtain ⟨k, h3, h4⟩ := h
  have htk : t ≤ k := (Nat.pow_le_pow_iff_right (by decide)).1 h3
  exact Nat.div_mul_cancel (Nat.dvd_trans (Nat.pow_dvd_pow 2 htk) h4)
/-- Six cells of two new structs. -/
theorem two3 (w : World) (a0 a1 a2 b0 b1 b2 : Value) (ty : Nat) (W : World) (hW : (w.alloc (.cells #[a0, a1, a2] ty)).alloc (.cells #[b0, b1, b2] ty) = W) :
    W.cell? ⟨w.heap.size, 0, none⟩ = some a0 ∧ W.cell? ⟨w.heap.size, 1, none⟩ = some a1 ∧ W.cell? ⟨w.heap.size, 2, none⟩ = some a2 ∧ W.cell? ⟨w.heap.size + 1, 0, none⟩ = some b0 ∧ W.cell? ⟨w.heap.size + 1, 1, none⟩ = some b1 ∧ W.cell? ⟨w.heap.size + 1, 2, none⟩ = some b2 ∧ Fr (fun _ => False) w W := by
  subst hW
  have e1 : w.heap.size + 1 = (w.alloc (.cells #[a0, a1, a2] ty)).heap.size := by simp
  have A : ∀ j : Nat, ((w.alloc (.cells #[a0, a1, a2] ty)).alloc (.cells #[b0, b1, b2] ty)).cell? ⟨w.heap.size, j, none⟩ = (#[a0, a1, a2] : Array Value)[j]? := fun j => by
    rw [World.cell?_alloc_past _ _ _ (by simp), World.cell?_alloc_at _ _ _ _ rfl]
  have B : ∀ j : Nat, ((w.alloc (.cells #[a0, a1, a2] ty)).alloc (.cells #[b0, b1, b2] ty)).cell? ⟨w.heap.size + 1, j, none⟩ = (#[b0, b1, b2] : Array Value)[j]? := fun j => by
    rw [e1, World.cell?_alloc_at _ _ _ _ rfl]
  exact ⟨A 0, A 1, A 2, B 0, B 1, B 2, ((Fr.refl _ _).alloc _).alloc _⟩
def RootSays (tb wi : Nat) (L : List (List Nat)) (f n : Nat) (w : World) : Prop :=
  Calls Tryd.prog 50 #[pv (.pointer (some ⟨tb, 0, none⟩)) f n] w fun e w' => ∃ yo yc, e = .returned (.slice yo wi yc) ∧ OB w w' yo yc (mth wi (blk L f n))
set_option maxRecDepth 100000 in
set_option maxHeartbeats 1000000 in
theorem root_nil (tb wi : Nat) (hw1 : 1 ≤ wi) (hw32 : wi ≤ 32) (L : List (List Nat)) (f : Nat) (w : World) (hT : Tk w tb wi L) : RootSays tb wi L f 0 w := by
  unfold RootSays pv
  have e0 : blk L f 0 = [] := by rw [blk, List.take_zero]
  rw [e0, mth_nil]
  have hsum : ∀ w', GS w' → Calls Tryd.prog 28 #[.int .i64 wi, .slice none 0 0] w' fun e w'' => ∃ yo, e = .returned (.slice yo wi wi) ∧ OB w' w'' yo wi (sm wi []) := fun w' hg => by
    have := sum_O (wi : Int) [] (.slice none 0 0) w' hg (.inl ⟨rfl, rfl⟩) (fun _ h => by cases h) (by simp) (fun _ _ _ e => by cases e; exact Nat.le_refl _) (fun _ _ _ _ e => by cases e)
    rw [sm_wid wi hw1 hw32] at this
    exact this
  have hg : GS w := hT.gs
  obtain ⟨c0, c1, htb⟩ := hT.c0
  have HG := hide (And.intro hsum hg)
  clear hsum hg hT c1 e0
  go_enter Tryd.func50, Tryd.ntmps50
  go_wp2_with fail
  refine ((unhide HG).1 _ ((unhide HG).2.fr0 ((Fr.refl _ _).alloc _))).mono ?_
  rintro e w1 ⟨yo, rfl, hO⟩
  have H1 := hide (hO.base' ((Fr.refl _ _).alloc _))
  clear hO
  go_wp2_with fail
  go_ret
  exact ⟨yo, wi, rfl, unhide H1⟩
end Go.Proofs.YthccbfgjekdiiaaDoor

namespace Go.Proofs.YthccbfgjekdiiaaDoor
open Go.ChangeShapes Go.WideShapes Go.ChangeAt Go.RowKit Go.Deep
set_option maxRecDepth 100000

/-- What a listed array of words gives a walk: its cells. -/
theorem words_cells8 {W : World} {laid : List (String × DataW Unit)} (hL : laidMet Tryd.prog laid W) {nm : String} {zs : List Int} (hm : (nm, DataW.agg (zs.map fun z => .lit (.int .u8 z))) ∈ laid) {g t n : Nat} (hg : Tryd.prog.globalNamed nm = some g) (hty : (Tryd.prog.globals[g]?).map (·.type) = some t)
    (hu : Tryd.prog.underlying t = some (.array n 5)) (hc : Tryd.prog.cellsOf 5 = 1) (j : Nat) (z : Int) (hz : zs[j]? = some z) : W.cell? ⟨g, j, none⟩ = some (.int .u8 z) := by
  obtain ⟨ps, hv, _, _⟩ := hL
  obtain ⟨g', t', cs, fuel, p, a1, a2, a3, a4, _⟩ := laid_in hv hm
  obtain rfl := Option.some.inj (hg.symm.trans a1)
  obtain rfl := Option.some.inj (hty.symm.trans a2)
  obtain ⟨xs, m, _, hx, _, hlen, hall⟩ := DataW.trod_array hu a4
  simp only [Prod.mk.injEq, DataW.agg.injEq] at hx
  have hxj := congrArg (fun l => l[j]?) hx.1
  simp only [List.getElem?_map, hz, Option.map_some] at hxj
  rcases hxs : xs[j]? with _ | y
  · rw [hxs] at hxj; cases hxj
  · rw [hxs] at hxj
    have hj : j < n := by rw [← hlen]; exact (List.getElem?_eq_some_iff.1 hxs).1
    have h1 := hall j hj
    rw [hc, hxs, Nat.mul_one] at h1
    obtain ⟨v, e1, e2, _⟩ := DataW.trod_int Tryd.underlying5 h1
    have e3 : y.1 = .lit (.int .u8 v) := by rw [e2]
    simp only [Option.map_some, Option.some.injEq] at hxj
    rw [e3] at hxj
    injection hxj with hxj
    injection hxj with _ hxj
    subst hxj
    have e4 : cs.toList[j]? = some (.int .u8 z) := by
      have : (cs.toList.drop j).head? = some (.int .u8 z) := by
        rcases hd : cs.toList.drop j with _ | ⟨a, r⟩
        · rw [hd] at e1; cases e1
        · rw [hd] at e1; simp at e1; rw [e1]; rfl
      rw [List.head?_drop] at this
      exact this
    rw [World.var?_cell hg a3 j]
    simpa using e4
def bz : List Int := Lib.deBruijn64tab.map fun n : Nat => (n : Int)
theorem laid_T : (Rows.laid_math_bits_deBruijn64tab : DataW Unit) = .agg (bz.map fun z => .lit (.int .u8 z)) := by kernel_rfl
theorem gt_of_laid {W : World} {laid : List (String × DataW Unit)} (hL : laidMet Tryd.prog laid W) (h1 : ("math/bits.deBruijn64tab", Rows.laid_math_bits_deBruijn64tab) ∈ laid) (hw : 6 ≤ W.heap.size) : GT W := by
  rw [laid_T] at h1
  refine ⟨fun j hj => ?_, hw⟩
  refine words_cells8 hL h1 (g := 4) (t := 89) (by kernel_rfl) (by kernel_rfl) Tryd.underlying89 Tryd.cellsU8 j _ ?_
  rw [bz, List.getElem?_map, List.getElem?_eq_getElem hj, Option.map_some]
  simp only [List.getD, List.getElem?_eq_getElem hj, Option.getD_some]
/-- A world for a witness: the settled one, the six variables holding what they are laid. -/
noncomputable def mWorld (os : Os) : World :=
  let w0 := World.holding Tryd.prog os ⟨#[], #[], []⟩
  { w0 with heap := ((((((w0.heap.modify 0 fun
      | .cells _ t frozen => .cells st0.cells.toArray t frozen
      | o => o).modify 1 fun
      | .cells _ t frozen => .cells (V32 kt).toArray t frozen
      | o => o).modify 2 fun
      | .cells _ t frozen => .cells (V64 st0.vals).toArray t frozen
      | o => o).modify 5 fun
      | .cells _ t frozen => .cells (V64 kt).toArray t frozen
      | o => o).modify 4 fun
      | .cells _ t frozen => .cells (Lib.deBruijn64tab.map fun n : Nat => Value.int .u8 (n : Int)).toArray t frozen
      | o => o).modify 3 fun
      | .cells _ t frozen => .cells (Lib.deBruijn32tab.map fun n : Nat => Value.int .u8 (n : Int)).toArray t frozen
      | o => o) }
abbrev laid6 : List (String × DataW Unit) := [("almoner/almonerref2.K", Rows.laid_almoner_almonerref2_K), ("almoner/almonerref2.Begin", Rows.laid_almoner_almonerref2_Begin), ("math/bits.deBruijn32tab", Rows.laid_math_bits_deBruijn32tab), ("math/bits.deBruijn64tab", Rows.laid_math_bits_deBruijn64tab), ("almoner/sha.start", Rows.laid_almoner_sha_start), ("almoner/sha.k", Rows.laid_almoner_sha_k)]
theorem g6_of_laid {W : World} (hL : laidMet Tryd.prog laid6 W) (hw : 6 ≤ W.heap.size) : GS W ∧ GR W ∧ GT W :=
  ⟨gs_of_laid hL (.tail _ (.tail _ (.tail _ (.tail _ (.head _))))) (.tail _ (.tail _ (.tail _ (.tail _ (.tail _ (.head _)))))) hw, gr_of_laid hL (.tail _ (.head _)) (.head _) hw, gt_of_laid hL (.tail _ (.tail _ (.tail _ (.head _)))) hw⟩
/-- A slice of slices of bytes that came in; its length is at most its capacity. -/
theorem pcs_of_formC {H : Type} {enc : TypeId × Value → H} {W : World} {v : Value} {d : DataW H} {p : List MemPlace} (hform : ∃ a len cap, v = .slice a len cap) (h : DataW.Trod enc Tryd.prog W 0 (fun _ => true) true 22 v d p) :
    ∃ vs ps, Pcs W v vs ps ∧ Cp v ∧ (∀ q ∈ ps, q.length ≤ Rows.uptoBulk d) ∧ ps.length ≤ Rows.uptoBulk d := by
  obtain ⟨vs, ps, h1, h2, h3⟩ := pcs_of_form hform h
  refine ⟨vs, ps, h1, ?_, h2, h3⟩
  obtain ⟨a0, len0, cap0, rfl⟩ := hform
  obtain ⟨fuel, hf⟩ := h
  rcases open_slice1 Tryd.underlying22 Tryd.cellsB hf with ⟨hcs, hx⟩ | ⟨a, len, cap, m, n, V, D, Pl, hcs, _, hl, hm, hmm, hx, hel⟩
  · simp [Value.cells] at hcs
    obtain ⟨rfl, rfl, rfl⟩ := hcs
    exact fun _ _ _ e => by cases e; exact Nat.le_refl _
  · simp [Value.cells] at hcs
    obtain ⟨rfl, rfl, rfl⟩ := hcs
    exact fun _ _ _ e => by cases e; omega
theorem pcs_of_readingC {H : Type} {enc : TypeId × Value → H} {W : World} {base : Nat} {v : Value} {d : DataW H} {p : List MemPlace} (hval : Value.okWide Tryd.prog W .any base 22 v) (h : DataW.Trod enc Tryd.prog W 0 (fun _ => true) true 22 v d p) :
    ∃ vs ps, Pcs W v vs ps ∧ Cp v ∧ (∀ q ∈ ps, q.length ≤ Rows.uptoBulk d) ∧ ps.length ≤ Rows.uptoBulk d := pcs_of_formC (okWide_slice Tryd.underlying22 hval) h
end Go.Proofs.YthccbfgjekdiiaaDoor

namespace Go.Proofs.YthccbfgjekdiiaaDoor
open Go.RowKit

/-- A struct of three cells that was boxed. -/
theorem box3 {w wA : World} {a b c : Value} {ty : Nat} (hf : Fr (fun _ => False) (w.alloc (.cells #[a, b, c] ty)) wA) :
    wA.cell? ⟨w.heap.size, 0, none⟩ = some a ∧ wA.cell? ⟨w.heap.size, 1, none⟩ = some b ∧ wA.cell? ⟨w.heap.size, 2, none⟩ = some c ∧ Fr (fun _ => False) w wA := by
  have hc : ∀ j, wA.cell? ⟨w.heap.size, j, none⟩ = (#[a, b, c] : Array Value)[j]? := fun j => (hf.cell (p := ⟨w.heap.size, j, none⟩) (by simp) (fun h => h)).trans (World.cell?_alloc_at _ _ _ _ rfl)
  exact ⟨hc 0, hc 1, hc 2, ((Fr.refl _ _).alloc _).trans hf (fun _ _ h => h)⟩
theorem pow_lt63 {h n : Nat} (hl : 2 ^ h ≤ n) (hn : n ≤ 8000000) : h < 24 := by
  apply Classical.byContradiction
  intro hc
  have : 2 ^ 24 ≤ 2 ^ h := Nat.pow_le_pow_right (by decide) (by omega)
  have h5 : (2 : Nat) ^ 24 = 16777216 := by decide
  omega
set_option maxRecDepth 100000 in
set_option maxHeartbeats 1000000 in
theorem root_whole (tb wi : Nat) (hw1 : 1 ≤ wi) (hw32 : wi ≤ 32) (L : List (List Nat)) (f h : Nat) (w : World) (hT : Tk w tb wi L) (hA : Al f (2 ^ h)) (hl : f + 2 ^ h ≤ L.length) : RootSays tb wi L f (2 ^ h) w := by
  unfold RootSays
  have hle : L.length ≤ 8000000 := hT.len
  have hLw : ∀ p ∈ L, p.length = wi := hT.wid
  have hgt : GT w := hT.gt
  have hp : 0 < 2 ^ h := Nat.pow_pos (by decide)
  have hh := pow_lt63 (h := h) (n := L.length) (by omega) hle
  have hq := hA.whole
  have hwh : ∀ w', Calls Tryd.prog 78 #[pv (.pointer (some ⟨tb, 0, none⟩)) f (2 ^ h)] w' fun e w'' => e = .returned (.bool true) ∧ Fr (fun _ => False) w' w'' := fun w' => by
    have := whole_any (some ⟨tb, 0, none⟩) f (2 ^ h) w' (by omega)
    rw [decide_eq_true (oc_pow h (by omega))] at this
    exact this
  have htz : ∀ w', Fr (fun _ => False) w w' → Calls Tryd.prog 81 #[.int .u64 ((2 ^ h : Nat) : Int)] w' fun e w'' => e = .returned (.int .i64 (h : Nat)) ∧ w'' = w' := fun w' hf => by
    have := tz_any (2 ^ h) (by omega) w' (fun _ => (hgt.fr0 hf).1)
    rw [ctz_pow h (by omega)] at this
    exact this
  have hM := mth_wid wi hw1 hw32 (blk L f (2 ^ h)) (fun p hp => hLw p (blk_mem _ _ _ p hp))
  have hkept : ∀ w', Fr (fun _ => False) w w' → Calls Tryd.prog 80 #[.pointer (some ⟨tb, 0, none⟩), .int .i64 h, .int .i64 ((f / 2 ^ h : Nat) : Int)] w' fun e w'' => ∃ g J c, e = .returned (.slice (some ⟨g, J, none⟩) wi c) ∧ Fr (fun _ => False) w' w'' ∧ Sl w'' (.slice (some ⟨g, J, none⟩) wi c) (mth wi (blk L f (2 ^ h))) := fun w' hf => by
    have := (hT.fr0 hf).kept hw1 hw32 h (f / 2 ^ h) (by rw [Nat.succ_mul, hq]; exact hl)
    rw [hq] at this
    exact this
  generalize mth wi (blk L f (2 ^ h)) = M at *
  have hdiv : Int.tdiv (f : Int) ((2 ^ h : Nat) : Int) = ((f / 2 ^ h : Nat) : Int) := by rw [Int.tdiv_eq_ediv_of_nonneg (by omega)]; rfl
  have hfq : f / 2 ^ h ≤ f := Nat.div_le_self _ _
  generalize f / 2 ^ h = q at *
  generalize hn : 2 ^ h = n at *
  have hwq : IntKind.i64.wrap (q : Int) = (q : Int) := by rw [IntKind.wrap_i64]; omega
  have hcv : IntKind.u64.wrap (n : Int) = (n : Int) := by rw [IntKind.wrap_u64]; omega
  have hn0 : ¬ n = 0 := by omega
  have hnz : ((n : Int) == 0) = false := beq_false_of_ne (by omega)
  have hclone : ∀ g J c w', Sl w' (.slice (some ⟨g, J, none⟩) wi c) M → Calls Tryd.prog 79 #[.slice (some ⟨g, J, none⟩) wi c] w' fun e w'' => ∃ yo yc, e = .returned (.slice yo wi yc) ∧ OB w' w'' yo yc M := fun g J c w' hs => clone_any g J wi c M w' hs hM (by omega)
  have HC := hide (And.intro hwh (And.intro htz (And.intro hkept hclone)))
  clear hwh htz hkept hclone hT hgt hLw hq hA hl hM hle hfq hn hp hh
  unfold pv at HC ⊢
  go_enter Tryd.func50, Tryd.ntmps50
  go_wp2_with fail
  refine ((unhide HC).1 _).mono ?_
  rintro e wA ⟨rfl, hFA⟩
  obtain ⟨b0, b1, b2, hFw⟩ := box3 hFA
  have HFA := hide hFw
  have lP := lt_of_cell b0
  clear hFA hFw
  generalize w.heap.size = P0 at *
  go_wp2_with fail
  go_region_held3 (fun w' => w'.cell? ⟨P0, 0, none⟩ = some (.pointer (some ⟨tb, 0, none⟩)) ∧ w'.cell? ⟨P0, 1, none⟩ = some (.int .i64 f) ∧ w'.cell? ⟨P0, 2, none⟩ = some (.int .i64 n))
    (first | assumption | exact ⟨b0, b1, b2⟩ | exact ⟨(fD.cell (p := ⟨P0, 0, none⟩) lP (fun h => h)).trans b0, (fD.cell (p := ⟨P0, 1, none⟩) lP (fun h => h)).trans b1, (fD.cell (p := ⟨P0, 2, none⟩) lP (fun h => h)).trans b2⟩ | exact ⟨(fC.cell (p := ⟨P0, 0, none⟩) lP (fun h => h)).trans b0, (fC.cell (p := ⟨P0, 1, none⟩) lP (fun h => h)).trans b1, (fC.cell (p := ⟨P0, 2, none⟩) lP (fun h => h)).trans b2⟩)
    (first
      | (go_at_call 81; refine ((unhide HC).2.1 _ (by first | exact (unhide HFA).drew | exact (unhide HFA))).mono ?_; rintro e wB ⟨rfl, rfl⟩)
      | (go_at_call 80; refine ((unhide HC).2.2.1 _ (by first | exact (unhide HFA).drew | exact (unhide HFA))).mono ?_; rintro e wC ⟨g, J, c, rfl, fC, sC⟩)
      | (go_at_call 79; refine ((unhide HC).2.2.2 _ _ _ _ sC).mono ?_; rintro e wD ⟨yo, yc, rfl, oD⟩; have fD := fC.trans oD.fr (fun _ _ h => h)))
  have HE := hide (oD.base' ((unhide HFA).drew.trans fC (fun _ _ h => h)))
  clear fC sC oD fD
  go_wp2_with fail
  go_ret
  exact ⟨yo, yc, rfl, unhide HE⟩
set_option maxRecDepth 100000 in
set_option maxHeartbeats 1000000 in
theorem root_split (tb wi : Nat) (hw1 : 1 ≤ wi) (hw32 : wi ≤ 32) (L : List (List Nat)) (f n : Nat) (w : World) (hT : Tk w tb wi L) (h3 : 3 ≤ n) (hnw : oc n ≠ 1) (hl : f + n ≤ L.length)
    (ih1 : ∀ w', Tk w' tb wi L → RootSays tb wi L f (hf n) w') (ih2 : ∀ w', Tk w' tb wi L → RootSays tb wi L (f + hf n) (n - hf n) w') : RootSays tb wi L f n w := by
  unfold RootSays at *
  have hle : L.length ≤ 8000000 := hT.len
  have hgs : GS w := hT.gs
  have hwh : ∀ w', Calls Tryd.prog 78 #[pv (.pointer (some ⟨tb, 0, none⟩)) f n] w' fun e w'' => e = .returned (.bool false) ∧ Fr (fun _ => False) w' w'' := fun w' => by
    have := whole_any (some ⟨tb, 0, none⟩) f n w' (by omega)
    rw [decide_eq_false hnw] at this
    exact this
  have hpt := fun w' => parts_any (some ⟨tb, 0, none⟩) f n w' (by omega) (by omega)
  have hM1 := hT.mw hw1 hw32 f (hf n)
  have hM2 := hT.mw hw1 hw32 (f + hf n) (n - hf n)
  have hb1 := hT.mb f (hf n)
  have hb2 := hT.mb (f + hf n) (n - hf n)
  have hMM := blk_halves L f n (by omega) hl wi
  have r1 := fun w' (hf : Fr (fun _ => False) w w') => ih1 w' (hT.fr0 hf)
  have r2 := fun w' (hf : Fr (fun _ => False) w w') => ih2 w' (hT.fr0 hf)
  rw [hMM]
  clear hMM ih1 ih2
  have hnd := nd_len wi hw1 hw32 (mth wi (blk L f (hf n))) (mth wi (blk L (f + hf n) (n - hf n)))
  generalize mth wi (blk L f (hf n)) = M1 at *
  generalize mth wi (blk L (f + hf n) (n - hf n)) = M2 at *
  generalize f + hf n = F2 at *
  generalize n - hf n = N2 at *
  generalize hf n = K at *
  have hnode : ∀ w' x y, GS w' → Sl w' x M1 → Sl w' y M2 → Calls Tryd.prog 62 #[.int .i64 wi, x, y] w' fun e w'' => ∃ yo, e = .returned (.slice yo wi wi) ∧ OB w' w'' yo wi (nd wi M1 M2) := fun w' x y hg hx hy => by
    have := node_any (wi : Int) x y M1 M2 w' hg hx hy (by omega) (by omega)
    rw [hnd] at this
    exact this
  obtain ⟨c0, c1, htb⟩ := hT.c0
  have HC := hide (And.intro hwh (And.intro hpt (And.intro r1 (And.intro r2 (And.intro hnode (And.intro hgs (And.intro hb1 (And.intro hb2 (And.intro hM1 hM2)))))))))
  have hn0 : ((n : Int) == 0) = false := beq_false_of_ne (by omega)
  have hn1 : ¬ n = 0 := by omega
  clear hwh hpt r1 r2 hnode hT hgs hb1 hb2 hM1 hM2 hle hl hnw hnd c1
  unfold pv at HC ⊢
  go_enter Tryd.func50, Tryd.ntmps50
  go_wp2_with fail
  refine ((unhide HC).1 _).mono ?_
  rintro e wA ⟨rfl, hFA⟩
  obtain ⟨b0, b1, b2, hFw⟩ := box3 hFA
  have HFA := hide hFw
  clear hFA hFw
  generalize hP0 : w.heap.size = P0 at *
  go_wp2_with fail
  refine ((unhide HC).2.1 _).mono ?_
  rintro e wB ⟨rfl, hFB⟩
  have a0 := (hFB.cell (p := ⟨P0, 0, none⟩) (lt_of_cell b0) (fun h => h)).trans b0
  have HFB := hide ((unhide HFA).trans hFB (fun _ _ h => h))
  clear hFB b0 b1 b2 HFA
  go_wp2_with fail
  obtain ⟨W, hW⟩ : ∃ W, (wB.alloc (.cells #[.pointer (some ⟨tb, 0, none⟩), .int .i64 f, .int .i64 K] 79)).alloc (.cells #[.pointer (some ⟨tb, 0, none⟩), .int .i64 F2, .int .i64 N2] 79) = W := ⟨_, rfl⟩
  rw [hW]
  obtain ⟨x0, x1, x2, y0, y1, y2, hFW⟩ := two3 wB _ _ _ _ _ _ _ W hW
  have p0 := (hFW.cell (p := ⟨P0, 0, none⟩) (lt_of_cell a0) (fun h => h)).trans a0
  have HFW := hide ((unhide HFB).trans hFW (fun _ _ h => h))
  have t0 := ((unhide HFW).cell (p := ⟨tb, 0, none⟩) (lt_of_cell c0) (fun h => h)).trans c0
  clear hW hFW a0
  generalize wB.heap.size = Z at *
  have hS : ∀ w', Fr (fun _ => False) W w' → w'.cell? ⟨P0, 0, none⟩ = some (.pointer (some ⟨tb, 0, none⟩)) ∧ w'.cell? ⟨tb, 0, none⟩ = some (.int .i64 wi) ∧ w'.cell? ⟨Z, 0, none⟩ = some (.pointer (some ⟨tb, 0, none⟩)) ∧ w'.cell? ⟨Z, 1, none⟩ = some (.int .i64 f) ∧ w'.cell? ⟨Z, 2, none⟩ = some (.int .i64 K) ∧ w'.cell? ⟨Z + 1, 0, none⟩ = some (.pointer (some ⟨tb, 0, none⟩)) ∧ w'.cell? ⟨Z + 1, 1, none⟩ = some (.int .i64 F2) ∧ w'.cell? ⟨Z + 1, 2, none⟩ = some (.int .i64 N2) := fun w' hf =>
    ⟨(hf.cell (lt_of_cell p0) (fun h => h)).trans p0, (hf.cell (lt_of_cell t0) (fun h => h)).trans t0, (hf.cell (lt_of_cell x0) (fun h => h)).trans x0, (hf.cell (lt_of_cell x1) (fun h => h)).trans x1, (hf.cell (lt_of_cell x2) (fun h => h)).trans x2, (hf.cell (lt_of_cell y0) (fun h => h)).trans y0, (hf.cell (lt_of_cell y1) (fun h => h)).trans y1, (hf.cell (lt_of_cell y2) (fun h => h)).trans y2⟩
  have HS := hide hS
  clear hS
  have T1 : True := trivial
  go_region_held3 (fun w' => w'.cell? ⟨P0, 0, none⟩ = some (.pointer (some ⟨tb, 0, none⟩)) ∧ w'.cell? ⟨tb, 0, none⟩ = some (.int .i64 wi) ∧ w'.cell? ⟨Z, 0, none⟩ = some (.pointer (some ⟨tb, 0, none⟩)) ∧ w'.cell? ⟨Z, 1, none⟩ = some (.int .i64 f) ∧ w'.cell? ⟨Z, 2, none⟩ = some (.int .i64 K) ∧ w'.cell? ⟨Z + 1, 0, none⟩ = some (.pointer (some ⟨tb, 0, none⟩)) ∧ w'.cell? ⟨Z + 1, 1, none⟩ = some (.int .i64 F2) ∧ w'.cell? ⟨Z + 1, 2, none⟩ = some (.int .i64 N2))
    (first | assumption | exact (unhide HS) _ (Fr.refl _ _).drew | exact (unhide HS) _ fE | exact (unhide HS) _ fD | exact (unhide HS) _ fC)
    (first
      | (go_at_call 50; clear T1; refine ((unhide HC).2.2.1 _ (by exact (unhide HFW).drew)).mono ?_; rintro e wC ⟨zo, zc, rfl, oC⟩; have fC : Fr (fun _ => False) W wC := (Fr.refl _ _).drew.trans oC.fr (fun _ _ h => h))
      | (go_at_call 50; refine ((unhide HC).2.2.2.1 _ (by exact (unhide HFW).trans fC (fun _ _ h => h))).mono ?_; rintro e wD ⟨yo, yc, rfl, oD⟩; have fD : Fr (fun _ => False) W wD := fC.trans oD.fr (fun _ _ h => h))
      | (go_at_call 62; refine ((unhide HC).2.2.2.2.1 _ _ _ (by exact (unhide HC).2.2.2.2.2.1.fr0 ((unhide HFW).trans fD (fun _ _ h => h))) (by have h := (oC.sl (unhide HC).2.2.2.2.2.2.1).fr0 oD.fr; rw [(unhide HC).2.2.2.2.2.2.2.2.1] at h; exact h) (by have h := oD.sl (unhide HC).2.2.2.2.2.2.2.1; rw [(unhide HC).2.2.2.2.2.2.2.2.2] at h; exact h)).mono ?_; rintro e wE ⟨vo, rfl, oE⟩; have fE : Fr (fun _ => False) W wE := fD.trans oE.fr (fun _ _ h => h)))
  have HE := hide (oE.base' ((unhide HFW).trans fD (fun _ _ h => h)))
  clear oC oD oE fC fD fE
  go_wp2_with fail
  go_ret
  exact ⟨vo, wi, rfl, unhide HE⟩
/-- The root of a part. -/
theorem root_any (tb wi : Nat) (hw1 : 1 ≤ wi) (hw32 : wi ≤ 32) (L : List (List Nat)) (m : Nat) : ∀ (f n : Nat) (w : World), n ≤ m → Tk w tb wi L → Al f n → f + n ≤ L.length → RootSays tb wi L f n w := by
  induction m with
  | zero =>
    intro f n w hm hT _ _
    have e : n = 0 := by omega
    subst e
    exact root_nil tb wi hw1 hw32 L f w hT
  | succ m ih =>
    intro f n w hm hT hA hl
    by_cases h0 : n = 0
    · subst h0
      exact root_nil tb wi hw1 hw32 L f w hT
    · have hle := hT.len
      by_cases h1 : oc n = 1
      · obtain ⟨k, rfl⟩ := oc_one n (by omega) h1
        exact root_whole tb wi hw1 hw32 L f k w hT hA hl
      · have h3 : 3 ≤ n := by
          have e1 : n ≠ 1 := fun e => h1 (by rw [e]; exact oc_pow 0 (by decide))
          have e2 : n ≠ 2 := fun e => h1 (by rw [e]; exact oc_pow 1 (by decide))
          omega
        have hlt := hf_lt n (by omega)
        have hpos := hf_pos n
        obtain ⟨hA1, hA2⟩ := hA.halves (by omega)
        exact root_split tb wi hw1 hw32 L f n w hT h3 h1 hl (fun w' hT' => ih f (hf n) w' (by omega) hT' hA1 (by omega)) (fun w' hT' => ih (f + hf n) (n - hf n) w' (by omega) hT' hA2 (by omega))
end Go.Proofs.YthccbfgjekdiiaaDoor

namespace Go.Proofs.YthccbfgjekdiiaaDoor
open Go.RowKit

set_option maxRecDepth 100000 in
theorem troot_in (tb wi : Nat) (hw1 : 1 ≤ wi) (hw32 : wi ≤ 32) (L : List (List Nat)) (n : Nat) (w : World) (hT : Tk w tb wi L) (hn : n ≤ L.length) :
    Calls Tryd.prog 20 #[.pointer (some ⟨tb, 0, none⟩), .int .i64 n] w fun e w' => ∃ yo yc, e = .returned (.tuple #[.slice yo wi yc, .int .i64 0]) ∧ OB w w' yo yc (mth wi (blk L 0 n)) := by
  obtain ⟨c0, c1, htb⟩ := hT.c0
  have hhas : Calls Tryd.prog 48 #[.pointer (some ⟨tb, 0, none⟩), .int .i64 n] w fun e w' => e = .returned (.bool true) ∧ w' = w := by
    have := has_any tb L.length wi n w c0 c1
    rw [decide_eq_true (by omega)] at this
    exact this
  have hroot : ∀ w', Fr (fun _ => False) w w' → RootSays tb wi L 0 n w' := fun w' hf => root_any tb wi hw1 hw32 L n 0 n w' (Nat.le_refl _) (hT.fr0 hf) (al_zero n) (by omega)
  unfold RootSays at hroot
  have HG := hide (And.intro hhas hroot)
  clear hhas hroot hT c0 c1 htb
  go_enter Tryd.func20, Tryd.ntmps20
  go_wp2_with fail
  refine (unhide HG).1.mono ?_
  rintro e w0 ⟨rfl, rfl⟩
  go_wp2_with fail
  refine (first_any _ _ _).mono ?_
  rintro e w1 ⟨rfl, hF1⟩
  have H1 := hide hF1
  clear hF1
  go_wp2_with fail
  refine ((unhide HG).2 w1 (unhide H1)).mono ?_
  rintro e w2 ⟨yo, yc, rfl, hO⟩
  have H2 := hide (hO.base' (unhide H1))
  clear hO
  go_wp2_with fail
  go_returns
  exact ⟨yo, yc, rfl, unhide H2⟩
set_option maxRecDepth 100000 in
theorem troot_no (tb n : Nat) (wi k : Int) (w : World) (c0 : w.cell? ⟨tb, 0, none⟩ = some (.int .i64 wi)) (c1 : w.cell? ⟨tb, 1, none⟩ = some (.int .i64 n)) (h : ¬ (1 ≤ wi ∧ wi ≤ 32 ∧ 0 ≤ k ∧ k ≤ n)) :
    Calls Tryd.prog 20 #[.pointer (some ⟨tb, 0, none⟩), .int .i64 k] w fun e w' => e = .returned (.tuple #[.slice none 0 0, .int .i64 1]) ∧ w' = w := by
  have hhas : Calls Tryd.prog 48 #[.pointer (some ⟨tb, 0, none⟩), .int .i64 k] w fun e w' => e = .returned (.bool false) ∧ w' = w := by
    have := has_any tb n wi k w c0 c1
    rw [decide_eq_false h] at this
    exact this
  have HG := hide hhas
  clear hhas h c0 c1
  go_enter Tryd.func20, Tryd.ntmps20
  go_wp2_with fail
  refine (unhide HG).mono ?_
  rintro e w0 ⟨rfl, rfl⟩
  go_wp2_with fail
  go_returns
  exact ⟨rfl, rfl⟩
/-- A tree of entries. -/
theorem tk_of {w w' : World} {tb wi : Nat} (hw1 : 1 ≤ wi) (hw32 : wi ≤ 32) {es : List (List Nat)} {base : Nat} {xo : Option Addr} {cp : Nat} {vs : List Value} {rs : List (List Nat)} (hT : TrAt w' base tb wi es.length xo cp vs rs) (hR : RowsOf wi (es.map (lf wi)) 0 rs) (hg : GS w) (ht : GT w) (hf : Fr (fun _ => False) w w') (hn : es.length ≤ 8000000) : Tk w' tb wi (es.map (lf wi)) :=
  ⟨⟨base, xo, cp, vs, rs, by rw [List.length_map]; exact hT, hR⟩, hg.fr0 hf, ht.fr0 hf, map_lf_len wi hw1 hw32 es, fun p hp => by
    obtain ⟨e, _, rfl⟩ := List.mem_map.1 hp
    exact lf_lt _ _, by rw [List.length_map]; exact hn⟩
set_option maxRecDepth 100000 in
theorem mroot_in (wi : Nat) (hw1 : 1 ≤ wi) (hw32 : wi ≤ 32) (x : Value) (us : List Value) (es : List (List Nat)) (w : World) (hg : GS w) (ht : GT w) (hp : Pcs w x us es) (hB : ∀ e ∈ es, e.length ≤ 16000000) (hn : es.length ≤ 8000000) :
    Calls Tryd.prog 6 #[.int .i64 wi, x] w fun e w' => ∃ yo yc, e = .returned (.slice yo wi yc) ∧ OB w w' yo yc (mth wi (es.map (lf wi))) := by
  have hgr := grown_in wi hw1 hw32 x us es w hg hp hB hn
  have htr : ∀ w' tb, Tk w' tb wi (es.map (lf wi)) → Calls Tryd.prog 20 #[.pointer (some ⟨tb, 0, none⟩), .int .i64 es.length] w' fun e w'' => ∃ yo yc, e = .returned (.tuple #[.slice yo wi yc, .int .i64 0]) ∧ OB w' w'' yo yc (mth wi (es.map (lf wi))) := fun w' tb hT => by
    have h := troot_in tb wi hw1 hw32 (es.map (lf wi)) es.length w' hT (by rw [List.length_map]; exact Nat.le_refl _)
    have e : blk (es.map (lf wi)) 0 es.length = es.map (lf wi) := by
      have := blk_all (es.map (lf wi)); rwa [List.length_map] at this
    rw [e] at h
    exact h
  obtain ⟨xo, xc, rfl⟩ := hp.form
  have HG := hide (And.intro hgr (And.intro htr (And.intro hg (And.intro ht hn))))
  have HT := hide (fun (w' : World) (tb base : Nat) (xo : Option Addr) (cp : Nat) (vs : List Value) (rs : List (List Nat)) (hT : TrAt w' base tb wi es.length xo cp vs rs) hR hf => tk_of hw1 hw32 hT hR hg ht hf hn)
  clear hgr htr hg ht hp hB
  generalize mth wi (es.map (lf wi)) = M at *
  generalize es.length = N at *
  go_enter Tryd.func6, Tryd.ntmps6
  go_wp2_with fail
  refine (unhide HG).1.mono ?_
  rintro e w1 ⟨rfl, yo, cp, vs, rs, hT, hR, hF⟩
  have hk := (unhide HT) _ _ _ _ _ _ _ hT hR hF
  have H1 := hide (And.intro hk hF)
  clear hk hF hT hR
  generalize w.heap.size = TB at *
  go_wp2_with fail
  refine ((unhide HG).2.1 w1 TB (unhide H1).1).mono ?_
  rintro e w2 ⟨yo, yc, rfl, hO⟩
  have H2 := hide (hO.base' (unhide H1).2)
  clear hO
  go_wp2_with fail
  go_ret
  exact ⟨yo, yc, rfl, unhide H2⟩
set_option maxRecDepth 100000 in
theorem mroot_out (i : Int) (hi : i < 1 ∨ 32 < i) (x : Value) (us : List Value) (es : List (List Nat)) (w : World) (hp : Pcs w x us es) (hn : es.length ≤ 8000000) :
    Calls Tryd.prog 6 #[.int .i64 i, x] w fun e w' => e = .returned (.slice none 0 0) ∧ Fr (fun _ => False) w w' := by
  have hgr := grown_out i hi x us es w hp hn
  have htr : ∀ (w' : World) (tb base : Nat) xo cp vs rs, TrAt w' base tb i es.length xo cp vs rs → Calls Tryd.prog 20 #[.pointer (some ⟨tb, 0, none⟩), .int .i64 es.length] w' fun e w'' => e = .returned (.tuple #[.slice none 0 0, .int .i64 1]) ∧ w'' = w' := fun w' tb base xo cp vs rs hT =>
    troot_no tb es.length i es.length w' hT.cells.1 hT.cells.2.1 (by omega)
  obtain ⟨xo, xc, rfl⟩ := hp.form
  have HG := hide (And.intro hgr htr)
  clear hgr htr hp
  generalize es.length = N at *
  go_enter Tryd.func6, Tryd.ntmps6
  go_wp2_with fail
  refine (unhide HG).1.mono ?_
  rintro e w1 ⟨rfl, hT, hF⟩
  have H1 := hide (And.intro hT hF)
  clear hF hT
  generalize w.heap.size = TB at *
  go_wp2_with fail
  refine ((unhide HG).2 w1 TB _ _ _ _ _ (unhide H1).1).mono ?_
  rintro e w2 ⟨rfl, rfl⟩
  go_wp2_with fail
  go_ret
  exact ⟨rfl, (unhide H1).2⟩
theorem dep_le (m : Nat) : ∀ f n tf tn, n ≤ m → dep f n tf tn ≤ n := by
  induction m with
  | zero => intro f n tf tn h; rw [dep, dif_pos (by omega)]; exact Nat.zero_le _
  | succ m ih =>
    intro f n tf tn h
    by_cases e : (f = tf ∧ n = tn) ∨ n < 2
    · rw [dep, dif_pos e]; exact Nat.zero_le _
    · have hlt := hf_lt n (by omega)
      have hp := hf_pos n
      by_cases hl : tf < f + hf n
      · rw [dep_l (by omega) (by omega) hl]
        have := ih f (hf n) tf tn (by omega)
        omega
      · rw [dep_r (by omega) (by omega) hl]
        have := ih (f + hf n) (n - hf n) tf tn (by omega)
        omega
end Go.Proofs.YthccbfgjekdiiaaDoor

namespace Go.Proofs.YthccbfgjekdiiaaDoor
open Go.RowKit

theorem Tryd.guard_span : Tryd.prog.eqGuardType Tryd.prog.depth 57 = false := by kernel_rfl
theorem Tryd.held_span : Tryd.prog.stoodInHeld 57 = false := by kernel_rfl
theorem Tryd.fields_span : Tryd.prog.underlying 57 = some (.struct (Tryd.prog.fieldsOf 57)) := by kernel_rfl
/-- Are two spans the same? -/
theorem eq_span (f n g m : Nat) (w : World) : (binOp .eql 57 (.agg #[.int .i64 f, .int .i64 n]) (.agg #[.int .i64 g, .int .i64 m])).run Tryd.prog w = .ok (.bool (decide (f = g ∧ n = m))) w := by
  rw [run_eql_struct, show (10000 : Nat) = 9999 + 1 from rfl, run_equalIn_agg _ 9999 _ _ _ Tryd.fields_span Tryd.held_span]
  have ig : ((f : Int) == (g : Int)) = decide (f = g) := by
    by_cases h : f = g
    · simp [h]
    · simp [h]; omega
  have im : ((n : Int) == (m : Int)) = decide (n = m) := by
    by_cases h : n = m
    · simp [h]
    · simp [h]; omega
  simp [Program.fieldsOf, Tryd.underlying57, Op.eqFields, go_sem, ig, im]
  by_cases h1 : f = g
  · by_cases h2 : n = m
    · simp [h1, h2]
    · simp [h1, h2]
  · simp [h1]
theorem two2 (w : World) (a0 a1 b0 b1 : Value) (ty : Nat) (W : World) (hW : (w.alloc (.cells #[a0, a1] ty)).alloc (.cells #[b0, b1] ty) = W) :
    W.cell? ⟨w.heap.size, 0, none⟩ = some a0 ∧ W.cell? ⟨w.heap.size, 1, none⟩ = some a1 ∧ W.cell? ⟨w.heap.size + 1, 0, none⟩ = some b0 ∧ W.cell? ⟨w.heap.size + 1, 1, none⟩ = some b1 ∧ Fr (fun _ => False) w W := by
  subst hW
  have e1 : w.heap.size + 1 = (w.alloc (.cells #[a0, a1] ty)).heap.size := by simp
  have A : ∀ j : Nat, ((w.alloc (.cells #[a0, a1] ty)).alloc (.cells #[b0, b1] ty)).cell? ⟨w.heap.size, j, none⟩ = (#[a0, a1] : Array Value)[j]? := fun j => by
    rw [World.cell?_alloc_past _ _ _ (by simp), World.cell?_alloc_at _ _ _ _ rfl]
  have B : ∀ j : Nat, ((w.alloc (.cells #[a0, a1] ty)).alloc (.cells #[b0, b1] ty)).cell? ⟨w.heap.size + 1, j, none⟩ = (#[b0, b1] : Array Value)[j]? := fun j => by
    rw [e1, World.cell?_alloc_at _ _ _ _ rfl]
  exact ⟨A 0, A 1, B 0, B 1, ((Fr.refl _ _).alloc _).alloc _⟩
def DepSays (f n tf tn : Nat) (w : World) : Prop := Calls Tryd.prog 58 #[sv f n, sv tf tn] w fun e w' => e = .returned (.int .i64 (dep f n tf tn : Nat)) ∧ Fr (fun _ => False) w w'
set_option maxRecDepth 100000 in
set_option maxHeartbeats 1000000 in
theorem depth_any (m : Nat) : ∀ (f n tf tn : Nat) (w : World), n ≤ m → f + n < 9223372036854775808 → Rch f n tf tn → DepSays f n tf tn w := by
  induction m with
  | zero =>
    intro f n tf tn w hm hb hr
    by_cases e : f = tf ∧ n = tn
    · obtain ⟨rfl, rfl⟩ := e
      unfold DepSays sv
      rw [dep_eq]
      have eqs := fun w => eq_span f n f n w
      simp only [decide_true, and_self] at eqs
      have eg := Tryd.guard_span
      go_enter Tryd.func58, Tryd.ntmps58
      go_wp2_with fail
      go_ret
      exact ⟨rfl, ((Fr.refl _ _).alloc _).alloc _⟩
    · have := (rch_ne hr e).1; omega
  | succ m ih =>
    intro f n tf tn w hm hb hr
    by_cases e : f = tf ∧ n = tn
    · obtain ⟨rfl, rfl⟩ := e
      unfold DepSays sv
      rw [dep_eq]
      have eqs := fun w => eq_span f n f n w
      simp only [decide_true, and_self] at eqs
      have eg := Tryd.guard_span
      go_enter Tryd.func58, Tryd.ntmps58
      go_wp2_with fail
      go_ret
      exact ⟨rfl, ((Fr.refl _ _).alloc _).alloc _⟩
    · obtain ⟨h2, r1, r2⟩ := rch_ne hr e
      have hlt := hf_lt n h2
      have hp := hf_pos n
      have eqs := fun w => eq_span f n tf tn w
      rw [decide_eq_false e] at eqs
      have eg := Tryd.guard_span
      have hhv := fun w => halves_any f n w hb h2
      have hbf := fun w => before_any tf tn (f + hf n) (n - hf n) w
      by_cases hl : tf < f + hf n
      · rw [decide_eq_true hl] at hbf
        have hrec := fun w => ih f (hf n) tf tn w (by omega) (by omega) (r1 hl)
        have hdl := dep_le _ f (hf n) tf tn (Nat.le_refl _)
        unfold DepSays at hrec ⊢
        rw [dep_l h2 e hl]
        generalize dep f (hf n) tf tn = D at *
        have w1 : IntKind.i64.wrap (1 + (D : Int)) = 1 + (D : Int) := by rw [IntKind.wrap_i64]; omega
        have hD : ((D + 1 : Nat) : Int) = 1 + (D : Int) := by omega
        rw [hD]
        clear hD hdl
        generalize f + hf n = F2 at *
        generalize n - hf n = N2 at *
        generalize hf n = K at *
        have HC := hide (And.intro hhv (And.intro hbf hrec))
        clear hhv hbf hrec r1 r2 hr ih hlt hp hl hb hm h2 e
        unfold sv at HC ⊢
        go_enter Tryd.func58, Tryd.ntmps58
        go_wp2_with fail
        obtain ⟨W0, hW0⟩ : ∃ W0, (w.alloc (.cells #[.int .i64 f, .int .i64 n] 57)).alloc (.cells #[.int .i64 tf, .int .i64 tn] 57) = W0 := ⟨_, rfl⟩
        rw [hW0]
        obtain ⟨-, -, b0, b1, hF0⟩ := two2 w _ _ _ _ _ W0 hW0
        refine ((unhide HC).1 _).mono ?_
        rintro e' wA ⟨rfl, hFA⟩
        have c0 := (hFA.cell (lt_of_cell b0) (fun h => h)).trans b0
        have c1 := (hFA.cell (lt_of_cell b1) (fun h => h)).trans b1
        have HF := hide (hF0.trans hFA (fun _ _ h => h))
        clear hFA hF0 b0 b1 hW0
        generalize w.heap.size + 1 = PB at *
        have l0 : PB < wA.heap.size := lt_of_cell c0
        have l1 : PB < wA.heap.size + 1 := Nat.lt_succ_of_lt l0
        go_wp2_with fail
        obtain ⟨W1, hW1⟩ : ∃ W1, (wA.alloc (.cells #[.int .i64 f, .int .i64 K] 57)).alloc (.cells #[.int .i64 F2, .int .i64 N2] 57) = W1 := ⟨_, rfl⟩
        rw [hW1]
        obtain ⟨x0, x1, y0, y1, hF1⟩ := two2 wA _ _ _ _ _ W1 hW1
        refine ((unhide HC).2.1 _).mono ?_
        rintro e' wB ⟨rfl, hFB⟩
        have hF1B := hF1.trans hFB (fun _ _ h => h)
        have d0 := (hF1B.cell (lt_of_cell c0) (fun h => h)).trans c0
        have d1 := (hF1B.cell (lt_of_cell c1) (fun h => h)).trans c1
        have z0 := (hFB.cell (lt_of_cell x0) (fun h => h)).trans x0
        have z1 := (hFB.cell (lt_of_cell x1) (fun h => h)).trans x1
        have HF2 := hide ((unhide HF).trans hF1B (fun _ _ h => h))
        clear hF1 hFB hF1B hW1 x0 x1 y0 y1 c0 c1 HF
        generalize wA.heap.size = Z at *
        go_wp2_with fail
        refine ((unhide HC).2.2 _).mono ?_
        rintro e' wC ⟨rfl, hFC⟩
        have HF3 := hide ((unhide HF2).trans hFC (fun _ _ h => h))
        clear hFC
        go_wp2_with fail
        go_ret
        exact ⟨rfl, unhide HF3⟩
      · rw [decide_eq_false hl] at hbf
        have hrec := fun w => ih (f + hf n) (n - hf n) tf tn w (by omega) (by omega) (r2 hl)
        have hdl := dep_le _ (f + hf n) (n - hf n) tf tn (Nat.le_refl _)
        unfold DepSays at hrec ⊢
        rw [dep_r h2 e hl]
        generalize dep (f + hf n) (n - hf n) tf tn = D at *
        have w1 : IntKind.i64.wrap (1 + (D : Int)) = 1 + (D : Int) := by rw [IntKind.wrap_i64]; omega
        have hD : ((D + 1 : Nat) : Int) = 1 + (D : Int) := by omega
        rw [hD]
        clear hD hdl
        generalize f + hf n = F2 at *
        generalize n - hf n = N2 at *
        generalize hf n = K at *
        have HC := hide (And.intro hhv (And.intro hbf hrec))
        clear hhv hbf hrec r1 r2 hr ih hlt hp hl hb hm h2 e
        unfold sv at HC ⊢
        go_enter Tryd.func58, Tryd.ntmps58
        go_wp2_with fail
        obtain ⟨W0, hW0⟩ : ∃ W0, (w.alloc (.cells #[.int .i64 f, .int .i64 n] 57)).alloc (.cells #[.int .i64 tf, .int .i64 tn] 57) = W0 := ⟨_, rfl⟩
        rw [hW0]
        obtain ⟨-, -, b0, b1, hF0⟩ := two2 w _ _ _ _ _ W0 hW0
        refine ((unhide HC).1 _).mono ?_
        rintro e' wA ⟨rfl, hFA⟩
        have c0 := (hFA.cell (lt_of_cell b0) (fun h => h)).trans b0
        have c1 := (hFA.cell (lt_of_cell b1) (fun h => h)).trans b1
        have HF := hide (hF0.trans hFA (fun _ _ h => h))
        clear hFA hF0 b0 b1 hW0
        generalize w.heap.size + 1 = PB at *
        have l0 : PB < wA.heap.size := lt_of_cell c0
        have l1 : PB < wA.heap.size + 1 := Nat.lt_succ_of_lt l0
        go_wp2_with fail
        obtain ⟨W1, hW1⟩ : ∃ W1, (wA.alloc (.cells #[.int .i64 f, .int .i64 K] 57)).alloc (.cells #[.int .i64 F2, .int .i64 N2] 57) = W1 := ⟨_, rfl⟩
        rw [hW1]
        obtain ⟨x0, x1, y0, y1, hF1⟩ := two2 wA _ _ _ _ _ W1 hW1
        refine ((unhide HC).2.1 _).mono ?_
        rintro e' wB ⟨rfl, hFB⟩
        have hF1B := hF1.trans hFB (fun _ _ h => h)
        have d0 := (hF1B.cell (lt_of_cell c0) (fun h => h)).trans c0
        have d1 := (hF1B.cell (lt_of_cell c1) (fun h => h)).trans c1
        have z0 := (hFB.cell (lt_of_cell y0) (fun h => h)).trans y0
        have z1 := (hFB.cell (lt_of_cell y1) (fun h => h)).trans y1
        have HF2 := hide ((unhide HF).trans hF1B (fun _ _ h => h))
        clear hF1 hFB hF1B hW1 x0 x1 y0 y1 c0 c1 HF
        generalize wA.heap.size + 1 = Z at *
        go_wp2_with fail
        refine ((unhide HC).2.2 _).mono ?_
        rintro e' wC ⟨rfl, hFC⟩
        have HF3 := hide ((unhide HF2).trans hFC (fun _ _ h => h))
        clear hFC
        go_wp2_with fail
        go_ret
        exact ⟨rfl, unhide HF3⟩
end Go.Proofs.YthccbfgjekdiiaaDoor

namespace Go.Proofs.YthccbfgjekdiiaaDoor
open Go.RowKit

theorem OL.stepW {w wr w1 : World} {ao : Option Addr} {cp : Nat} {vs : List Value} {ps : List (List Nat)} (h : OL w wr ao cp vs ps) (l : List Nat) (wi : Nat) (hl : l.length = wi) (yo : Option Addr) (yc : Nat) (hO : OB wr w1 yo yc l) (hb : ∀ v ∈ l, v < 256) (hn : vs.length < 16000000) :
    ∃ ao' cp' w2, (Builtin.append_ #[22, 22] 22 #[.slice ao vs.length cp, .slice (some ⟨w1.heap.size, 0, none⟩) 1 1]).run Tryd.prog (w1.alloc (.cells #[.slice yo wi yc] 25)) = .ok (.slice ao' (vs.length + 1) cp') w2 ∧ OL w w2 ao' cp' (vs ++ [.slice yo wi yc]) (ps ++ [l]) := by
  subst hl
  exact h.step l yo yc hO hb hn
theorem boxAB (w : World) (a0 a1 a2 b0 b1 : Value) (ta tb : Nat) (W : World) (hW : (w.alloc (.cells #[a0, a1, a2] ta)).alloc (.cells #[b0, b1] tb) = W) :
    W.cell? ⟨w.heap.size + 1, 0, none⟩ = some b0 ∧ W.cell? ⟨w.heap.size + 1, 1, none⟩ = some b1 ∧ Fr (fun _ => False) w W := by
  subst hW
  have e1 : w.heap.size + 1 = (w.alloc (.cells #[a0, a1, a2] ta)).heap.size := by simp
  have B : ∀ j : Nat, ((w.alloc (.cells #[a0, a1, a2] ta)).alloc (.cells #[b0, b1] tb)).cell? ⟨w.heap.size + 1, j, none⟩ = (#[b0, b1] : Array Value)[j]? := fun j => by
    rw [e1, World.cell?_alloc_at _ _ _ _ rfl]
  exact ⟨B 0, B 1, ((Fr.refl _ _).alloc _).alloc _⟩
def BesSays (tb wi : Nat) (L : List (List Nat)) (f n tf tn : Nat) (w : World) : Prop :=
  Calls Tryd.prog 64 #[pv (.pointer (some ⟨tb, 0, none⟩)) f n, sv tf tn] w fun e w' => ∃ ao cp vs, e = .returned (.slice ao vs.length cp) ∧ OL w w' ao cp vs (bes wi L f n tf tn)
set_option maxRecDepth 100000 in
set_option maxHeartbeats 2000000 in
/-- The halves left aside on the way to a part. -/
theorem beside_any (tb wi : Nat) (hw1 : 1 ≤ wi) (hw32 : wi ≤ 32) (L : List (List Nat)) (m : Nat) : ∀ (f n tf tn : Nat) (w : World), n ≤ m → Tk w tb wi L → Al f n → f + n ≤ L.length → Rch f n tf tn → BesSays tb wi L f n tf tn w := by
  induction m with
  | zero =>
    intro f n tf tn w hm hT hA hL hr
    by_cases e : f = tf ∧ n = tn
    · obtain ⟨rfl, rfl⟩ := e
      unfold BesSays sv pv
      rw [bes_eq]
      have eqs := fun w => eq_span f n f n w
      simp only [decide_true, and_self] at eqs
      have eg := Tryd.guard_span
      go_enter Tryd.func64, Tryd.ntmps64
      go_wp2_with fail
      go_ret
      exact ⟨none, 0, [], rfl, (OL.nil _).base (((Fr.refl _ _).alloc _).alloc _)⟩
    · have := (rch_ne hr e).1; omega
  | succ m ih =>
    intro f n tf tn w hm hT hA hL hr
    by_cases e : f = tf ∧ n = tn
    · obtain ⟨rfl, rfl⟩ := e
      unfold BesSays sv pv
      rw [bes_eq]
      have eqs := fun w => eq_span f n f n w
      simp only [decide_true, and_self] at eqs
      have eg := Tryd.guard_span
      go_enter Tryd.func64, Tryd.ntmps64
      go_wp2_with fail
      go_ret
      exact ⟨none, 0, [], rfl, (OL.nil _).base (((Fr.refl _ _).alloc _).alloc _)⟩
    · obtain ⟨h2, r1, r2⟩ := rch_ne hr e
      have hlt := hf_lt n h2
      have hp := hf_pos n
      obtain ⟨hA1, hA2⟩ := hA.halves h2
      have hle := hT.len
      have eqs := fun w => eq_span f n tf tn w
      rw [decide_eq_false e] at eqs
      have eg := Tryd.guard_span
      have hpt := fun w => parts_any (some ⟨tb, 0, none⟩) f n w (by omega) h2
      have hbf := fun w => before_any tf tn (f + hf n) (n - hf n) w
      clear hle
      by_cases hl : tf < f + hf n
      · rw [decide_eq_true hl] at hbf
        have hrec := fun w' (hf' : Fr (fun _ => False) w w') => ih f (hf n) tf tn w' (by omega) (hT.fr0 hf') hA1 (by omega) (r1 hl)
        have hroot := fun w' (hf' : Fr (fun _ => False) w w') => root_any tb wi hw1 hw32 L _ (f + hf n) (n - hf n) w' (Nat.le_refl _) (hT.fr0 hf') hA2 (by omega)
        have hMw := hT.mw hw1 hw32 (f + hf n) (n - hf n)
        have hMb := hT.mb (f + hf n) (n - hf n)
        have hdl := dep_le _ f (hf n) tf tn (Nat.le_refl _)
        rw [← bes_len wi L _ f (hf n) tf tn (Nat.le_refl _)] at hdl
        unfold BesSays RootSays at *
        rw [bes_l h2 e hl]
        generalize bes wi L f (hf n) tf tn = BS at *
        generalize mth wi (blk L (f + hf n) (n - hf n)) = M at *
        have hbl : BS.length < 16000000 := by have := hT.len; omega
        clear hdl
        generalize f + hf n = F2 at *
        generalize n - hf n = N2 at *
        generalize hf n = K at *
        have HC := hide (And.intro hpt (And.intro hbf (And.intro hrec (And.intro hroot (And.intro hMw (And.intro hMb hbl))))))
        clear hpt hbf hrec hroot r1 r2 hr ih hlt hp hl hm h2 e hT hA1 hA2 hMw hMb hbl hL
        unfold sv pv at *
        go_enter Tryd.func64, Tryd.ntmps64
        go_wp2_with fail
        obtain ⟨W0, hW0⟩ : ∃ W0, (w.alloc (.cells #[.pointer (some ⟨tb, 0, none⟩), .int .i64 f, .int .i64 n] 79)).alloc (.cells #[.int .i64 tf, .int .i64 tn] 57) = W0 := ⟨_, rfl⟩
        rw [hW0]
        obtain ⟨b0, b1, hF0⟩ := boxAB w _ _ _ _ _ _ _ W0 hW0
        refine ((unhide HC).1 _).mono ?_
        rintro e' wA ⟨rfl, hFA⟩
        have c0 := (hFA.cell (lt_of_cell b0) (fun h => h)).trans b0
        have c1 := (hFA.cell (lt_of_cell b1) (fun h => h)).trans b1
        have HF := hide (hF0.trans hFA (fun _ _ h => h))
        clear hFA hF0 b0 b1 hW0
        generalize w.heap.size + 1 = PB at *
        have l0 : PB < wA.heap.size := lt_of_cell c0
        have l1 : PB < wA.heap.size + 1 := Nat.lt_succ_of_lt l0
        go_wp2_with fail
        obtain ⟨W1, hW1⟩ : ∃ W1, (wA.alloc (.cells #[.pointer (some ⟨tb, 0, none⟩), .int .i64 f, .int .i64 K] 79)).alloc (.cells #[.pointer (some ⟨tb, 0, none⟩), .int .i64 F2, .int .i64 N2] 79) = W1 := ⟨_, rfl⟩
        rw [hW1]
        obtain ⟨x0, x1, x2, y0, y1, y2, hF1⟩ := two3 wA _ _ _ _ _ _ _ W1 hW1
        refine ((unhide HC).2.1 _).mono ?_
        rintro e' wB ⟨rfl, hFB⟩
        have hF1B := hF1.trans hFB (fun _ _ h => h)
        have d0 := (hF1B.cell (lt_of_cell c0) (fun h => h)).trans c0
        have d1 := (hF1B.cell (lt_of_cell c1) (fun h => h)).trans c1
        have u0 := (hFB.cell (lt_of_cell x0) (fun h => h)).trans x0
        have u1 := (hFB.cell (lt_of_cell x1) (fun h => h)).trans x1
        have u2 := (hFB.cell (lt_of_cell x2) (fun h => h)).trans x2
        have v0 := (hFB.cell (lt_of_cell y0) (fun h => h)).trans y0
        have v1 := (hFB.cell (lt_of_cell y1) (fun h => h)).trans y1
        have v2 := (hFB.cell (lt_of_cell y2) (fun h => h)).trans y2
        have HF2 := hide ((unhide HF).trans hF1B (fun _ _ h => h))
        clear hF1 hFB hF1B hW1 x0 x1 x2 y0 y1 y2 c0 c1 HF l0 l1
        generalize wA.heap.size = Z at *
        have hS : ∀ w', Fr (fun _ => False) wB w' → w'.cell? ⟨Z, 0, none⟩ = some (.pointer (some ⟨tb, 0, none⟩)) ∧ w'.cell? ⟨Z, 1, none⟩ = some (.int .i64 f) ∧ w'.cell? ⟨Z, 2, none⟩ = some (.int .i64 K) ∧ w'.cell? ⟨Z + 1, 0, none⟩ = some (.pointer (some ⟨tb, 0, none⟩)) ∧ w'.cell? ⟨Z + 1, 1, none⟩ = some (.int .i64 F2) ∧ w'.cell? ⟨Z + 1, 2, none⟩ = some (.int .i64 N2) ∧ w'.cell? ⟨PB, 0, none⟩ = some (.int .i64 tf) ∧ w'.cell? ⟨PB, 1, none⟩ = some (.int .i64 tn) := fun w' hf =>
          ⟨(hf.cell (lt_of_cell u0) (fun h => h)).trans u0, (hf.cell (lt_of_cell u1) (fun h => h)).trans u1, (hf.cell (lt_of_cell u2) (fun h => h)).trans u2, (hf.cell (lt_of_cell v0) (fun h => h)).trans v0, (hf.cell (lt_of_cell v1) (fun h => h)).trans v1, (hf.cell (lt_of_cell v2) (fun h => h)).trans v2, (hf.cell (lt_of_cell d0) (fun h => h)).trans d0, (hf.cell (lt_of_cell d1) (fun h => h)).trans d1⟩
        have HS := hide hS
        clear hS
        go_wp2_with fail
        go_region_held3 (fun w' => w'.cell? ⟨Z, 0, none⟩ = some (.pointer (some ⟨tb, 0, none⟩)) ∧ w'.cell? ⟨Z, 1, none⟩ = some (.int .i64 f) ∧ w'.cell? ⟨Z, 2, none⟩ = some (.int .i64 K) ∧ w'.cell? ⟨Z + 1, 0, none⟩ = some (.pointer (some ⟨tb, 0, none⟩)) ∧ w'.cell? ⟨Z + 1, 1, none⟩ = some (.int .i64 F2) ∧ w'.cell? ⟨Z + 1, 2, none⟩ = some (.int .i64 N2) ∧ w'.cell? ⟨PB, 0, none⟩ = some (.int .i64 tf) ∧ w'.cell? ⟨PB, 1, none⟩ = some (.int .i64 tn))
          (first | assumption | exact (unhide HS) _ (Fr.refl _ _).drew | exact (unhide HS) _ fE | exact (unhide HS) _ (fD.alloc _) | exact (unhide HS) _ fD | exact (unhide HS) _ fC)
          (first
            | (go_at_call 64; refine ((unhide HC).2.2.1 _ (by exact (unhide HF2).drew)).mono ?_; rintro e wC ⟨ao, cp, us, rfl, oC⟩; have fC : Fr (fun _ => False) wB wC := (Fr.refl _ _).drew.trans oC.own.fr (fun _ _ h => h))
            | (go_at_call 50; refine ((unhide HC).2.2.2.1 _ (by exact (unhide HF2).trans fC (fun _ _ h => h))).mono ?_; rintro e wD ⟨yo, yc, rfl, oD⟩; have fD : Fr (fun _ => False) wB wD := fC.trans oD.fr (fun _ _ h => h))
            | (obtain ⟨ao2, cp2, wE, hr2, hO2⟩ := oC.stepW M wi (unhide HC).2.2.2.2.1 yo yc oD (unhide HC).2.2.2.2.2.1 (by rw [oC.len]; exact (unhide HC).2.2.2.2.2.2); have fE : Fr (fun _ => False) wB wE := (Fr.refl _ _).drew.trans hO2.own.fr (fun _ _ h => h); refine step_app rfl (.tmp 22) (.tmp 25) 22 22 rfl _ _ _ (by simp [Act.eval]) (by simp [Act.eval]) hr2 ?_))
        have HE := hide (hO2.base ((unhide HF2).drew))
        clear oC oD hO2 hr2 fC fD fE
        go_wp2_with fail
        go_ret
        exact ⟨ao2, cp2, _, by rw [List.length_append]; rfl, unhide HE⟩
      · rw [decide_eq_false hl] at hbf
        have hrec := fun w' (hf' : Fr (fun _ => False) w w') => ih (f + hf n) (n - hf n) tf tn w' (by omega) (hT.fr0 hf') hA2 (by omega) (r2 hl)
        have hroot := fun w' (hf' : Fr (fun _ => False) w w') => root_any tb wi hw1 hw32 L _ f (hf n) w' (Nat.le_refl _) (hT.fr0 hf') hA1 (by omega)
        have hMw := hT.mw hw1 hw32 f (hf n)
        have hMb := hT.mb f (hf n)
        have hdl := dep_le _ (f + hf n) (n - hf n) tf tn (Nat.le_refl _)
        rw [← bes_len wi L _ (f + hf n) (n - hf n) tf tn (Nat.le_refl _)] at hdl
        unfold BesSays RootSays at *
        rw [bes_r h2 e hl]
        generalize bes wi L (f + hf n) (n - hf n) tf tn = BS at *
        generalize mth wi (blk L f (hf n)) = M at *
        have hbl : BS.length < 16000000 := by have := hT.len; omega
        clear hdl
        generalize f + hf n = F2 at *
        generalize n - hf n = N2 at *
        generalize hf n = K at *
        have HC := hide (And.intro hpt (And.intro hbf (And.intro hrec (And.intro hroot (And.intro hMw (And.intro hMb hbl))))))
        clear hpt hbf hrec hroot r1 r2 hr ih hlt hp hl hm h2 e hT hA1 hA2 hMw hMb hbl hL
        unfold sv pv at *
        go_enter Tryd.func64, Tryd.ntmps64
        go_wp2_with fail
        obtain ⟨W0, hW0⟩ : ∃ W0, (w.alloc (.cells #[.pointer (some ⟨tb, 0, none⟩), .int .i64 f, .int .i64 n] 79)).alloc (.cells #[.int .i64 tf, .int .i64 tn] 57) = W0 := ⟨_, rfl⟩
        rw [hW0]
        obtain ⟨b0, b1, hF0⟩ := boxAB w _ _ _ _ _ _ _ W0 hW0
        refine ((unhide HC).1 _).mono ?_
        rintro e' wA ⟨rfl, hFA⟩
        have c0 := (hFA.cell (lt_of_cell b0) (fun h => h)).trans b0
        have c1 := (hFA.cell (lt_of_cell b1) (fun h => h)).trans b1
        have HF := hide (hF0.trans hFA (fun _ _ h => h))
        clear hFA hF0 b0 b1 hW0
        generalize w.heap.size + 1 = PB at *
        have l0 : PB < wA.heap.size := lt_of_cell c0
        have l1 : PB < wA.heap.size + 1 := Nat.lt_succ_of_lt l0
        go_wp2_with fail
        obtain ⟨W1, hW1⟩ : ∃ W1, (wA.alloc (.cells #[.pointer (some ⟨tb, 0, none⟩), .int .i64 f, .int .i64 K] 79)).alloc (.cells #[.pointer (some ⟨tb, 0, none⟩), .int .i64 F2, .int .i64 N2] 79) = W1 := ⟨_, rfl⟩
        rw [hW1]
        obtain ⟨x0, x1, x2, y0, y1, y2, hF1⟩ := two3 wA _ _ _ _ _ _ _ W1 hW1
        refine ((unhide HC).2.1 _).mono ?_
        rintro e' wB ⟨rfl, hFB⟩
        have hF1B := hF1.trans hFB (fun _ _ h => h)
        have d0 := (hF1B.cell (lt_of_cell c0) (fun h => h)).trans c0
        have d1 := (hF1B.cell (lt_of_cell c1) (fun h => h)).trans c1
        have u0 := (hFB.cell (lt_of_cell x0) (fun h => h)).trans x0
        have u1 := (hFB.cell (lt_of_cell x1) (fun h => h)).trans x1
        have u2 := (hFB.cell (lt_of_cell x2) (fun h => h)).trans x2
        have v0 := (hFB.cell (lt_of_cell y0) (fun h => h)).trans y0
        have v1 := (hFB.cell (lt_of_cell y1) (fun h => h)).trans y1
        have v2 := (hFB.cell (lt_of_cell y2) (fun h => h)).trans y2
        have HF2 := hide ((unhide HF).trans hF1B (fun _ _ h => h))
        clear hF1 hFB hF1B hW1 x0 x1 x2 y0 y1 y2 c0 c1 HF l0 l1
        generalize wA.heap.size = Z at *
        have hS : ∀ w', Fr (fun _ => False) wB w' → w'.cell? ⟨Z + 1, 0, none⟩ = some (.pointer (some ⟨tb, 0, none⟩)) ∧ w'.cell? ⟨Z + 1, 1, none⟩ = some (.int .i64 F2) ∧ w'.cell? ⟨Z + 1, 2, none⟩ = some (.int .i64 N2) ∧ w'.cell? ⟨Z, 0, none⟩ = some (.pointer (some ⟨tb, 0, none⟩)) ∧ w'.cell? ⟨Z, 1, none⟩ = some (.int .i64 f) ∧ w'.cell? ⟨Z, 2, none⟩ = some (.int .i64 K) ∧ w'.cell? ⟨PB, 0, none⟩ = some (.int .i64 tf) ∧ w'.cell? ⟨PB, 1, none⟩ = some (.int .i64 tn) := fun w' hf =>
          ⟨(hf.cell (lt_of_cell v0) (fun h => h)).trans v0, (hf.cell (lt_of_cell v1) (fun h => h)).trans v1, (hf.cell (lt_of_cell v2) (fun h => h)).trans v2, (hf.cell (lt_of_cell u0) (fun h => h)).trans u0, (hf.cell (lt_of_cell u1) (fun h => h)).trans u1, (hf.cell (lt_of_cell u2) (fun h => h)).trans u2, (hf.cell (lt_of_cell d0) (fun h => h)).trans d0, (hf.cell (lt_of_cell d1) (fun h => h)).trans d1⟩
        have HS := hide hS
        clear hS
        go_wp2_with fail
        go_region_held3 (fun w' => w'.cell? ⟨Z + 1, 0, none⟩ = some (.pointer (some ⟨tb, 0, none⟩)) ∧ w'.cell? ⟨Z + 1, 1, none⟩ = some (.int .i64 F2) ∧ w'.cell? ⟨Z + 1, 2, none⟩ = some (.int .i64 N2) ∧ w'.cell? ⟨Z, 0, none⟩ = some (.pointer (some ⟨tb, 0, none⟩)) ∧ w'.cell? ⟨Z, 1, none⟩ = some (.int .i64 f) ∧ w'.cell? ⟨Z, 2, none⟩ = some (.int .i64 K) ∧ w'.cell? ⟨PB, 0, none⟩ = some (.int .i64 tf) ∧ w'.cell? ⟨PB, 1, none⟩ = some (.int .i64 tn))
          (first | assumption | exact (unhide HS) _ (Fr.refl _ _).drew | exact (unhide HS) _ fE | exact (unhide HS) _ (fD.alloc _) | exact (unhide HS) _ fD | exact (unhide HS) _ fC)
          (first
            | (go_at_call 64; refine ((unhide HC).2.2.1 _ (by exact (unhide HF2).drew)).mono ?_; rintro e wC ⟨ao, cp, us, rfl, oC⟩; have fC : Fr (fun _ => False) wB wC := (Fr.refl _ _).drew.trans oC.own.fr (fun _ _ h => h))
            | (go_at_call 50; refine ((unhide HC).2.2.2.1 _ (by exact (unhide HF2).trans fC (fun _ _ h => h))).mono ?_; rintro e wD ⟨yo, yc, rfl, oD⟩; have fD : Fr (fun _ => False) wB wD := fC.trans oD.fr (fun _ _ h => h))
            | (obtain ⟨ao2, cp2, wE, hr2, hO2⟩ := oC.stepW M wi (unhide HC).2.2.2.2.1 yo yc oD (unhide HC).2.2.2.2.2.1 (by rw [oC.len]; exact (unhide HC).2.2.2.2.2.2); have fE : Fr (fun _ => False) wB wE := (Fr.refl _ _).drew.trans hO2.own.fr (fun _ _ h => h); refine step_app rfl (.tmp 29) (.tmp 32) 22 22 rfl _ _ _ (by simp [Act.eval]) (by simp [Act.eval]) hr2 ?_))
        have HE := hide (hO2.base ((unhide HF2).drew))
        clear oC oD hO2 hr2 fC fD fE
        go_wp2_with fail
        go_ret
        exact ⟨ao2, cp2, _, by rw [List.length_append]; rfl, unhide HE⟩
end Go.Proofs.YthccbfgjekdiiaaDoor

namespace Go.Proofs.YthccbfgjekdiiaaDoor
open Go.RowKit

set_option maxRecDepth 100000 in
set_option maxHeartbeats 1000000 in
theorem tpath_in (tb wi : Nat) (hw1 : 1 ≤ wi) (hw32 : wi ≤ 32) (L : List (List Nat)) (i n : Nat) (w : World) (hT : Tk w tb wi L) (hn : n ≤ L.length) (hi : i < n) :
    Calls Tryd.prog 34 #[.pointer (some ⟨tb, 0, none⟩), .int .i64 i, .int .i64 n] w fun e w' => ∃ ao cp vs, e = .returned (.tuple #[.slice ao vs.length cp, .int .i64 0]) ∧ OL w w' ao cp vs (bes wi L 0 n i 1) := by
  obtain ⟨c0, c1, htb⟩ := hT.c0
  have hhas : Calls Tryd.prog 48 #[.pointer (some ⟨tb, 0, none⟩), .int .i64 n] w fun e w' => e = .returned (.bool true) ∧ w' = w := by
    have := has_any tb L.length wi n w c0 c1
    rw [decide_eq_true (by omega)] at this
    exact this
  have hbes : ∀ w', Fr (fun _ => False) w w' → BesSays tb wi L 0 n i 1 w' := fun w' hf => beside_any tb wi hw1 hw32 L n 0 n i 1 w' (Nat.le_refl _) (hT.fr0 hf) (al_zero n) (by omega) (rch_one n 0 n i (Nat.le_refl _) (by omega) (by omega))
  unfold BesSays sv at hbes
  have HG := hide (And.intro hhas hbes)
  have q1 : ¬ (i : Int) < 0 := by omega
  have q2 : ¬ (n : Int) ≤ (i : Int) := by omega
  have q3 : ¬ n ≤ i := by omega
  clear hhas hbes hT c0 c1 htb hn
  go_enter Tryd.func34, Tryd.ntmps34
  go_wp2_with fail
  refine (unhide HG).1.mono ?_
  rintro e w0 ⟨rfl, rfl⟩
  go_wp2_with fail
  refine (first_any _ _ _).mono ?_
  rintro e w1 ⟨rfl, hF1⟩
  have H1 := hide hF1
  clear hF1
  go_wp2_with fail
  refine ((unhide HG).2 w1 (unhide H1)).mono ?_
  rintro e w2 ⟨ao, cp, vs, rfl, hO⟩
  have H2 := hide (hO.base (unhide H1))
  clear hO
  go_wp2_with fail
  go_returns
  exact ⟨ao, cp, vs, rfl, unhide H2⟩
set_option maxRecDepth 100000 in
theorem tpath_no (tb n : Nat) (wi i k : Int) (w : World) (c0 : w.cell? ⟨tb, 0, none⟩ = some (.int .i64 wi)) (c1 : w.cell? ⟨tb, 1, none⟩ = some (.int .i64 n)) (h : ¬ (1 ≤ wi ∧ wi ≤ 32 ∧ 0 ≤ k ∧ k ≤ n) ∨ i < 0 ∨ k ≤ i) :
    Calls Tryd.prog 34 #[.pointer (some ⟨tb, 0, none⟩), .int .i64 i, .int .i64 k] w fun e w' => e = .returned (.tuple #[.slice none 0 0, .int .i64 1]) ∧ w' = w := by
  have hhas := has_any tb n wi k w c0 c1
  by_cases hh : 1 ≤ wi ∧ wi ≤ 32 ∧ 0 ≤ k ∧ k ≤ n
  · rw [decide_eq_true hh] at hhas
    have HG := hide hhas
    have h' : i < 0 ∨ k ≤ i := by omega
    clear hhas h c0 c1
    by_cases hi : i < 0
    · clear h' hh
      go_enter Tryd.func34, Tryd.ntmps34
      go_wp2_with fail
      refine (unhide HG).mono ?_
      rintro e w0 ⟨rfl, rfl⟩
      go_wp2_with fail
      go_returns
      exact ⟨rfl, rfl⟩
    · have hk : k ≤ i := by omega
      clear h' hh
      go_enter Tryd.func34, Tryd.ntmps34
      go_wp2_with fail
      refine (unhide HG).mono ?_
      rintro e w0 ⟨rfl, rfl⟩
      go_wp2_with fail
      go_returns
      exact ⟨rfl, rfl⟩
  · rw [decide_eq_false hh] at hhas
    have HG := hide hhas
    clear hhas h hh c0 c1
    go_enter Tryd.func34, Tryd.ntmps34
    go_wp2_with fail
    refine (unhide HG).mono ?_
    rintro e w0 ⟨rfl, rfl⟩
    go_wp2_with fail
    go_returns
    exact ⟨rfl, rfl⟩
set_option maxRecDepth 100000 in
set_option maxHeartbeats 1000000 in
/-- merkle.Path, of an entry. -/
theorem mpath_in (wi : Nat) (hw1 : 1 ≤ wi) (hw32 : wi ≤ 32) (x : Value) (us : List Value) (es : List (List Nat)) (i : Nat) (w : World) (hg : GS w) (ht : GT w) (hp : Pcs w x us es) (hB : ∀ e ∈ es, e.length ≤ 16000000) (hn : es.length ≤ 8000000) (hi : i < es.length) :
    Calls Tryd.prog 10 #[.int .i64 wi, x, .int .i64 i] w fun e w' => ∃ ao cp vs, e = .returned (.tuple #[.slice ao vs.length cp, .int .i64 0]) ∧ OL w w' ao cp vs (bes wi (es.map (lf wi)) 0 es.length i 1) := by
  have hgr := grown_in wi hw1 hw32 x us es w hg hp hB hn
  have htr : ∀ w' tb, Tk w' tb wi (es.map (lf wi)) → _ := fun w' tb hT => tpath_in tb wi hw1 hw32 (es.map (lf wi)) i es.length w' hT (by rw [List.length_map]; exact Nat.le_refl _) hi
  obtain ⟨xo, xc, rfl⟩ := hp.form
  have HT := hide (fun (w' : World) (tb base : Nat) (xo : Option Addr) (cp : Nat) (vs : List Value) (rs : List (List Nat)) (hT : TrAt w' base tb wi es.length xo cp vs rs) hR hf => tk_of hw1 hw32 hT hR hg ht hf hn)
  have HG := hide (And.intro hgr htr)
  clear hgr htr hg ht hp hB hi hn
  generalize bes wi (es.map (lf wi)) 0 es.length i 1 = M at *
  generalize es.length = N at *
  go_enter Tryd.func10, Tryd.ntmps10
  go_wp2_with fail
  refine (unhide HG).1.mono ?_
  rintro e w1 ⟨rfl, yo, cp, vs, rs, hT, hR, hF⟩
  have hk := (unhide HT) _ _ _ _ _ _ _ hT hR hF
  have H1 := hide (And.intro hk hF)
  clear hk hF hT hR
  generalize w.heap.size = TB at *
  go_wp2_with fail
  refine ((unhide HG).2 w1 TB (unhide H1).1).mono ?_
  rintro e w2 ⟨ao, cp, vs, rfl, hO⟩
  have H2 := hide (hO.base (unhide H1).2)
  clear hO
  go_wp2_with fail
  go_returns
  exact ⟨ao, cp, vs, rfl, unhide H2⟩
set_option maxRecDepth 100000 in
set_option maxHeartbeats 1000000 in
theorem mpath_no (j : Int) (i : Int) (x : Value) (us : List Value) (es : List (List Nat)) (w : World) (hg : GS w) (hp : Pcs w x us es) (hB : ∀ e ∈ es, e.length ≤ 16000000) (hn : es.length ≤ 8000000) (hi : (j < 1 ∨ 32 < j) ∨ i < 0 ∨ (es.length : Int) ≤ i) :
    Calls Tryd.prog 10 #[.int .i64 j, x, .int .i64 i] w fun e w' => e = .returned (.tuple #[.slice none 0 0, .int .i64 1]) ∧ Fr (fun _ => False) w w' := by
  have hgr : Calls Tryd.prog 19 #[.int .i64 j, x] w fun e w' => e = .returned (.pointer (some ⟨w.heap.size, 0, none⟩)) ∧ w'.cell? ⟨w.heap.size, 0, none⟩ = some (.int .i64 j) ∧ w'.cell? ⟨w.heap.size, 1, none⟩ = some (.int .i64 es.length) ∧ Fr (fun _ => False) w w' := by
    by_cases hj : 1 ≤ j ∧ j ≤ 32
    · obtain ⟨wi, rfl⟩ : ∃ n : Nat, j = (n : Int) := ⟨j.toNat, by omega⟩
      refine (grown_in wi (by omega) (by omega) x us es w hg hp hB hn).mono ?_
      rintro e w' ⟨rfl, xo, cp, vs, rs, hT, _, hF⟩
      exact ⟨rfl, hT.cells.1, hT.cells.2.1, hF⟩
    · refine (grown_out j (by omega) x us es w hp hn).mono ?_
      rintro e w' ⟨rfl, hT, hF⟩
      exact ⟨rfl, hT.cells.1, hT.cells.2.1, hF⟩
  have htr : ∀ (w' : World) (tb : Nat), w'.cell? ⟨tb, 0, none⟩ = some (.int .i64 j) → w'.cell? ⟨tb, 1, none⟩ = some (.int .i64 es.length) → _ := fun w' tb h0 h1 => tpath_no tb es.length j i es.length w' h0 h1 (by omega)
  obtain ⟨xo, xc, rfl⟩ := hp.form
  have HG := hide (And.intro hgr htr)
  clear hgr htr hp hg hB hn hi
  generalize es.length = N at *
  go_enter Tryd.func10, Tryd.ntmps10
  go_wp2_with fail
  refine (unhide HG).1.mono ?_
  rintro e w1 ⟨rfl, h0, h1, hF⟩
  have H1 := hide (And.intro h0 (And.intro h1 hF))
  clear hF h0 h1
  generalize w.heap.size = TB at *
  go_wp2_with fail
  refine ((unhide HG).2 w1 TB (unhide H1).1 (unhide H1).2.1).mono ?_
  rintro e w2 ⟨rfl, rfl⟩
  go_wp2_with fail
  go_returns
  exact ⟨rfl, (unhide H1).2.2⟩
end Go.Proofs.YthccbfgjekdiiaaDoor

namespace Go.Proofs.YthccbfgjekdiiaaDoor
open Go.RowKit

/-- The part where SUB ends. -/
def endF (f n m : Nat) : Nat × Nat :=
  if _h : m = f + n ∨ n < 2 then (f, n)
  else if m ≤ f + hf n then endF f (hf n) m
  else endF (f + hf n) (n - hf n) m
termination_by n
decreasing_by
  · exact hf_lt n (by omega)
  · have := hf_pos n; omega
theorem endF_eq {f n m : Nat} (h : m = f + n) : endF f n m = (f, n) := by rw [endF, dif_pos (.inl h)]
theorem endF_l {f n m : Nat} (h2 : 2 ≤ n) (h : ¬ m = f + n) (hl : m ≤ f + hf n) : endF f n m = endF f (hf n) m := by
  conv => lhs; rw [endF, dif_neg (by omega), if_pos hl]
theorem endF_r {f n m : Nat} (h2 : 2 ≤ n) (h : ¬ m = f + n) (hl : ¬ m ≤ f + hf n) : endF f n m = endF (f + hf n) (n - hf n) m := by
  conv => lhs; rw [endF, dif_neg (by omega), if_neg hl]
theorem endF_ok (k : Nat) : ∀ f n m, n ≤ k → f < m → m ≤ f + n → f ≤ (endF f n m).1 ∧ (endF f n m).1 + (endF f n m).2 = m ∧ 1 ≤ (endF f n m).2 ∧ Rch f n (endF f n m).1 (endF f n m).2 ∧ (Al f n → Al (endF f n m).1 (endF f n m).2) := by
  induction k with
  | zero => intro f n m h1 h2 h3; omega
  | succ k ih =>
    intro f n m h1 h2 h3
    by_cases e : m = f + n
    · rw [endF_eq e]; exact ⟨Nat.le_refl _, e.symm, by show 1 ≤ n; omega, rch_refl f n, fun h => h⟩
    · have hlt := hf_lt n (by omega)
      have hp := hf_pos n
      by_cases hl : m ≤ f + hf n
      · rw [endF_l (by omega) e hl]
        obtain ⟨i1, i2, i3, i4, i5⟩ := ih f (hf n) m (by omega) h2 hl
        refine ⟨i1, i2, i3, ?_, fun h => i5 (h.halves (by omega)).1⟩
        rw [Rch, dif_neg (by omega), dif_neg (by omega), if_pos (by omega)]
        exact i4
      · rw [endF_r (by omega) e hl]
        obtain ⟨i1, i2, i3, i4, i5⟩ := ih (f + hf n) (n - hf n) m (by omega) (by omega) (by omega)
        refine ⟨by omega, i2, i3, ?_, fun h => i5 (h.halves (by omega)).2⟩
        rw [Rch, dif_neg (by omega), dif_neg (by omega), if_neg (by omega)]
        exact i4
def EndSays (f n m : Nat) (w : World) : Prop := Calls Tryd.prog 57 #[sv f n, .int .i64 m] w fun e w' => e = .returned (sv (endF f n m).1 (endF f n m).2) ∧ Fr (fun _ => False) w w'
theorem box22 (w : World) (a0 a1 b0 b1 : Value) (ty : Nat) (W : World) (hW : (w.alloc (.cells #[a0, a1] ty)).alloc (.cells #[b0, b1] ty) = W) :
    W.cell? ⟨w.heap.size + 1, 0, none⟩ = some b0 ∧ W.cell? ⟨w.heap.size + 1, 1, none⟩ = some b1 ∧ W.frozen? ⟨w.heap.size + 1, 0, none⟩ = false ∧ W.frozen? ⟨w.heap.size + 1, 1, none⟩ = false ∧ Fr (fun _ => False) w W := by
  subst hW
  have e1 : w.heap.size + 1 = (w.alloc (.cells #[a0, a1] ty)).heap.size := by simp
  refine ⟨?_, ?_, ?_, ?_, ((Fr.refl _ _).alloc _).alloc _⟩
  iterate 2 (rw [e1, World.cell?_alloc_at _ _ _ _ rfl]; rfl)
  iterate 2 (rw [e1, World.frozen?_alloc_at _ _ _ _ rfl] <;> rfl)
theorem set2 (w : World) (b : Nat) (x y : Value) (h0 : (w.cell? ⟨b, 0, none⟩).isSome = true) (h1 : (w.cell? ⟨b, 1, none⟩).isSome = true) (W : World) (hW : (w.setCell ⟨b, 0, none⟩ x).setCell ⟨b, 1, none⟩ y = W) : W.cell? ⟨b, 0, none⟩ = some x ∧ W.cell? ⟨b, 1, none⟩ = some y := by
  subst hW
  have o : ∀ (v : World) (i j : Nat) (u : Value), i ≠ j → (v.setCell ⟨b, i, none⟩ u).cell? ⟨b, j, none⟩ = v.cell? ⟨b, j, none⟩ := fun v i j u h => World.cell?_setCell_other _ _ _ _ (by intro e; injection e with e1 e2; omega)
  refine ⟨?_, ?_⟩
  · rw [o _ _ _ _ (by decide), World.cell?_setCell_same' _ _ _ h0]
  · rw [World.cell?_setCell_same' _ _ _ (by rw [o _ _ _ _ (by decide)]; exact h1)]
set_option maxRecDepth 100000 in
set_option maxHeartbeats 1000000 in
theorem end_any (k : Nat) : ∀ (f n m : Nat) (w : World), n ≤ k → f + n < 9223372036854775808 → f < m → m ≤ f + n → EndSays f n m w := by
  induction k with
  | zero => intro f n m w h1 _ h2 h3; omega
  | succ k ih =>
    intro f n m w h1 hb h2 h3
    by_cases e : m = f + n
    · unfold EndSays sv
      rw [endF_eq e]
      have w1 : IntKind.i64.wrap ((f : Int) + (n : Int)) = (f : Int) + (n : Int) := by rw [IntKind.wrap_i64]; omega
      have ee : ((m : Int) == (f : Int) + (n : Int)) = true := by
        have : (m : Int) = (f : Int) + (n : Int) := by omega
        rw [this]; simp
      have e' : (m : Int) = (f : Int) + (n : Int) := by omega
      clear e h1 h2 h3 ih
      go_enter Tryd.func57, Tryd.ntmps57
      go_wp2_with fail
      go_returns
      exact ⟨rfl, ((Fr.refl _ _).alloc _).alloc _⟩
    · have hlt := hf_lt n (by omega)
      have hp := hf_pos n
      have hhv := fun w => halves_any f n w hb (by omega)
      have w1 : IntKind.i64.wrap ((f : Int) + (n : Int)) = (f : Int) + (n : Int) := by rw [IntKind.wrap_i64]; omega
      have ee : ((m : Int) == (f : Int) + (n : Int)) = false := beq_false_of_ne (by omega)
      have e' : ¬ (m : Int) = (f : Int) + (n : Int) := by omega
      by_cases hl : m ≤ f + hf n
      · have hrec := fun w => ih f (hf n) m w (by omega) (by omega) h2 hl
        unfold EndSays at *
        rw [endF_l (by omega) e hl]
        generalize endF f (hf n) m = E at *
        have hl' : (m : Int) ≤ ((f + hf n : Nat) : Int) := by omega
        have hl2 := hl
        have HC := hide (And.intro hhv hrec)
        clear hhv hrec hp hlt ih h1 h2 h3 e hb hl
        generalize f + hf n = F2 at *
        generalize n - hf n = N2 at *
        generalize hf n = K at *
        unfold sv at *
        generalize E.1 = E1 at *
        generalize E.2 = E2 at *
        go_enter Tryd.func57, Tryd.ntmps57
        go_wp2_with fail
        obtain ⟨W0, hW0⟩ : ∃ W0, (w.alloc (.cells #[.int .i64 f, .int .i64 n] 57)).alloc (.cells #[.int .i64 0, .int .i64 0] 57) = W0 := ⟨_, rfl⟩
        rw [hW0]
        obtain ⟨b0, b1, z0, z1, hF0⟩ := box22 w _ _ _ _ _ W0 hW0
        refine ((unhide HC).1 _).mono ?_
        rintro e' wA ⟨rfl, hFA⟩
        have c0 := (hFA.cell (lt_of_cell b0) (fun h => h)).trans b0
        have c1 := (hFA.cell (lt_of_cell b1) (fun h => h)).trans b1
        have y0 := (hFA.frozen (p := ⟨w.heap.size + 1, 0, none⟩) (lt_of_cell b0) (fun h => h)).trans z0
        have y1 := (hFA.frozen (p := ⟨w.heap.size + 1, 1, none⟩) (lt_of_cell b1) (fun h => h)).trans z1
        have HF := hide (hF0.trans hFA (fun _ _ h => h))
        have hPB : w.heap.size ≤ w.heap.size + 1 := by omega
        clear hFA hF0 b0 b1 hW0 z0 z1
        generalize w.heap.size + 1 = PB at *
        have l0 : PB < wA.heap.size := lt_of_cell c0
        have l1 : PB < wA.heap.size + 1 := Nat.lt_succ_of_lt l0
        go_wp2_with fail
        obtain ⟨W1, hW1⟩ : ∃ W1, (wA.alloc (.cells #[.int .i64 f, .int .i64 K] 57)).alloc (.cells #[.int .i64 F2, .int .i64 N2] 57) = W1 := ⟨_, rfl⟩
        rw [hW1]
        obtain ⟨x0, x1, x2, x3, hF1⟩ := two2 wA _ _ _ _ _ W1 hW1
        refine ((unhide HC).2 _).mono ?_
        rintro e' wB ⟨rfl, hFB⟩
        have hF1B := hF1.trans hFB (fun _ _ h => h)
        have d0 := (hF1B.cell (lt_of_cell c0) (fun h => h)).trans c0
        have d1 := (hF1B.cell (lt_of_cell c1) (fun h => h)).trans c1
        have u0 := (hF1B.frozen (p := ⟨PB, 0, none⟩) (lt_of_cell c0) (fun h => h)).trans y0
        have u1 := (hF1B.frozen (p := ⟨PB, 1, none⟩) (lt_of_cell c1) (fun h => h)).trans y1
        have hF2 := ((unhide HF).trans hF1B (fun _ _ h => h)).setCell (p := ⟨PB, 0, none⟩) (.inr hPB) (.int .i64 (E1 : Int)) |>.setCell (p := ⟨PB, 1, none⟩) (.inr hPB) (.int .i64 (E2 : Int))
        have HF2 := hide hF2
        clear hF1 hFB hF1B hW1 x0 x1 x2 x3 c0 c1 y0 y1 HF l0 l1 hF2
        go_wp2_with fail
        obtain ⟨W2, hW2⟩ : ∃ W2, (wB.setCell ⟨PB, 0, none⟩ (.int .i64 (E1 : Int))).setCell ⟨PB, 1, none⟩ (.int .i64 (E2 : Int)) = W2 := ⟨_, rfl⟩
        obtain ⟨k0, k1⟩ := set2 wB PB _ _ (by rw [d0]; rfl) (by rw [d1]; rfl) W2 hW2
        have hF3 := unhide HF2
        rw [hW2] at hF3 ⊢
        refine bodyPost_ret (by simp [results, Tryd.results57, go_sem, k0, k1]; try rfl) rfl ?_
        exact ⟨rfl, hF3⟩
      · have hrec := fun w => ih (f + hf n) (n - hf n) m w (by omega) (by omega) (by omega) (by omega)
        unfold EndSays at *
        rw [endF_r (by omega) e hl]
        generalize endF (f + hf n) (n - hf n) m = E at *
        have hl' : ¬ (m : Int) ≤ ((f + hf n : Nat) : Int) := by omega
        have hl2 := hl
        have HC := hide (And.intro hhv hrec)
        clear hhv hrec hp hlt ih h1 h2 h3 e hb hl
        generalize f + hf n = F2 at *
        generalize n - hf n = N2 at *
        generalize hf n = K at *
        unfold sv at *
        generalize E.1 = E1 at *
        generalize E.2 = E2 at *
        go_enter Tryd.func57, Tryd.ntmps57
        go_wp2_with fail
        obtain ⟨W0, hW0⟩ : ∃ W0, (w.alloc (.cells #[.int .i64 f, .int .i64 n] 57)).alloc (.cells #[.int .i64 0, .int .i64 0] 57) = W0 := ⟨_, rfl⟩
        rw [hW0]
        obtain ⟨b0, b1, z0, z1, hF0⟩ := box22 w _ _ _ _ _ W0 hW0
        refine ((unhide HC).1 _).mono ?_
        rintro e' wA ⟨rfl, hFA⟩
        have c0 := (hFA.cell (lt_of_cell b0) (fun h => h)).trans b0
        have c1 := (hFA.cell (lt_of_cell b1) (fun h => h)).trans b1
        have y0 := (hFA.frozen (p := ⟨w.heap.size + 1, 0, none⟩) (lt_of_cell b0) (fun h => h)).trans z0
        have y1 := (hFA.frozen (p := ⟨w.heap.size + 1, 1, none⟩) (lt_of_cell b1) (fun h => h)).trans z1
        have HF := hide (hF0.trans hFA (fun _ _ h => h))
        have hPB : w.heap.size ≤ w.heap.size + 1 := by omega
        clear hFA hF0 b0 b1 hW0 z0 z1
        generalize w.heap.size + 1 = PB at *
        have l0 : PB < wA.heap.size := lt_of_cell c0
        have l1 : PB < wA.heap.size + 1 := Nat.lt_succ_of_lt l0
        go_wp2_with fail
        obtain ⟨W1, hW1⟩ : ∃ W1, (wA.alloc (.cells #[.int .i64 f, .int .i64 K] 57)).alloc (.cells #[.int .i64 F2, .int .i64 N2] 57) = W1 := ⟨_, rfl⟩
        rw [hW1]
        obtain ⟨x0, x1, x2, x3, hF1⟩ := two2 wA _ _ _ _ _ W1 hW1
        refine ((unhide HC).2 _).mono ?_
        rintro e' wB ⟨rfl, hFB⟩
        have hF1B := hF1.trans hFB (fun _ _ h => h)
        have d0 := (hF1B.cell (lt_of_cell c0) (fun h => h)).trans c0
        have d1 := (hF1B.cell (lt_of_cell c1) (fun h => h)).trans c1
        have u0 := (hF1B.frozen (p := ⟨PB, 0, none⟩) (lt_of_cell c0) (fun h => h)).trans y0
        have u1 := (hF1B.frozen (p := ⟨PB, 1, none⟩) (lt_of_cell c1) (fun h => h)).trans y1
        have hF2 := ((unhide HF).trans hF1B (fun _ _ h => h)).setCell (p := ⟨PB, 0, none⟩) (.inr hPB) (.int .i64 (E1 : Int)) |>.setCell (p := ⟨PB, 1, none⟩) (.inr hPB) (.int .i64 (E2 : Int))
        have HF2 := hide hF2
        clear hF1 hFB hF1B hW1 x0 x1 x2 x3 c0 c1 y0 y1 HF l0 l1 hF2
        go_wp2_with fail
        obtain ⟨W2, hW2⟩ : ∃ W2, (wB.setCell ⟨PB, 0, none⟩ (.int .i64 (E1 : Int))).setCell ⟨PB, 1, none⟩ (.int .i64 (E2 : Int)) = W2 := ⟨_, rfl⟩
        obtain ⟨k0, k1⟩ := set2 wB PB _ _ (by rw [d0]; rfl) (by rw [d1]; rfl) W2 hW2
        have hF3 := unhide HF2
        rw [hW2] at hF3 ⊢
        refine bodyPost_ret (by simp [results, Tryd.results57, go_sem, k0, k1]; try rfl) rfl ?_
        exact ⟨rfl, hF3⟩
end Go.Proofs.YthccbfgjekdiiaaDoor

namespace Go.Proofs.YthccbfgjekdiiaaDoor
open Go.RowKit

/-- A literal of one hash. -/
theorem ol_lit1 {w w1 : World} {yo : Option Addr} {yc : Nat} {l : List Nat} (hO : OB w w1 yo yc l) (hb : ∀ v ∈ l, v < 256) (n : Nat) (hn : l.length = n) (W : World) (hW : w1.alloc (.cells #[.slice yo n yc] 25) = W) : OL w W (some ⟨w1.heap.size, 0, none⟩) 1 [.slice yo n yc] [l] := by
  subst hn
  have hF : Fr (fun _ => False) w1 W := by rw [← hW]; exact (Fr.refl _ _).alloc _
  refine ⟨⟨?_, hO.fr.trans hF (fun _ _ h => h)⟩, rfl, fun j v p hv hp => ?_, fun j j' v v' g g' hj hv hv' => ?_, fun p hp => ?_⟩
  · have := World.ownsRow_lit (e := 25) (size := 1) w1 #[.slice yo l.length yc] 1 (Nat.le_refl _) (by simp only [maxLen]; omega) rfl
    rw [hW] at this
    refine ⟨this.1, ?_⟩
    rcases this.2 with h0 | ⟨g, cap, cur, e1, e2, e3⟩
    · exact .inl h0
    · exact .inr ⟨g, cap, cur, e1, Nat.le_trans hO.fr.size e2, e3⟩
  · match j with
    | 0 =>
      simp at hv hp
      subst hv hp
      exact ⟨yo, yc, rfl, hO.ow.fr0 hF⟩
    | j + 1 => simp at hv
  · match j, j' with
    | 0, 0 => exact absurd rfl hj
    | j + 1, _ => simp at hv
    | 0, j' + 1 => simp at hv'
  · simp at hp; subst hp; exact hb
/-- One hash ahead of hashes that were there before it. -/
theorem OL.ahead {w wB wC W : World} {ao yo : Option Addr} {cp yc wi : Nat} {vs : List Value} {ps : List (List Nat)} {l : List Nat} (h : OL w wB ao cp vs ps) (hO : OB wB wC yo yc l) (hb : ∀ v ∈ l, v < 256) (hl : l.length = wi) (hW : wC.alloc (.cells #[.slice yo wi yc] 25) = W) (hn : vs.length < 16000000) :
    ∃ ao' cp' w2, (Builtin.append_ #[22, 22] 22 #[.slice (some ⟨wC.heap.size, 0, none⟩) 1 1, .slice ao vs.length cp]).run Tryd.prog W = .ok (.slice ao' (1 + vs.length) cp') w2 ∧ OL w w2 ao' cp' ([.slice yo wi yc] ++ vs) ([l] ++ ps) := by
  have hF : Fr (fun _ => False) wB W := by rw [← hW]; exact hO.fr.alloc _
  have hA := (ol_lit1 hO hb wi hl W hW).base h.own.fr
  have hB := h.fr0 hF
  refine hA.add _ vs ps hB.ss hB.len hB.row hB.apart (fun v hv u hu g hg hg' => ?_) hB.byt (by simp; omega)
  simp at hv
  subst hv
  have h2 := (h.inner_lt u hu g hg').2
  have h3 := (World.ownsRow.lt hO.own g (by rw [hl]; exact hg)).1
  omega
/-- The proof from the first m. -/
def prf (wi : Nat) (L : List (List Nat)) (n m : Nat) : List (List Nat) :=
  if m = 0 then [] else if (endF 0 n m).1 = 0 then bes wi L 0 n (endF 0 n m).1 (endF 0 n m).2
  else mth wi (blk L (endF 0 n m).1 (endF 0 n m).2) :: bes wi L 0 n (endF 0 n m).1 (endF 0 n m).2
theorem box3p (w : World) (a b c : Value) (ty : Nat) (W : World) (hW : w.alloc (.cells #[a, b, c] ty) = W) : W.cell? ⟨w.heap.size, 0, none⟩ = some a ∧ W.cell? ⟨w.heap.size, 1, none⟩ = some b ∧ W.cell? ⟨w.heap.size, 2, none⟩ = some c ∧ Fr (fun _ => False) w W := by
  subst hW
  exact box3 (Fr.refl _ _)
theorem box2p (w : World) (a b : Value) (ty : Nat) (W : World) (hW : w.alloc (.cells #[a, b] ty) = W) : W.cell? ⟨w.heap.size, 0, none⟩ = some a ∧ W.cell? ⟨w.heap.size, 1, none⟩ = some b ∧ Fr (fun _ => False) w W := by
  subst hW
  have hc : ∀ j, (w.alloc (.cells #[a, b] ty)).cell? ⟨w.heap.size, j, none⟩ = (#[a, b] : Array Value)[j]? := fun j => World.cell?_alloc_at _ _ _ _ rfl
  exact ⟨hc 0, hc 1, (Fr.refl _ _).alloc _⟩
set_option maxRecDepth 100000 in
set_option maxHeartbeats 1000000 in
theorem proof_any (tb wi : Nat) (hw1 : 1 ≤ wi) (hw32 : wi ≤ 32) (L : List (List Nat)) (n m : Nat) (w : World) (hT : Tk w tb wi L) (hn : n ≤ L.length) (h0 : 0 < m) (hm : m ≤ n) :
    Calls Tryd.prog 53 #[pv (.pointer (some ⟨tb, 0, none⟩)) 0 n, .int .i64 m] w fun e w' => ∃ ao cp vs, e = .returned (.slice ao vs.length cp) ∧ OL w w' ao cp vs (prf wi L n m) := by
  have hle := hT.len
  obtain ⟨i1, i2, i3, i4, i5⟩ := endF_ok n 0 n m (Nat.le_refl _) h0 (by omega)
  have hend := fun w' => end_any n 0 n m w' (Nat.le_refl _) (by omega) h0 (by omega)
  have hbes := fun w' (hf : Fr (fun _ => False) w w') => beside_any tb wi hw1 hw32 L n 0 n (endF 0 n m).1 (endF 0 n m).2 w' (Nat.le_refl _) (hT.fr0 hf) (al_zero n) (by omega) i4
  have hroot := fun w' (hf : Fr (fun _ => False) w w') => root_any tb wi hw1 hw32 L _ (endF 0 n m).1 (endF 0 n m).2 w' (Nat.le_refl _) (hT.fr0 hf) (i5 (al_zero n)) (by omega)
  have hMw := hT.mw hw1 hw32 (endF 0 n m).1 (endF 0 n m).2
  have hMb := hT.mb (endF 0 n m).1 (endF 0 n m).2
  have hbl : (bes wi L 0 n (endF 0 n m).1 (endF 0 n m).2).length < 16000000 := by
    rw [bes_len wi L n 0 n _ _ (Nat.le_refl _)]
    have := dep_le n 0 n (endF 0 n m).1 (endF 0 n m).2 (Nat.le_refl _)
    omega
  have hpr : prf wi L n m = if (endF 0 n m).1 = 0 then bes wi L 0 n (endF 0 n m).1 (endF 0 n m).2 else mth wi (blk L (endF 0 n m).1 (endF 0 n m).2) :: bes wi L 0 n (endF 0 n m).1 (endF 0 n m).2 := by
    rw [prf, if_neg (by omega)]
  rw [hpr]
  unfold EndSays BesSays RootSays at *
  clear hpr i1 i2 i3 i4 i5 hle h0 hm hn
  generalize bes wi L 0 n (endF 0 n m).1 (endF 0 n m).2 = BS at *
  generalize mth wi (blk L (endF 0 n m).1 (endF 0 n m).2) = M at *
  generalize (endF 0 n m).1 = E1 at *
  generalize (endF 0 n m).2 = E2 at *
  have HC := hide (And.intro hend (And.intro hbes (And.intro hroot (And.intro hMw (And.intro hMb hbl)))))
  clear hend hbes hroot hMw hMb hbl hT
  unfold sv pv at *
  have e0 : ((0 : Nat) : Int) = 0 := rfl
  simp only [e0] at HC ⊢
  clear e0
  by_cases hE : E1 = 0
  · rw [if_pos hE]
    subst hE
    have e0 : ((0 : Nat) : Int) = 0 := rfl
    simp only [e0] at HC
    clear e0
    go_enter Tryd.func53, Tryd.ntmps53
    go_wp2_with fail
    obtain ⟨W0, hW0⟩ : ∃ W0, w.alloc (.cells #[.pointer (some ⟨tb, 0, none⟩), .int .i64 0, .int .i64 n] 79) = W0 := ⟨_, rfl⟩
    rw [hW0]
    obtain ⟨a0, a1, a2, hF0⟩ := box3p w _ _ _ _ W0 hW0
    refine ((unhide HC).1 _).mono ?_
    rintro e wA ⟨rfl, hFA⟩
    have b0 := (hFA.cell (lt_of_cell a0) (fun h => h)).trans a0
    have b1 := (hFA.cell (lt_of_cell a1) (fun h => h)).trans a1
    have b2 := (hFA.cell (lt_of_cell a2) (fun h => h)).trans a2
    have HF := hide (hF0.trans hFA (fun _ _ h => h))
    clear hF0 hFA hW0 a0 a1 a2
    generalize w.heap.size = P at *
    have l0 : P < wA.heap.size := lt_of_cell b0
    go_wp2_with fail
    obtain ⟨W1, hW1⟩ : ∃ W1, wA.alloc (.cells #[.int .i64 0, .int .i64 E2] 57) = W1 := ⟨_, rfl⟩
    rw [hW1]
    obtain ⟨x0, x1, hF1⟩ := box2p wA _ _ _ W1 hW1
    refine ((unhide HC).2.1 _ ((unhide HF).trans hF1 (fun _ _ h => h))).mono ?_
    rintro e wB ⟨ao, cp, vs, rfl, hO⟩
    have y0 := (hO.own.fr.cell (lt_of_cell x0) (fun h => h)).trans x0
    have HB := hide (hO.base ((unhide HF).trans hF1 (fun _ _ h => h)))
    clear hO hF1 hW1 x0 x1
    go_wp2_with fail
    go_ret
    exact ⟨ao, cp, vs, rfl, unhide HB⟩
  · rw [if_neg hE]
    have hE' : ((E1 : Int) == 0) = false := beq_false_of_ne (by omega)
    go_enter Tryd.func53, Tryd.ntmps53
    go_wp2_with fail
    obtain ⟨W0, hW0⟩ : ∃ W0, w.alloc (.cells #[.pointer (some ⟨tb, 0, none⟩), .int .i64 0, .int .i64 n] 79) = W0 := ⟨_, rfl⟩
    rw [hW0]
    obtain ⟨a0, a1, a2, hF0⟩ := box3p w _ _ _ _ W0 hW0
    refine ((unhide HC).1 _).mono ?_
    rintro e wA ⟨rfl, hFA⟩
    have b0 := (hFA.cell (lt_of_cell a0) (fun h => h)).trans a0
    have b1 := (hFA.cell (lt_of_cell a1) (fun h => h)).trans a1
    have b2 := (hFA.cell (lt_of_cell a2) (fun h => h)).trans a2
    have HF := hide (hF0.trans hFA (fun _ _ h => h))
    clear hF0 hFA hW0 a0 a1 a2
    generalize w.heap.size = P at *
    have l0 : P < wA.heap.size := lt_of_cell b0
    go_wp2_with fail
    obtain ⟨W1, hW1⟩ : ∃ W1, wA.alloc (.cells #[.int .i64 E1, .int .i64 E2] 57) = W1 := ⟨_, rfl⟩
    rw [hW1]
    obtain ⟨x0, x1, hF1⟩ := box2p wA _ _ _ W1 hW1
    refine ((unhide HC).2.1 _ ((unhide HF).trans hF1 (fun _ _ h => h))).mono ?_
    rintro e wB ⟨ao, cp, vs, rfl, hO⟩
    have hF1B := hF1.trans hO.own.fr (fun _ _ h => h)
    have y0 := (hO.own.fr.cell (lt_of_cell x0) (fun h => h)).trans x0
    have y1 := (hO.own.fr.cell (lt_of_cell x1) (fun h => h)).trans x1
    have d0 := (hF1B.cell (lt_of_cell b0) (fun h => h)).trans b0
    have HB := hide (And.intro (hO.base ((unhide HF).trans hF1 (fun _ _ h => h))) ((unhide HF).trans hF1B (fun _ _ h => h)))
    clear hO hF1 hF1B hW1 x0 x1 b0 b1 b2 l0
    generalize wA.heap.size = Z at *
    go_wp2_with fail
    refine ((unhide HC).2.2.1 _ (unhide HB).2).mono ?_
    rintro e wC ⟨yo, yc, rfl, hO⟩
    obtain ⟨W2, hW2⟩ : ∃ W2, wC.alloc (.cells #[.slice yo wi yc] 25) = W2 := ⟨_, rfl⟩
    obtain ⟨ao2, cp2, w3, hr, hO3⟩ := (unhide HB).1.ahead hO (unhide HC).2.2.2.2.1 (unhide HC).2.2.2.1 hW2 (by rw [(unhide HB).1.len]; exact (unhide HC).2.2.2.2.2)
    have HR := hide hr
    have HO := hide hO3
    clear hO hr hO3
    go_wp2_with (at_builtin; refine wpList_app rfl (.tmp 23) (.tmp 24) 22 22 rfl _ _ _ rfl rfl (unhide HR) ?_)
    go_ret
    exact ⟨ao2, cp2, _, by rw [List.length_append]; rfl, unhide HO⟩
set_option maxRecDepth 100000 in
set_option maxHeartbeats 1000000 in
theorem tproof_in (tb wi : Nat) (hw1 : 1 ≤ wi) (hw32 : wi ≤ 32) (L : List (List Nat)) (m n : Nat) (w : World) (hT : Tk w tb wi L) (hn : n ≤ L.length) (hm : m ≤ n) :
    Calls Tryd.prog 25 #[.pointer (some ⟨tb, 0, none⟩), .int .i64 m, .int .i64 n] w fun e w' => ∃ ao cp vs, e = .returned (.tuple #[.slice ao vs.length cp, .int .i64 0]) ∧ OL w w' ao cp vs (prf wi L n m) := by
  obtain ⟨c0, c1, htb⟩ := hT.c0
  have hhas : Calls Tryd.prog 48 #[.pointer (some ⟨tb, 0, none⟩), .int .i64 n] w fun e w' => e = .returned (.bool true) ∧ w' = w := by
    have := has_any tb L.length wi n w c0 c1
    rw [decide_eq_true (by omega)] at this
    exact this
  have q1 : ¬ (m : Int) < 0 := by omega
  have q2 : ¬ (n : Int) < (m : Int) := by omega
  have q3 : ¬ n < m := by omega
  by_cases h0 : m = 0
  · subst h0
    rw [prf, if_pos rfl]
    have HG := hide hhas
    clear hhas hT c0 c1 htb hn hm
    have e0 : ((0 : Nat) : Int) = 0 := rfl
    simp only [e0] at q1 q2 ⊢
    go_enter Tryd.func25, Tryd.ntmps25
    go_wp2_with fail
    refine (unhide HG).mono ?_
    rintro e w0 ⟨rfl, rfl⟩
    go_wp2_with fail
    go_returns
    exact ⟨none, 0, [], rfl, OL.nil _⟩
  · have hpr := fun w' (hf : Fr (fun _ => False) w w') => proof_any tb wi hw1 hw32 L n m w' (hT.fr0 hf) hn (by omega) hm
    have hm0 : ((m : Int) == 0) = false := beq_false_of_ne (by omega)
    have HG := hide (And.intro hhas hpr)
    clear hhas hpr hT c0 c1 htb hn hm
    go_enter Tryd.func25, Tryd.ntmps25
    go_wp2_with fail
    refine (unhide HG).1.mono ?_
    rintro e w0 ⟨rfl, rfl⟩
    go_wp2_with fail
    refine (first_any _ _ _).mono ?_
    rintro e w1 ⟨rfl, hF1⟩
    have H1 := hide hF1
    clear hF1
    go_wp2_with fail
    refine ((unhide HG).2 w1 (unhide H1)).mono ?_
    rintro e w2 ⟨ao, cp, vs, rfl, hO⟩
    have H2 := hide (hO.base (unhide H1))
    clear hO
    go_wp2_with fail
    go_returns
    exact ⟨ao, cp, vs, rfl, unhide H2⟩
set_option maxRecDepth 100000 in
theorem tproof_no (tb n : Nat) (wi i k : Int) (w : World) (c0 : w.cell? ⟨tb, 0, none⟩ = some (.int .i64 wi)) (c1 : w.cell? ⟨tb, 1, none⟩ = some (.int .i64 n)) (h : ¬ (1 ≤ wi ∧ wi ≤ 32 ∧ 0 ≤ k ∧ k ≤ n) ∨ i < 0 ∨ k < i) :
    Calls Tryd.prog 25 #[.pointer (some ⟨tb, 0, none⟩), .int .i64 i, .int .i64 k] w fun e w' => e = .returned (.tuple #[.slice none 0 0, .int .i64 1]) ∧ w' = w := by
  have hhas := has_any tb n wi k w c0 c1
  by_cases hh : 1 ≤ wi ∧ wi ≤ 32 ∧ 0 ≤ k ∧ k ≤ n
  · rw [decide_eq_true hh] at hhas
    have HG := hide hhas
    have h' : i < 0 ∨ k < i := by omega
    clear hhas h c0 c1
    by_cases hi : i < 0
    · clear h' hh
      go_enter Tryd.func25, Tryd.ntmps25
      go_wp2_with fail
      refine (unhide HG).mono ?_
      rintro e w0 ⟨rfl, rfl⟩
      go_wp2_with fail
      go_returns
      exact ⟨rfl, rfl⟩
    · have hk : k < i := by omega
      clear h' hh
      go_enter Tryd.func25, Tryd.ntmps25
      go_wp2_with fail
      refine (unhide HG).mono ?_
      rintro e w0 ⟨rfl, rfl⟩
      go_wp2_with fail
      go_returns
      exact ⟨rfl, rfl⟩
  · rw [decide_eq_false hh] at hhas
    have HG := hide hhas
    clear hhas h hh c0 c1
    go_enter Tryd.func25, Tryd.ntmps25
    go_wp2_with fail
    refine (unhide HG).mono ?_
    rintro e w0 ⟨rfl, rfl⟩
    go_wp2_with fail
    go_returns
    exact ⟨rfl, rfl⟩
set_option maxRecDepth 100000 in
set_option maxHeartbeats 1000000 in
/-- merkle.Proof. -/
theorem mproof_in (wi : Nat) (hw1 : 1 ≤ wi) (hw32 : wi ≤ 32) (x : Value) (us : List Value) (es : List (List Nat)) (i : Nat) (w : World) (hg : GS w) (ht : GT w) (hp : Pcs w x us es) (hB : ∀ e ∈ es, e.length ≤ 16000000) (hn : es.length ≤ 8000000) (hi : i ≤ es.length) :
    Calls Tryd.prog 8 #[.int .i64 wi, x, .int .i64 i] w fun e w' => ∃ ao cp vs, e = .returned (.tuple #[.slice ao vs.length cp, .int .i64 0]) ∧ OL w w' ao cp vs (prf wi (es.map (lf wi)) es.length i) := by
  have hgr := grown_in wi hw1 hw32 x us es w hg hp hB hn
  have htr : ∀ w' tb, Tk w' tb wi (es.map (lf wi)) → _ := fun w' tb hT => tproof_in tb wi hw1 hw32 (es.map (lf wi)) i es.length w' hT (by rw [List.length_map]; exact Nat.le_refl _) hi
  obtain ⟨xo, xc, rfl⟩ := hp.form
  have HT := hide (fun (w' : World) (tb base : Nat) (xo : Option Addr) (cp : Nat) (vs : List Value) (rs : List (List Nat)) (hT : TrAt w' base tb wi es.length xo cp vs rs) hR hf => tk_of hw1 hw32 hT hR hg ht hf hn)
  have HG := hide (And.intro hgr htr)
  clear hgr htr hg ht hp hB hi hn
  generalize prf wi (es.map (lf wi)) es.length i = M at *
  generalize es.length = N at *
  go_enter Tryd.func8, Tryd.ntmps8
  go_wp2_with fail
  refine (unhide HG).1.mono ?_
  rintro e w1 ⟨rfl, yo, cp, vs, rs, hT, hR, hF⟩
  have hk := (unhide HT) _ _ _ _ _ _ _ hT hR hF
  have H1 := hide (And.intro hk hF)
  clear hk hF hT hR
  generalize w.heap.size = TB at *
  go_wp2_with fail
  refine ((unhide HG).2 w1 TB (unhide H1).1).mono ?_
  rintro e w2 ⟨ao, cp, vs, rfl, hO⟩
  have H2 := hide (hO.base (unhide H1).2)
  clear hO
  go_wp2_with fail
  go_returns
  exact ⟨ao, cp, vs, rfl, unhide H2⟩
set_option maxRecDepth 100000 in
set_option maxHeartbeats 1000000 in
theorem mproof_no (j : Int) (i : Int) (x : Value) (us : List Value) (es : List (List Nat)) (w : World) (hg : GS w) (hp : Pcs w x us es) (hB : ∀ e ∈ es, e.length ≤ 16000000) (hn : es.length ≤ 8000000) (hi : (j < 1 ∨ 32 < j) ∨ i < 0 ∨ (es.length : Int) < i) :
    Calls Tryd.prog 8 #[.int .i64 j, x, .int .i64 i] w fun e w' => e = .returned (.tuple #[.slice none 0 0, .int .i64 1]) ∧ Fr (fun _ => False) w w' := by
  have hgr : Calls Tryd.prog 19 #[.int .i64 j, x] w fun e w' => e = .returned (.pointer (some ⟨w.heap.size, 0, none⟩)) ∧ w'.cell? ⟨w.heap.size, 0, none⟩ = some (.int .i64 j) ∧ w'.cell? ⟨w.heap.size, 1, none⟩ = some (.int .i64 es.length) ∧ Fr (fun _ => False) w w' := by
    by_cases hj : 1 ≤ j ∧ j ≤ 32
    · obtain ⟨wi, rfl⟩ : ∃ n : Nat, j = (n : Int) := ⟨j.toNat, by omega⟩
      refine (grown_in wi (by omega) (by omega) x us es w hg hp hB hn).mono ?_
      rintro e w' ⟨rfl, xo, cp, vs, rs, hT, _, hF⟩
      exact ⟨rfl, hT.cells.1, hT.cells.2.1, hF⟩
    · refine (grown_out j (by omega) x us es w hp hn).mono ?_
      rintro e w' ⟨rfl, hT, hF⟩
      exact ⟨rfl, hT.cells.1, hT.cells.2.1, hF⟩
  have htr : ∀ (w' : World) (tb : Nat), w'.cell? ⟨tb, 0, none⟩ = some (.int .i64 j) → w'.cell? ⟨tb, 1, none⟩ = some (.int .i64 es.length) → _ := fun w' tb h0 h1 => tproof_no tb es.length j i es.length w' h0 h1 (by omega)
  obtain ⟨xo, xc, rfl⟩ := hp.form
  have HG := hide (And.intro hgr htr)
  clear hgr htr hp hg hB hn hi
  generalize es.length = N at *
  go_enter Tryd.func8, Tryd.ntmps8
  go_wp2_with fail
  refine (unhide HG).1.mono ?_
  rintro e w1 ⟨rfl, h0, h1, hF⟩
  have H1 := hide (And.intro h0 (And.intro h1 hF))
  clear hF h0 h1
  generalize w.heap.size = TB at *
  go_wp2_with fail
  refine ((unhide HG).2 w1 TB (unhide H1).1 (unhide H1).2.1).mono ?_
  rintro e w2 ⟨rfl, rfl⟩
  go_wp2_with fail
  go_returns
  exact ⟨rfl, (unhide H1).2.2⟩
end Go.Proofs.YthccbfgjekdiiaaDoor

