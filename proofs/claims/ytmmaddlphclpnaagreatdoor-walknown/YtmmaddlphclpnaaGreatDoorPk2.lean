import Derived.Test.YtmmaddlphclpnaaGreatDoorPk1
import Derived.Test.YtmmaddlphclpnaaGreatDoorDle
import Derived.Test.YtmmaddlphclpnaaGreatDoorDkz
namespace Go.Proofs.YtmmaddlphclpnaaGreatDoor
open Go.RowKit Go.ChangeShapes Go.WideShapes Go.Maps Go.Sort

theorem nm_seg (name : ByteArray) (i : Nat) : nm (seg name i) = nm name ++ 46 :: Lib.decDigits i := by
  simp [nm, seg, ByteArray.data_append]
theorem dec_inj {i j : Nat} (hi : i < 100) (hj : j < 100) (h : Lib.decDigits i = Lib.decDigits j) : i = j := by
  have u : ∀ a b : Nat, a < 200 → b < 200 → UInt8.ofNat a = UInt8.ofNat b → a = b := fun a b ha hb e => by
    have := congrArg UInt8.toNat e
    simp only [UInt8.toNat_ofNat'] at this
    omega
  by_cases h1 : i < 10 <;> by_cases h2 : j < 10
  · rw [Lib.decDigits_one h1, Lib.decDigits_one h2] at h
    injection h with h _
    have := u _ _ (by omega) (by omega) h
    omega
  · rw [Lib.decDigits_one h1, Lib.decDigits_two h2 hj] at h
    injection h with _ h
    cases h
  · rw [Lib.decDigits_two h1 hi, Lib.decDigits_one h2] at h
    injection h with _ h
    cases h
  · rw [Lib.decDigits_two h1 hi, Lib.decDigits_two h2 hj] at h
    injection h with ha h
    injection h with hb _
    have a := u _ _ (by omega) (by omega) ha
    have b := u _ _ (by omega) (by omega) hb
    omega
theorem seg_inj {name : ByteArray} {i j : Nat} (hi : i < 100) (hj : j < 100) (h : nm (seg name i) = nm (seg name j)) : i = j := by
  rw [nm_seg, nm_seg] at h
  have := List.append_cancel_left h
  injection this with _ this
  exact dec_inj hi hj this
def sumK (g : Lit → Int) : List Lit → Int
  | [] => 0
  | k :: r => g k + sumK g r
theorem sumA_keys (g : Lit → Int) : ∀ l : List (Lit × DataW Unit), sumA g l = sumK g (l.map Prod.fst)
  | [] => rfl
  | p :: r => by simp only [sumA, List.map_cons, sumK]; rw [sumA_keys g r]
theorem sumK_perm (g : Lit → Int) {l l' : List Lit} (h : l.Perm l') : sumK g l = sumK g l' := by
  induction h with
  | nil => rfl
  | cons x _ ih => simp only [sumK, ih]
  | swap x y l => simp only [sumK]; omega
  | trans _ _ h1 h2 => exact h1.trans h2
theorem sumK_app (g : Lit → Int) : ∀ a b : List Lit, sumK g (a ++ b) = sumK g a + sumK g b
  | [], b => by simp [sumK]
  | x :: r, b => by simp only [List.cons_append, sumK]; rw [sumK_app g r b]; omega
def totI (g : Nat → Int) : Nat → Int
  | 0 => 0
  | k + 1 => totI g k + g k
theorem sumK_range (g : Lit → Int) (f : Nat → Lit) : ∀ N, sumK g ((List.range N).map f) = totI (fun i => g (f i)) N
  | 0 => rfl
  | N + 1 => by
    rw [List.range_succ, List.map_append, sumK_app, sumK_range g f N]
    simp [sumK, totI]
theorem totI_eq {g h : Nat → Int} : ∀ {N : Nat}, (∀ i, i < N → g i = h i) → totI g N = totI h N
  | 0, _ => rfl
  | N + 1, e => by simp only [totI]; rw [totI_eq (fun i hi => e i (by omega)), e N (by omega)]
theorem totI_zero {g : Nat → Int} : ∀ {N : Nat}, (∀ i, i < N → g i = 0) → totI g N = 0
  | 0, _ => rfl
  | N + 1, e => by simp only [totI]; rw [totI_zero (fun i hi => e i (by omega)), e N (by omega)]; rfl
theorem totI_nat (B : Nat → List Nat) : ∀ N : Nat, totI (fun i => ((B i).length : Int)) N = (tot B N : Nat)
  | 0 => rfl
  | N + 1 => by simp only [totI, tot]; rw [totI_nat B N]; omega
theorem tot_eq {B C : Nat → List Nat} : ∀ {N : Nat}, (∀ i, i < N → (B i).length = (C i).length) → tot B N = tot C N
  | 0, _ => rfl
  | N + 1, e => by simp only [tot]; rw [tot_eq (fun i hi => e i (by omega)), e N (by omega)]
theorem tot_ge (B : Nat → List Nat) : ∀ {N i : Nat}, i < N → (B i).length ≤ tot B N
  | 0, i, h => by omega
  | N + 1, i, h => by
    simp only [tot]
    rcases Nat.lt_or_ge i N with h1 | h1
    · have := tot_ge B h1; omega
    · obtain rfl : i = N := by omega
      omega
/-- A disk that has just the segments of a name. -/
structure Fls (s : DM) (name : ByteArray) (N : Nat) (b : Nat → FM) : Prop where
  map : Maps.IsMap s.D
  keys : ((ents s.D).map Prod.fst).Perm ((List.range N).map fun i => Lit.string (nm (seg name i)))
  F : ∀ i, i < N → s.F (nm (seg name i)) = b i
  used : s.used = tot (fun i => (b i).b) N
theorem Fls.key {s : DM} {name : ByteArray} {N : Nat} {b : Nat → FM} (h : Fls s name N b) {k : List UInt8} (hk : Maps.has s.D (.string k) = true) : ∃ i, i < N ∧ k = nm (seg name i) := by
  obtain ⟨es, he⟩ := h.map
  have hkeys := h.keys
  rw [he] at hk hkeys
  obtain ⟨p, hp, hs⟩ := List.any_eq_true.1 hk
  have ep : p.1 = .string k := Classical.byContradiction (fun e => by rw [Maps.sameKey_ne e] at hs; cases hs)
  have hm : Lit.string k ∈ (es.map Prod.fst) := ep ▸ List.mem_map_of_mem hp
  have := hkeys.mem_iff.1 hm
  obtain ⟨i, hi, e⟩ := List.mem_map.1 this
  injection e with e
  exact ⟨i, List.mem_range.1 hi, e.symm⟩
theorem Fls.has {s : DM} {name : ByteArray} {N : Nat} {b : Nat → FM} (h : Fls s name N b) {i : Nat} (hi : i < N) : Maps.has s.D (.string (nm (seg name i))) = true := by
  obtain ⟨es, he⟩ := h.map
  have hkeys := h.keys
  rw [he] at hkeys ⊢
  have hm : Lit.string (nm (seg name i)) ∈ (List.range N).map fun i => Lit.string (nm (seg name i)) := List.mem_map.2 ⟨i, List.mem_range.2 hi, rfl⟩
  obtain ⟨p, hp, e⟩ := List.mem_map.1 (hkeys.mem_iff.2 hm)
  exact List.any_eq_true.2 ⟨p, hp, by rw [e]; exact WideAt.sameKey_self (by simp [WideAt.IsKeyLit])⟩
theorem Fls.no {s : DM} {name : ByteArray} {N : Nat} {b : Nat → FM} (h : Fls s name N b) {i : Nat} (hi : N ≤ i) (hl : i < 100) : Maps.has s.D (.string (nm (seg name i))) = false := by
  cases e : Maps.has s.D (.string (nm (seg name i))) with
  | false => rfl
  | true =>
    obtain ⟨j, hj, e⟩ := h.key e
    have := seg_inj hl (by omega) e
    omega
theorem Fls.size {s : DM} {name : ByteArray} {N : Nat} {b : Nat → FM} (h : Fls s name N b) : Maps.size s.D = N := by
  obtain ⟨es, he⟩ := h.map
  have hkeys := h.keys
  rw [he] at hkeys ⊢
  have := hkeys.length_eq
  rw [List.length_map, List.length_map, List.length_range] at this
  exact this
theorem Fls.sum {s : DM} {name : ByteArray} {N : Nat} {b : Nat → FM} (h : Fls s name N b) (g : Lit → Int) : sumA g (ents s.D) = totI (fun i => g (.string (nm (seg name i)))) N := by
  rw [sumA_keys, sumK_perm g h.keys, sumK_range]
theorem Fls.ln {s : DM} {name : ByteArray} {N : Nat} {b : Nat → FM} (h : Fls s name N b) : (s.used : Int) = sumA s.ln (ents s.D) := by
  rw [h.sum, h.used, ← totI_nat]
  exact totI_eq (fun i hi => by simp only [DM.ln, h.F i hi])
/-- One more segment. -/
theorem Fls.made {s : DM} {name : ByteArray} {N : Nat} {b : Nat → FM} (h : Fls s name N b) (hN : N < 100) (fb : Nat) : Fls (s.made (nm (seg name N)) fb) name (N + 1) (fun i => if i = N then ⟨[], 0, []⟩ else b i) := by
  have hno := h.no (Nat.le_refl N) hN
  obtain ⟨es, he⟩ := h.map
  have hkeys := h.keys
  refine ⟨?_, ?_, fun i hi => ?_, ?_⟩
  · rw [DM.made, he]; exact ⟨_, rfl⟩
  · rw [he] at hno hkeys
    have hfil : es.filter (fun p => !p.1.sameKey (.string (nm (seg name N)))) = es := List.filter_eq_self.2 (fun p hp => by
      have := List.any_eq_false.1 hno p hp
      simpa using this)
    have e1 : ents (s.made (nm (seg name N)) fb).D = DataW.insert (.string (nm (seg name N)), .lit (.int .i64 (fb : Nat))) es := by
      show ents (s.D.put _ _) = _
      rw [he]
      show DataW.insert _ (es.filter _) = _
      rw [hfil]
    rw [e1, List.range_succ, List.map_append]
    have hp := (WideShapes.insert_perm (Lit.string (nm (seg name N)), (.lit (.int .i64 (fb : Nat)) : DataW Unit)) es).map Prod.fst
    refine hp.trans ?_
    rw [List.map_cons]
    exact (hkeys.cons _).trans (List.perm_append_comm (l₁ := [Lit.string (nm (seg name N))]))
  · by_cases e : i = N
    · subst e; simp [DM.made]
    · simp only [DM.made]
      rw [if_neg (fun e2 => e (seg_inj (by omega) hN e2)), if_neg e]
      exact h.F i (by omega)
  · show s.used = _
    rw [h.used, tot]
    simp only [if_true, List.length_nil, Nat.add_zero]
    exact tot_eq (fun i hi => by rw [if_neg (by omega)])
/-- One file's turn. -/
theorem Fls.turn {s s' : DM} {name : ByteArray} {N M : Nat} {b : Nat → FM} (h : Fls s name N b) (hN : N ≤ 100) (hM : M < N) (f : FM) (hD : s'.D = s.D) (hF : ∀ k, s'.F k = if k = nm (seg name M) then f else s.F k) (hu : s'.used + (b M).b.length = s.used + f.b.length) : Fls s' name N (fun i => if i = M then f else b i) := by
  refine ⟨by rw [hD]; exact h.map, by rw [hD]; exact h.keys, fun i hi => ?_, ?_⟩
  · rw [hF]
    by_cases e : i = M
    · rw [if_pos (by rw [e]), if_pos e]
    · rw [if_neg (fun e2 => e (seg_inj (by omega) (by omega) e2)), if_neg e]
      exact h.F i hi
  · have key : ∀ K, K ≤ N → (if M < K then tot (fun i => (if i = M then f else b i).b) K + (b M).b.length = tot (fun i => (b i).b) K + f.b.length else tot (fun i => (if i = M then f else b i).b) K = tot (fun i => (b i).b) K) := by
      intro K
      induction K with
      | zero => intro _; rw [if_neg (by omega)]; rfl
      | succ K ih =>
        intro hK
        have ih := ih (by omega)
        by_cases e : M < K
        · rw [if_pos e] at ih
          rw [if_pos (by omega)]
          simp only [tot, if_neg (show ¬ K = M by omega)]
          omega
        · rw [if_neg e] at ih
          by_cases e2 : K = M
          · rw [if_pos (by omega)]
            subst e2
            simp only [tot, if_true]
            omega
          · rw [if_neg (by omega)]
            simp only [tot, if_neg e2]
            omega
    have := key N (Nat.le_refl _)
    rw [if_pos hM] at this
    have hus := h.used
    omega
theorem Fls.syn {s : DM} {name : ByteArray} {N : Nat} {b : Nat → FM} (h : Fls s name N b) (hN : N ≤ 100) {M : Nat} (hM : M < N) : Fls (s.syn (nm (seg name M))) name N (fun i => if i = M then (b M).synced else b i) :=
  h.turn hN hM _ rfl (fun k => by simp only [DM.syn]; rw [h.F M hM]) (by rfl)
theorem Fls.app {s : DM} {name : ByteArray} {N : Nat} {b : Nat → FM} (h : Fls s name N b) (hN : N ≤ 100) {M : Nat} (hM : M < N) (hl : s.left = 0) (l : List Nat) : Fls (s.app (nm (seg name M)) l) name N (fun i => if i = M then (b M).put (s.writes + 1) l else b i) := by
  have e : s.count l.length = ({ s with writes := s.writes + 1 }, l.length) := by rw [DM.count, if_pos hl]
  refine h.turn hN hM _ (by simp only [DM.app, e]) (fun k => by simp only [DM.app, e, List.take_length]; rw [h.F M hM]) ?_
  simp only [DM.app, e, FM.put]
  split
  · omega
  · simp only [List.length_append]; omega
theorem Fls.short {s : DM} {name : ByteArray} {N : Nat} {b : Nat → FM} (h : Fls s name N b) (hN : N ≤ 100) {M : Nat} (hM : M < N) (n : Nat) (hn : n ≤ (b M).b.length) : Fls (s.short (nm (seg name M)) n) name N (fun i => if i = M then (b M).cut n else b i) := by
  have hge := tot_ge (fun i => (b i).b) hM
  have hus := h.used
  refine h.turn hN hM _ rfl (fun k => by simp only [DM.short]; rw [h.F M hM]) ?_
  simp only [DM.short, FM.cut, h.F M hM, List.length_take]
  omega
def szs : List Own3 → Nat
  | [] => 0
  | o :: r => o.sz + szs r
theorem szs_perm {l l' : List Own3} (h : l.Perm l') : szs l = szs l' := by
  induction h with
  | nil => rfl
  | cons x _ ih => simp only [szs, ih]
  | swap x y l => simp only [szs]; omega
  | trans _ _ h1 h2 => exact h1.trans h2
theorem szs_app : ∀ a b : List Own3, szs (a ++ b) = szs a + szs b
  | [], b => by simp [szs]
  | x :: r, b => by simp only [List.cons_append, szs]; rw [szs_app r b]; omega
theorem gain_all (fb : Nat) : ∀ (L : List Own3) (keep : Nat), (∀ o ∈ L, o.fb = fb) → gain L keep fb = min keep (szs L)
  | [], keep, _ => by simp [gain, szs]
  | o :: r, keep, h => by
    simp only [gain, szs]
    rw [if_pos (h o (List.mem_cons_self ..)), gain_all fb r _ (fun x hx => h x (List.mem_cons_of_mem _ hx))]
    omega
theorem gain_none (fb : Nat) : ∀ (L : List Own3) (keep : Nat), (∀ o ∈ L, o.fb ≠ fb) → gain L keep fb = 0
  | [], keep, _ => rfl
  | o :: r, keep, h => by
    simp only [gain]
    rw [if_neg (h o (List.mem_cons_self ..)), gain_none fb r _ (fun x hx => h x (List.mem_cons_of_mem _ hx))]
theorem szs_cat (g : Lit → List Own3) : ∀ l : List (Lit × DataW Unit), (szs (catA g l) : Int) = sumA (fun k => (szs (g k) : Nat)) l
  | [] => rfl
  | p :: r => by simp only [catA, sumA, szs_app]; rw [← szs_cat g r]; omega
theorem szs_map (fb : Nat) : ∀ l : List (Nat × Nat), szs (l.map fun p => (⟨p.1, p.2, fb⟩ : Own3)) = sumP l
  | [] => rfl
  | p :: r => by simp only [List.map_cons, szs, sumP]; rw [szs_map fb r]
theorem len_cat (g : Lit → List Own3) : ∀ l : List (Lit × DataW Unit), ((catA g l).length : Int) = sumA (fun k => ((g k).length : Nat)) l
  | [] => rfl
  | p :: r => by simp only [catA, sumA, List.length_append]; rw [← len_cat g r]; omega
/-- All but the last segment are safe; the last one's pieces are what is pending. -/
structure Segs (M : Nat) (b : Nat → FM) : Prop where
  ps : ∀ i, i < M → (b i).ps = []
  sf : ∀ i, i < M → (b i).safe = (b i).b.length
  last : (b M).safe + sumP (b M).ps = (b M).b.length
  few : (b M).ps.length ≤ 100000
theorem sumP_mem : ∀ (l : List (Nat × Nat)) (p : Nat × Nat), p ∈ l → p.2 ≤ sumP l
  | [], p, h => by cases h
  | q :: r, p, h => by
    simp only [sumP]
    rcases List.mem_cons.1 h with rfl | h
    · omega
    · have := sumP_mem r p h; omega
theorem Fls.allp_mem {s : DM} {name : ByteArray} {M : Nat} {b : Nat → FM} (h : Fls s name (M + 1) b) (hb : Segs M b) (q : DW) (o : Own3) (ho : o ∈ s.allp q) : o.fb = q.fb (nm (seg name M)) := by
  have hcat : ∀ l : List (Lit × DataW Unit), o ∈ catA (s.pcs q) l → ∃ p ∈ l, o ∈ s.pcs q p.1 := by
    intro l
    induction l with
    | nil => intro h; cases h
    | cons p r ih =>
      intro h
      rcases List.mem_append.1 h with h | h
      · exact ⟨p, List.mem_cons_self .., h⟩
      · obtain ⟨p2, h1, h2⟩ := ih h
        exact ⟨p2, List.mem_cons_of_mem _ h1, h2⟩
  obtain ⟨p, hp, hm⟩ := hcat _ ho
  have hk := h.keys.mem_iff.1 (List.mem_map_of_mem (f := Prod.fst) hp)
  obtain ⟨i, hi, e⟩ := List.mem_map.1 hk
  have hi := List.mem_range.1 hi
  rw [← e] at hm
  simp only [DM.pcs, h.F i hi] at hm
  rcases Nat.lt_or_ge i M with h1 | h1
  · rw [hb.ps i h1] at hm; simp at hm
  · obtain rfl : i = M := by omega
    obtain ⟨x, _, e⟩ := List.mem_map.1 hm
    rw [← e]
theorem Fls.allp_sz {s : DM} {name : ByteArray} {M : Nat} {b : Nat → FM} (h : Fls s name (M + 1) b) (hb : Segs M b) (q : DW) : szs (s.allp q) = sumP (b M).ps ∧ (s.allp q).length = (b M).ps.length := by
  have e1 := szs_cat (s.pcs q) (ents s.D)
  have e2 := len_cat (s.pcs q) (ents s.D)
  rw [h.sum] at e1 e2
  simp only [totI] at e1 e2
  rw [totI_zero (fun i hi => by simp only [DM.pcs, h.F i (by omega), hb.ps i hi]; rfl)] at e1 e2
  simp only [DM.pcs, h.F M (by omega), szs_map, List.length_map] at e1 e2
  exact ⟨by unfold DM.allp; omega, by unfold DM.allp; omega⟩
theorem take_min (l : List Nat) (n : Nat) : l.take (min n l.length) = l.take n := by
  rcases Nat.le_total n l.length with h | h
  · rw [Nat.min_eq_left h]
  · rw [Nat.min_eq_right h, List.take_length, List.take_of_length_le h]
/-- How many bytes of the last segment a crash leaves. -/
def leftN (f : FM) (keep : Nat) : Nat := f.safe + min keep (sumP f.ps)
/-- What a crash leaves. -/
theorem Fls.crash {s : DM} {name : ByteArray} {M : Nat} {b : Nat → FM} (h : Fls s name (M + 1) b) (hM : M < 100) (hb : Segs M b) (q : DW) (L : List Own3) (keep : Nat) (hL : L.Perm (s.allp q)) (hq : ∀ i, i < M → q.fb (nm (seg name i)) ≠ q.fb (nm (seg name M))) :
    Fls ((s.offd).plus q L keep).crashT name (M + 1) (fun i => if i = M then ⟨(b M).b.take (leftN (b M) keep), leftN (b M) keep, []⟩ else b i) := by
  have hfb : ∀ o ∈ L, o.fb = q.fb (nm (seg name M)) := fun o ho => h.allp_mem hb q o (hL.mem_iff.1 ho)
  have hsz : szs L = sumP (b M).ps := (szs_perm hL).trans (h.allp_sz hb q).1
  have hlast := hb.last
  have gM : gain L keep (q.fb (nm (seg name M))) = min keep (sumP (b M).ps) := by rw [gain_all _ L keep hfb, hsz]
  have gi : ∀ i, i < M → gain L keep (q.fb (nm (seg name i))) = 0 := fun i hi => gain_none _ L keep (fun o ho e => hq i hi (e.symm.trans (hfb o ho)))
  have hF : ∀ i, i < M + 1 → (((s.offd).plus q L keep).crashT).F (nm (seg name i)) = if i = M then ⟨(b M).b.take (leftN (b M) keep), leftN (b M) keep, []⟩ else b i := fun i hi => by
    simp only [DM.crashT, DM.plus, DM.offd, FM.crash]
    by_cases e : i = M
    · subst e
      rw [if_pos rfl, gM, h.F i hi]
      simp only [leftN, FM.mk.injEq, and_true, true_and, List.length_take]
      omega
    · rw [if_neg e, gi i (by omega), h.F i hi]
      have e1 := hb.sf i (by omega)
      have e2 := hb.ps i (by omega)
      cases hbi : b i with
      | mk bb sf ps =>
        rw [hbi] at e1 e2
        simp only at e1 e2
        simp [e1, e2]
  refine ⟨h.map, h.keys, hF, ?_⟩
  show ((s.used : Int) - sumA _ (ents s.D)).toNat = _
  rw [h.sum, h.used, tot, totI]
  rw [totI_zero (fun i hi => by
    simp only [DM.pd, DM.plus, DM.offd, h.F i (by omega), gi i hi, hb.sf i hi]
    omega)]
  simp only [DM.pd, DM.plus, DM.offd, h.F M (by omega), gM, tot, if_true]
  rw [tot_eq (B := fun i => (if i = M then (⟨(b M).b.take (leftN (b M) keep), leftN (b M) keep, []⟩ : FM) else b i).b) (C := fun i => (b i).b) (fun i hi => by rw [if_neg (show ¬ i = M by omega)])]
  simp only [leftN, List.length_take]
  omega
end Go.Proofs.YtmmaddlphclpnaaGreatDoor

namespace Go.Proofs.YtmmaddlphclpnaaGreatDoor
open Go.RowKit Go.ChangeShapes Go.WideShapes Go.Maps Go.Sort

theorem Fls.congr {s : DM} {name : ByteArray} {N : Nat} {b b' : Nat → FM} (h : Fls s name N b) (e : ∀ i, i < N → b i = b' i) : Fls s name N b' :=
  ⟨h.map, h.keys, fun i hi => (h.F i hi).trans (e i hi), h.used.trans (tot_eq (fun i hi => by rw [e i hi]))⟩
/-- The files of a log whose segments but the last are safe. -/
def LB (I : List (List (List Nat))) (f : FM) : Nat → FM := fun i => if i = I.length then f else ⟨fby (I.getD i []), (fby (I.getD i [])).length, []⟩
theorem LB_last (I : List (List (List Nat))) (f : FM) : LB I f I.length = f := by rw [LB, if_pos rfl]
theorem LB_old (I : List (List (List Nat))) (f : FM) {i : Nat} (h : i < I.length) : LB I f i = ⟨fby (I.getD i []), (fby (I.getD i [])).length, []⟩ := by rw [LB, if_neg (by omega)]
theorem LB_set (I : List (List (List Nat))) (f g : FM) (i : Nat) : (if i = I.length then g else LB I f i) = LB I g i := by
  by_cases e : i = I.length
  · rw [if_pos e, LB, if_pos e]
  · rw [if_neg e, LB, LB, if_neg e, if_neg e]
theorem LB_more (I : List (List (List Nat))) (ps : List (List Nat)) (g : FM) (i : Nat) (hi : i < I.length + 2) : (if i = I.length + 1 then g else LB I ⟨fby ps, (fby ps).length, []⟩ i) = LB (I ++ [ps]) g i := by
  have hl : (I ++ [ps]).length = I.length + 1 := by simp
  by_cases e : i = I.length + 1
  · rw [if_pos e, LB, hl, if_pos e]
  · rw [if_neg e]
    by_cases e2 : i = I.length
    · subst e2
      rw [LB_last, LB_old _ _ (by rw [hl]; omega)]
      simp
    · rw [LB_old _ _ (by omega), LB_old _ _ (by rw [hl]; omega)]
      simp only [List.getD_eq_getElem?_getD]
      rw [List.getElem?_append_left (by omega)]
/-- A log's disk: its whole segments, its open one, how many of that one's payloads are safe; Z bytes a segment, at most V writes. -/
structure LS (s : DM) (Z : Nat) (I : List (List (List Nat))) (ps : List (List Nat)) (j V : Nat) : Prop where
  good : s.Good
  lim : 80 * Z ≤ s.limit
  fl : ∃ pc, Fls s sLog (I.length + 1) (LB I ⟨fby ps, (fby (ps.take j)).length, pc⟩) ∧ (fby (ps.take j)).length + sumP pc = (fby ps).length ∧ pc.length ≤ ps.length
  jle : j ≤ ps.length
  ne : ∀ qs ∈ I, qs ≠ []
  few : I.flatten.length + ps.length ≤ 70
  sg : ∀ qs ∈ I ++ [ps], (fby qs).length ≤ Z
  pay : ∀ qs ∈ I ++ [ps], ∀ p ∈ qs, p.length + 12 ≤ Z
  z : Z ≤ 600
  wr : s.writes ≤ V
theorem flat_ge : ∀ (I : List (List (List Nat))), (∀ qs ∈ I, qs ≠ []) → I.length ≤ I.flatten.length
  | [], _ => Nat.le_refl _
  | qs :: R, h => by
    have h1 := List.length_pos_iff.2 (h qs (List.mem_cons_self ..))
    have h2 := flat_ge R (fun x hx => h x (List.mem_cons_of_mem _ hx))
    simp only [List.flatten_cons, List.length_append, List.length_cons]
    omega
theorem LS.n {s : DM} {Z : Nat} {I : List (List (List Nat))} {ps : List (List Nat)} {j V : Nat} (h : LS s Z I ps j V) : I.length + ps.length ≤ 70 := by
  have := flat_ge I h.ne
  have := h.few
  omega
theorem tot_le (B : Nat → List Nat) (z : Nat) : ∀ N, (∀ i, i < N → (B i).length ≤ z) → tot B N ≤ N * z
  | 0, _ => Nat.zero_le _
  | N + 1, h => by
    have := tot_le B z N (fun i hi => h i (by omega))
    have := h N (by omega)
    simp only [tot]
    rw [Nat.add_mul]
    omega
theorem fby_take_le (ps : List (List Nat)) (j : Nat) : (fby (ps.take j)).length ≤ (fby ps).length := by
  have := fby_take_mono ps (show j ≤ j + ps.length by omega)
  rwa [List.take_of_length_le (by omega : ps.length ≤ j + ps.length)] at this
theorem LS.used {s : DM} {Z : Nat} {I : List (List (List Nat))} {ps : List (List Nat)} {j V : Nat} (h : LS s Z I ps j V) : s.used ≤ 42600 ∧ s.used ≤ 71 * Z := by
  obtain ⟨pc, hf, _, _⟩ := h.fl
  have hn := h.n
  have hz := h.z
  have := tot_le (fun i => (LB I ⟨fby ps, (fby (ps.take j)).length, pc⟩ i).b) Z (I.length + 1) (fun i hi => by
    by_cases e : i = I.length
    · subst e
      simp only [LB_last]
      have := h.sg ps (by simp)
      omega
    · have hi2 : i < I.length := by omega
      simp only [LB_old _ _ hi2]
      have := h.sg (I.getD i []) (by
        rw [List.getD_eq_getElem?_getD, List.getElem?_eq_getElem hi2]
        exact List.mem_append_left _ (List.getElem_mem hi2))
      omega)
  have e := hf.used
  have : (I.length + 1) * Z ≤ 71 * Z := Nat.mul_le_mul_right _ (by omega)
  omega
theorem LS.has {s : DM} {Z : Nat} {I : List (List (List Nat))} {ps : List (List Nat)} {j V : Nat} (h : LS s Z I ps j V) {i : Nat} (hi : i ≤ I.length) : Maps.has s.D (.string (nm (seg sLog i))) = true := by
  obtain ⟨pc, hf, _, _⟩ := h.fl
  exact hf.has (by omega)
theorem LS.last {s : DM} {Z : Nat} {I : List (List (List Nat))} {ps : List (List Nat)} {j V : Nat} (h : LS s Z I ps j V) : ∃ pc, s.F (nm (seg sLog I.length)) = ⟨fby ps, (fby (ps.take j)).length, pc⟩ ∧ pc.length ≤ 70 := by
  obtain ⟨pc, hf, _, hl⟩ := h.fl
  have := h.n
  exact ⟨pc, by rw [hf.F I.length (by omega), LB_last], by omega⟩
theorem LS.old {s : DM} {Z : Nat} {I : List (List (List Nat))} {ps : List (List Nat)} {j V : Nat} (h : LS s Z I ps j V) {i : Nat} {qs : List (List Nat)} (hi : I[i]? = some qs) : s.F (nm (seg sLog i)) = ⟨fby qs, (fby qs).length, []⟩ := by
  obtain ⟨pc, hf, _, hl⟩ := h.fl
  have hlt : i < I.length := (List.getElem?_eq_some_iff.1 hi).1
  rw [hf.F i (by omega), LB_old _ _ hlt]
  simp [List.getD_eq_getElem?_getD, hi]
/-- One more payload in the open segment. -/
theorem LS.app {s : DM} {Z : Nat} {I : List (List (List Nat))} {ps : List (List Nat)} {j V : Nat} (h : LS s Z I ps j V) (p : List Nat) (hp : (fby ps).length + (p.length + 12) ≤ Z) (hc : I.flatten.length + ps.length < 70) (hV : V < 1000) : LS (s.app (nm (seg sLog I.length)) (frame p)) Z I (ps ++ [p]) j (V + 1) := by
  obtain ⟨pc, hf, hs, hl⟩ := h.fl
  have hn := h.n
  have hj := h.jle
  have hcnt : s.count (frame p).length = ({ s with writes := s.writes + 1 }, (frame p).length) := by rw [DM.count, if_pos h.good.left]
  have hw := h.wr
  have et : (ps ++ [p]).take j = ps.take j := List.take_append_of_le_length hj
  have el : (fby (ps ++ [p])).length = (fby ps).length + (p.length + 12) := by rw [fby_app_len, fby_cons_len]; simp [fby]
  refine ⟨⟨by simp only [DM.app, hcnt]; exact h.good.off, by simp only [DM.app, hcnt]; exact h.good.full, by simp only [DM.app, hcnt]; exact h.good.left, by simp only [DM.app, hcnt]; exact h.good.tear0, by simp only [DM.app, hcnt]; exact h.good.tear, by simp only [DM.app, hcnt]; exact h.good.lim, by simp only [DM.app, hcnt]; omega⟩, by simp only [DM.app, hcnt]; exact h.lim, ⟨pc ++ [(s.writes + 1, (frame p).length)], ?_, ?_, by simp only [List.length_append, List.length_singleton]; omega⟩, by simp only [List.length_append]; omega, h.ne, by simp only [List.length_append, List.length_singleton]; omega, fun qs hq => ?_, fun qs hq => ?_, h.z, by simp only [DM.app, hcnt]; omega⟩
  · have := hf.app (by omega) (M := I.length) (by omega) h.good.left (frame p)
    refine this.congr (fun i hi => ?_)
    rw [LB_set, LB_last, FM.put, if_neg (by rw [frame_len]; omega), et, fby_app, fby_cons, fby_nil, List.append_nil]
  · have esp : ∀ (a : List (Nat × Nat)) (x : Nat × Nat), sumP (a ++ [x]) = sumP a + x.2 := by
      intro a x
      induction a with
      | nil => simp [sumP]
      | cons y r ih => simp only [List.cons_append, sumP, ih]; omega
    rw [et, esp, el, frame_len]
    omega
  · rcases List.mem_append.1 hq with hq | hq
    · exact h.sg qs (List.mem_append_left _ hq)
    · rw [List.mem_singleton.1 hq, el]; exact hp
  · rcases List.mem_append.1 hq with hq | hq
    · exact h.pay qs (List.mem_append_left _ hq)
    · rw [List.mem_singleton.1 hq]
      intro x hx
      rcases List.mem_append.1 hx with hx | hx
      · exact h.pay ps (by simp) x hx
      · rw [List.mem_singleton.1 hx]; omega
/-- Sync of the open segment. -/
theorem LS.sync {s : DM} {Z : Nat} {I : List (List (List Nat))} {ps : List (List Nat)} {j V : Nat} (h : LS s Z I ps j V) : LS (s.syn (nm (seg sLog I.length))) Z I ps ps.length V := by
  obtain ⟨pc, hf, hs, hl⟩ := h.fl
  have hn := h.n
  refine ⟨⟨h.good.off, h.good.full, h.good.left, h.good.tear0, h.good.tear, h.good.lim, h.good.wr⟩, h.lim, ⟨[], ?_, by rw [List.take_length]; rfl, Nat.zero_le _⟩, Nat.le_refl _, h.ne, h.few, h.sg, h.pay, h.z, h.wr⟩
  refine (hf.syn (by omega) (M := I.length) (by omega)).congr (fun i hi => ?_)
  rw [LB_set, LB_last, FM.synced, List.take_length]
/-- A new segment behind a synced one. -/
theorem LS.nseg {s : DM} {Z : Nat} {I : List (List (List Nat))} {ps : List (List Nat)} {j V : Nat} (h : LS s Z I ps j V) (hne : ps ≠ []) (fb : Nat) : LS ((s.syn (nm (seg sLog I.length))).made (nm (seg sLog (I.length + 1))) fb) Z (I ++ [ps]) [] 0 V := by
  obtain ⟨pc, hf, _, _⟩ := h.fl
  have hn := h.n
  refine ⟨⟨h.good.off, h.good.full, h.good.left, h.good.tear0, h.good.tear, h.good.lim, h.good.wr⟩, h.lim, ⟨[], ?_, rfl, Nat.zero_le _⟩, Nat.zero_le _, fun qs hq => ?_, ?_, fun qs hq => ?_, fun qs hq => ?_, h.z, h.wr⟩
  · have h1 := (hf.syn (by omega) (M := I.length) (by omega)).congr (b' := LB I ⟨fby ps, (fby ps).length, []⟩) (fun i hi => by rw [LB_set, LB_last, FM.synced])
    have h2 := h1.made (by omega) fb
    rw [show (I ++ [ps]).length + 1 = I.length + 1 + 1 by simp]
    exact h2.congr (fun i hi => LB_more I ps _ i hi)
  · rcases List.mem_append.1 hq with hq | hq
    · exact h.ne qs hq
    · rw [List.mem_singleton.1 hq]; exact hne
  · have := h.few
    simp only [List.flatten_append, List.length_append, List.flatten_cons, List.flatten_nil, List.append_nil, List.length_nil]
    omega
  · rcases List.mem_append.1 hq with hq | hq
    · exact h.sg qs hq
    · rw [List.mem_singleton.1 hq]; exact Nat.zero_le _
  · rcases List.mem_append.1 hq with hq | hq
    · exact h.pay qs hq
    · rw [List.mem_singleton.1 hq]; intro x hx; cases hx
/-- What is there behind a crash and a start: whole segments, and one that may be torn. -/
structure LT (s : DM) (Z : Nat) (I : List (List (List Nat))) (ps : List (List Nat)) (t : List Nat) (V : Nat) : Prop where
  good : s.Good
  lim : 80 * Z ≤ s.limit
  fl : ∃ pc sf, Fls s sLog (I.length + 1) (LB I ⟨fby ps ++ t, sf, pc⟩) ∧ pc.length ≤ 70 ∧ ∀ x ∈ pc, x.2 ≤ 100000
  tl : Tail (Z - 12) t
  ne : ∀ qs ∈ I, qs ≠ []
  few : I.flatten.length + ps.length ≤ 70
  sg : ∀ qs ∈ I ++ [ps], (fby qs).length ≤ Z
  lg : (fby ps ++ t).length ≤ Z
  pay : ∀ qs ∈ I ++ [ps], ∀ p ∈ qs, p.length + 12 ≤ Z
  z : Z ≤ 600
  wr : s.writes ≤ V
theorem fby_split (ps : List (List Nat)) (j : Nat) : fby ps = fby (ps.take j) ++ fby (ps.drop j) := by rw [← fby_app, List.take_append_drop]
/-- What a crash leaves of a log. -/
theorem LS.crash {s : DM} {Z : Nat} {I : List (List (List Nat))} {ps : List (List Nat)} {j V : Nat} (h : LS s Z I ps j V) (q : DW) (L : List Own3) (keep : Nat) (hL : L.Perm (s.allp q)) (hq : ∀ i, i < I.length → q.fb (nm (seg sLog i)) ≠ q.fb (nm (seg sLog I.length))) :
    ∃ t, LT { ((s.offd).plus q L keep).crashT with off := false } Z I (ps.take (j + wholes (ps.drop j) (min keep ((fby ps).length - (fby (ps.take j)).length)))) t V := by
  obtain ⟨pc, hf, hs, hl⟩ := h.fl
  have hn := h.n
  have hj := h.jle
  have hsg : Segs I.length (LB I ⟨fby ps, (fby (ps.take j)).length, pc⟩) := ⟨fun i hi => by rw [LB_old _ _ hi], fun i hi => by rw [LB_old _ _ hi], by rw [LB_last]; exact hs, by rw [LB_last]; simp only; omega⟩
  have hc := hf.crash (by omega) hsg q L keep hL hq
  have hpay : ∀ p ∈ ps, p.length ≤ Z - 12 ∧ p.length < 4294967296 := fun p hp => by
    have := h.pay ps (by simp) p hp
    have := h.z
    omega
  have hsp : sumP pc = (fby ps).length - (fby (ps.take j)).length := by omega
  obtain ⟨t, ht, e⟩ := cut_frames (Z - 12) ps ((fby (ps.take j)).length + min keep (sumP pc)) hpay
  have ew : wholes ps ((fby (ps.take j)).length + min keep (sumP pc)) = j + wholes (ps.drop j) (min keep (sumP pc)) := by
    have := wholes_app (min keep (sumP pc)) (ps.take j) (ps.drop j)
    rw [List.take_append_drop] at this
    rw [this, List.length_take, Nat.min_eq_left hj]
  rw [ew] at e
  rw [← hsp]
  have hlen : (fby (ps.take (j + wholes (ps.drop j) (min keep (sumP pc)))) ++ t).length ≤ (fby ps).length := by
    rw [← e, List.length_take]; omega
  have hZ := h.sg ps (by simp)
  refine ⟨t, ⟨rfl, h.good.full, rfl, Int.le_refl 0, by show (0 : Int) < _; decide, h.good.lim, h.good.wr⟩, h.lim, ⟨[], (fby (ps.take j)).length + min keep (sumP pc), ?_, Nat.zero_le _, fun x hx => by cases hx⟩, ht, h.ne, ?_, fun qs hq => ?_, by omega, fun qs hq => ?_, h.z, h.wr⟩
  · have h2 : Fls ({ ((s.offd).plus q L keep).crashT with off := false } : DM) sLog (I.length + 1) _ := ⟨hc.map, hc.keys, hc.F, hc.used⟩
    refine h2.congr (fun i hi => ?_)
    simp only [LB_last, leftN]
    rw [LB_set, e]
  · have := h.few
    rw [List.length_take]
    omega
  · rcases List.mem_append.1 hq with hq | hq
    · exact h.sg qs (List.mem_append_left _ hq)
    · rw [List.mem_singleton.1 hq]
      have := fby_take_le ps (j + wholes (ps.drop j) (min keep (sumP pc)))
      omega
  · rcases List.mem_append.1 hq with hq | hq
    · exact h.pay qs (List.mem_append_left _ hq)
    · rw [List.mem_singleton.1 hq]
      exact fun p hp => h.pay ps (by simp) p (List.mem_of_mem_take hp)
/-- What a scan takes in of it. -/
theorem LT.scan {s : DM} {Z : Nat} {I : List (List (List Nat))} {ps : List (List Nat)} {t : List Nat} {V : Nat} (h : LT s Z I ps t V) : scn (fun i => (s.F (nm (seg sLog i))).b) (I.length + 1) (Z - 12) (I.length + 1) ⟨sLog, Z, [], []⟩ = (LM.of sLog Z (I ++ [ps]), true) := by
  obtain ⟨pc, sf, hf, _⟩ := h.fl
  have hpay : ∀ qs ∈ I ++ [ps], ∀ p ∈ qs, p.length ≤ Z - 12 ∧ p.length < 4294967296 := fun qs hq p hp => by
    have := h.pay qs hq p hp
    have := h.z
    omega
  exact scn_run sLog Z (Z - 12) (fun i => (s.F (nm (seg sLog i))).b) ps t (I.length + 1) (hpay ps (by simp)) h.tl (by simp only [Nat.add_sub_cancel]; rw [hf.F I.length (by omega), LB_last]) I [] (I.length + 1) (by simp) (Nat.le_refl _) (fun i hi => by simp only [List.length_nil, Nat.zero_add]; rw [hf.F i (by omega), LB_old _ _ hi]) (fun qs hq => hpay qs (List.mem_append_left _ hq))
/-- A disk but for its files' bytes is as it was. -/
structure DM.Like (s s' : DM) : Prop where
  off : s'.off = s.off
  full : s'.full = s.full
  left : s'.left = s.left
  tear : s'.tear = s.tear
  lim : s'.limit = s.limit
  wr : s'.writes = s.writes
/-- What Open leaves of it. -/
theorem LT.settled {s s' : DM} {Z : Nat} {I : List (List (List Nat))} {ps : List (List Nat)} {t : List Nat} {V : Nat} (h : LT s Z I ps t V) (hl : s.Like s') (b : Nat → FM) (hb : ∀ i, i < I.length + 1 → s.F (nm (seg sLog i)) = b i) (hf : Fls s' sLog (I.length + 1) (fun i => (if i = I.length then (b I.length).cut (fby ps).length else b i).synced)) : LS s' Z I ps ps.length V := by
  obtain ⟨pc, sf, hf0, _⟩ := h.fl
  have hg := h.good
  refine ⟨⟨hl.off.trans hg.off, hl.full.trans hg.full, hl.left.trans hg.left, by rw [hl.tear]; exact hg.tear0, by rw [hl.tear]; exact hg.tear, by rw [hl.lim]; exact hg.lim, by rw [hl.wr]; exact hg.wr⟩, by rw [hl.lim]; exact h.lim, ⟨[], hf.congr (fun i hi => ?_), by rw [List.take_length]; rfl, Nat.zero_le _⟩, Nat.le_refl _, h.ne, h.few, h.sg, h.pay, h.z, by rw [hl.wr]; exact h.wr⟩
  have e : ∀ i, i < I.length + 1 → b i = LB I ⟨fby ps ++ t, sf, pc⟩ i := fun i hi => (hb i hi).symm.trans (hf0.F i hi)
  rw [List.take_length]
  by_cases ei : i = I.length
  · subst ei
    rw [if_pos rfl, e _ (by omega), LB_last, LB_last]
    simp [FM.cut, FM.synced]
  · rw [if_neg ei, e i hi, LB_old _ _ (by omega), LB_old _ _ (by omega)]
    rfl
end Go.Proofs.YtmmaddlphclpnaaGreatDoor

namespace Go.Proofs.YtmmaddlphclpnaaGreatDoor
open Go.RowKit Go.ChangeShapes Go.WideShapes Go.Maps Go.Sort

set_option maxHeartbeats 1000000 in
set_option maxRecDepth 100000 in
/-- Log.Sync. -/
theorem wlsync_any (w : World) (l d m : Nat) (L : LM) (s : DM) (q : DW) (O : Nat → Prop) (sv pv : Value) (ss : List Nat) (x : Nat) (W : World) (h : WL w W l d m L s q O sv pv) (hs : L.segs = ss ++ [x]) (hl : ss.length < 100) (hnl : L.name.size ≤ 32) (ho : s.off = false) (hh : Maps.has s.D (.string (nm (seg L.name ss.length))) = true) :
    Calls Tryz.prog 19 #[.pointer (some ⟨l, 0, none⟩)] W fun e W' => e = .returned (.int .i64 0) ∧ ∃ q' O', WL w W' l d m L (s.syn (nm (seg L.name ss.length))) q' O' sv pv ∧ (∀ k, O' k → O k ∨ W.heap.size ≤ k) ∧ Fr O W W' := by
  have hsz := seg_size L.name ss.length hl
  have HO : Hid (∀ W', Fr (fun _ => False) W W' → Calls Tryz.prog 44 #[.pointer (some ⟨l, 0, none⟩)] W' fun e w' => e = .returned (.int .i64 (ss.length : Nat)) ∧ w' = W') := fun W' hf => by
    have hlen : L.segs.length = ss.length + 1 := by rw [hs]; simp
    have := wopen_any l d L sv pv W' (h.quiet hf).G (by omega)
    rw [show (L.segs.length : Int) - 1 = (ss.length : Nat) by omega] at this
    exact this
  have HFI : Hid (∀ W', Fr (fun _ => False) W W' → Calls Tryz.prog 43 #[.pointer (some ⟨l, 0, none⟩), .int .i64 (ss.length : Nat)] W' fun e W2 => e = .returned (.string (seg L.name ss.length)) ∧ Fr (fun _ => False) W W2) := fun W' hf =>
    (file_any l ss.length L.name W' hl (h.quiet hf).G.cells.2.1 (by omega)).mono (fun e W2 h => ⟨h.1, hf.trans h.2 (fun _ _ h => h)⟩)
  have HC : Hid (∀ W', Fr (fun _ => False) W W' → Calls Tryz.prog 55 #[.pointer (some ⟨d, 0, none⟩), .string (seg L.name ss.length)] W' fun e W2 => e = .returned (.int .i64 0) ∧ ∃ q' O', WL w W2 l d m L (s.syn (nm (seg L.name ss.length))) q' O' sv pv ∧ (∀ k, O' k → O k ∨ W.heap.size ≤ k) ∧ Fr O W W2) := fun W' hf => by
    have h1 := h.quiet hf
    refine (sync_at d m s q O (seg L.name ss.length) W' h1.D ho (by simp only [maxLen]; omega) hh).mono ?_
    rintro e W2 ⟨rfl, q', O', hD, hf2, hO⟩
    exact ⟨rfl, q', O', h1.disk hD hf2 hO, fun k hk => (hO k hk).imp id (Nat.le_trans hf.size), (hf.mono (fun _ _ h => h.elim)).trans hf2 (fun _ _ h => h)⟩
  have HK : Hid (∀ W', Fr (fun _ => False) W W' → W'.cell? ⟨l, 0, none⟩ = some (.pointer (some ⟨d, 0, none⟩))) := fun W' hf => (h.quiet hf).G.cells.1
  clear h hsz ho hnl hh hs hl
  obtain ⟨SN, hSN⟩ : ∃ SN, SN = seg L.name ss.length := ⟨_, rfl⟩
  rw [← hSN] at HFI HC ⊢
  clear hSN
  generalize ss.length = N at *
  go_enter Tryz.func19, Tryz.ntmps19
  go_wp2_with fail
  go_region_held3 (fun w' => w'.cell? ⟨l, 0, none⟩ = some (.pointer (some ⟨d, 0, none⟩)))
    (first | exact (unhide HK) _ (Fr.refl _ _).drew | exact (unhide HK) _ hf1 | exact (unhide HW).1.G.cells.1)
    (first
      | (go_at_call 44; refine ((unhide HO) _ (Fr.refl _ _).drew).mono ?_; rintro e w' ⟨rfl, rfl⟩; clear HO)
      | (go_at_call 43; refine ((unhide HFI) _ (Fr.refl _ _).drew).mono ?_; rintro e w1 ⟨rfl, hf1⟩; clear HFI)
      | (go_at_call 55; refine ((unhide HC) _ hf1).mono ?_; rintro e w2 ⟨rfl, q2, O2, hW⟩; clear HC; have HW := hide hW; clear hW))
  all_goals
    go_wp2_with fail
    go_ret
    exact ⟨rfl, q2, O2, unhide HW⟩
set_option maxHeartbeats 1000000 in
set_option maxRecDepth 100000 in
/-- makeRoom where there is none. -/
theorem makeRoom_new (w : World) (l d m : Nat) (L : LM) (s : DM) (q : DW) (O : Nat → Prop) (sv pv : Value) (ss : List Nat) (x n : Nat) (W : World) (h : WL w W l d m L s q O sv pv) (hs : L.segs = ss ++ [x]) (hl : ss.length < 99) (hnl : L.name.size ≤ 32) (ho : s.off = false) (hh : Maps.has s.D (.string (nm (seg L.name ss.length))) = true) (hno : Maps.has s.D (.string (nm (seg L.name (ss.length + 1)))) = false) (hsd : Maps.size s.D < 256) (hx : x ≤ L.size) (hn : n ≤ 10000000) (_hz : L.size ≤ 10000000) (hr : L.size < x + n) :
    Calls Tryz.prog 41 #[.pointer (some ⟨l, 0, none⟩), .int .i64 (n : Nat)] W fun e W' => e = .returned (.int .i64 0) ∧ ∃ fb q' O' sv', WL w W' l d m { L with segs := L.segs ++ [0] } ((s.syn (nm (seg L.name ss.length))).made (nm (seg L.name (ss.length + 1))) fb) q' O' sv' pv ∧ (∀ k, O' k → O k ∨ W.heap.size ≤ k) ∧ (∀ g, sv'.ownBlock = some g → sv.ownBlock = some g ∨ W.heap.size ≤ g) ∧ Fr (fun k => O k ∨ k = l ∨ sv.ownBlock = some k ∨ pv.ownBlock = some k) W W' := by
  have hlen : L.segs.length = ss.length + 1 := by rw [hs]; simp
  have HS : Hid (∀ W', Fr (fun _ => False) W W' → Calls Tryz.prog 19 #[.pointer (some ⟨l, 0, none⟩)] W' fun e W2 => e = .returned (.int .i64 0) ∧ ∃ q' O', WL w W2 l d m L (s.syn (nm (seg L.name ss.length))) q' O' sv pv ∧ (∀ k, O' k → O k ∨ W.heap.size ≤ k) ∧ Fr O W W2) := fun W' hf =>
    (wlsync_any w l d m L s q O sv pv ss x W' (h.quiet hf) hs (by omega) hnl ho hh).mono (fun e W2 ⟨h1, q', O', h2, h3, h4⟩ => ⟨h1, q', O', h2, fun k hk => (h3 k hk).imp id (Nat.le_trans hf.size), (hf.mono (fun _ _ h => h.elim)).trans h4 (fun _ _ h => h)⟩)
  have HB : Hid (∀ W2 q2 O2, WL w W2 l d m L (s.syn (nm (seg L.name ss.length))) q2 O2 sv pv → (∀ k, O2 k → O k ∨ W.heap.size ≤ k) → Fr O W W2 → Calls Tryz.prog 74 #[.pointer (some ⟨l, 0, none⟩)] W2 fun e W' => e = .returned (.int .i64 0) ∧ ∃ fb q' O' sv', WL w W' l d m { L with segs := L.segs ++ [0] } ((s.syn (nm (seg L.name ss.length))).made (nm (seg L.name (ss.length + 1))) fb) q' O' sv' pv ∧ (∀ k, O' k → O k ∨ W.heap.size ≤ k) ∧ (∀ g, sv'.ownBlock = some g → sv.ownBlock = some g ∨ W.heap.size ≤ g) ∧ Fr (fun k => O k ∨ k = l ∨ sv.ownBlock = some k ∨ pv.ownBlock = some k) W W') := fun W2 q2 O2 h2 hO2 hf2 => by
    have := begin2 w l d m L (s.syn (nm (seg L.name ss.length))) q2 O2 sv pv W2 h2 ho hnl (by omega) (by rw [hlen]; exact hno) hsd
    rw [hlen] at this
    refine this.mono ?_
    rintro e W3 ⟨rfl, fb, q3, O3, sv3, h3, hO3, hs3, hf3⟩
    refine ⟨rfl, fb, q3, O3, sv3, h3, fun k hk => (hO3 k hk).elim (hO2 k) (fun e => .inr (Nat.le_trans hf2.size e)), fun g hg => (hs3 g hg).imp id (Nat.le_trans hf2.size), (hf2.mono (fun _ _ h => .inl h)).trans hf3 (fun k hk e => ?_)⟩
    rcases e with e | e
    · rcases hO2 k e with e | e
      · exact .inl e
      · omega
    · exact .inr e
  obtain ⟨g, sc, rfl, hsc, hc, hcf⟩ := h.G.last hs
  have HO : Hid (∀ W', Fr (fun _ => False) W W' → Calls Tryz.prog 44 #[.pointer (some ⟨l, 0, none⟩)] W' fun e w' => e = .returned (.int .i64 (ss.length : Nat)) ∧ w' = W') := fun W' hf => by
    have := wopen_any l d L _ pv W' (h.G.fr hf (fun h => h) (fun _ _ h => h) (fun _ _ h => h)) (by omega)
    rw [show (L.segs.length : Int) - 1 = (ss.length : Nat) by omega] at this
    exact this
  obtain ⟨c0, c1, c2, c3, c4, fz⟩ := h.G.cells
  clear h hs hlen c0 c1 c4 fz hcf hh hno hsd ho hnl
  obtain ⟨s2, hs2⟩ : ∃ s2, s2 = s.syn (nm (seg L.name ss.length)) := ⟨_, rfl⟩
  rw [← hs2] at HS HB ⊢
  clear hs2
  obtain ⟨SN, hSN⟩ : ∃ SN, SN = nm (seg L.name (ss.length + 1)) := ⟨_, rfl⟩
  rw [← hSN] at HB ⊢
  clear hSN
  generalize hSL : ss.length = SL at *
  generalize hZ : L.size = Z at *
  clear hSL hZ
  have hNi : (SL : Int) < (SL : Int) + 1 := by omega
  have hw1 : IntKind.i64.wrap ((Z : Int) - (x : Int)) = (Z : Int) - (x : Int) := by rw [IntKind.wrap_i64]; omega
  have hle : ¬ (n : Int) ≤ (Z : Int) - (x : Int) := by omega
  go_enter Tryz.func41, Tryz.ntmps41
  go_wp2_with fail
  go_region_held3 (fun w' => w'.cell? ⟨l, 2, none⟩ = some (.int .i64 (Z : Nat)) ∧ w'.cell? ⟨l, 3, none⟩ = some (.slice (some ⟨g, 0, none⟩) (SL + 1) sc) ∧ w'.cell? ⟨g, SL, none⟩ = some (.int .i64 (x : Nat)))
    (first | exact ⟨c2, c3, hc⟩)
    (first | (go_at_call 44; refine ((unhide HO) _ (Fr.refl _ _).drew).mono ?_; rintro e w' ⟨rfl, rfl⟩))
  all_goals
    go_wp2_with fail
    refine ((unhide HS) _ (Fr.refl _ _).drew).mono ?_
    rintro e w2 ⟨rfl, q2, O2, h2, hO2, hf2⟩
    have HB2 := hide ((unhide HB) w2 q2 O2 h2 hO2 hf2)
    clear h2 hO2 hf2
    go_wp2_with fail
    refine (unhide HB2).mono ?_
    rintro e w3 ⟨rfl, h3⟩
    have H3 := hide h3
    clear h3
    go_wp2_with fail
    go_ret
    exact ⟨rfl, unhide H3⟩
/-- The last segment of a log. -/
theorem of_segs (name : ByteArray) (Z : Nat) (I : List (List (List Nat))) (ps : List (List Nat)) : (LM.of name Z (I ++ [ps])).segs = I.map (fun ps => (fby ps).length) ++ [(fby ps).length] := by simp [LM.of]
theorem of_plen (name : ByteArray) (Z : Nat) (I : List (List (List Nat))) (ps : List (List Nat)) : (LM.of name Z (I ++ [ps])).pls.length = I.flatten.length + ps.length := by simp [LM.of, plc_len]
/-- What a log and its disk take up. -/
def Ours (l : Nat) (O : Nat → Prop) (sv pv : Value) (k : Nat) : Prop := O k ∨ k = l ∨ sv.ownBlock = some k ∨ pv.ownBlock = some k
set_option maxHeartbeats 1000000 in
/-- Log.Append of a payload that fits into a segment. -/
theorem wap_any (w : World) (l d m : Nat) (s : DM) (q : DW) (O : Nat → Prop) (sv pv y : Value) (Z j V : Nat) (I : List (List (List Nat))) (ps : List (List Nat)) (p : List Nat) (W : World) (h : WL w W l d m (LM.of sLog Z (I ++ [ps])) s q O sv pv) (hS : LS s Z I ps j V) (hy : Src w y p) (hp : p.length + 12 ≤ Z) (hc : I.flatten.length + ps.length < 70) (hV : V < 1000) :
    Calls Tryz.prog 13 #[.pointer (some ⟨l, 0, none⟩), y] W fun e W' => e = .returned (.tuple #[.int .i64 ((I.flatten.length + ps.length : Nat) : Int), .int .i64 0]) ∧ ∃ s' q' O' sv' pv' I' ps' j', WL w W' l d m (LM.of sLog Z (I' ++ [ps'])) s' q' O' sv' pv' ∧ LS s' Z I' ps' j' (V + 1) ∧ I'.flatten ++ ps' = I.flatten ++ ps ++ [p] ∧ (j = 0 → j' = 0) ∧ (∀ k, Ours l O' sv' pv' k → Ours l O sv pv k ∨ W.heap.size ≤ k) ∧ Fr (Ours l O sv pv) W W' := by
  have hn := hS.n
  have hz := hS.z
  have hus := hS.used
  have hsl : (fby ps).length ≤ Z := hS.sg ps (by simp)
  have hlast := hS.last
  have hyW : Src W y p := hy.fr0 h.fr
  have hlim := hS.lim
  have ilen : (I.map (fun ps => (fby ps).length)).length = I.length := List.length_map _
  obtain ⟨pc, hF, hpc⟩ := hlast
  have hOurs : ∀ {O' : Nat → Prop} {sv' pv' : Value}, (∀ k, O' k → O k ∨ W.heap.size ≤ k) → (∀ g, sv'.ownBlock = some g → sv.ownBlock = some g ∨ W.heap.size ≤ g) → (∀ g, pv'.ownBlock = some g → pv.ownBlock = some g ∨ W.heap.size ≤ g) → ∀ k, Ours l O' sv' pv' k → Ours l O sv pv k ∨ W.heap.size ≤ k := fun h1 h2 h3 k hk => by
    rcases hk with e | e | e | e
    · exact (h1 k e).imp .inl id
    · exact .inl (.inr (.inl e))
    · exact (h2 k e).imp (fun e => .inr (.inr (.inl e))) id
    · exact (h3 k e).imp (fun e => .inr (.inr (.inr e))) id
  by_cases hr : (fby ps).length + (12 + p.length) ≤ Z
  · have HM : Calls Tryz.prog 41 #[.pointer (some ⟨l, 0, none⟩), .int .i64 ((12 + p.length : Nat) : Int)] W fun e W' => e = .returned (.int .i64 0) ∧ ∃ s1 q1 O1 sv1, s1 = s ∧ WL w W' l d m (LM.of sLog Z (I ++ [ps])) s1 q1 O1 sv1 pv ∧ Src W' y p ∧ (∀ k, O1 k → O k ∨ W.heap.size ≤ k) ∧ (∀ g, sv1.ownBlock = some g → sv.ownBlock = some g ∨ W.heap.size ≤ g) ∧ Fr (fun k => O k ∨ k = l ∨ sv.ownBlock = some k ∨ pv.ownBlock = some k) W W' := by
      refine (makeRoom_fits l d (LM.of sLog Z (I ++ [ps])) sv pv _ _ (12 + p.length) W h.G (of_segs ..) (by rw [ilen]; omega) (by omega) (by omega) (by show Z ≤ _; omega) hr).mono ?_
      rintro e W' ⟨rfl, hf⟩
      exact ⟨rfl, s, q, O, sv, rfl, h.quiet hf, hyW.fr0 hf, fun _ h => .inl h, fun _ h => .inl h, hf.mono (fun _ _ h => h.elim)⟩
    have hw := wappend2 w l d m (LM.of sLog Z (I ++ [ps])) (LM.of sLog Z (I ++ [ps])) s (fun s1 => s1 = s) q O sv pv y _ _ p W h hyW HM (by omega) hp (by show Z ≤ _; omega) (of_segs ..) rfl rfl (by show (3 : Nat) ≤ 32; decide) (by rw [ilen]; omega) (by rw [of_plen]; omega) (by omega) (fun s1 e => by
      subst e
      rw [ilen]
      show _ ∧ _ ∧ _ ∧ (s1.F (nm (seg sLog I.length))).b.length ≤ _ ∧ (s1.F (nm (seg sLog I.length))).ps.length ≤ _
      rw [hF]
      exact ⟨hS.good, hS.has (Nat.le_refl _), by omega, by simp only; omega, by simp only; omega⟩)
    rw [of_plen] at hw
    refine hw.mono ?_
    rintro e W' ⟨rfl, s1, q', O', sv', pv', rfl, h1, h2, h3, h4, h5⟩
    rw [ilen] at h1
    refine ⟨rfl, _, q', O', sv', pv', I, ps ++ [p], j, ?_, hS.app p (by omega) hc hV, by rw [List.append_assoc], fun e => e, hOurs h2 h4 h5, h3⟩
    rw [of_more]
    exact h1
  · have hne : ps ≠ [] := fun e => by
      subst e
      simp only [fby_nil, List.length_nil] at hr
      omega
    have HM : Calls Tryz.prog 41 #[.pointer (some ⟨l, 0, none⟩), .int .i64 ((12 + p.length : Nat) : Int)] W fun e W' => e = .returned (.int .i64 0) ∧ ∃ s1 q1 O1 sv1, (∃ fb, s1 = (s.syn (nm (seg sLog I.length))).made (nm (seg sLog (I.length + 1))) fb) ∧ WL w W' l d m (LM.of sLog Z ((I ++ [ps]) ++ [[]])) s1 q1 O1 sv1 pv ∧ Src W' y p ∧ (∀ k, O1 k → O k ∨ W.heap.size ≤ k) ∧ (∀ g, sv1.ownBlock = some g → sv.ownBlock = some g ∨ W.heap.size ≤ g) ∧ Fr (fun k => O k ∨ k = l ∨ sv.ownBlock = some k ∨ pv.ownBlock = some k) W W' := by
      obtain ⟨pc2, hfl, _, _⟩ := hS.fl
      have hm := makeRoom_new w l d m (LM.of sLog Z (I ++ [ps])) s q O sv pv _ _ (12 + p.length) W h (of_segs ..) (by rw [ilen]; omega) (by show (3 : Nat) ≤ 32; decide) hS.good.off (by rw [ilen]; exact hS.has (Nat.le_refl _)) (by rw [ilen]; exact hfl.no (Nat.le_refl _) (by omega)) (by rw [hfl.size]; omega) hsl (by omega) (by show Z ≤ _; omega) (by show Z < _; omega)
      rw [ilen] at hm
      refine hm.mono ?_
      rintro e W' ⟨rfl, fb, q1, O1, sv1, h1, h2, h3, h4⟩
      refine ⟨rfl, _, q1, O1, sv1, ⟨fb, rfl⟩, ?_, hy.fr0 h1.fr, h2, h3, h4⟩
      have e : LM.of sLog Z ((I ++ [ps]) ++ [[]]) = { LM.of sLog Z (I ++ [ps]) with segs := (LM.of sLog Z (I ++ [ps])).segs ++ [0] } := by simp [LM.of, plc_app, plc, plo, fby]
      rw [e]
      exact h1
    have ilen2 : ((I ++ [ps]).map (fun ps => (fby ps).length)).length = I.length + 1 := by simp
    have hw := wappend2 w l d m (LM.of sLog Z (I ++ [ps])) (LM.of sLog Z ((I ++ [ps]) ++ [[]])) s _ q O sv pv y _ _ p W h hyW HM (by omega) hp (by show Z ≤ _; omega) (of_segs ..) (by simp [LM.of, plc_app, plc, plo]) rfl (by show (3 : Nat) ≤ 32; decide) (by rw [ilen2]; omega) (by rw [of_plen]; omega) (by simp [fby]) (fun s1 ⟨fb, e⟩ => by
      have hS1 := hS.nseg hne fb
      rw [← e] at hS1
      have hl1 := hS1.lim
      have hu1 := hS1.used
      obtain ⟨pc1, hF1, hpc1⟩ := hS1.last
      rw [show (I ++ [ps]).length = I.length + 1 by simp] at hF1
      rw [ilen2]
      show _ ∧ _ ∧ _ ∧ (s1.F (nm (seg sLog (I.length + 1)))).b.length ≤ _ ∧ (s1.F (nm (seg sLog (I.length + 1)))).ps.length ≤ _
      rw [hF1]
      exact ⟨hS1.good, hS1.has (by simp), by omega, by simp [fby], by simp only; omega⟩)
    rw [of_plen] at hw
    refine hw.mono ?_
    rintro e W' ⟨rfl, s1, q', O', sv', pv', ⟨fb, rfl⟩, h1, h2, h3, h4, h5⟩
    rw [ilen2] at h1
    have hS1 := (hS.nseg hne fb).app p (by simp only [fby_nil, List.length_nil]; omega) (by simp only [List.flatten_append, List.length_append, List.flatten_cons, List.flatten_nil, List.append_nil, List.length_nil]; omega) hV
    rw [show (I ++ [ps]).length = I.length + 1 by simp] at hS1
    refine ⟨rfl, _, q', O', sv', pv', I ++ [ps], [p], 0, ?_, hS1, by simp, fun _ => rfl, hOurs h2 h4 h5, h3⟩
    have e := of_more sLog Z (I ++ [ps]) [] p
    rw [List.nil_append] at e
    rw [e, show (I ++ [ps]).length = I.length + 1 by simp]
    have e2 : (LM.of sLog Z ((I ++ [ps]) ++ [[]])).pls = (LM.of sLog Z (I ++ [ps])).pls := by simp [LM.of, plc_app, plc, plo]
    rw [e2]
    exact h1
end Go.Proofs.YtmmaddlphclpnaaGreatDoor

namespace Go.Proofs.YtmmaddlphclpnaaGreatDoor
open Go.RowKit Go.ChangeShapes Go.WideShapes Go.Maps Go.Sort

set_option maxHeartbeats 1000000 in
/-- Log.Append of a payload that fits into a segment. -/
theorem wap_any2 (w : World) (l d m : Nat) (s : DM) (q : DW) (O : Nat → Prop) (sv pv y : Value) (Z j V : Nat) (I : List (List (List Nat))) (ps : List (List Nat)) (p : List Nat) (W : World) (h : WL w W l d m (LM.of sLog Z (I ++ [ps])) s q O sv pv) (hS : LS s Z I ps j V) (hyW : Src W y p) (hyO : ∀ g o n c, y = .slice (some ⟨g, o, none⟩) n c → ¬ Ours l O sv pv g) (hp : p.length + 12 ≤ Z) (hc : I.flatten.length + ps.length < 70) (hV : V < 1000) :
    Calls Tryz.prog 13 #[.pointer (some ⟨l, 0, none⟩), y] W fun e W' => e = .returned (.tuple #[.int .i64 ((I.flatten.length + ps.length : Nat) : Int), .int .i64 0]) ∧ ∃ s' q' O' sv' pv' I' ps' j', WL w W' l d m (LM.of sLog Z (I' ++ [ps'])) s' q' O' sv' pv' ∧ LS s' Z I' ps' j' (V + 1) ∧ I'.flatten ++ ps' = I.flatten ++ ps ++ [p] ∧ (j = 0 → j' = 0) ∧ (∀ k, Ours l O' sv' pv' k → Ours l O sv pv k ∨ W.heap.size ≤ k) ∧ Fr (Ours l O sv pv) W W' := by
  have hn := hS.n
  have hz := hS.z
  have hus := hS.used
  have hsl : (fby ps).length ≤ Z := hS.sg ps (by simp)
  have hlast := hS.last
  have hlim := hS.lim
  have ilen : (I.map (fun ps => (fby ps).length)).length = I.length := List.length_map _
  obtain ⟨pc, hF, hpc⟩ := hlast
  have hOurs : ∀ {O' : Nat → Prop} {sv' pv' : Value}, (∀ k, O' k → O k ∨ W.heap.size ≤ k) → (∀ g, sv'.ownBlock = some g → sv.ownBlock = some g ∨ W.heap.size ≤ g) → (∀ g, pv'.ownBlock = some g → pv.ownBlock = some g ∨ W.heap.size ≤ g) → ∀ k, Ours l O' sv' pv' k → Ours l O sv pv k ∨ W.heap.size ≤ k := fun h1 h2 h3 k hk => by
    rcases hk with e | e | e | e
    · exact (h1 k e).imp .inl id
    · exact .inl (.inr (.inl e))
    · exact (h2 k e).imp (fun e => .inr (.inr (.inl e))) id
    · exact (h3 k e).imp (fun e => .inr (.inr (.inr e))) id
  by_cases hr : (fby ps).length + (12 + p.length) ≤ Z
  · have HM : Calls Tryz.prog 41 #[.pointer (some ⟨l, 0, none⟩), .int .i64 ((12 + p.length : Nat) : Int)] W fun e W' => e = .returned (.int .i64 0) ∧ ∃ s1 q1 O1 sv1, s1 = s ∧ WL w W' l d m (LM.of sLog Z (I ++ [ps])) s1 q1 O1 sv1 pv ∧ Src W' y p ∧ (∀ k, O1 k → O k ∨ W.heap.size ≤ k) ∧ (∀ g, sv1.ownBlock = some g → sv.ownBlock = some g ∨ W.heap.size ≤ g) ∧ Fr (fun k => O k ∨ k = l ∨ sv.ownBlock = some k ∨ pv.ownBlock = some k) W W' := by
      refine (makeRoom_fits l d (LM.of sLog Z (I ++ [ps])) sv pv _ _ (12 + p.length) W h.G (of_segs ..) (by rw [ilen]; omega) (by omega) (by omega) (by show Z ≤ _; omega) hr).mono ?_
      rintro e W' ⟨rfl, hf⟩
      exact ⟨rfl, s, q, O, sv, rfl, h.quiet hf, hyW.fr0 hf, fun _ h => .inl h, fun _ h => .inl h, hf.mono (fun _ _ h => h.elim)⟩
    have hw := wappend2 w l d m (LM.of sLog Z (I ++ [ps])) (LM.of sLog Z (I ++ [ps])) s (fun s1 => s1 = s) q O sv pv y _ _ p W h hyW HM (by omega) hp (by show Z ≤ _; omega) (of_segs ..) rfl rfl (by show (3 : Nat) ≤ 32; decide) (by rw [ilen]; omega) (by rw [of_plen]; omega) (by omega) (fun s1 e => by
      subst e
      rw [ilen]
      show _ ∧ _ ∧ _ ∧ (s1.F (nm (seg sLog I.length))).b.length ≤ _ ∧ (s1.F (nm (seg sLog I.length))).ps.length ≤ _
      rw [hF]
      exact ⟨hS.good, hS.has (Nat.le_refl _), by omega, by simp only; omega, by simp only; omega⟩)
    rw [of_plen] at hw
    refine hw.mono ?_
    rintro e W' ⟨rfl, s1, q', O', sv', pv', rfl, h1, h2, h3, h4, h5⟩
    rw [ilen] at h1
    refine ⟨rfl, _, q', O', sv', pv', I, ps ++ [p], j, ?_, hS.app p (by omega) hc hV, by rw [List.append_assoc], fun e => e, hOurs h2 h4 h5, h3⟩
    rw [of_more]
    exact h1
  · have hne : ps ≠ [] := fun e => by
      subst e
      simp only [fby_nil, List.length_nil] at hr
      omega
    have HM : Calls Tryz.prog 41 #[.pointer (some ⟨l, 0, none⟩), .int .i64 ((12 + p.length : Nat) : Int)] W fun e W' => e = .returned (.int .i64 0) ∧ ∃ s1 q1 O1 sv1, (∃ fb, s1 = (s.syn (nm (seg sLog I.length))).made (nm (seg sLog (I.length + 1))) fb) ∧ WL w W' l d m (LM.of sLog Z ((I ++ [ps]) ++ [[]])) s1 q1 O1 sv1 pv ∧ Src W' y p ∧ (∀ k, O1 k → O k ∨ W.heap.size ≤ k) ∧ (∀ g, sv1.ownBlock = some g → sv.ownBlock = some g ∨ W.heap.size ≤ g) ∧ Fr (fun k => O k ∨ k = l ∨ sv.ownBlock = some k ∨ pv.ownBlock = some k) W W' := by
      obtain ⟨pc2, hfl, _, _⟩ := hS.fl
      have hm := makeRoom_new w l d m (LM.of sLog Z (I ++ [ps])) s q O sv pv _ _ (12 + p.length) W h (of_segs ..) (by rw [ilen]; omega) (by show (3 : Nat) ≤ 32; decide) hS.good.off (by rw [ilen]; exact hS.has (Nat.le_refl _)) (by rw [ilen]; exact hfl.no (Nat.le_refl _) (by omega)) (by rw [hfl.size]; omega) hsl (by omega) (by show Z ≤ _; omega) (by show Z < _; omega)
      rw [ilen] at hm
      refine hm.mono ?_
      rintro e W' ⟨rfl, fb, q1, O1, sv1, h1, h2, h3, h4⟩
      refine ⟨rfl, _, q1, O1, sv1, ⟨fb, rfl⟩, ?_, hyW.fr h4 (fun g o n c e => hyO g o n c e), h2, h3, h4⟩
      have e : LM.of sLog Z ((I ++ [ps]) ++ [[]]) = { LM.of sLog Z (I ++ [ps]) with segs := (LM.of sLog Z (I ++ [ps])).segs ++ [0] } := by simp [LM.of, plc_app, plc, plo, fby]
      rw [e]
      exact h1
    have ilen2 : ((I ++ [ps]).map (fun ps => (fby ps).length)).length = I.length + 1 := by simp
    have hw := wappend2 w l d m (LM.of sLog Z (I ++ [ps])) (LM.of sLog Z ((I ++ [ps]) ++ [[]])) s _ q O sv pv y _ _ p W h hyW HM (by omega) hp (by show Z ≤ _; omega) (of_segs ..) (by simp [LM.of, plc_app, plc, plo]) rfl (by show (3 : Nat) ≤ 32; decide) (by rw [ilen2]; omega) (by rw [of_plen]; omega) (by simp [fby]) (fun s1 ⟨fb, e⟩ => by
      have hS1 := hS.nseg hne fb
      rw [← e] at hS1
      have hl1 := hS1.lim
      have hu1 := hS1.used
      obtain ⟨pc1, hF1, hpc1⟩ := hS1.last
      rw [show (I ++ [ps]).length = I.length + 1 by simp] at hF1
      rw [ilen2]
      show _ ∧ _ ∧ _ ∧ (s1.F (nm (seg sLog (I.length + 1)))).b.length ≤ _ ∧ (s1.F (nm (seg sLog (I.length + 1)))).ps.length ≤ _
      rw [hF1]
      exact ⟨hS1.good, hS1.has (by simp), by omega, by simp [fby], by simp only; omega⟩)
    rw [of_plen] at hw
    refine hw.mono ?_
    rintro e W' ⟨rfl, s1, q', O', sv', pv', ⟨fb, rfl⟩, h1, h2, h3, h4, h5⟩
    rw [ilen2] at h1
    have hS1 := (hS.nseg hne fb).app p (by simp only [fby_nil, List.length_nil]; omega) (by simp only [List.flatten_append, List.length_append, List.flatten_cons, List.flatten_nil, List.append_nil, List.length_nil]; omega) hV
    rw [show (I ++ [ps]).length = I.length + 1 by simp] at hS1
    refine ⟨rfl, _, q', O', sv', pv', I ++ [ps], [p], 0, ?_, hS1, by simp, fun _ => rfl, hOurs h2 h4 h5, h3⟩
    have e := of_more sLog Z (I ++ [ps]) [] p
    rw [List.nil_append] at e
    rw [e, show (I ++ [ps]).length = I.length + 1 by simp]
    have e2 : (LM.of sLog Z ((I ++ [ps]) ++ [[]])).pls = (LM.of sLog Z (I ++ [ps])).pls := by simp [LM.of, plc_app, plc, plo]
    rw [e2]
    exact h1
set_option maxHeartbeats 2000000 in
set_option maxRecDepth 100000 in
/-- Log.Append, behind makeRoom. -/
theorem wappend_armed (w : World) (l d m : Nat) (L L1 : LM) (s : DM) (P : DM → Prop) (q : DW) (O : Nat → Prop) (sv pv y : Value) (ss : List Nat) (x : Nat) (p : List Nat) (bt : Nat) (W : World) (h : WL w W l d m L s q O sv pv) (hy : Src W y p)
    (HM : Calls Tryz.prog 41 #[.pointer (some ⟨l, 0, none⟩), .int .i64 ((12 + p.length : Nat) : Int)] W fun e W' => e = .returned (.int .i64 0) ∧ ∃ s1 q1 O1 sv1, P s1 ∧ WL w W' l d m L1 s1 q1 O1 sv1 pv ∧ Src W' y p ∧ (∀ k, O1 k → O k ∨ W.heap.size ≤ k) ∧ (∀ g, sv1.ownBlock = some g → sv.ownBlock = some g ∨ W.heap.size ≤ g) ∧ Fr (fun k => O k ∨ k = l ∨ sv.ownBlock = some k ∨ pv.ownBlock = some k) W W')
    (hp : p.length ≤ 1048576) (hpz : p.length + 12 ≤ L.size) (hz : L.size ≤ 1048576) (hs : L1.segs = ss ++ [x]) (hpl : L1.pls = L.pls) (hnm : L1.name = L.name) (hnl : L.name.size ≤ 32) (hl : ss.length < 100) (hlp : L.pls.length ≤ 1000000) (hx : x ≤ 1048576)
    (hPall : ∀ s1, P s1 → (s1.off = false ∧ s1.full = false ∧ s1.left = 1 ∧ s1.tear = (bt : Nat) ∧ s1.limit ≤ 1048576 ∧ s1.writes < 1000000000 ∧ bt < 9223372036854775808) ∧ Maps.has s1.D (.string (nm (seg L.name ss.length))) = true ∧ s1.used + (p.length + 12) ≤ s1.limit ∧ (s1.F (nm (seg L.name ss.length))).b.length ≤ 1048576 ∧ (s1.F (nm (seg L.name ss.length))).ps.length ≤ 1000000000) :
    Calls Tryz.prog 13 #[.pointer (some ⟨l, 0, none⟩), y] W fun e W' => e = .returned (.tuple #[.int .i64 0, .int .i64 6]) ∧ ∃ s1 q' O' sv', P s1 ∧ WL w W' l d m L1 (s1.app (nm (seg L.name ss.length)) (frame p)) q' O' sv' pv ∧ (∀ k, O' k → O k ∨ W.heap.size ≤ k) ∧ Fr (fun k => O k ∨ k = l ∨ sv.ownBlock = some k ∨ pv.ownBlock = some k) W W' ∧ (∀ g, sv'.ownBlock = some g → sv.ownBlock = some g ∨ W.heap.size ≤ g) := by
  obtain ⟨yo, yc, rfl⟩ := hy.form
  obtain ⟨c0, c1, c2, c3, c4, fz⟩ := h.G.cells
  have HMM := hide HM
  have HA := hide (And.intro hs (And.intro hpl (And.intro hnm hPall)))
  have hsz := seg_size L.name ss.length hl
  have HB := hide (And.intro hp (And.intro hpz (And.intro hz (And.intro hnl (And.intro hl (And.intro hlp (And.intro hx hsz)))))))
  have e12 : (((12 + p.length : Nat)) : Int) = 12 + (p.length : Int) := by omega
  rw [e12] at HMM
  have hlt : ¬ ((L.size : Int) - 12 < (p.length : Int)) := by omega
  clear h hy HM hs hpl hnm hPall hsz hnl hl hlp hx c0 c1 c3 c4 fz e12
  obtain ⟨PN, hPN⟩ : ∃ PN, PN = p.length := ⟨_, rfl⟩
  rw [← hPN] at HMM hlt hp hpz ⊢
  have HPN := hide hPN
  clear hPN
  go_enter Tryz.func13, Tryz.ntmps13
  go_wp2_with fail
  refine (unhide HMM).mono ?_
  rintro e w1 ⟨rfl, s1, q1, O1, sv1, hP1, hW1, hy1, hO1, hsv1, hFr1⟩
  have HP1 := hide hP1
  clear hP1
  have hsz1 := hFr1.size
  obtain ⟨c0, c1, _, _, c4, _⟩ := hW1.G.cells
  have HO : Hid (∀ W', Fr (fun _ => False) w1 W' → Calls Tryz.prog 44 #[.pointer (some ⟨l, 0, none⟩)] W' fun e w' => e = .returned (.int .i64 (ss.length : Nat)) ∧ w' = W') := fun W' hf => by
    obtain ⟨hs, _⟩ := unhide HA
    have hlen : L1.segs.length = ss.length + 1 := by rw [hs]; simp
    have hl := (unhide HB).2.2.2.2.1
    have := wopen_any l d L1 sv1 pv W' (hW1.quiet hf).G (by omega)
    rw [show (L1.segs.length : Int) - 1 = (ss.length : Nat) by omega] at this
    exact this
  have HFi : Hid (∀ W', Fr (fun _ => False) w1 W' → Calls Tryz.prog 43 #[.pointer (some ⟨l, 0, none⟩), .int .i64 (ss.length : Nat)] W' fun e W2 => e = .returned (.string (seg L.name ss.length)) ∧ Fr (fun _ => False) w1 W2) := fun W' hf => by
    have hl := (unhide HB).2.2.2.2.1
    have hnl := (unhide HB).2.2.2.1
    exact (file_any l ss.length L.name W' hl (by rw [← (unhide HA).2.2.1]; exact (hW1.quiet hf).G.cells.2.1) (by omega)).mono (fun e W2 h => ⟨h.1, hf.trans h.2 (fun _ _ h => h)⟩)
  have HFr : Hid (∀ W', Fr (fun _ => False) w1 W' → Calls Tryz.prog 45 #[.slice yo PN yc] W' fun e W2 => ∃ v, e = .returned v ∧ W2.ownsRow w1.heap.size 5 1 v (frame p).length (cellsOf (frame p)) ∧ Fr (fun _ => False) w1 W2) := fun W' hf => by
    refine (framed_any (.slice yo PN yc) p W' (hy1.fr0 hf) (unhide HB).1).mono ?_
    rintro e W2 ⟨v, rfl, h1, h2⟩
    exact ⟨v, rfl, own_mono h1 hf.size, hf.trans h2 (fun _ _ h => h)⟩
  have HAp : Hid (∀ W' v, Fr (fun _ => False) w1 W' → W'.ownsRow w1.heap.size 5 1 v (frame p).length (cellsOf (frame p)) → Calls Tryz.prog 42 #[.pointer (some ⟨d, 0, none⟩), .string (seg L.name ss.length), v] W' fun e W2 => e = .returned (.int .i64 6) ∧ ∃ q2 O2, WL w W2 l d m L1 (s1.app (nm (seg L.name ss.length)) (frame p)) q2 O2 sv1 pv ∧ (∀ k, O2 k → O k ∨ W.heap.size ≤ k) ∧ Fr (fun k => O k ∨ k = l ∨ sv.ownBlock = some k ∨ pv.ownBlock = some k) W W2) := fun W' v hf hv => by
    obtain ⟨hs, hpl, hnm, hPall⟩ := unhide HA
    obtain ⟨hg, hh, hroom, hb, hps⟩ := hPall s1 (unhide HP1)
    obtain ⟨hp, hpz, hz, hnl, hl, hlp, hx, hsz⟩ := unhide HB
    have h1 := hW1.quiet hf
    obtain ⟨vo, vc, rfl⟩ := own_form hv
    have hcap : (frame p).length ≤ vc := by
      rcases hv.2 with ⟨_, e2⟩ | ⟨g, c, cur, e2, _, _, hc, _⟩
      · omega
      · simp only [Value.slice.injEq] at e2; omega
    obtain ⟨hgo, hgf, hgl, hgt, hglim, hgw, hgb⟩ := hg
    have hc0 : (s1.count (frame p).length).1.off = true := by rw [DM.count, if_neg (by rw [hgl]; decide), if_neg (by rw [hgl]; decide)]
    refine (append_ok d m s1 q1 O1 (seg L.name ss.length) _ (frame p) W' h1.D hgo (by simp only [maxLen]; omega) hh hgf (own_src hv) (fun g o k c e hO => by cases e; have h2 := (hv.lt g rfl).1; have h3 := hW1.D.lt g hO; omega) (fun xo k c e => by cases e; exact hcap) (by rw [frame_len]; exact hroom) hglim hgw (by rw [hgl]; decide) (by rw [hgl]; decide) (by rw [hgt]; omega) (by rw [hgt]; omega) hb hps).mono ?_
    rintro e W2 ⟨rfl, q2, O2, hD, hf2, hO⟩
    refine ⟨?_, q2, O2, h1.disk hD hf2 hO, fun k hk => (hO k hk).elim (hO1 k) (fun h => .inr (Nat.le_trans hsz1 (Nat.le_trans hf.size h))), (hFr1.trans hf (fun _ _ h => h.elim)).trans hf2 (fun k hk h => (hO1 k h).elim .inl (fun h => by omega))⟩
    rw [DM.code, hc0]
    rfl
  have HK : Hid (∀ W', Fr (fun _ => False) w1 W' → W'.cell? ⟨l, 0, none⟩ = some (.pointer (some ⟨d, 0, none⟩))) := fun W' hf => (hW1.quiet hf).G.cells.1
  have HSV1 := hide hsv1
  clear hW1 hy1 c1 c4 hO1 hsz1 hsv1 hFr1
  obtain ⟨SN, hSN⟩ : ∃ SN, SN = seg L.name ss.length := ⟨_, rfl⟩
  have HSN := hide hSN
  rw [← hSN] at HFi HAp
  clear hSN
  go_wp2_with fail
  go_region_held3 (fun w' => w'.cell? ⟨l, 0, none⟩ = some (.pointer (some ⟨d, 0, none⟩)))
    (first | exact (unhide HK) _ (Fr.refl _ _).drew | exact (unhide HK) _ hf2 | exact (unhide HK) _ hf3 | exact (unhide HW4).1.G.cells.1)
    (first
      | (go_at_call 44; refine ((unhide HO) _ (Fr.refl _ _).drew).mono ?_; rintro e w' ⟨rfl, rfl⟩; clear HO)
      | (go_at_call 43; refine ((unhide HFi) _ (Fr.refl _ _).drew).mono ?_; rintro e w2 ⟨rfl, hf2⟩; clear HFi)
      | (go_at_call 45; refine ((unhide HFr) _ hf2).mono ?_; rintro e w3 ⟨v3, rfl, hv3, hf3⟩; clear HFr)
      | (go_at_call 42; refine ((unhide HAp) _ _ hf3 hv3).mono ?_; rintro e w4 ⟨rfl, q4, O4, hW4, hO4⟩; clear HAp; have HW4 := hide (And.intro hW4 hO4); clear hW4 hO4))
  all_goals
    rw [unhide HSN] at HW4
    go_wp2_with fail
    go_ret2
    exact ⟨rfl, s1, _, _, _, unhide HP1, (unhide HW4).1, (unhide HW4).2.1, (unhide HW4).2.2, unhide HSV1⟩
end Go.Proofs.YtmmaddlphclpnaaGreatDoor

namespace Go.Proofs.YtmmaddlphclpnaaGreatDoor
open Go.RowKit Go.ChangeShapes Go.WideShapes Go.Maps Go.Sort
theorem up_split (l : List Nat) (c : Nat) : Up c l = Xn (8 * l.length) c ^^^ Up 0 l := by
  induction l generalizing c with
  | nil => exact (Nat.xor_zero c).symm
  | cons x l ih =>
    show Up (By c x) l = Xn (8 * (l.length + 1)) c ^^^ Up (By 0 x) l
    rw [ih (By c x), ih (By 0 x), By, By, Nat.zero_xor, Xn_xor, Xn_xor, Nat.mul_succ, Nat.add_comm, Xn_add, Nat.xor_assoc]
theorem up_xor (l : List Nat) (a b : Nat) : Up (a ^^^ b) l = Up a l ^^^ Xn (8 * l.length) b := by
  rw [up_split l (a ^^^ b), up_split l a, Xn_xor, Nat.xor_assoc, Nat.xor_assoc, Nat.xor_comm (Up 0 l)]
theorem up_app (c : Nat) (a b : List Nat) : Up c (a ++ b) = Up (Up c a) b := by rw [Up, List.foldl_append]; rfl
/-- A byte is turned. -/
theorem up_flip (c : Nat) (l1 l2 : List Nat) (y v : Nat) : Up c (l1 ++ (y ^^^ v) :: l2) = Up c (l1 ++ y :: l2) ^^^ Xn (8 * l2.length + 8) v := by
  rw [up_app, up_app]
  show Up (By (Up c l1) (y ^^^ v)) l2 = Up (By (Up c l1) y) l2 ^^^ _
  have e : By (Up c l1) (y ^^^ v) = By (Up c l1) y ^^^ Xn 8 v := by rw [By, By, ← Nat.xor_assoc, Xn_xor]
  rw [e, up_xor, Nat.add_comm (8 * l2.length) 8, Xn_add]
theorem X_zero_iff (c : Nat) (h : c < 4294967296) (hx : X c = 0) : c = 0 := by
  unfold X at hx
  by_cases ho : c % 2 = 1
  · rw [if_pos ho] at hx
    have h2 : c / 2 = 2197175160 := by
      have := congrArg (fun z => z ^^^ 2197175160) hx
      simpa [Nat.xor_assoc] using this
    omega
  · rw [if_neg ho] at hx; omega
theorem Xn_zero_iff (n c : Nat) (h : c < 4294967296) (hx : Xn n c = 0) : c = 0 := by
  induction n generalizing c with
  | zero => exact hx
  | succ n ih => exact X_zero_iff c h (ih (X c) (X_lt c h) hx)
theorem xor_cancel {a b c : Nat} (h : a ^^^ c = b ^^^ c) : a = b := by
  have h2 := congrArg (fun z => z ^^^ c) h
  simpa [Nat.xor_assoc] using h2
theorem xor_self0 {a b : Nat} (h : a ^^^ b = a) : b = 0 := by
  have h2 := congrArg (fun z => a ^^^ z) h
  simpa [← Nat.xor_assoc] using h2
theorem two_lt {k : Nat} (hk : k < 8) : 2 ^ k < 256 := Nat.pow_lt_pow_right (n := 8) (by decide) hk
theorem bit_lt {x k : Nat} (hk : k < 8) : x % 256 ^^^ 2 ^ k < 256 := Nat.xor_lt_two_pow (n := 8) (Nat.mod_lt _ (by decide)) (two_lt hk)
theorem bit_ne {x k : Nat} : x % 256 ^^^ 2 ^ k ≠ x % 256 := fun e => by
  have h0 := xor_self0 e
  have := Nat.two_pow_pos k
  omega
/-- The sum with one bit turned is another. -/
theorem Sm_flip (c : Nat) (l1 l2 : List Nat) (y k : Nat) (hk : k < 8) : Sm c (l1 ++ (y % 256 ^^^ 2 ^ k) :: l2) ≠ Sm c (l1 ++ y :: l2) := fun e => by
  have e1 := xor_cancel e
  have en : nb (l1 ++ (y % 256 ^^^ 2 ^ k) :: l2) = nb l1 ++ (y % 256 ^^^ 2 ^ k) :: nb l2 := by
    rw [nb_append]
    show _ ++ ((y % 256 ^^^ 2 ^ k) % 256) :: nb l2 = _
    rw [Nat.mod_eq_of_lt (bit_lt hk)]
  have en2 : nb (l1 ++ y :: l2) = nb l1 ++ y % 256 :: nb l2 := by rw [nb_append]; rfl
  rw [en, en2, up_flip] at e1
  have e2 := xor_self0 e1
  have hlt := two_lt hk
  have := Xn_zero_iff _ _ (by omega) e2
  have := Nat.two_pow_pos k
  omega
/-- A list with one bit of one byte turned. -/
def flipB (l : List Nat) (a k : Nat) : List Nat := l.set a (l.getD a 0 % 256 ^^^ 2 ^ k)
theorem flipB_len (l : List Nat) (a k : Nat) : (flipB l a k).length = l.length := List.length_set
theorem flipB_right (l r : List Nat) (a k : Nat) : flipB (l ++ r) (l.length + a) k = l ++ flipB r a k := by
  unfold flipB
  rw [List.set_append_right _ _ (by omega), Nat.add_sub_cancel_left]
  congr 2
  rw [List.getD_eq_getElem?_getD, List.getD_eq_getElem?_getD, List.getElem?_append_right (by omega), Nat.add_sub_cancel_left]
theorem flipB_left (l r : List Nat) (a k : Nat) (h : a < l.length) : flipB (l ++ r) a k = flipB l a k ++ r := by
  unfold flipB
  rw [List.set_append_left _ _ h]
  congr 2
  rw [List.getD_eq_getElem?_getD, List.getD_eq_getElem?_getD, List.getElem?_append_left h]
theorem flipB_split (l : List Nat) (a k : Nat) (h : a < l.length) : ∃ l1 y l2, l = l1 ++ y :: l2 ∧ flipB l a k = l1 ++ (y % 256 ^^^ 2 ^ k) :: l2 := by
  refine ⟨l.take a, l[a], l.drop (a + 1), ?_, ?_⟩
  · rw [List.getElem_cons_drop h, List.take_append_drop]
  · unfold flipB
    rw [List.set_eq_take_append_cons_drop, if_pos h, List.getD_eq_getElem?_getD, List.getElem?_eq_getElem h, Option.getD_some]
theorem num4_eq (a b c d : Nat) (r : List Nat) : num4 (a :: b :: c :: d :: r) = a % 256 * 16777216 + b % 256 * 65536 + c % 256 * 256 + d % 256 := rfl
/-- A number's bytes with one bit turned tell another. -/
theorem num4_flip (n a k : Nat) (r : List Nat) (ha : a < 4) (hk : k < 8) : num4 (flipB (nb4 n) a k ++ r) ≠ num4 (nb4 n ++ r) := by
  have hl : ∀ x : Nat, x % 256 ^^^ 2 ^ k < 256 := fun x => bit_lt hk
  have hn : ∀ x : Nat, x % 256 ^^^ 2 ^ k ≠ x % 256 := fun x => bit_ne
  match a, ha with
  | 0, _ =>
    have h1 := hl (n / 16777216 % 256)
    have h2 := hn (n / 16777216 % 256)
    simp only [flipB, nb4, List.set_cons_zero, List.getD_cons_zero, List.cons_append, List.nil_append, num4_eq]
    omega
  | 1, _ =>
    have h1 := hl (n / 65536 % 256)
    have h2 := hn (n / 65536 % 256)
    simp only [flipB, nb4, List.set_cons_zero, List.set_cons_succ, List.getD_cons_zero, List.getD_cons_succ, List.cons_append, List.nil_append, num4_eq]
    omega
  | 2, _ =>
    have h1 := hl (n / 256 % 256)
    have h2 := hn (n / 256 % 256)
    simp only [flipB, nb4, List.set_cons_zero, List.set_cons_succ, List.getD_cons_zero, List.getD_cons_succ, List.cons_append, List.nil_append, num4_eq]
    omega
  | 3, _ =>
    have h1 := hl (n % 256)
    have h2 := hn (n % 256)
    simp only [flipB, nb4, List.set_cons_zero, List.set_cons_succ, List.getD_cons_zero, List.getD_cons_succ, List.cons_append, List.nil_append, num4_eq]
    omega
theorem flip4_len (n a k : Nat) : (flipB (nb4 n) a k).length = 4 := by rw [flipB_len, nb4_len]
/-- What four parts are looked at as. -/
theorem lookL_parts (A B C D r : List Nat) (most : Nat) (hA : A.length = 4) (hB : B.length = 4) (hC : C.length = 4) (hN : num4 (A ++ []) = D.length) (hnA : ∀ x, num4 (A ++ x) = num4 (A ++ [])) (hnB : ∀ x, num4 (B ++ x) = num4 (B ++ [])) (hnC : ∀ x, num4 (C ++ x) = num4 (C ++ [])) (hbad : num4 (B ++ []) ≠ D.length ^^^ 4294967295 ∨ num4 (C ++ []) ≠ Sm (Sm 0 (A ++ B)) D) : lookL (A ++ (B ++ (C ++ (D ++ r)))) most = (0, 2) := by
  have n0 : num4 (A ++ (B ++ (C ++ (D ++ r)))) = D.length := by rw [hnA, hN]
  have n4 : num4 ((A ++ (B ++ (C ++ (D ++ r)))).drop 4) = num4 (B ++ []) := by rw [List.drop_left' hA, hnB]
  have e8 : A ++ (B ++ (C ++ (D ++ r))) = (A ++ B) ++ (C ++ (D ++ r)) := by simp only [List.append_assoc]
  have h8 : (A ++ B).length = 8 := by rw [List.length_append, hA, hB]
  have n8 : num4 ((A ++ (B ++ (C ++ (D ++ r)))).drop 8) = num4 (C ++ []) := by rw [e8, List.drop_left' h8, hnC]
  have t8 : (A ++ (B ++ (C ++ (D ++ r)))).take 8 = A ++ B := by rw [e8, List.take_left' h8]
  have e12 : A ++ (B ++ (C ++ (D ++ r))) = (A ++ B ++ C) ++ (D ++ r) := by simp only [List.append_assoc]
  have d12 : ((A ++ (B ++ (C ++ (D ++ r)))).drop 12).take D.length = D := by
    rw [e12, List.drop_left' (by rw [List.length_append, h8, hC]), List.take_left' rfl]
  have hl : (A ++ (B ++ (C ++ (D ++ r)))).length = 12 + (D.length + r.length) := by
    simp only [List.length_append, hA, hB, hC]; omega
  unfold lookL
  rw [n0, n4, n8, t8, d12, hl, if_neg (by omega)]
  by_cases h1 : num4 (B ++ []) ≠ D.length ^^^ 4294967295 ∨ most < D.length
  · rw [if_pos h1]
  · rw [if_neg h1, if_neg (by omega)]
    have h2 : ¬ num4 (B ++ []) ≠ D.length ^^^ 4294967295 := fun h => h1 (.inl h)
    rw [if_pos (hbad.resolve_left h2)]
theorem num4_app {A : List Nat} (hA : A.length = 4) (x : List Nat) : num4 (A ++ x) = num4 (A ++ []) := by
  match A, hA with
  | [a, b, c, d], _ => rfl
/-- A frame with one bit turned is found broken. -/
theorem look_turned (p r : List Nat) (most a k : Nat) (h32 : p.length < 4294967296) (hk : k < 8) (ha : a < (frame p).length) : lookL (flipB (frame p) a k ++ r) most = (0, 2) := by
  have hs := Sm2_lt (hd8 p.length) p
  have hx := not32_lt _ h32
  have n0 := num4_nb4 _ h32 []
  have n4 := num4_nb4 _ hx []
  have n8 := num4_nb4 _ hs []
  have e8 : nb4 p.length ++ nb4 (p.length ^^^ 4294967295) = hd8 p.length := rfl
  rw [frame_len] at ha
  rw [frame_eq]
  by_cases h4 : a < 4
  · rw [flipB_left _ _ _ _ (by rw [nb4_len]; exact h4)]
    have hne := num4_flip p.length a k [] h4 hk
    rw [n0] at hne
    have hl := flip4_len p.length a k
    have q0 : num4 (flipB (nb4 p.length) a k ++ (nb4 (p.length ^^^ 4294967295) ++ (nb4 (Sm (Sm 0 (hd8 p.length)) p) ++ p)) ++ r) = num4 (flipB (nb4 p.length) a k ++ []) := by rw [List.append_assoc, num4_app hl]
    have q4 : num4 ((flipB (nb4 p.length) a k ++ (nb4 (p.length ^^^ 4294967295) ++ (nb4 (Sm (Sm 0 (hd8 p.length)) p) ++ p)) ++ r).drop 4) = p.length ^^^ 4294967295 := by
      rw [List.append_assoc, List.drop_left' hl, List.append_assoc, num4_app (nb4_len _), n4]
    unfold lookL
    rw [q0, q4, if_neg (by simp only [List.length_append, hl, nb4_len]; omega), if_pos (.inl (fun e => hne (xor_cancel e).symm))]
  · by_cases h8 : a < 8
    · obtain ⟨a', rfl⟩ : ∃ a', a = (nb4 p.length).length + a' := ⟨a - 4, by rw [nb4_len]; omega⟩
      rw [nb4_len] at h4 h8
      rw [flipB_right, flipB_left _ _ _ _ (by rw [nb4_len]; omega), List.append_assoc, List.append_assoc, List.append_assoc]
      have hne := num4_flip (p.length ^^^ 4294967295) a' k [] (by omega) hk
      rw [n4] at hne
      exact lookL_parts _ _ _ _ r most (nb4_len _) (flip4_len ..) (nb4_len _) n0 (num4_app (nb4_len _)) (num4_app (flip4_len ..)) (num4_app (nb4_len _)) (.inl hne)
    · by_cases h12 : a < 12
      · obtain ⟨a', rfl⟩ : ∃ a', a = (nb4 p.length).length + ((nb4 (p.length ^^^ 4294967295)).length + a') := ⟨a - 8, by rw [nb4_len, nb4_len]; omega⟩
        rw [nb4_len, nb4_len] at h8 h12
        rw [flipB_right, flipB_right, flipB_left _ _ _ _ (by rw [nb4_len]; omega), List.append_assoc, List.append_assoc, List.append_assoc]
        have hne := num4_flip (Sm (Sm 0 (hd8 p.length)) p) a' k [] (by omega) hk
        rw [n8] at hne
        exact lookL_parts _ _ _ _ r most (nb4_len _) (nb4_len _) (flip4_len ..) n0 (num4_app (nb4_len _)) (num4_app (nb4_len _)) (num4_app (flip4_len ..)) (.inr hne)
      · obtain ⟨a', rfl⟩ : ∃ a', a = (nb4 p.length).length + ((nb4 (p.length ^^^ 4294967295)).length + ((nb4 (Sm (Sm 0 (hd8 p.length)) p)).length + a')) := ⟨a - 12, by rw [nb4_len, nb4_len, nb4_len]; omega⟩
        rw [nb4_len, nb4_len, nb4_len] at ha
        rw [flipB_right, flipB_right, flipB_right, List.append_assoc, List.append_assoc, List.append_assoc]
        obtain ⟨l1, y, l2, ep, ef⟩ := flipB_split p a' k (by omega)
        have hne := Sm_flip (Sm 0 (hd8 p.length)) l1 l2 y k hk
        rw [← ep, ← ef] at hne
        exact lookL_parts _ _ _ _ r most (nb4_len _) (nb4_len _) (nb4_len _) (by rw [n0, flipB_len]) (num4_app (nb4_len _)) (num4_app (nb4_len _)) (num4_app (nb4_len _)) (.inr (by rw [n8, e8]; exact fun e => hne e.symm))
/-- Which frame a place of a segment lies in. -/
theorem fby_at : ∀ (ps : List (List Nat)) (a : Nat), a < (fby ps).length → ∃ us p vs b, ps = us ++ p :: vs ∧ a = (fby us).length + b ∧ b < (frame p).length
  | [], a, h => by simp [fby] at h
  | p :: r, a, h => by
    rw [fby_cons, List.length_append] at h
    by_cases hp : a < (frame p).length
    · exact ⟨[], p, r, a, rfl, by simp [fby], hp⟩
    · obtain ⟨us, q, vs, b, e1, e2, e3⟩ := fby_at r (a - (frame p).length) (by omega)
      exact ⟨p :: us, q, vs, b, by rw [e1]; rfl, by rw [fby_cons, List.length_append]; omega, e3⟩
/-- A segment with one bit turned. -/
theorem frm_turned (most : Nat) (L : LM) (ps : List (List Nat)) (a k : Nat) (hp : ∀ p ∈ ps, p.length ≤ most ∧ p.length < 4294967296) (ha : a < (fby ps).length) (hk : k < 8) : (frm most ((flipB (fby ps) a k).length + 1) (flipB (fby ps) a k) { L with segs := L.segs ++ [0] }).2 = 2 := by
  obtain ⟨us, p, vs, b, rfl, rfl, hb⟩ := fby_at ps a ha
  have e : flipB (fby (us ++ p :: vs)) ((fby us).length + b) k = fby us ++ (flipB (frame p) b k ++ fby vs) := by
    rw [fby_app, flipB_right, fby_cons, flipB_left _ _ _ _ hb]
  rw [flipB_len, e]
  have hge := fby_ge us
  have hlen : (fby (us ++ p :: vs)).length + 1 = us.length + ((fby (us ++ p :: vs)).length - us.length + 1) := by rw [fby_app_len] at *; omega
  rw [hlen, frm_run most _ L.segs us _ { L with segs := L.segs ++ [0] } 0 rfl (fun q hq => hp q (List.mem_append_left _ hq)), frm]
  have hne : flipB (frame p) b k ++ fby vs ≠ [] := fun e => by
    have := congrArg List.length e
    rw [List.length_append, flipB_len] at this
    simp only [List.length_nil] at this
    omega
  rw [if_neg hne, look_turned p (fby vs) most b k (hp p (by simp)).2 hk hb, if_neg (by decide)]
/-- What a scan finds where one bit of a segment is turned. -/
theorem scn_turned (name : ByteArray) (Z most : Nat) (B : Nat → List Nat) (N a k : Nat) (ps : List (List Nat)) (hps : ∀ p ∈ ps, p.length ≤ most ∧ p.length < 4294967296) (ha : a < (fby ps).length) (hk : k < 8) : ∀ (R A : List (List (List Nat))) (f : Nat), A.length + R.length < N → R.length + 1 ≤ f → (∀ i, i < R.length → B (A.length + i) = fby (R.getD i [])) → B (A.length + R.length) = flipB (fby ps) a k → (∀ qs ∈ R, ∀ p ∈ qs, p.length ≤ most ∧ p.length < 4294967296) → (scn B N most f (LM.of name Z A)).2 = false
  | [], A, f, hN, hf, _, hB, _ => by
    obtain ⟨g, rfl⟩ : ∃ g, f = g + 1 := ⟨f - 1, by simp only [List.length_nil] at hf; omega⟩
    have hl : (LM.of name Z A).segs.length = A.length := by simp [LM.of]
    simp only [List.length_nil, Nat.add_zero] at hN hB
    rw [scn_go B N most g _ (by rw [hl]; omega), hl, hB]
    have h2 := frm_turned most (LM.of name Z A) ps a k hps ha hk
    unfold fin
    rw [h2, if_neg (by decide), if_pos rfl]
  | qs :: R, A, f, hN, hf, hB, hBl, hR => by
    obtain ⟨g, rfl⟩ : ∃ g, f = g + 1 := ⟨f - 1, by simp only [List.length_cons] at hf; omega⟩
    have hl : (LM.of name Z A).segs.length = A.length := by simp [LM.of]
    simp only [List.length_cons] at hN hf hBl
    have eB : B A.length = fby qs ++ [] := by
      have := hB 0 (by simp)
      simpa using this
    rw [scn_go B N most g _ (by rw [hl]; omega), hl, eB, frm_seg most _ qs [] (hR qs (List.mem_cons_self ..)) (.inl rfl), hl]
    have eo : (⟨(LM.of name Z A).name, (LM.of name Z A).size, (LM.of name Z A).segs ++ [(fby qs).length], (LM.of name Z A).pls ++ plo A.length 0 qs⟩ : LM) = LM.of name Z (A ++ [qs]) := by
      simp [LM.of, plc_app, plc]
    rw [eo]
    unfold fin
    rw [if_pos rfl, if_pos rfl]
    exact scn_turned name Z most B N a k ps hps ha hk R (A ++ [qs]) g (by simp; omega) (by omega) (fun i hi => by
      have := hB (i + 1) (by simp only [List.length_cons]; omega)
      rw [List.length_append, List.length_singleton, show A.length + 1 + i = A.length + (i + 1) by omega, this]
      simp) (by rw [List.length_append, List.length_singleton, show A.length + 1 + R.length = A.length + (R.length + 1) by omega]; exact hBl) (fun q hq => hR q (List.mem_cons_of_mem _ hq))
end Go.Proofs.YtmmaddlphclpnaaGreatDoor

namespace Go.Proofs.YtmmaddlphclpnaaGreatDoor
open Go.RowKit Go.ChangeShapes Go.WideShapes Go.Maps Go.Sort

theorem DM.Like.refl (s : DM) : s.Like s := ⟨rfl, rfl, rfl, rfl, rfl, rfl⟩
theorem DM.Like.syn {s s' : DM} (h : s.Like s') (x : List UInt8) : s.Like (s'.syn x) := ⟨h.off, h.full, h.left, h.tear, h.lim, h.wr⟩
theorem DM.Like.short {s s' : DM} (h : s.Like s') (x : List UInt8) (n : Nat) : s.Like (s'.short x n) := ⟨h.off, h.full, h.left, h.tear, h.lim, h.wr⟩
/-- What settle has done when k segments are synced. -/
structure Sett (w W wr : World) (l d m : Nat) (L : LM) (s : DM) (O : Nat → Prop) (sv pv : Value) (N : Nat) (b1 : Nat → FM) (k : Nat) : Prop where
  ex : ∃ sk qk Ok, WL w wr l d m L sk qk Ok sv pv ∧ s.Like sk ∧ Fls sk L.name N (fun i => if i < k then (b1 i).synced else b1 i) ∧ (∀ k, Ok k → O k ∨ W.heap.size ≤ k) ∧ Fr O W wr
theorem Sett.go {w W wr wr' : World} {l d m : Nat} {L : LM} {s : DM} {O : Nat → Prop} {sv pv : Value} {N : Nat} {b1 : Nat → FM} {k : Nat} (h : Sett w W wr l d m L s O sv pv N b1 k) (hf : Fr (fun _ => False) wr wr') : Sett w W wr' l d m L s O sv pv N b1 k := by
  obtain ⟨sk, qk, Ok, h1, h2, h3, h4, h5⟩ := h.ex
  exact ⟨sk, qk, Ok, h1.quiet hf, h2, h3, h4, h5.trans hf (fun _ _ h => h.elim)⟩
theorem Sett.cell {w W wr : World} {l d m : Nat} {L : LM} {s : DM} {O : Nat → Prop} {sv pv : Value} {N : Nat} {b1 : Nat → FM} {k : Nat} (h : Sett w W wr l d m L s O sv pv N b1 k) : wr.cell? ⟨l, 0, none⟩ = some (.pointer (some ⟨d, 0, none⟩)) ∧ wr.cell? ⟨l, 1, none⟩ = some (.string L.name) := by
  obtain ⟨sk, qk, Ok, h1, h2, h3, h4, h5⟩ := h.ex
  exact ⟨h1.G.cells.1, h1.G.cells.2.1⟩
theorem Sett.step {w W wr : World} {l d m : Nat} {L : LM} {s : DM} {O : Nat → Prop} {sv pv : Value} {N : Nat} {b1 : Nat → FM} {k : Nat} (h : Sett w W wr l d m L s O sv pv N b1 k) (hk : k < N) (hN : N ≤ 99) (hnl : L.name.size ≤ 32) (ho : s.off = false) :
    Calls Tryz.prog 55 #[.pointer (some ⟨d, 0, none⟩), .string (seg L.name k)] wr fun e wr' => e = .returned (.int .i64 0) ∧ Sett w W wr' l d m L s O sv pv N b1 (k + 1) := by
  obtain ⟨sk, qk, Ok, h1, h2, h3, h4, h5⟩ := h.ex
  have hsz := seg_size L.name k (by omega)
  refine (sync_at d m sk qk Ok (seg L.name k) wr h1.D (h2.off.trans ho) (by simp only [maxLen]; omega) (h3.has hk)).mono ?_
  rintro e W2 ⟨rfl, q', O', hD, hf2, hO⟩
  refine ⟨rfl, sk.syn (nm (seg L.name k)), q', O', h1.disk hD hf2 hO, h2.syn _, (h3.syn (by omega) hk).congr (fun i hi => ?_), fun k hk => (hO k hk).elim (h4 k) (fun e => .inr (Nat.le_trans h5.size e)), h5.trans hf2 (fun k hk e => (h4 k e).elim id (fun e => by omega))⟩
  by_cases e : i = k
  · subst e
    rw [if_pos rfl, if_neg (Nat.lt_irrefl _), if_pos (Nat.lt_succ_self _)]
  · rw [if_neg e]
    by_cases e2 : i < k
    · rw [if_pos e2, if_pos (by omega)]
    · rw [if_neg e2, if_neg (by omega)]
set_option maxHeartbeats 1000000 in
set_option maxRecDepth 100000 in
/-- Log.settle. -/
theorem settle_any (w : World) (l d m : Nat) (L : LM) (s : DM) (q : DW) (O : Nat → Prop) (sv pv : Value) (ss : List Nat) (x : Nat) (b : Nat → FM) (W : World) (h : WL w W l d m L s q O sv pv) (hs : L.segs = ss ++ [x]) (hl : ss.length < 99) (hnl : L.name.size ≤ 32) (ho : s.off = false) (hf : Fls s L.name (ss.length + 1) b) (hx : x ≤ (b ss.length).b.length) (hu2 : s.used ≤ 1048576) (hps : (b ss.length).ps.length ≤ 1000000) (hsz : ∀ p ∈ (b ss.length).ps, p.2 ≤ 1048576) :
    Calls Tryz.prog 75 #[.pointer (some ⟨l, 0, none⟩)] W fun e W' => e = .returned (.int .i64 0) ∧ Sett w W W' l d m L s O sv pv (ss.length + 1) (fun i => if i = ss.length then (b ss.length).cut x else b i) (ss.length + 1) := by
  have hlen : L.segs.length = ss.length + 1 := by rw [hs]; simp
  have hsn := seg_size L.name ss.length (by omega)
  have hge := tot_ge (fun i => (b i).b) (show ss.length < ss.length + 1 by omega)
  have hus := hf.used
  obtain ⟨g, sc, rfl, hsc, hc, hcf⟩ := h.G.last hs
  have HO : Hid (Calls Tryz.prog 44 #[.pointer (some ⟨l, 0, none⟩)] W fun e w' => e = .returned (.int .i64 (ss.length : Nat)) ∧ w' = W) := by
    have := wopen_any l d L _ pv W h.G (by omega)
    rw [show (L.segs.length : Int) - 1 = (ss.length : Nat) by omega] at this
    exact this
  have HFI : Hid (∀ W', Fr (fun _ => False) W W' → Calls Tryz.prog 43 #[.pointer (some ⟨l, 0, none⟩), .int .i64 (ss.length : Nat)] W' fun e W2 => e = .returned (.string (seg L.name ss.length)) ∧ Fr (fun _ => False) W W2) := fun W' hf =>
    (file_any l ss.length L.name W' (by omega) (h.quiet hf).G.cells.2.1 (by omega)).mono (fun e W2 h => ⟨h.1, hf.trans h.2 (fun _ _ h => h)⟩)
  have HC : Hid (∀ W', Fr (fun _ => False) W W' → Calls Tryz.prog 24 #[.pointer (some ⟨d, 0, none⟩), .string (seg L.name ss.length), .int .i64 (x : Nat)] W' fun e W2 => e = .returned (.int .i64 0) ∧ Sett w W W2 l d m L s O (.slice (some ⟨g, 0, none⟩) (ss.length + 1) sc) pv (ss.length + 1) (fun i => if i = ss.length then (b ss.length).cut x else b i) 0) := fun W' hf1 => by
    have h1 := h.quiet hf1
    have eF := hf.F ss.length (Nat.lt_succ_self _)
    refine (cutn_at d m s q O (seg L.name ss.length) x W' h1.D ho (by simp only [maxLen]; omega) (hf.has (Nat.lt_succ_self _)) (by rw [eF]; exact hx) (by rw [eF]; omega) (by rw [eF]; omega) (by rw [eF]; exact hsz) (by rw [eF]; omega) hu2).mono ?_
    rintro e W2 ⟨rfl, q', hD, hf2⟩
    exact ⟨rfl, s.short (nm (seg L.name ss.length)) x, q', O, h1.disk hD hf2 (fun _ h => .inl h), (DM.Like.refl s).short _ _, (hf.short (by omega) (Nat.lt_succ_self _) x hx).congr (fun i hi => by rw [if_neg (Nat.not_lt_zero _)]), fun _ h => .inl h, (hf1.mono (fun _ _ h => h.elim)).trans hf2 (fun _ _ h => h)⟩
  have HK : Hid (∀ W', Fr (fun _ => False) W W' → W'.cell? ⟨l, 0, none⟩ = some (.pointer (some ⟨d, 0, none⟩)) ∧ W'.cell? ⟨l, 3, none⟩ = some (.slice (some ⟨g, 0, none⟩) (ss.length + 1) sc) ∧ W'.cell? ⟨g, ss.length, none⟩ = some (.int .i64 (x : Nat))) := fun W' hf1 => by
    have h1 := h.quiet hf1
    refine ⟨h1.G.cells.1, h1.G.cells.2.2.2.1, ?_⟩
    obtain ⟨g2, sc2, e2, _, hc2, _⟩ := h1.G.last hs
    cases e2
    exact hc2
  have HK2 : Hid (∀ W2 k b1, Sett w W W2 l d m L s O (.slice (some ⟨g, 0, none⟩) (ss.length + 1) sc) pv (ss.length + 1) b1 k → W2.cell? ⟨l, 0, none⟩ = some (.pointer (some ⟨d, 0, none⟩)) ∧ W2.cell? ⟨l, 3, none⟩ = some (.slice (some ⟨g, 0, none⟩) (ss.length + 1) sc) ∧ W2.cell? ⟨g, ss.length, none⟩ = some (.int .i64 (x : Nat))) := fun W2 k b1 h1 => by
    obtain ⟨sk, qk, Ok, h1, _⟩ := h1.ex
    refine ⟨h1.G.cells.1, h1.G.cells.2.2.2.1, ?_⟩
    obtain ⟨g2, sc2, e2, _, hc2, _⟩ := h1.G.last hs
    cases e2
    exact hc2
  have HH := hide (And.intro hnl ho)
  clear h hs hlen hcf hf hx hu2 hps hsz hsn hge hus hnl ho hc
  obtain ⟨SN, hSN⟩ : ∃ SN, SN = seg L.name ss.length := ⟨_, rfl⟩
  rw [← hSN] at HFI HC
  clear hSN
  obtain ⟨b1, hb1⟩ : ∃ b1 : Nat → FM, b1 = (fun i => if i = ss.length then (b ss.length).cut x else b i) := ⟨_, rfl⟩
  rw [← hb1] at HC ⊢
  clear hb1
  generalize hSL : ss.length = SL at *
  clear hSL
  have hNi : (SL : Int) < (SL : Int) + 1 := by omega
  go_enter Tryz.func75, Tryz.ntmps75
  go_wp2_with (go_at_call 44; refine (unhide HO).mono ?_; rintro e w' ⟨rfl, rfl⟩; clear HO)
  go_region_held3 (fun w' => w'.cell? ⟨l, 0, none⟩ = some (.pointer (some ⟨d, 0, none⟩)) ∧ w'.cell? ⟨l, 3, none⟩ = some (.slice (some ⟨g, 0, none⟩) (SL + 1) sc) ∧ w'.cell? ⟨g, SL, none⟩ = some (.int .i64 (x : Nat)))
    (first | exact (unhide HK2) _ _ _ (unhide HW) | exact (unhide HK) _ hf1 | exact (unhide HK) _ (Fr.refl _ _).drew)
    (first
      | (go_at_call 43; refine ((unhide HFI) _ (Fr.refl _ _).drew).mono ?_; rintro e w1 ⟨rfl, hf1⟩; clear HFI)
      | (go_at_call 24; refine ((unhide HC) _ hf1).mono ?_; rintro e w2 ⟨rfl, hW⟩; clear HC; have HW := hide hW; clear hW))
  all_goals
    have hl0 : SL < 99 := hl
    go_wp2_with fail
    go_loopw [4, 5] (fun ev iv wr => ∃ k : Nat, ev = .int .i64 0 ∧ iv = .int .i64 (k : Nat) ∧ k ≤ SL + 1 ∧ Sett w w' wr l d m L s O (.slice (some ⟨g, 0, none⟩) (SL + 1) sc) pv (SL + 1) b1 k) (fun _ iv _ => SL + 1 - (intOf iv).toNat)
    case atStart => exact ⟨0, rfl, rfl, Nat.zero_le _, unhide HW⟩
    case round =>
      obtain ⟨k, rfl, rfl, hk, hSt⟩ := hrel
      by_cases hks : k ≤ SL
      · have hki : (k : Int) ≤ (SL : Int) := by omega
        have HF : Hid (∀ W', Fr (fun _ => False) wr W' → Calls Tryz.prog 43 #[.pointer (some ⟨l, 0, none⟩), .int .i64 (k : Nat)] W' fun e W2 => e = .returned (.string (seg L.name k)) ∧ Fr (fun _ => False) wr W2) := fun W' hf =>
          (file_any l k L.name W' (by omega) (hSt.go hf).cell.2 (by have := (unhide HH).1; omega)).mono (fun e W2 h => ⟨h.1, hf.trans h.2 (fun _ _ h => h)⟩)
        have HS : Hid (∀ W', Fr (fun _ => False) wr W' → Calls Tryz.prog 55 #[.pointer (some ⟨d, 0, none⟩), .string (seg L.name k)] W' fun e W2 => e = .returned (.int .i64 0) ∧ Sett w w' W2 l d m L s O (.slice (some ⟨g, 0, none⟩) (SL + 1) sc) pv (SL + 1) b1 (k + 1)) := fun W' hf =>
          (hSt.go hf).step (by omega) (by omega) (unhide HH).1 (unhide HH).2
        have HKK : Hid (∀ W', Fr (fun _ => False) wr W' → W'.cell? ⟨l, 0, none⟩ = some (.pointer (some ⟨d, 0, none⟩))) := fun W' hf => (hSt.go hf).cell.1
        obtain ⟨KN, hKN⟩ : ∃ KN, KN = seg L.name k := ⟨_, rfl⟩
        rw [← hKN] at HF HS
        clear hKN hSt
        go_wp2_with fail
        go_region_held3 (fun w' => w'.cell? ⟨l, 0, none⟩ = some (.pointer (some ⟨d, 0, none⟩)))
          (first | exact (unhide HS4).cell.1 | exact (unhide HKK) _ hf3 | exact (unhide HKK) _ (Fr.refl _ _).drew)
          (first
            | (go_at_call 43; refine ((unhide HF) _ (Fr.refl _ _).drew).mono ?_; rintro e w3 ⟨rfl, hf3⟩; clear HF)
            | (go_at_call 55; refine ((unhide HS) _ hf3).mono ?_; rintro e w4 ⟨rfl, hS4⟩; clear HS; have HS4 := hide hS4; clear hS4))
        all_goals
          go_wp2_with fail
          exact ⟨⟨k + 1, rfl, by simp, by omega, unhide HS4⟩, by simp only [intOf]; omega⟩
      · obtain rfl : k = SL + 1 := by omega
        have HSt := hide hSt
        clear hSt
        have hki : ¬ (SL : Int) + 1 ≤ (SL : Int) := by omega
        go_wp2_with fail
        go_ret
        exact ⟨rfl, unhide HSt⟩
end Go.Proofs.YtmmaddlphclpnaaGreatDoor

namespace Go.Proofs.YtmmaddlphclpnaaGreatDoor
open Go.RowKit Go.ChangeShapes Go.WideShapes Go.Maps Go.Sort

theorem wp_scope_jumps2c {P : Program} {a : Act} {w : World} {Q : Exit → Act → World → Prop} {c X Y : Code} (J : Nat → Act → World → Prop) (μ : Nat → Act → World → Nat) (hf0 : findLabel c 0 = some (Code.skip.seq Y)) (hf1 : findLabel c 1 = some (Code.skip.seq X))
    (pass1 : ∀ a w, J 1 a w → X.wp P (jump2 (fun l' a' w' => J l' a' w' ∧ μ l' a' w' < μ 1 a w) Q) a w)
    (pass0 : (∀ a w, J 1 a w → X.wp P (jump2 (fun l' a' w' => J l' a' w' ∧ μ l' a' w' < μ 1 a w) Q) a w) → ∀ a w, J 0 a w → Y.wp P (jump2 (fun l' a' w' => J l' a' w' ∧ μ l' a' w' < μ 0 a w) Q) a w)
    (first : (∀ a w, J 0 a w → Y.wp P (jump2 (fun l' a' w' => J l' a' w' ∧ μ l' a' w' < μ 0 a w) Q) a w) → c.wp P (jump2 J Q) a w) : (Code.scope c).wp P Q a w :=
  wp_scope_jumps2 J μ hf0 hf1 (first (pass0 pass1)) (fun a w h => wp_seq (wp_skip (pass0 pass1 a w h))) (fun a w h => wp_seq (wp_skip (pass1 a w h)))
theorem jump2_mono {J J' : Nat → Act → World → Prop} {Q : Exit → Act → World → Prop} (h : ∀ l a w, J l a w → J' l a w) : ∀ (e : Exit) (a : Act) (w : World), jump2 J Q e a w → jump2 J' Q e a w := fun e a w hj => by
  cases e with
  | goto l => exact ⟨hj.1, h _ _ _ hj.2⟩
  | _ => exact hj
theorem frm_nil (most g : Nat) (L : LM) : frm most g [] L = (L, 0) := by cases g <;> rfl
theorem frm_go (most g : Nat) (r : List Nat) (L : LM) (hr : r ≠ []) (hg : r.length < g) (h : (lookL r most).2 = 0) : ∃ g', g = g' + 1 ∧ frm most g r L = frm most g' (r.drop (12 + (lookL r most).1)) (L.took (lookL r most).1) := by
  cases g with
  | zero => omega
  | succ g => exact ⟨g, rfl, by rw [frm, if_neg hr, if_pos h]⟩
theorem frm_end (most g : Nat) (r : List Nat) (L : LM) (hr : r ≠ []) (hg : r.length < g) (h : (lookL r most).2 ≠ 0) : frm most g r L = (L, (lookL r most).2) := by
  cases g with
  | zero => omega
  | succ g => rw [frm, if_neg hr, if_neg h]
theorem lookL_whole (r : List Nat) (most : Nat) (h : (lookL r most).2 = 0) : 12 + (lookL r most).1 ≤ r.length := by
  unfold lookL at h ⊢
  split
  · rename_i h1; rw [if_pos h1] at h; simp at h
  · rename_i h1
    rw [if_neg h1] at h
    split
    · rename_i h2; rw [if_pos h2] at h; simp at h
    · rename_i h2
      rw [if_neg h2] at h
      split
      · rename_i h3; rw [if_pos h3] at h; simp at h
      · rename_i h3
        rw [if_neg h3] at h
        split
        · rename_i h4; rw [if_pos h4] at h; simp at h
        · simp only
          omega
theorem lookL_le (r : List Nat) (most : Nat) : (lookL r most).2 = 0 ∨ (lookL r most).2 = 1 ∨ (lookL r most).2 = 2 := by
  unfold lookL
  split
  · exact .inr (.inl rfl)
  · split
    · exact .inr (.inr rfl)
    · split
      · exact .inr (.inl rfl)
      · split
        · exact .inr (.inr rfl)
        · exact .inl rfl
/-- What holds at the labels of scan. -/
def J0 (w : World) (l d m : Nat) (nme : ByteArray) (s : DM) (q : DW) (O : Nat → Prop) (B : Nat → List Nat) (N most : Nat) (R : LM × Bool) (a : Act) (W : World) : Prop :=
  ∃ (L : LM) (sv pv v3 : Value) (f : Nat) (u1 u4 u5 u6 u7 u8 u9 u10 u11 u12 u13 u14 u15 u16 u17 u18 u19 u20 u21 u22 u23 u24 u25 u26 u27 u28 u29 u30 u31 u32 u33 u34 u35 u36 u37 u38 u39 u40 u41 u42 u43 u44 u45 u46 u47 u48 u49 u50 u51 u52 u53 u54 u55 u56 u57 u58 u59 u60 u61 u62 u63 : Value), a = { tmps := #[.pointer (some ⟨l, 0, none⟩), u1, .bool false, v3, u4, u5, u6, u7, u8, u9, u10, u11, u12, u13, u14, u15, u16, u17, u18, u19, u20, u21, u22, u23, u24, u25, u26, u27, u28, u29, u30, u31, u32, u33, u34, u35, u36, u37, u38, u39, u40, u41, u42, u43, u44, u45, u46, u47, u48, u49, u50, u51, u52, u53, u54, u55, u56, u57, u58, u59, u60, u61, u62, u63], defers := [] } ∧ WL w W l d m L s q O sv pv ∧ L.name = nme ∧ L.size = most + 12 ∧ L.segs.length ≤ N ∧ N ≤ L.segs.length + f ∧ scn B N most f L = R ∧ 12 * L.pls.length ≤ tot B L.segs.length
def J1 (w : World) (l d m : Nat) (nme : ByteArray) (s : DM) (q : DW) (O : Nat → Prop) (B : Nat → List Nat) (N most : Nat) (R : LM × Bool) (a : Act) (W : World) : Prop :=
  ∃ (L : LM) (sv pv : Value) (ao : Option Addr) (cap : Nat) (rest : List Nat) (f g x : Nat) (ss : List Nat) (u1 u4 u5 u6 u7 u8 u9 u10 u11 u12 u13 u14 u15 u16 u17 u18 u19 u20 u21 u22 u23 u24 u25 u26 u27 u28 u29 u30 u31 u32 u33 u34 u35 u36 u37 u38 u39 u40 u41 u42 u43 u44 u45 u46 u47 u48 u49 u50 u51 u52 u53 u54 u55 u56 u57 u58 u59 u60 u61 u62 u63 : Value), a = { tmps := #[.pointer (some ⟨l, 0, none⟩), u1, .bool false, .slice ao rest.length cap, u4, u5, u6, u7, u8, u9, u10, u11, u12, u13, u14, u15, u16, u17, u18, u19, u20, u21, u22, u23, u24, u25, u26, u27, u28, u29, u30, u31, u32, u33, u34, u35, u36, u37, u38, u39, u40, u41, u42, u43, u44, u45, u46, u47, u48, u49, u50, u51, u52, u53, u54, u55, u56, u57, u58, u59, u60, u61, u62, u63], defers := [] } ∧ WL w W l d m L s q O sv pv ∧ L.name = nme ∧ L.size = most + 12 ∧ L.segs = ss ++ [x] ∧ ss.length + 1 ≤ N ∧ N ≤ ss.length + 1 + f ∧ rest.length < g ∧ fin B N most f (frm most g rest L) = R ∧ x + rest.length ≤ 1048576 ∧ 12 * L.pls.length + rest.length ≤ tot B (ss.length + 1) ∧ Src W (.slice ao rest.length cap) rest ∧ rest.length ≤ cap ∧ (∀ g o m c, Value.slice ao rest.length cap = .slice (some ⟨g, o, none⟩) m c → ∃ cur fz, W.heap[g]? = some (.cells cur 5 fz))
def segN (l : Nat) (W : World) : Nat := match W.cell? ⟨l, 3, none⟩ with
  | some (Value.slice _ n _) => n
  | _ => 0
def restN (a : Act) : Nat := match a.tmps.getD 3 undef with
  | Value.slice _ n _ => n
  | _ => 0
def muS (l lab : Nat) (a : Act) (W : World) : Nat := (100 - segN l W) * 2000000 + (if lab = 0 then 0 else restN a + 1)
theorem segN_eq {w W : World} {l d m : Nat} {L : LM} {s : DM} {q : DW} {O : Nat → Prop} {sv pv : Value} (h : WL w W l d m L s q O sv pv) : segN l W = L.segs.length := by
  obtain ⟨so, sc, hso⟩ := own_formX h.G.so
  have c3 := h.G.cells.2.2.2.1
  rw [hso] at c3
  simp [segN, c3]
def JS2 (w : World) (l d m : Nat) (nme : ByteArray) (s : DM) (q : DW) (O : Nat → Prop) (B : Nat → List Nat) (N most : Nat) (R : LM × Bool) (lab : Nat) (a : Act) (W : World) : Prop := if lab = 0 then J0 w l d m nme s q O B N most R a W else J1 w l d m nme s q O B N most R a W
theorem own_not {W : World} {base n e size g : Nat} {v : Value} {xs : List Value} {cur : Array Value} {t : TypeId} {fz : Nat × Nat} (h : W.ownsRow base e size v n xs) (hg : W.heap[g]? = some (.cells cur t fz)) (hne : t ≠ e) : ¬ v.ownBlock = some g := fun hk => by
  rcases h.2 with ⟨rfl, _⟩ | ⟨g', cap, c', e1, _, e3, _⟩
  · cases hk
  · rw [e1] at hk
    have hk' : g' = g := by simpa [Value.ownBlock] using hk
    subst hk'
    rw [e3] at hg
    simp only [Option.some.injEq, Obj.cells.injEq] at hg
    exact hne hg.2.1.symm
end Go.Proofs.YtmmaddlphclpnaaGreatDoor

namespace Go.Proofs.YtmmaddlphclpnaaGreatDoor
open Go.RowKit Go.ChangeShapes Go.WideShapes Go.Maps Go.Sort

/-- Since W0 nothing that lay there has turned but the log's block; its lists are new. -/
def Ext (W0 W : World) (l : Nat) (sv pv : Value) : Prop := Fr (fun k => k = l) W0 W ∧ (∀ g, sv.ownBlock = some g → W0.heap.size ≤ g) ∧ (∀ g, pv.ownBlock = some g → W0.heap.size ≤ g)
theorem Ext.quiet {W0 W W' : World} {l : Nat} {sv pv : Value} (h : Ext W0 W l sv pv) (hf : Fr (fun _ => False) W W') : Ext W0 W' l sv pv := ⟨h.1.trans hf (fun _ _ h => h.elim), h.2.1, h.2.2⟩
theorem Ext.went {W0 W W' : World} {l : Nat} {sv pv sv' pv' : Value} (h : Ext W0 W l sv pv) (hf : Fr (fun k => k = l ∨ sv.ownBlock = some k ∨ pv.ownBlock = some k) W W') (hs : ∀ g, sv'.ownBlock = some g → sv.ownBlock = some g ∨ W.heap.size ≤ g) (hp : ∀ g, pv'.ownBlock = some g → pv.ownBlock = some g ∨ W.heap.size ≤ g) : Ext W0 W' l sv' pv' := by
  refine ⟨h.1.trans hf (fun k hk e => ?_), fun g hg => (hs g hg).elim (h.2.1 g) (Nat.le_trans h.1.size), fun g hg => (hp g hg).elim (h.2.2 g) (Nat.le_trans h.1.size)⟩
  rcases e with e | e | e
  · exact e
  · have := h.2.1 k e; omega
  · have := h.2.2 k e; omega
/-- What holds at the labels of scan. -/
def J0x (w W0 : World) (l d m : Nat) (nme : ByteArray) (s : DM) (q : DW) (O : Nat → Prop) (B : Nat → List Nat) (N most : Nat) (R : LM × Bool) (a : Act) (W : World) : Prop :=
  ∃ (L : LM) (sv pv v3 : Value) (f : Nat) (u1 u4 u5 u6 u7 u8 u9 u10 u11 u12 u13 u14 u15 u16 u17 u18 u19 u20 u21 u22 u23 u24 u25 u26 u27 u28 u29 u30 u31 u32 u33 u34 u35 u36 u37 u38 u39 u40 u41 u42 u43 u44 u45 u46 u47 u48 u49 u50 u51 u52 u53 u54 u55 u56 u57 u58 u59 u60 u61 u62 u63 : Value), a = { tmps := #[.pointer (some ⟨l, 0, none⟩), u1, .bool false, v3, u4, u5, u6, u7, u8, u9, u10, u11, u12, u13, u14, u15, u16, u17, u18, u19, u20, u21, u22, u23, u24, u25, u26, u27, u28, u29, u30, u31, u32, u33, u34, u35, u36, u37, u38, u39, u40, u41, u42, u43, u44, u45, u46, u47, u48, u49, u50, u51, u52, u53, u54, u55, u56, u57, u58, u59, u60, u61, u62, u63], defers := [] } ∧ WL w W l d m L s q O sv pv ∧ L.name = nme ∧ L.size = most + 12 ∧ L.segs.length ≤ N ∧ N ≤ L.segs.length + f ∧ scn B N most f L = R ∧ 12 * L.pls.length ≤ tot B L.segs.length ∧ Ext W0 W l sv pv
def J1x (w W0 : World) (l d m : Nat) (nme : ByteArray) (s : DM) (q : DW) (O : Nat → Prop) (B : Nat → List Nat) (N most : Nat) (R : LM × Bool) (a : Act) (W : World) : Prop :=
  ∃ (L : LM) (sv pv : Value) (ao : Option Addr) (cap : Nat) (rest : List Nat) (f g x : Nat) (ss : List Nat) (u1 u4 u5 u6 u7 u8 u9 u10 u11 u12 u13 u14 u15 u16 u17 u18 u19 u20 u21 u22 u23 u24 u25 u26 u27 u28 u29 u30 u31 u32 u33 u34 u35 u36 u37 u38 u39 u40 u41 u42 u43 u44 u45 u46 u47 u48 u49 u50 u51 u52 u53 u54 u55 u56 u57 u58 u59 u60 u61 u62 u63 : Value), a = { tmps := #[.pointer (some ⟨l, 0, none⟩), u1, .bool false, .slice ao rest.length cap, u4, u5, u6, u7, u8, u9, u10, u11, u12, u13, u14, u15, u16, u17, u18, u19, u20, u21, u22, u23, u24, u25, u26, u27, u28, u29, u30, u31, u32, u33, u34, u35, u36, u37, u38, u39, u40, u41, u42, u43, u44, u45, u46, u47, u48, u49, u50, u51, u52, u53, u54, u55, u56, u57, u58, u59, u60, u61, u62, u63], defers := [] } ∧ WL w W l d m L s q O sv pv ∧ L.name = nme ∧ L.size = most + 12 ∧ L.segs = ss ++ [x] ∧ ss.length + 1 ≤ N ∧ N ≤ ss.length + 1 + f ∧ rest.length < g ∧ fin B N most f (frm most g rest L) = R ∧ x + rest.length ≤ 1048576 ∧ 12 * L.pls.length + rest.length ≤ tot B (ss.length + 1) ∧ Src W (.slice ao rest.length cap) rest ∧ rest.length ≤ cap ∧ (∀ g o m c, Value.slice ao rest.length cap = .slice (some ⟨g, o, none⟩) m c → ∃ cur fz, W.heap[g]? = some (.cells cur 5 fz)) ∧ Ext W0 W l sv pv
def JS2x (w W0 : World) (l d m : Nat) (nme : ByteArray) (s : DM) (q : DW) (O : Nat → Prop) (B : Nat → List Nat) (N most : Nat) (R : LM × Bool) (lab : Nat) (a : Act) (W : World) : Prop := if lab = 0 then J0x w W0 l d m nme s q O B N most R a W else J1x w W0 l d m nme s q O B N most R a W
end Go.Proofs.YtmmaddlphclpnaaGreatDoor

namespace Go.Proofs.YtmmaddlphclpnaaGreatDoor
open Go.RowKit Go.ChangeShapes Go.WideShapes Go.Maps Go.Sort

set_option maxHeartbeats 4000000 in
set_option maxRecDepth 100000 in
/-- Log.scan. -/
theorem scan_ext (w : World) (l d m : Nat) (L0 : LM) (s : DM) (q : DW) (O : Nat → Prop) (sv0 pv0 : Value) (N most : Nat) (W0 : World) (B : Nat → List Nat) (hBd : ∀ i, B i = (s.F (nm (seg L0.name i))).b) (h : WL w W0 l d m L0 s q O sv0 pv0) (hs : L0.segs = []) (hp : L0.pls = []) (hsv0 : sv0.ownBlock = none) (hpv0 : pv0.ownBlock = none) (hnl : L0.name.size ≤ 32) (ho : s.off = false) (hN : N ≤ 99) (hhas : ∀ i, i < N → Maps.has s.D (.string (nm (seg L0.name i))) = true) (hno : Maps.has s.D (.string (nm (seg L0.name N))) = false) (htot : tot B N ≤ 1048576) (hsz : L0.size = most + 12) (hm : most ≤ 1048576) :
    Calls Tryz.prog 73 #[.pointer (some ⟨l, 0, none⟩)] W0 fun e W' => e = .returned (.bool (scn B N most N L0).2) ∧ ∃ sv pv, WL w W' l d m (scn B N most N L0).1 s q O sv pv ∧ Ext W0 W' l sv pv := by
  obtain ⟨R, hR⟩ : ∃ R, scn B N most N L0 = R := ⟨_, rfl⟩
  rw [hR]
  obtain ⟨nme, hnme⟩ : ∃ nme, L0.name = nme := ⟨_, rfl⟩
  rw [hnme] at hBd hnl hhas hno
  have HH := hide (And.intro h (And.intro hs (And.intro hp (And.intro hnme (And.intro hsz (And.intro hsv0 hpv0))))))
  have HR := hide hR
  have HC := hide (And.intro hBd (And.intro hnl (And.intro ho (And.intro hN (And.intro hhas (And.intro hno (And.intro htot hm)))))))
  clear h hR hs hp hnme hsz hsv0 hpv0 hBd hnl ho hN hhas hno htot hm
  go_enter Tryz.func73, Tryz.ntmps73
  go_wp2_with fail
  refine wp_scope_jumps2c (JS2x w W0 l d m nme s q O B N most R) (muS l) rfl rfl ?_ ?_ ?_
  · intro a W hJ
    simp only [JS2x, if_neg (show ¬ (1 : Nat) = 0 by decide)] at hJ
    obtain ⟨L, sv, pv, ao, cap, rest, f, g, x, ss, u1, u4, u5, u6, u7, u8, u9, u10, u11, u12, u13, u14, u15, u16, u17, u18, u19, u20, u21, u22, u23, u24, u25, u26, u27, u28, u29, u30, u31, u32, u33, u34, u35, u36, u37, u38, u39, u40, u41, u42, u43, u44, u45, u46, u47, u48, u49, u50, u51, u52, u53, u54, u55, u56, u57, u58, u59, u60, u61, u62, u63, rfl, hW, hn, hz, hsg, hk1, hk2, hg, hfin, hx, ht, hsrc, hcap, hap, hxt⟩ := hJ
    have hlen : L.segs.length = ss.length + 1 := by rw [hsg]; simp
    generalize hMM : muS l 1 { tmps := _, defers := _ } W = M
    have hM : (100 - (ss.length + 1)) * 2000000 + (rest.length + 1) = M := by
      rw [← hMM, muS, segN_eq hW, hlen, if_neg (by decide)]
      rfl
    clear hMM
    dsimp only
    have hN := (unhide HC).2.2.2.1
    have HB := hide (And.intro hW (And.intro hn (And.intro hz (And.intro hsg (And.intro hk1 (And.intro hk2 (And.intro hg (And.intro hfin (And.intro hx (And.intro ht (And.intro hsrc (And.intro hcap (And.intro hap (And.intro hlen (And.intro hM hxt)))))))))))))))
    obtain ⟨c0, c1, c2, c3, c4, fz⟩ := hW.G.cells
    obtain ⟨so, sc, hso⟩ := own_formX hW.G.so
    rw [hso, hlen] at c3
    rw [hz] at c2
    have c2' : W.cell? ⟨l, 2, none⟩ = some (.int .i64 ((most : Int) + 12)) := by simpa using c2
    have hll : l < W.heap.size := lt_of_cell c0
    clear hW hn hz hsg hk2 hg hfin hx ht hap hlen c0 c1 c2 c4 fz hM hsrc hcap hxt
    by_cases hr : rest = []
    · subst hr
      clear c2' c3
      go_wp2_with fail
      go_step3
      refine ⟨by decide, ?_, ?_⟩
      · obtain ⟨hW, hn, hz, hsg, hk1, hk2, hg, hfin, hx, ht, hsrc, hcap, hap, hlen, hM, hxt⟩ := unhide HB
        refine ⟨L, sv, pv, _, f, _, _, _, _, _, _, _, _, _, _, _, _, _, _, _, _, _, _, _, _, _, _, _, _, _, _, _, _, _, _, _, _, _, _, _, _, _, _, _, _, _, _, _, _, _, _, _, _, _, _, _, _, _, _, _, _, _, _, _, _, _, rfl, hW, hn, hz, by rw [hlen]; exact hk1, by rw [hlen]; exact hk2, ?_, by rw [hlen]; simpa using ht, hxt⟩
        rw [frm_nil] at hfin
        exact hfin
      · obtain ⟨hW, hn, hz, hsg, hk1, hk2, hg, hfin, hx, ht, hsrc, hcap, hap, hlen, hM, hxt⟩ := unhide HB
        rw [muS, segN_eq hW, hlen, if_pos rfl]
        simp only [List.length_nil] at hM
        omega
    · have hpos : 0 < rest.length := by
        rcases rest with _ | ⟨a, r⟩
        · exact absurd rfl hr
        · simp
      have hLk : Calls Tryz.prog 102 #[.slice ao rest.length cap, .int .i64 (most : Nat)] W fun e w' => e = .returned (.tuple #[.int .i64 ((lookL rest most).1 : Nat), .int .i64 ((lookL rest most).2 : Nat)]) ∧ Fr (fun _ => False) W w' := look_any ao rest.length cap most rest W (unhide HB).2.2.2.2.2.2.2.2.2.2.1 rfl (unhide HB).2.2.2.2.2.2.2.2.2.2.2.1 (by have := (unhide HB).2.2.2.2.2.2.2.2.1; omega) (by have := (unhide HC).2.2.2.2.2.2.2; omega)
      have HLk := hide hLk
      have HLE := hide (And.intro (lookL_le rest most) (lookL_whole rest most))
      obtain ⟨n, c, hnc⟩ : ∃ n c, lookL rest most = (n, c) := ⟨_, _, rfl⟩
      rw [hnc] at HLk HLE
      have HNC := hide hnc
      have hr0 : ¬ (rest.length : Int) = 0 := by omega
      have hmm := (unhide HC).2.2.2.2.2.2.2
      clear hLk hnc hr
      go_wp2_with fail
      refine (unhide HLk).mono ?_
      clear HLk
      rintro e W1 ⟨rfl, hf1⟩
      have H1 := hide hf1
      clear hf1 c2' c3
      rcases (show c = 0 ∨ c = 1 ∨ c = 2 from (unhide HLE).1) with hc | hc | hc
      · subst hc
        obtain ⟨hW, hn, hz, hsg, hk1, hk2, hg, hfin, hx, ht, hsrc, hcap, hap, hlen, hM, hxt⟩ := unhide HB
        have hle : 12 + n ≤ rest.length := (unhide HLE).2 rfl
        have htN := tot_mono B hk1
        have htt := (unhide HC).2.2.2.2.2.2.1
        have hNt := note2 w l d m L s q O sv pv ss x n W1 (hW.quiet (unhide H1)) hsg (by omega) (by omega) (by omega) (by omega)
        obtain ⟨gb, ob, rfl, -⟩ := src_at hsrc 0 hpos
        have s0 : (0 : Int) ≤ 12 + (n : Int) := by omega
        have s1 : 12 + (n : Int) ≤ (rest.length : Int) := by omega
        have s2 : IntKind.i64.wrap (12 + (n : Int)) = 12 + (n : Int) := by rw [IntKind.wrap_i64]; omega
        have s3 : (12 + (n : Int)).toNat = 12 + n := by omega
        have HNt := hide hNt
        have HL2 := hide (And.intro hle hpos)
        clear hNt hW hn hz hsg hk2 hg hfin hx ht hsrc hap hM hle htN htt hlen hxt
        by_cases hce : cap = 12 + n
        · have hre : rest.length = 12 + n := by have := (unhide HL2).1; omega
          have HRE := hide hre
          subst hce
          clear hre hcap
          go_wp2_with fail
          refine (unhide HNt).mono ?_
          clear HNt
          rintro e W2 ⟨rfl, pv', hW2, hf2, hpv2⟩
          have H2 := hide (And.intro hW2 (And.intro hf2 hpv2))
          clear hW2 hf2 hpv2
          go_wp2_with fail
          go_step3
          obtain ⟨hW, hn, hz, hsg, hk1, hk2, hg, hfin, hx, ht, hsrc, hcap, hap, hlen, hM, hxt⟩ := unhide HB
          have hle := (unhide HL2).1
          have hdl : (rest.drop (12 + n)).length = rest.length - (12 + n) := by simp
          obtain ⟨g', hg', hgo⟩ := frm_go most g rest L (by intro e; rw [e] at hpos; simp at hpos) hg (by rw [unhide HNC])
          rw [unhide HNC] at hgo
          simp only at hgo
          rw [took_eq L ss x n hsg] at hgo
          obtain ⟨cur, fz, hcu⟩ := hap gb ob _ _ rfl
          have hgl : gb < W1.heap.size := by
            have := (unhide H1).size
            rcases Nat.lt_or_ge gb W.heap.size with h | h
            · omega
            · rw [Array.getElem?_eq_none h] at hcu; cases hcu
          have hglW : gb < W.heap.size := by
            rcases Nat.lt_or_ge gb W.heap.size with h | h
            · exact h
            · rw [Array.getElem?_eq_none h] at hcu; cases hcu
          have hnot : ¬ (gb = l ∨ sv.ownBlock = some gb ∨ pv.ownBlock = some gb) := by
            rintro (e | e | e)
            · subst e
              rw [hW.G.blk] at hcu
              simp only [Option.some.injEq, Obj.cells.injEq] at hcu
              exact absurd hcu.2.1 (by decide)
            · exact own_not hW.G.so hcu (by decide) e
            · exact own_not hW.G.po hcu (by decide) e
          have hc1 := ((unhide H1).block gb hglW (fun h => h)).trans hcu
          have hc2 := ((unhide H2).2.1.block gb hgl hnot).trans hc1
          rw [← hdl]
          refine ⟨by decide, ?_, ?_⟩
          · refine ⟨_, sv, pv', some ⟨gb, ob, none⟩, 0, rest.drop (12 + n), f, g', x + (12 + n), ss, _, _, _, _, _, _, _, _, _, _, _, _, _, _, _, _, _, _, _, _, _, _, _, _, _, _, _, _, _, _, _, _, _, _, _, _, _, _, _, _, _, _, _, _, _, _, _, _, _, _, _, _, _, _, _, _, _, _, _, _, _, rfl, (unhide H2).1, hn, hz, rfl, hk1, hk2, by rw [hdl]; omega, by rw [← hgo]; exact hfin, by rw [hdl]; omega, ?_, ?_, by rw [hdl]; have := unhide HRE; omega, ?_, ((hxt.quiet (unhide H1)).went (unhide H2).2.1 (fun _ h => .inl h) (unhide H2).2.2)⟩
            · rw [hdl]; simp; omega
            · rw [hdl]
              have hd0 : rest.length - (12 + n) = 0 := by have := unhide HRE; omega
              have hnil : rest.drop (12 + n) = [] := List.eq_nil_of_length_eq_zero (by rw [hdl]; exact hd0)
              rw [hd0, hnil]
              exact .inr (.inr ⟨_, 0, rfl, rfl⟩)
            · intro g2 o2 m2 c2 e
              simp only [Value.slice.injEq, Option.some.injEq, Addr.mk.injEq] at e
              obtain ⟨⟨rfl, _⟩, _⟩ := e
              exact ⟨cur, fz, hc2⟩
          · rw [muS, segN_eq (unhide H2).1, if_neg (by decide)]
            show (100 - (ss ++ [x + (12 + n)]).length) * 2000000 + ((rest.drop (12 + n)).length + 1) < M
            rw [hdl]
            simp
            omega
        · go_wp2_with fail
          refine (unhide HNt).mono ?_
          clear HNt
          rintro e W2 ⟨rfl, pv', hW2, hf2, hpv2⟩
          have H2 := hide (And.intro hW2 (And.intro hf2 hpv2))
          clear hW2 hf2 hpv2
          go_wp2_with fail
          go_step3
          obtain ⟨hW, hn, hz, hsg, hk1, hk2, hg, hfin, hx, ht, hsrc, hcap, hap, hlen, hM, hxt⟩ := unhide HB
          have hle := (unhide HL2).1
          have hdl : (rest.drop (12 + n)).length = rest.length - (12 + n) := by simp
          obtain ⟨g', hg', hgo⟩ := frm_go most g rest L (by intro e; rw [e] at hpos; simp at hpos) hg (by rw [unhide HNC])
          rw [unhide HNC] at hgo
          simp only at hgo
          rw [took_eq L ss x n hsg] at hgo
          obtain ⟨cur, fz, hcu⟩ := hap gb ob _ _ rfl
          have hgl : gb < W1.heap.size := by
            have := (unhide H1).size
            rcases Nat.lt_or_ge gb W.heap.size with h | h
            · omega
            · rw [Array.getElem?_eq_none h] at hcu; cases hcu
          have hglW : gb < W.heap.size := by
            rcases Nat.lt_or_ge gb W.heap.size with h | h
            · exact h
            · rw [Array.getElem?_eq_none h] at hcu; cases hcu
          have hnot : ¬ (gb = l ∨ sv.ownBlock = some gb ∨ pv.ownBlock = some gb) := by
            rintro (e | e | e)
            · subst e
              rw [hW.G.blk] at hcu
              simp only [Option.some.injEq, Obj.cells.injEq] at hcu
              exact absurd hcu.2.1 (by decide)
            · exact own_not hW.G.so hcu (by decide) e
            · exact own_not hW.G.po hcu (by decide) e
          have hc1 := ((unhide H1).block gb hglW (fun h => h)).trans hcu
          have hc2 := ((unhide H2).2.1.block gb hgl hnot).trans hc1
          rw [← hdl]
          refine ⟨by decide, ?_, ?_⟩
          · refine ⟨_, sv, pv', some ⟨gb, ob + (12 + n), none⟩, cap - (12 + n), rest.drop (12 + n), f, g', x + (12 + n), ss, _, _, _, _, _, _, _, _, _, _, _, _, _, _, _, _, _, _, _, _, _, _, _, _, _, _, _, _, _, _, _, _, _, _, _, _, _, _, _, _, _, _, _, _, _, _, _, _, _, _, _, _, _, _, _, _, _, _, _, _, _, rfl, (unhide H2).1, hn, hz, rfl, hk1, hk2, by rw [hdl]; omega, by rw [← hgo]; exact hfin, by rw [hdl]; omega, ?_, ?_, by rw [hdl]; omega, ?_, ((hxt.quiet (unhide H1)).went (unhide H2).2.1 (fun _ h => .inl h) (unhide H2).2.2)⟩
            · rw [hdl]; simp; omega
            · rw [hdl]
              exact (((hsrc.fr (unhide H1) (fun _ _ _ _ _ h => h)).fr (unhide H2).2.1 (fun g o m c e => by
                simp only [Value.slice.injEq, Option.some.injEq, Addr.mk.injEq] at e
                obtain ⟨⟨rfl, _⟩, _⟩ := e
                exact hnot))).dropC rfl hle _
            · intro g2 o2 m2 c2 e
              simp only [Value.slice.injEq, Option.some.injEq, Addr.mk.injEq] at e
              obtain ⟨⟨rfl, _⟩, _⟩ := e
              exact ⟨cur, fz, hc2⟩
          · rw [muS, segN_eq (unhide H2).1, if_neg (by decide)]
            show (100 - (ss ++ [x + (12 + n)]).length) * 2000000 + ((rest.drop (12 + n)).length + 1) < M
            rw [hdl]
            simp
            omega
      · subst hc
        obtain ⟨hW, hn, hz, hsg, hk1, hk2, hg, hfin, hx, ht, hsrc, hcap, hap, hlen, hM, hxt⟩ := unhide HB
        have hW1 := hW.quiet (unhide H1)
        have c3 := hW1.G.cells.2.2.2.1
        obtain ⟨so2, sc2, hso2⟩ := own_formX hW1.G.so
        rw [hso2, hlen] at c3
        rw [frm_end most g rest L (by intro e; rw [e] at hpos; simp at hpos) hg (by rw [unhide HNC]; simp), unhide HNC] at hfin
        have hRR : R = (L, decide (N ≤ L.segs.length)) := by rw [← hfin]; rfl
        have HRR := hide hRR
        obtain ⟨hBd, hnl, ho, hN9, hhas, hno, htot, hm9⟩ := unhide HC
        by_cases hNe : N = ss.length + 1
        · have hLd := load_none w l d m L s q O sv pv (ss.length + 1) W1 hW1 (by omega) (by rw [hn]; exact hnl) ho (by rw [hn, ← hNe]; exact hno)
          rw [show (((ss.length + 1 : Nat)) : Int) = (ss.length : Int) + 1 by omega] at hLd
          have HLd := hide hLd
          have HFN := hide (And.intro hlen hNe)
          clear hLd hW hn hz hsg hk1 hk2 hg hfin hx ht hsrc hcap hap hlen hM hxt hW1 hso2 hRR hBd hnl ho hN9 hhas hno htot hm9 hNe
          go_wp2_with fail
          refine (unhide HLd).mono ?_
          clear HLd
          rintro e W2 ⟨rfl, hf2⟩
          have H2 := hide hf2
          clear hf2
          go_wp2_with fail
          simp only [jump2]
          go_ret
          exact ⟨by rw [unhide HRR]; simp [(unhide HFN).1, (unhide HFN).2], sv, pv, by rw [unhide HRR]; exact ((unhide HB).1.quiet (unhide H1)).quiet (unhide H2), ((unhide HB).2.2.2.2.2.2.2.2.2.2.2.2.2.2.2.quiet (unhide H1)).quiet (unhide H2)⟩
        · have hlt : ss.length + 1 < N := by omega
          have hbl : (s.F (nm (seg L.name (ss.length + 1)))).b.length ≤ 1048576 := by
            rw [hn, ← hBd]
            have h1 := tot_mono B (show ss.length + 1 + 1 ≤ N by omega)
            simp only [tot] at h1
            omega
          have hLd := load_at w l d m L s q O sv pv (ss.length + 1) W1 hW1 (by omega) (by rw [hn]; exact hnl) ho (by rw [hn]; exact hhas _ hlt) hbl
          rw [show (((ss.length + 1 : Nat)) : Int) = (ss.length : Int) + 1 by omega] at hLd
          have HLd := hide hLd
          have HFN := hide (And.intro hlen hlt)
          clear hLd hW hn hz hsg hk1 hk2 hg hfin hx ht hsrc hcap hap hlen hM hxt hW1 hso2 hRR hBd hnl ho hN9 hhas hno htot hm9 hNe hlt hbl
          go_wp2_with fail
          refine (unhide HLd).mono ?_
          clear HLd
          rintro e W2 ⟨v, rfl, hv2, hf2⟩
          obtain ⟨vo, vc, rfl⟩ := own_formX hv2
          have H2 := hide hf2
          clear hf2 hv2
          go_wp2_with fail
          simp only [jump2]
          go_ret
          exact ⟨by rw [unhide HRR]; simp [(unhide HFN).1, (unhide HFN).2], sv, pv, by rw [unhide HRR]; exact ((unhide HB).1.quiet (unhide H1)).quiet (unhide H2), ((unhide HB).2.2.2.2.2.2.2.2.2.2.2.2.2.2.2.quiet (unhide H1)).quiet (unhide H2)⟩
      · subst hc
        go_wp2_with fail
        simp only [jump2]
        go_ret
        obtain ⟨hW, hn, hz, hsg, hk1, hk2, hg, hfin, hx, ht, hsrc, hcap, hap, hlen, hM, hxt⟩ := unhide HB
        rw [frm_end most g rest L (by intro e; rw [e] at hpos; simp at hpos) hg (by rw [unhide HNC]; simp), unhide HNC] at hfin
        have hR : R = (L, false) := by rw [← hfin]; rfl
        exact ⟨by rw [hR]; rfl, sv, pv, by rw [hR]; exact hW.quiet (unhide H1), hxt.quiet (unhide H1)⟩
  · intro P1 a W hJ
    simp only [JS2x] at hJ
    obtain ⟨L, sv, pv, v3, f, u1, u4, u5, u6, u7, u8, u9, u10, u11, u12, u13, u14, u15, u16, u17, u18, u19, u20, u21, u22, u23, u24, u25, u26, u27, u28, u29, u30, u31, u32, u33, u34, u35, u36, u37, u38, u39, u40, u41, u42, u43, u44, u45, u46, u47, u48, u49, u50, u51, u52, u53, u54, u55, u56, u57, u58, u59, u60, u61, u62, u63, rfl, hW, hn, hz, hk1, hk2, hsc, ht, hxt⟩ := hJ
    generalize hMM : muS l 0 { tmps := _, defers := _ } W = M
    have hM : (100 - L.segs.length) * 2000000 = M := by
      rw [← hMM, muS, segN_eq hW, if_pos rfl, Nat.add_zero]
    clear hMM
    dsimp only
    obtain ⟨hBd, hnl, ho, hN9, hhas, hno, htot, hm9⟩ := unhide HC
    have c3 := hW.G.cells.2.2.2.1
    obtain ⟨so, sc, hso⟩ := own_formX hW.G.so
    subst hso
    have hP1 := hide P1
    by_cases hlt : L.segs.length < N
    · have hbl0 : (B L.segs.length).length ≤ 1048576 := by
        have h1 := tot_mono B (show L.segs.length + 1 ≤ N by omega)
        simp only [tot] at h1
        omega
      have hLd := load_at w l d m L s q O _ pv L.segs.length W hW (by omega) (by rw [hn]; exact hnl) ho (by rw [hn]; exact hhas _ hlt) (by rw [hn, ← hBd]; exact hbl0)
      rw [hn, ← hBd] at hLd
      have HLd := hide hLd
      have HB := hide (And.intro hW (And.intro hn (And.intro hz (And.intro hk1 (And.intro hk2 (And.intro hsc (And.intro ht (And.intro hM (And.intro hlt (And.intro hbl0 (And.intro htot hxt)))))))))))
      clear hLd hW hn hz hk1 hk2 hsc ht hM hxt hbl0 hBd hnl ho hhas hno htot hm9 P1
      go_wp2_with fail
      refine (unhide HLd).mono ?_
      clear HLd
      rintro e W1 ⟨v, rfl, hv1, hf1⟩
      obtain ⟨vo, vc, rfl⟩ := own_formX hv1
      have hW1 := (unhide HB).1.quiet hf1
      obtain ⟨c0', c1', c2', c3', c4', fz'⟩ := hW1.G.cells
      have f3' := fz' 3
      obtain ⟨ao, cap, w3, hr3, hown3, hf3, hb3⟩ := app_int W1 _ L.segs 0 hW1.G.so (by have := (unhide HB).2.2.2.1; omega)
      obtain ⟨hG3, hF3⟩ := hW1.G.addSeg hown3 hf3 hb3
      have h0 : w3.heap[l]? = W1.heap[l]? := hf3.block l hW1.G.lt.1 (fun e => (hW1.G.kinds.1 l e).1 rfl)
      have hl3 : w3.frozen? ⟨l, 3, none⟩ = false := by simp [World.frozen?, h0, hW1.G.blk]
      have hl3c : w3.cell? ⟨l, 3, none⟩ = some (.slice so L.segs.length sc) := by
        rw [← c3']
        simp only [World.cell?, h0]
      have hW3 := hW1.log hG3 hF3 hb3 (fun g hg => .inl hg)
      have HR3 := hide hr3
      have H3 := hide (And.intro hW3 (And.intro hF3 (And.intro hv1 (And.intro hW1 (And.intro hf1 hb3)))))
      clear hr3 hown3 hf3 hb3 hG3 hF3 hW3 c0' c1' c2' c4' fz' h0 hv1 hW1 hf1
      go_wp2_with (at_builtin; refine wpList_app rfl _ _ 37 37 rfl _ _ _ rfl rfl (unhide HR3) ?_; clear HR3)
      go_step3
      refine (‹∀ (a : Act) (w : World), Code.wp _ _ _ a w → _› : _) _ _ ?_
      obtain ⟨hW, hn, hz, hk1, hk2, hsc, ht, hM, hlt', hbl0, htot, hxt⟩ := unhide HB
      obtain ⟨hW3, hF3, hv1, hW1, hf1, hb3⟩ := unhide H3
      obtain ⟨f', rfl⟩ : ∃ f', f = f' + 1 := ⟨f - 1, by omega⟩
      rw [scn_go B N most f' L hlt] at hsc
      have hsrc1 := own_src hv1
      have hl0 := hW.G.lt
      refine Code.wp_mono (jump2_mono fun _ _ _ h => ⟨h.1, Nat.lt_of_lt_of_le h.2 ?_⟩) ((unhide hP1) _ _ ?_)
      · rw [muS, segN_eq hW3, if_neg (by decide)]
        generalize hrn : restN _ = r
        have hr2 : (B L.segs.length).length = r := by
          rw [← hrn]
          rfl
        have hl2 : ({ L with segs := L.segs ++ [0] } : LM).segs.length = L.segs.length + 1 := by simp
        rw [hl2, ← hr2]
        omega
      · show JS2x _ _ _ _ _ _ _ _ _ _ _ _ _ 1 _ _
        rw [JS2x, if_neg (by decide)]
        refine ⟨_, _, pv, vo, vc, B L.segs.length, f', (B L.segs.length).length + 1, 0, L.segs, _, _, _, _, _, _, _, _, _, _, _, _, _, _, _, _, _, _, _, _, _, _, _, _, _, _, _, _, _, _, _, _, _, _, _, _, _, _, _, _, _, _, _, _, _, _, _, _, _, _, _, _, _, _, _, _, _, _, _, _, _, rfl, hW3, hn, hz, rfl, by omega, by omega, by omega, hsc, by omega, by simp only [tot]; omega, ?_, ?_, ?_, (hxt.quiet hf1).went hF3 hb3 (fun _ h => .inl h)⟩
        · refine hsrc1.fr hF3 (fun g o m c e => ?_)
          simp only [Value.slice.injEq] at e
          have hb := hv1.lt g (by rw [e.1]; rfl)
          rintro (h | h | h)
          · omega
          · have := hl0.2.1 g h; omega
          · have := hl0.2.2 g h; omega
        · rcases hv1.2 with ⟨e, e0⟩ | ⟨g, cap', cur, e, _, _, hnc, _⟩
          · omega
          · simp only [Value.slice.injEq] at e
            obtain ⟨_, _, rfl⟩ := e
            exact hnc
        · intro g o m c e
          simp only [Value.slice.injEq] at e
          have hb := hv1.lt g (by rw [e.1]; rfl)
          rcases hv1.2 with ⟨e1, _⟩ | ⟨g', cap', cur, e1, _, e3, _⟩
          · simp only [Value.slice.injEq] at e1
            rw [e1.1] at e; cases e.1
          · simp only [Value.slice.injEq] at e1
            have hgg : g' = g := by
              have := e1.1.symm.trans e.1
              have h2 : g' = g ∧ 0 = o := by simpa using this
              exact h2.1
            subst hgg
            refine ⟨cur, (0, 0), (hF3.block g' hb.2 ?_).trans e3⟩
            rintro (h | h | h)
            · omega
            · have := hl0.2.1 g' h; omega
            · have := hl0.2.2 g' h; omega
    · have hNe : L.segs.length = N := by omega
      have hLd := load_none w l d m L s q O _ pv L.segs.length W hW (by omega) (by rw [hn]; exact hnl) ho (by rw [hn, hNe]; exact hno)
      have HLd := hide hLd
      rw [scn_end B N most f L hlt] at hsc
      have HB := hide (And.intro hW (And.intro hsc hxt))
      clear hLd hW hn hz hk1 hk2 hsc ht hM hxt hBd hnl ho hhas hno htot hm9 P1 hP1 hNe hlt
      go_wp2_with fail
      refine (unhide HLd).mono ?_
      clear HLd
      rintro e W1 ⟨rfl, hf1⟩
      have H1 := hide hf1
      clear hf1
      go_wp2_with fail
      simp only [jump2]
      go_ret
      exact ⟨by rw [← (unhide HB).2.1]; rfl, _, pv, by rw [← (unhide HB).2.1]; exact (unhide HB).1.quiet (unhide H1), (unhide HB).2.2.quiet (unhide H1)⟩
  · intro P0
    have HP0 := hide P0
    clear P0
    go_wp2_with fail
    go_step3
    refine (‹∀ (a : Act) (w : World), Code.wp _ _ _ a w → _› : _) _ _ ?_
    obtain ⟨h, hs, hp, hnme, hsz, hsv0, hpv0⟩ := unhide HH
    refine Code.wp_mono (jump2_mono fun _ _ _ h => h.1) ((unhide HP0) _ _ ?_)
    show JS2x _ _ _ _ _ _ _ _ _ _ _ _ _ 0 _ _
    rw [JS2x, if_pos rfl]
    refine ⟨L0, sv0, pv0, _, N, _, _, _, _, _, _, _, _, _, _, _, _, _, _, _, _, _, _, _, _, _, _, _, _, _, _, _, _, _, _, _, _, _, _, _, _, _, _, _, _, _, _, _, _, _, _, _, _, _, _, _, _, _, _, _, _, _, _, _, _, _, rfl, h, hnme, hsz, by rw [hs]; simp, by rw [hs]; simp, unhide HR, by rw [hs, hp]; simp, ⟨Fr.refl _ _, fun g hg => (by rw [hsv0] at hg; cases hg), fun g hg => (by rw [hpv0] at hg; cases hg)⟩⟩
end Go.Proofs.YtmmaddlphclpnaaGreatDoor

