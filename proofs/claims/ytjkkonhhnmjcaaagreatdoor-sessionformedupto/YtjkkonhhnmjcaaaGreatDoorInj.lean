import Derived.Test.YtjkkonhhnmjcaaaGreatDoorLay
namespace Go.Proofs.YtjkkonhhnmjcaaaGreatDoor
open Go.RowKit

theorem fk_mem' (k : Int) : fk k ∈ kinds := by
  unfold fk
  split
  · assumption
  · decide
/-- The bytes of a call that is laid. -/
def enc (p : Pt) : List Nat := if p.k = 1 then be 1 (p.u % 256) else if p.k = 2 then be 2 (p.u % 65536) else if p.k = 4 then be 4 (p.u % 4294967296) else if p.k = 8 then be 8 p.u else if p.k = 6 then be 4 p.s.size ++ bytesOf p.s else if p.k = 7 then be 4 p.n.toNat else []
def good (p : Pt) : Prop := (p.k = 6 → p.s.size < 4294967296) ∧ (p.k = 7 → 0 ≤ p.n ∧ p.n < 4294967296)
theorem putB_none {st : Wst} {x : List Nat} (h : (st.putB x).f = none) : st.f = none ∧ (st.putB x).l = st.l ++ x := by
  unfold Wst.putB at *
  split at h
  · rename_i hn
    rw [if_pos hn]
    exact ⟨hn, rfl⟩
  · rename_i hn
    exact absurd h hn
theorem fail_none {st : Wst} {ea : Addr} (h : (st.fail ea).f = none) : False := by
  unfold Wst.fail at h
  split at h
  · cases h
  · rename_i hn
    exact hn h
theorem lay_none {st : Wst} {p : Pt} {ea er : Addr} (h : (st.lay p ea er).f = none) : st.f = none ∧ (st.lay p ea er).l = st.l ++ enc p ∧ good p := by
  obtain ⟨k, u, s, n, m⟩ := p
  unfold Wst.lay enc good at *
  simp only at *
  by_cases h1 : k = 1
  · subst h1; simp only [if_true] at h ⊢; exact ⟨(putB_none h).1, (putB_none h).2, by simp⟩
  by_cases h2 : k = 2
  · subst h2; simp at h ⊢; exact ⟨(putB_none h).1, (putB_none h).2⟩
  by_cases h4 : k = 4
  · subst h4; simp at h ⊢; exact ⟨(putB_none h).1, (putB_none h).2⟩
  by_cases h8 : k = 8
  · subst h8; simp at h ⊢; exact ⟨(putB_none h).1, (putB_none h).2⟩
  by_cases h6 : k = 6
  · subst h6
    simp [Wst.txt] at h ⊢
    split at h
    · rename_i hc
      rw [if_pos hc]
      exact ⟨(putB_none h).1, (putB_none h).2, hc.2⟩
    · exact (fail_none h).elim
  by_cases h7 : k = 7
  · subst h7
    simp [Wst.cnt] at h ⊢
    split at h
    · exact (fail_none h).elim
    · rename_i h0
      rw [if_neg h0]
      split at h
      · rename_i hc
        rw [if_pos hc]
        exact ⟨(putB_none h).1, (putB_none h).2, by omega, hc.2⟩
      · exact (fail_none h).elim
  · simp only [h1, h2, h4, h8, h6, h7, if_false] at h ⊢
    exact ⟨h, by simp, by simp⟩
theorem val_norm (l : List Nat) : val (norm l) = val l := by
  unfold val norm
  rw [List.foldl_map]
  simp
theorem val_be1 (u : Nat) : val (be 1 u) = u % 256 := by simp [be, val]
theorem val_be2 (u : Nat) : val (be 2 u) = u % 65536 := by simp [be, val, List.range_succ]; omega
theorem val_be4' (u : Nat) : val (be 4 u) = u % 4294967296 := by simp [be, val, List.range_succ]; omega
theorem val_be8 (u : Nat) : val (be 8 u) = u % 18446744073709551616 := by simp [be, val, List.range_succ]; omega
theorem norm_append (a b : List Nat) : norm (a ++ b) = norm a ++ norm b := by simp [norm]
theorem norm_length (a : List Nat) : (norm a).length = a.length := by simp [norm]
theorem norm_inj {a a' r r' : List Nat} (hl : a.length = a'.length) (h : norm (a ++ r) = norm (a' ++ r')) : norm a = norm a' ∧ norm r = norm r' := by
  rw [norm_append, norm_append] at h
  exact List.append_inj h (by rw [norm_length, norm_length, hl])
theorem val_of_norm {a a' : List Nat} (h : norm a = norm a') : val a = val a' := by rw [← val_norm a, ← val_norm a', h]
theorem norm_bytesOf (s : ByteArray) : norm (bytesOf s) = bytesOf s := by
  simp only [norm, bytesOf, List.map_map]
  apply List.map_congr_left
  intro c _
  have : c.toNat < 256 := c.toNat_lt
  simp [Nat.mod_eq_of_lt this]
def start : Wst := ⟨ByteArray.empty, [], none⟩
def run (l : List Pt) (ea er : Addr) : Wst := l.foldl (fun st p => st.lay p.fit ea er) start
/-- Two calls of one kind that lay the same. -/
def eqv (p q : Pt) : Bool := if p.k = 6 then p.s.toList == q.s.toList else if p.k = 7 then p.n == q.n else if p.k = 8 then p.u == q.u else if p.k = 4 then p.u % 4294967296 == q.u % 4294967296 else if p.k = 2 then p.u % 65536 == q.u % 65536 else p.u % 256 == q.u % 256
def eqvs (A B : List Pt) (k : Nat) : Bool := ((A.zip B).take k).all fun x => eqv x.1.fit x.2.fit

theorem run_none_from (l : List Pt) (ea er : Addr) : ∀ st : Wst, (l.foldl (fun st p => st.lay p.fit ea er) st).f = none → st.f = none ∧ (l.foldl (fun st p => st.lay p.fit ea er) st).l = st.l ++ (l.map fun p => enc p.fit).flatten ∧ ∀ p ∈ l, good p.fit := by
  induction l with
  | nil => intro st h; exact ⟨h, by simp, by simp⟩
  | cons p r ih =>
    intro st h
    simp only [List.foldl_cons] at h ⊢
    obtain ⟨h1, h2, h3⟩ := ih _ h
    obtain ⟨g1, g2, g3⟩ := lay_none h1
    refine ⟨g1, ?_, ?_⟩
    · rw [h2, g2]; simp
    · intro q hq
      rcases List.mem_cons.1 hq with rfl | hq
      · exact g3
      · exact h3 q hq
theorem run_none {l : List Pt} {ea er : Addr} (h : (run l ea er).f = none) : (run l ea er).l = (l.map fun p => enc p.fit).flatten ∧ ∀ p ∈ l, good p.fit := by
  obtain ⟨_, h2, h3⟩ := run_none_from l ea er start h
  exact ⟨by simpa [run, start] using h2, h3⟩

theorem bytesOf_inj {s s' : ByteArray} (h : bytesOf s = bytesOf s') : s.toList = s'.toList := by
  rw [ByteArray.toList_eq, ByteArray.toList_eq]
  unfold bytesOf at h
  exact List.map_inj_right (fun a b e => UInt8.toNat_inj.1 e) |>.1 h

theorem head_inj {a b : Pt} {r r' : List Nat} (hk : a.k = b.k) (hr : a.k = 1 ∨ a.k = 2 ∨ a.k = 4 ∨ a.k = 8 ∨ a.k = 6 ∨ a.k = 7) (ga : good a) (gb : good b) (oa : a.u < 18446744073709551616) (ob : b.u < 18446744073709551616) :
    norm (enc a ++ r) = norm (enc b ++ r') ↔ eqv a b = true ∧ norm r = norm r' := by
  obtain ⟨k, u, s, n, m⟩ := a
  obtain ⟨k', u', s', n', m'⟩ := b
  simp only at hk hr oa ob
  subst hk
  unfold good at ga gb
  rcases hr with rfl | rfl | rfl | rfl | rfl | rfl
  · simp only [enc, eqv, if_true]
    constructor
    · intro h
      obtain ⟨h1, h2⟩ := norm_inj (by simp [be_length]) h
      have := val_of_norm h1
      rw [val_be1, val_be1] at this
      refine ⟨?_, h2⟩
      simp; omega
    · rintro ⟨h1, h2⟩
      simp at h1
      rw [h1, norm_append, norm_append, h2]
  · simp [enc, eqv]
    constructor
    · intro h
      obtain ⟨h1, h2⟩ := norm_inj (by simp [be_length]) h
      have := val_of_norm h1
      rw [val_be2, val_be2] at this
      exact ⟨by omega, h2⟩
    · rintro ⟨h1, h2⟩
      rw [h1, norm_append, norm_append, h2]
  · simp [enc, eqv]
    constructor
    · intro h
      obtain ⟨h1, h2⟩ := norm_inj (by simp [be_length]) h
      have := val_of_norm h1
      rw [val_be4', val_be4'] at this
      exact ⟨by omega, h2⟩
    · rintro ⟨h1, h2⟩
      rw [h1, norm_append, norm_append, h2]
  · simp [enc, eqv]
    constructor
    · intro h
      obtain ⟨h1, h2⟩ := norm_inj (by simp [be_length]) h
      have := val_of_norm h1
      rw [val_be8, val_be8] at this
      exact ⟨by omega, h2⟩
    · rintro ⟨h1, h2⟩
      rw [h1, norm_append, norm_append, h2]
  · have g1 : s.size < 4294967296 := ga.1 rfl
    have g2 : s'.size < 4294967296 := gb.1 rfl
    simp only [enc, eqv]
    simp only [show ¬ ((6 : Int) = 1) by decide, show ¬ ((6 : Int) = 2) by decide, show ¬ ((6 : Int) = 4) by decide, show ¬ ((6 : Int) = 8) by decide, if_false, if_true, List.append_assoc]
    constructor
    · intro h
      obtain ⟨h1, h2⟩ := norm_inj (by simp [be_length]) h
      have := val_of_norm h1
      rw [val_be4', val_be4'] at this
      obtain ⟨h3, h4⟩ := norm_inj (by rw [bytesOf_length, bytesOf_length]; omega) h2
      rw [norm_bytesOf, norm_bytesOf] at h3
      exact ⟨by rw [bytesOf_inj h3]; simp, h4⟩
    · rintro ⟨h1, h2⟩
      have e : s = s' := by
        have h3 : s.toList = s'.toList := by simpa using h1
        rw [ByteArray.toList_eq, ByteArray.toList_eq] at h3
        cases s; cases s'
        congr 1
        exact Array.toList_inj.1 h3
      rw [e]
      simp only [norm_append, h2]
  · have g1 := ga.2 rfl
    have g2 := gb.2 rfl
    simp only at g1 g2
    simp [enc, eqv]
    constructor
    · intro h
      obtain ⟨h1, h2⟩ := norm_inj (by simp [be_length]) h
      have := val_of_norm h1
      rw [val_be4', val_be4'] at this
      exact ⟨by omega, h2⟩
    · rintro ⟨h1, h2⟩
      rw [h1, norm_append, norm_append, h2]

theorem flat_inj : ∀ (A B : List Pt), A.length = B.length → (∀ x ∈ A.zip B, x.1.fit.k = x.2.fit.k ∧ x.1.fit.k ≠ 5 ∧ x.1.fit.k ≤ 8) → (∀ p ∈ A, good p.fit ∧ p.u < 18446744073709551616) → (∀ p ∈ B, good p.fit ∧ p.u < 18446744073709551616) →
    (norm (A.map fun p => enc p.fit).flatten = norm (B.map fun p => enc p.fit).flatten ↔ ((A.zip B).all fun x => eqv x.1.fit x.2.fit) = true)
  | [], [], _, _, _, _ => by simp
  | [], _ :: _, h, _, _, _ => by simp at h
  | _ :: _, [], h, _, _, _ => by simp at h
  | a :: A, b :: B, h, hk, ga, gb => by
    have ih := flat_inj A B (by simpa using h) (fun x hx => hk x (by simp [List.zip_cons_cons, hx])) (fun p hp => ga p (by simp [hp])) (fun p hp => gb p (by simp [hp]))
    have k0 := hk (a, b) (by simp [List.zip_cons_cons])
    have hm : a.fit.k ∈ kinds := fk_mem' a.k
    have hr : a.fit.k = 1 ∨ a.fit.k = 2 ∨ a.fit.k = 4 ∨ a.fit.k = 8 ∨ a.fit.k = 6 ∨ a.fit.k = 7 := by
      simp only [kinds, List.mem_cons, List.not_mem_nil, or_false] at hm
      obtain ⟨k1, k2, k3⟩ := k0
      simp only at k1 k2 k3
      omega
    simp only [List.map_cons, List.flatten_cons, List.zip_cons_cons, List.all_cons, Bool.and_eq_true]
    rw [head_inj k0.1 hr (ga a (by simp)).1 (gb b (by simp)).1 (ga a (by simp)).2 (gb b (by simp)).2, ih]

/-- Two lists of the same kinds that were laid whole have the same bytes just where they are the same. -/
theorem two_inj {A B : List Pt} {ea er : Addr} (hl : A.length = B.length) (hk : ∀ x ∈ A.zip B, x.1.fit.k = x.2.fit.k ∧ x.1.fit.k ≠ 5 ∧ x.1.fit.k ≤ 8) (oA : ∀ p ∈ A, p.u < 18446744073709551616) (oB : ∀ p ∈ B, p.u < 18446744073709551616)
    (hA : (run A ea er).f = none) (hB : (run B ea er).f = none) : sameB (run A ea er).l (run B ea er).l = ((A.zip B).all fun x => eqv x.1.fit x.2.fit) := by
  obtain ⟨a1, a2⟩ := run_none hA
  obtain ⟨b1, b2⟩ := run_none hB
  rw [Bool.eq_iff_iff, sameB, decide_eq_true_iff, a1, b1]
  exact flat_inj A B hl hk (fun p hp => ⟨a2 p hp, oA p hp⟩) (fun p hp => ⟨b2 p hp, oB p hp⟩)
end Go.Proofs.YtjkkonhhnmjcaaaGreatDoor
