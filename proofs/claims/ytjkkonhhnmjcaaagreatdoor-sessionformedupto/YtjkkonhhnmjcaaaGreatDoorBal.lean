import Derived.Test.YtjkkonhhnmjcaaaGreatDoorRdd
import Derived.Test.YtjkkonhhnmjcaaaGreatDoorTwa
namespace Go.Proofs.YtjkkonhhnmjcaaaGreatDoor
open Go.RowKit

/-- The bytes of a call that is laid, quantities among them. -/
def encA (p : Pt) : List Nat := if p.k = 5 then be 4 (p.u % 4294967296) else enc p
def goodA (p : Pt) : Prop := (p.k = 5 → quantB (p.u % 4294967296) = true) ∧ (p.k = 6 → (p.s.size : Int) ≤ p.m ∧ p.s.size < 4294967296) ∧ (p.k = 7 → 0 ≤ p.n ∧ p.n ≤ p.m ∧ p.n < 4294967296)
/-- What a call makes of a writer where Fail is left out. -/
def Wst.lay9 (st : Wst) (p : Pt) (ea er : Addr) : Wst := if p.k = 9 then st else st.layA p ea er

theorem lay9_none {st : Wst} {p : Pt} {ea er : Addr} (h : (st.lay9 p ea er).f = none) : st.f = none ∧ (st.lay9 p ea er).l = st.l ++ encA p ∧ goodA p := by
  obtain ⟨k, u, s, n, m⟩ := p
  unfold Wst.lay9 Wst.layA encA goodA at *
  simp only at *
  by_cases h9 : k = 9
  · subst h9; simp [enc] at h ⊢; exact h
  by_cases h5 : k = 5
  · subst h5
    simp [Wst.flt] at h ⊢
    split at h
    · rename_i hq
      rw [if_pos hq]
      exact ⟨(putB_none h).1, (putB_none h).2, hq⟩
    · exact (fail_none h).elim
  by_cases h10 : k = 10
  · subst h10; simp [enc] at h ⊢; exact h
  rw [if_neg h9, if_neg h5, if_neg h10] at *
  obtain ⟨g1, g2, g3⟩ := lay_none h
  refine ⟨g1, by rw [if_neg h5]; exact g2, fun e => absurd e h5, fun e => ?_, fun e => ?_⟩
  · subst e
    simp [Wst.lay, Wst.txt] at h
    split at h
    · rename_i hc; exact hc
    · exact (fail_none h).elim
  · subst e
    simp [Wst.lay, Wst.cnt] at h
    split at h
    · exact (fail_none h).elim
    · split at h
      · rename_i hc; exact ⟨by omega, hc.1, hc.2⟩
      · exact (fail_none h).elim

def runA (l : List Pt) (ea er : Addr) : Wst := l.foldl (fun st p => st.lay9 p.fit ea er) start
theorem runA_snoc (l : List Pt) (k : Nat) (h : k < l.length) (ea er : Addr) : runA (l.take (k + 1)) ea er = (runA (l.take k) ea er).lay9 l[k].fit ea er := by
  rw [List.take_add_one, List.getElem?_eq_getElem h, Option.toList_some]
  unfold runA
  rw [List.foldl_append]
  rfl
theorem runA_none_from (l : List Pt) (ea er : Addr) : ∀ st : Wst, (l.foldl (fun st p => st.lay9 p.fit ea er) st).f = none → st.f = none ∧ (l.foldl (fun st p => st.lay9 p.fit ea er) st).l = st.l ++ (l.map fun p => encA p.fit).flatten ∧ ∀ p ∈ l, goodA p.fit := by
  induction l with
  | nil => intro st h; exact ⟨h, by simp, by simp⟩
  | cons p r ih =>
    intro st h
    simp only [List.foldl_cons] at h ⊢
    obtain ⟨h1, h2, h3⟩ := ih _ h
    obtain ⟨g1, g2, g3⟩ := lay9_none h1
    refine ⟨g1, ?_, ?_⟩
    · rw [h2, g2]; simp
    · intro q hq
      rcases List.mem_cons.1 hq with rfl | hq
      · exact g3
      · exact h3 q hq
def flat (l : List Pt) : List Nat := (l.map fun p => encA p.fit).flatten
theorem runA_none {l : List Pt} {ea er : Addr} (h : (runA l ea er).f = none) : (runA l ea er).l = flat l ∧ ∀ p ∈ l, goodA p.fit := by
  obtain ⟨_, h2, h3⟩ := runA_none_from l ea er start h
  exact ⟨by simpa [runA, start, flat] using h2, h3⟩
theorem flat_append (a b : List Pt) : flat (a ++ b) = flat a ++ flat b := by simp [flat]
theorem flat_cons (p : Pt) (l : List Pt) : flat (p :: l) = encA p.fit ++ flat l := by simp [flat]
theorem flat_drop (l : List Pt) (k : Nat) (h : k < l.length) : (flat l).drop (flat (l.take k)).length = encA l[k].fit ++ flat (l.drop (k + 1)) := by
  have e : flat l = flat (l.take k) ++ (encA l[k].fit ++ flat (l.drop (k + 1))) := by
    rw [← flat_cons, ← flat_append, ← List.drop_eq_getElem_cons h, List.take_append_drop]
  rw [e, List.drop_left]
theorem flat_len (l : List Pt) (k : Nat) (h : k < l.length) : (flat (l.take (k + 1))).length = (flat (l.take k)).length + (encA l[k].fit).length := by
  rw [List.take_add_one, List.getElem?_eq_getElem h, Option.toList_some, flat_append, List.length_append, flat_cons]
  have : flat [] = [] := rfl
  rw [this, List.append_nil]
theorem flat_le (l : List Pt) (k : Nat) : (flat (l.take k)).length ≤ (flat l).length := by
  conv => rhs; rw [← List.take_append_drop k l, flat_append, List.length_append]
  omega
theorem lay9_len (st : Wst) (p : Pt) (ea er : Addr) : (st.lay9 p ea er).l.length ≤ st.l.length + (12 + p.s.size) := by
  unfold Wst.lay9 Wst.layA Wst.flt
  have h1 := lay_len st p ea er
  have h4 := putB_len st (be 4 (p.u % 4294967296))
  have f2 := fail_len st er
  simp only [be_length] at h4
  repeat' split
  all_goals first | omega | (simp only; omega)
theorem runA_len_from (l : List Pt) (ea er : Addr) : ∀ st : Wst, (l.foldl (fun st p => st.lay9 p.fit ea er) st).l.length ≤ st.l.length + weight l := by
  induction l with
  | nil => intro st; simp [weight]
  | cons p r ih =>
    intro st
    have h1 := ih (st.lay9 p.fit ea er)
    have h2 := lay9_len st p.fit ea er
    have h3 : p.fit.s = p.s := rfl
    rw [h3] at h2
    simp only [List.foldl_cons, weight, List.map_cons, List.sum_cons] at h1 ⊢
    omega
theorem runA_len (l : List Pt) (ea er : Addr) : (runA l ea er).l.length ≤ weight l := by
  have := runA_len_from l ea er start
  simpa [runA, start] using this

/-- What a reader tells of a call. -/
def want (p : Pt) : Nat := if p.k = 1 then p.u % 256 else if p.k = 2 then p.u % 65536 else if p.k = 4 then p.u % 4294967296 else if p.k = 5 then p.u % 4294967296 else if p.k = 8 then p.u else if p.k = 7 then p.n.toNat else 0

end Go.Proofs.YtjkkonhhnmjcaaaGreatDoor
