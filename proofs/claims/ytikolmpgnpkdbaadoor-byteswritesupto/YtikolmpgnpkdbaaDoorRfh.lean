import Derived.Test.YtikolmpgnpkdbaaDoorRfg
namespace Go.Proofs.YtikolmpgnpkdbaaDoor
open Go.RowKit

/-- What any call makes of a writer. -/
def Wst.layW (st : Wst) (p : Pt) (E : Nat → Addr) : Wst := if p.k = 9 then st.failN E p.n.toNat else st.layA p (E 2) (E 4)
/-- A call that is fitted, small. -/
def Pt.fitted (p : Pt) : Prop := p.k ∈ kinds ∧ (p.k = 9 → 0 ≤ p.n ∧ p.n ≤ 7) ∧ p.s.size < 4294967296

theorem putB_f {st : Wst} {x : List Nat} (h : st.f ≠ none) : st.putB x = st := if_neg h
theorem fail_f {st : Wst} {a : Addr} (h : st.f ≠ none) : st.fail a = st := if_neg h
theorem layW_f {st : Wst} {p : Pt} {E : Nat → Addr} (h : st.f ≠ none) : (st.layW p E).f = st.f := by
  unfold Wst.layW Wst.failN Wst.layA Wst.flt Wst.lay Wst.txt Wst.cnt
  simp only [putB_f h, fail_f h]
  repeat' split
  all_goals rfl
theorem foldW_f (L : List Pt) (E : Nat → Addr) : ∀ st : Wst, st.f ≠ none → (L.foldl (fun st p => st.layW p E) st).f = st.f := by
  induction L with
  | nil => intro st _; rfl
  | cons p r ih =>
    intro st h
    rw [List.foldl_cons, ih _ (by rw [layW_f h]; exact h), layW_f h]

theorem layW_ok {st : Wst} {p : Pt} {E : Nat → Addr} (hn : st.f = none) (hp : p.fitted) (h10 : p.k ≠ 10) (hw : wrongN p = 0) : st.layW p E = { st with l := st.l ++ encA p } := by
  obtain ⟨k, u, s, n, m⟩ := p
  obtain ⟨hk, h9, hs⟩ := hp
  simp only [kinds, List.mem_cons, List.not_mem_nil, or_false] at hk h9 hs h10
  rcases hk with rfl | rfl | rfl | rfl | rfl | rfl | rfl | rfl | rfl
  · simp [Wst.layW, Wst.layA, Wst.lay, Wst.putB, encA, enc, hn]
  · simp [Wst.layW, Wst.layA, Wst.lay, Wst.putB, encA, enc, hn]
  · simp [Wst.layW, Wst.layA, Wst.lay, Wst.putB, encA, enc, hn]
  · simp [Wst.layW, Wst.layA, Wst.lay, Wst.putB, encA, enc, hn]
  · have hq : quantB (u % 4294967296) = true := by
      cases h : quantB (u % 4294967296)
      · simp [wrongN, h] at hw
      · rfl
    simp [Wst.layW, Wst.layA, Wst.flt, Wst.putB, encA, hn, hq]
  · have hq : (s.size : Int) ≤ m := by
      rcases Int.lt_or_le m s.size with h | h
      · simp [wrongN, h] at hw
      · exact h
    simp [Wst.layW, Wst.layA, Wst.lay, Wst.txt, Wst.putB, encA, enc, hn, hq, hs]
  · have h0 : ¬ n < 0 := fun h => by simp [wrongN, h] at hw
    have h1 : n ≤ m ∧ n < 4294967296 := by
      by_cases h : m < n ∨ 4294967295 < n
      · simp [wrongN, h0, h] at hw
      · omega
    simp [Wst.layW, Wst.layA, Wst.lay, Wst.cnt, Wst.putB, encA, enc, hn, h0, h1]
  · have h0 : n = 0 := by simpa [wrongN] using hw
    subst h0
    simp [Wst.layW, Wst.failN, encA, enc]
  · exact absurd rfl h10

theorem layW_bad {st : Wst} {p : Pt} {E : Nat → Addr} (hn : st.f = none) (hp : p.fitted) (hw : wrongN p ≠ 0) : (st.layW p E).f = some (st.nm, st.l.length, E (wrongN p).toNat) ∧ 1 ≤ wrongN p ∧ wrongN p ≤ 7 := by
  obtain ⟨k, u, s, n, m⟩ := p
  obtain ⟨hk, h9, hs⟩ := hp
  simp only [kinds, List.mem_cons, List.not_mem_nil, or_false] at hk h9 hs
  rcases hk with rfl | rfl | rfl | rfl | rfl | rfl | rfl | rfl | rfl
  · simp [wrongN] at hw
  · simp [wrongN] at hw
  · simp [wrongN] at hw
  · simp [wrongN] at hw
  · have hq : quantB (u % 4294967296) = false := by
      cases h : quantB (u % 4294967296)
      · rfl
      · simp [wrongN, h] at hw
    simp [Wst.layW, Wst.layA, Wst.flt, Wst.fail, hn, hq, wrongN]
  · have hq : m < s.size := by
      rcases Int.lt_or_le m s.size with h | h
      · exact h
      · have h' : ¬ m < s.size := by omega
        simp [wrongN, h'] at hw
    have h' : ¬ (s.size : Int) ≤ m := by omega
    simp [Wst.layW, Wst.layA, Wst.lay, Wst.txt, Wst.fail, hn, hq, h', wrongN]
  · by_cases h0 : n < 0
    · simp [Wst.layW, Wst.layA, Wst.lay, Wst.cnt, Wst.fail, hn, h0, wrongN]
    · by_cases h : m < n ∨ 4294967295 < n
      · have h' : ¬ (n ≤ m ∧ n < 4294967296) := by omega
        simp [Wst.layW, Wst.layA, Wst.lay, Wst.cnt, Wst.fail, hn, h0, h, h', wrongN]
      · simp [wrongN, h0, h] at hw
  · have e : wrongN ⟨9, u, s, n, m⟩ = n := by simp [wrongN]
    rw [e] at hw ⊢
    obtain ⟨a, b⟩ := h9 rfl
    have h0 : n.toNat ≠ 0 := by omega
    refine ⟨?_, by omega, b⟩
    simp only [Wst.layW, Wst.failN, Wst.fail, hn, if_true, if_neg h0]
  · simp [wrongN] at hw

/-- The writer and the ref's Write. -/
theorem write_agrees (L : List Pt) (E : Nat → Addr) : ∀ (st : Wst) (b : List Nat), st.f = none → norm b = norm st.l → (∀ p ∈ L, p.fitted) →
    ((writeM L st.nm b).2.2.2 = 0 ∧ (L.foldl (fun st p => st.layW p E) st).f = none ∧ norm (writeM L st.nm b).1 = norm (L.foldl (fun st p => st.layW p E) st).l) ∨
    (1 ≤ (writeM L st.nm b).2.2.2 ∧ (writeM L st.nm b).2.2.2 ≤ 7 ∧ (writeM L st.nm b).1 = [] ∧ (L.foldl (fun st p => st.layW p E) st).f = some ((writeM L st.nm b).2.1, (writeM L st.nm b).2.2.1, E (writeM L st.nm b).2.2.2.toNat)) := by
  induction L with
  | nil => intro st b hn hb _; exact .inl ⟨rfl, hn, hb⟩
  | cons p r ih =>
    intro st b hn hb hp
    have hp0 := hp p (List.mem_cons_self ..)
    have hpr := fun q hq => hp q (List.mem_cons_of_mem _ hq)
    rw [List.foldl_cons]
    by_cases h10 : p.k = 10
    · have e : st.layW p E = { st with nm := p.s } := by simp [Wst.layW, Wst.layA, h10]
      rw [e, writeM, if_pos h10]
      exact ih { st with nm := p.s } b hn hb hpr
    by_cases hw : wrongN p = 0
    · rw [layW_ok hn hp0 h10 hw, writeM, if_neg h10, if_pos hw]
      exact ih { st with l := st.l ++ encA p } (b ++ lz p) hn (by rw [norm_append, norm_append, hb, norm_lz p hp0.1]) hpr
    · obtain ⟨hf, h1, h7⟩ := layW_bad (E := E) hn hp0 hw
      have hl : b.length = st.l.length := by have := congrArg List.length hb; simpa [norm_length] using this
      rw [writeM, if_neg h10, if_neg hw]
      refine .inr ⟨h1, h7, rfl, ?_⟩
      rw [foldW_f r E _ (by rw [hf]; simp), hf, hl]
end Go.Proofs.YtikolmpgnpkdbaaDoor
