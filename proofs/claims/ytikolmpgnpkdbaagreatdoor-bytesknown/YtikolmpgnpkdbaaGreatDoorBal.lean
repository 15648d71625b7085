import Derived.Test.YtikolmpgnpkdbaaGreatDoorRdd
import Derived.Test.YtikolmpgnpkdbaaGreatDoorTwa
namespace Go.Proofs.YtikolmpgnpkdbaaGreatDoor
open Go.RowKit

/-- The bytes of a call that is laid, quantities among them. -/
def encA (p : Pt) : List Nat := if p.k = 5 then be 4 (p.u % 4294967296) else enc p
def goodA (p : Pt) : Prop := (p.k = 5 → quantB (p.u % 4294967296) = true) ∧ (p.k = 6 → (p.s.size : Int) ≤ p.m ∧ p.s.size < 4294967296) ∧ (p.k = 7 → 0 ≤ p.n ∧ p.n ≤ p.m ∧ p.n < 4294967296)
/-- What a call makes of a writer where Fail is left out. -/
def Wst.lay9 (st : Wst) (p : Pt) (ea er : Addr) : Wst := if p.k = 9 then st else st.layA p ea er

theorem lay9_none {st : Wst} {p : Pt} {ea er : Addr} (h : (st.lay9 p ea er).f = none) : st.f = none ∧ (st.lay9 p ea er).l = st.l ++ encA p ∧ goodA p := by
  obtain ⟨k, u, s, n, m⟩ := p
  unfold Wst.lay9 Wst.layA encA goodA at *
  simp only at *
  by_cases h9 : k = 9
  · subst h9; simp [enc] at h ⊢; exact h
  by_cases h5 : k = 5
  · subst h5
    simp [Wst.flt] at h ⊢
    split at h
    · rename_i hq
      rw [if_pos hq]
      exact ⟨(putB_none h).1, (putB_none h).2, hq⟩
    · exact (fail_none h).elim
  by_cases h10 : k = 10
  · subst h10; simp [enc] at h ⊢; exact h
  rw [if_neg h9, if_neg h5, if_neg h10] at *
  obtain ⟨g1, g2, g3⟩ := lay_none h
  refine ⟨g1, by rw [if_neg h5]; exact g2, fun e => absurd e h5, fun e => ?_, fun e => ?_⟩
  · subst e
    simp [Wst.lay, Wst.txt] at h
    split at h
    · rename_i hc; exact hc
    · exact (fail_none h).elim
  · subst e
    simp [Wst.lay, Wst.cnt] at h
    split at h
    · exact (fail_none h).elim
    · split at h
      · rename_i hc; exact ⟨by omega, hc.1, hc.2⟩
      · exact (fail_none h).elim

def runA (l : List Pt) (ea er : Addr) : Wst := l.foldl (fun st p => st.lay9 p.fit ea er) start
theorem runA_snoc (l : List Pt) (k : Nat) (h : k < l.length) (ea er : Addr) : runA (l.take (k + 1)) ea er = (runA (l.take k) ea er).lay9 l[k].fit ea er := by
  rw [List.take_add_one, List.getElem?_eq_getElem h, Option.toList_some]
  unfold runA
  rw [List.foldl_append]
  rfl
theorem runA_none_from (l : List Pt) (ea er : Addr) : ∀ st : Wst, (l.foldl (fun st p => st.lay9 p.fit ea er) st).f = none → st.f = none ∧ (l.foldl (fun st p => st.lay9 p.fit ea er) st).l = st.l ++ (l.map fun p => encA p.fit).flatten ∧ ∀ p ∈ l, goodA p.fit := by
  induction l with
  | nil => intro st h; exact ⟨h, by simp, by simp⟩
  | cons p r ih =>
    intro st h
    simp only [List.foldl_cons] at h ⊢
    obtain ⟨h1, h2, h3⟩ := ih _ h
    obtain ⟨g1, g2, g3⟩ := lay9_none h1
    refine ⟨g1, ?_, ?_⟩
    · rw [h2, g2]; simp
    · intro q hq
      rcases List.mem_cons.1 hq with rfl | hq
      · exact g3
      · exact h3 q hq
def flat (l : List Pt) : List Nat := (l.map fun p => encA p.fit).flatten
theorem runA_none {l : List Pt} {ea er : Addr} (h : (runA l ea er).f = none) : (runA l ea er).l = flat l ∧ ∀ p ∈ l, goodA p.fit := by
  obtain ⟨_, h2, h3⟩ := runA_none_from l ea er start h
  exact ⟨by simpa [runA, start, flat] using h2, h3⟩
theorem flat_append (a b : List Pt) : flat (a ++ b) = flat a ++ flat b := by simp [flat]
theorem flat_cons (p : Pt) (l : List Pt) : flat (p :: l) = encA p.fit ++ flat l := by simp [flat]
theorem flat_drop (l : List Pt) (k : Nat) (h : k < l.length) : (flat l).drop (flat (l.take k)).length = encA l[k].fit ++ flat (l.drop (k + 1)) := by
  have e : flat l = flat (l.take k) ++ (encA l[k].fit ++ flat (l.drop (k + 1))) := by
    rw [← flat_cons, ← flat_append, ← List.drop_eq_getElem_cons h, List.take_append_drop]
  rw [e, List.drop_left]
theorem flat_len (l : List Pt) (k : Nat) (h : k < l.length) : (flat (l.take (k + 1))).length = (flat (l.take k)).length + (encA l[k].fit).length := by
  rw [List.take_add_one, List.getElem?_eq_getElem h, Option.toList_some, flat_append, List.length_append, flat_cons]
  have : flat [] = [] := rfl
  rw [this, List.append_nil]
theorem flat_le (l : List Pt) (k : Nat) : (flat (l.take k)).length ≤ (flat l).length := by
  conv => rhs; rw [← List.take_append_drop k l, flat_append, List.length_append]
  omega
theorem lay9_len (st : Wst) (p : Pt) (ea er : Addr) : (st.lay9 p ea er).l.length ≤ st.l.length + (12 + p.s.size) := by
  unfold Wst.lay9 Wst.layA Wst.flt
  have h1 := lay_len st p ea er
  have h4 := putB_len st (be 4 (p.u % 4294967296))
  have f2 := fail_len st er
  simp only [be_length] at h4
  repeat' split
  all_goals first | omega | (simp only; omega)
theorem runA_len_from (l : List Pt) (ea er : Addr) : ∀ st : Wst, (l.foldl (fun st p => st.lay9 p.fit ea er) st).l.length ≤ st.l.length + weight l := by
  induction l with
  | nil => intro st; simp [weight]
  | cons p r ih =>
    intro st
    have h1 := ih (st.lay9 p.fit ea er)
    have h2 := lay9_len st p.fit ea er
    have h3 : p.fit.s = p.s := rfl
    rw [h3] at h2
    simp only [List.foldl_cons, weight, List.map_cons, List.sum_cons] at h1 ⊢
    omega
theorem runA_len (l : List Pt) (ea er : Addr) : (runA l ea er).l.length ≤ weight l := by
  have := runA_len_from l ea er start
  simpa [runA, start] using this

/-- What a reader tells of a call. -/
def want (p : Pt) : Nat := if p.k = 1 then p.u % 256 else if p.k = 2 then p.u % 65536 else if p.k = 4 then p.u % 4294967296 else if p.k = 5 then p.u % 4294967296 else if p.k = 8 then p.u else if p.k = 7 then p.n.toNat else 0

theorem rdA_ok (p : Pt) (b : Nat) (F : Nat → Prop) (s : Rst) (E : Nat → Addr) (er : Addr) (r : List Nat) (w : World) (hk : p.k ∈ kinds) (h9 : p.k ≠ 9) (hu : p.u < 18446744073709551616) (hm : p.m < 9223372036854775808) (hgd : goodA p) (hg : Gl w E) (hr : Rg w er) (h : R w b F s) (hn : s.f = none) (hall : s.all.drop s.place = encA p ++ r) (hpl : s.place ≤ s.all.length) (hal : s.all.length ≤ 140737488355328) :
    Calls Tryz.prog 23 #[.pointer (some ⟨b, 0, none⟩), .agg #[.int .i64 p.k, .int .u64 p.u, .string p.s, .int .i64 p.n, .int .i64 p.m]] w fun e w' => ∃ c l', e = .returned (.tuple #[.int .u64 (want p), c]) ∧ Src w' c l' ∧ (p.k = 6 → strOf l' = p.s) ∧ ∃ nm part, R w' b F ⟨nm, s.all, s.place + (encA p).length, part, none⟩ ∧ Fr (fun k => k = b) w w' := by
  obtain ⟨k, u, t, n, m⟩ := p
  obtain ⟨nm, all, place, part, f⟩ := s
  simp only at *
  subst hn
  have hlen : (encA ⟨k, u, t, n, m⟩).length + place ≤ all.length := by
    have := congrArg List.length hall
    simp at this; omega
  simp only [kinds, List.mem_cons, List.not_mem_nil, or_false] at hk
  have hnil : ∀ w' : World, Src w' (.slice none 0 0) [] := fun _ => .inl ⟨rfl, rfl⟩
  rcases hk with rfl | rfl | rfl | rfl | rfl | rfl | rfl | rfl | rfl
  · have e : encA ⟨1, u, t, n, m⟩ = be 1 (u % 256) := rfl
    rw [e] at hall hlen ⊢
    have hv : val ((all.drop place).take 1) = u % 256 := by rw [hall, List.take_left' (be_length _ _), val_be1]; omega
    rw [be_length] at hlen ⊢
    refine (rd1_ok b u t n m F ⟨nm, all, place, part, none⟩ E w hg h rfl hlen).mono ?_
    rintro e w' ⟨rfl, hR, hf⟩
    exact ⟨_, [], by rw [hv]; rfl, hnil _, by simp, nm, _, hR, hf⟩
  · have e : encA ⟨2, u, t, n, m⟩ = be 2 (u % 65536) := rfl
    rw [e] at hall hlen ⊢
    have hv : val ((all.drop place).take 2) = u % 65536 := by rw [hall, List.take_left' (be_length _ _), val_be2]; omega
    rw [be_length] at hlen ⊢
    refine (rd2_ok b u t n m F ⟨nm, all, place, part, none⟩ E w hg h rfl hlen).mono ?_
    rintro e w' ⟨rfl, hR, hf⟩
    exact ⟨_, [], by rw [hv]; rfl, hnil _, by simp, nm, _, hR, hf⟩
  · have e : encA ⟨4, u, t, n, m⟩ = be 4 (u % 4294967296) := rfl
    rw [e] at hall hlen ⊢
    have hv : val ((all.drop place).take 4) = u % 4294967296 := by rw [hall, List.take_left' (be_length _ _), val_be4']; omega
    rw [be_length] at hlen ⊢
    refine (rd4_ok b u t n m F ⟨nm, all, place, part, none⟩ E w hg h rfl hlen).mono ?_
    rintro e w' ⟨rfl, hR, hf⟩
    exact ⟨_, [], by rw [hv]; rfl, hnil _, by simp, nm, _, hR, hf⟩
  · have e : encA ⟨8, u, t, n, m⟩ = be 8 u := rfl
    rw [e] at hall hlen ⊢
    have hv : val ((all.drop place).take 8) = u := by rw [hall, List.take_left' (be_length _ _), val_be8]; omega
    rw [be_length] at hlen ⊢
    refine (rd8_ok b u t n m F ⟨nm, all, place, part, none⟩ E w hg h rfl hlen).mono ?_
    rintro e w' ⟨rfl, hR, hf⟩
    exact ⟨_, [], by rw [hv]; rfl, hnil _, by simp, nm, _, hR, hf⟩
  · have e : encA ⟨5, u, t, n, m⟩ = be 4 (u % 4294967296) := rfl
    rw [e] at hall hlen ⊢
    have hv : val ((all.drop place).take 4) = u % 4294967296 := by rw [hall, List.take_left' (be_length _ _), val_be4']; omega
    rw [be_length] at hlen ⊢
    refine (rd5_ok b u t n m F ⟨nm, all, place, part, none⟩ E er w hg hr h rfl hlen (by rw [hv]; exact hgd.1 rfl)).mono ?_
    rintro e w' ⟨rfl, hR, hf⟩
    exact ⟨_, [], by rw [hv]; rfl, hnil _, by simp, nm, _, hR, hf⟩
  · have e : encA ⟨6, u, t, n, m⟩ = be 4 t.size ++ bytesOf t := rfl
    obtain ⟨g1, g2⟩ := hgd.2.1 rfl
    simp only at g1 g2
    rw [e] at hall hlen ⊢
    rw [List.append_assoc] at hall
    have hv : val ((all.drop place).take 4) = t.size := by rw [hall, List.take_left' (be_length _ _), val_be4']; omega
    have ht : (all.drop (place + 4)).take t.size = bytesOf t := by
      rw [← List.drop_drop, hall, List.drop_left' (be_length _ _), List.take_left' (bytesOf_length _)]
    rw [List.length_append, be_length, bytesOf_length] at hlen ⊢
    have ep : place + (4 + t.size) = place + 4 + t.size := by omega
    rw [ep]
    cases hp : (n.tmod 2 == 0)
    · refine (rd6b_ok b u t.size t n m F ⟨nm, all, place, part, none⟩ E w hp hm hg h rfl hv (by show 4 + place ≤ all.length; omega) g1 (by show t.size + (place + 4) ≤ all.length; omega) hal).mono ?_
      rintro e w' ⟨c, l', rfl, hs, he, hR, hf⟩
      exact ⟨c, l', rfl, hs, fun _ => by rw [he]; simp only; rw [ht, strOf_bytesOf], nm, _, hR, hf⟩
    · refine (rd6t_ok b u t.size t n m F ⟨nm, all, place, part, none⟩ E w hp hm hg h rfl hv (by show 4 + place ≤ all.length; omega) g1 (by show t.size + (place + 4) ≤ all.length; omega)).mono ?_
      rintro e w' ⟨c, l', rfl, hs, he, hR, hf⟩
      exact ⟨c, l', rfl, hs, fun _ => by rw [he]; simp only; rw [ht, strOf_bytesOf], nm, _, hR, hf⟩
  · have e : encA ⟨7, u, t, n, m⟩ = be 4 n.toNat := rfl
    obtain ⟨g0, g1, g2⟩ := hgd.2.2 rfl
    simp only at g0 g1 g2
    rw [e] at hall hlen ⊢
    have hv : val ((all.drop place).take 4) = n.toNat := by rw [hall, List.take_left' (be_length _ _), val_be4']; omega
    rw [be_length] at hlen ⊢
    refine (rd7_ok b u t n m F ⟨nm, all, place, part, none⟩ E w hm hg h rfl hlen (by rw [hv]; omega)).mono ?_
    rintro e w' ⟨rfl, hR, hf⟩
    exact ⟨_, [], by rw [hv]; rfl, hnil _, by simp, nm, _, hR, hf⟩
  · exact absurd rfl h9
  · have e : encA ⟨10, u, t, n, m⟩ = [] := rfl
    rw [e]
    refine (rd10_ok b u t n m F ⟨nm, all, place, part, none⟩ w h rfl).mono ?_
    rintro e w' ⟨rfl, hR, hf⟩
    exact ⟨_, [], rfl, hnil _, by simp, t, _, hR, hf⟩
end Go.Proofs.YtikolmpgnpkdbaaGreatDoor
