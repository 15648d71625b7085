import Derived.Test.YtkiepcdncegniaaPk3
namespace Go.Proofs.Ytkiepcdncegniaa
open Go.RowKit Go.Maps

/-- A request of the session against the document's own. -/
structure RelQ (c : Nat) (dn : List Nat) (i : Nat) (q : SC) (x : RC) : Prop where
  r : x.r = q.r.re x.r.fv
  F : x.F = q.F
  w : q.d = none → x.o = 0 ∧ q.la = (x.c : Int) ∧ q.n = x.b
  d : ∀ y, q.d = some y → 0 < x.o ∧ dn[x.o - 1]? = some (i + 1) ∧ (y.a.cl = x.a.cl ∧ y.a.nu = x.a.nu ∧ y.a.co = x.a.co ∧ y.a.rc = x.a.rc ∧ y.a.ve = x.a.ve) ∧ y.F = x.G ∧ y.H = x.K ∧ x.a.cl = c ∧ x.a.nu = i + 1
/-- A session against the document's own. -/
structure Rel (w : World) (c : Nat) (cs : List SC) (dn : List Nat) (l : List RC) : Prop where
  n : l.length = cs.length
  q : ∀ (i : Nat) (q : SC) (x : RC), cs[i]? = some q → l[i]? = some x → RelQ c dn i q x
  g : ∀ (j k : Nat), dn[j]? = some k → ∃ i x, k = i + 1 ∧ l[i]? = some x ∧ x.o = j + 1
  k : ∀ x ∈ l, x.Ok w ∧ x.c < 256
theorem Rel.nil (w : World) (c : Nat) : Rel w c [] [] [] := ⟨rfl, fun i q x h => by simp at h, fun j k h => by simp at h, fun x h => by simp at h⟩
/-- A call. -/
theorem Rel.call {w : World} {c : Nat} {cs : List SC} {dn : List Nat} {l : List RC} (h : Rel w c cs dn l) (r : RQ) (F : List F5) (fv : Value) (hx : Rd w fv F.length 5 (fcells F)) (hl : F.length ≤ 1048576) :
    Rel w c (cs ++ [⟨r, F, 0, 0, none⟩]) dn (l ++ [⟨r.re fv, F, 0, ⟨0, 0, 0, 0, 0, .slice none 0 0, .slice none 0 0⟩, [], [], 0, 0⟩]) := by
  refine ⟨by simp [h.n], fun i q x hq hx2 => ?_, fun j k hj => ?_, fun x hx2 => ?_⟩
  · by_cases hi : i < cs.length
    · rw [List.getElem?_append_left hi] at hq
      rw [List.getElem?_append_left (by rw [h.n]; exact hi)] at hx2
      exact h.q i q x hq hx2
    · have hi2 : i = cs.length := by have := (List.getElem?_eq_some_iff.1 hq).1; simp at this; omega
      subst hi2
      rw [List.getElem?_append_right (Nat.le_refl _), Nat.sub_self] at hq
      rw [← h.n, List.getElem?_append_right (Nat.le_refl _), Nat.sub_self] at hx2
      simp only [List.getElem?_cons_zero, Option.some.injEq] at hq hx2
      subst hq
      subst hx2
      exact ⟨rfl, rfl, fun _ => ⟨rfl, rfl, rfl⟩, fun y hy => by cases hy⟩
  · obtain ⟨i, x, e1, e2, e3⟩ := h.g j k hj
    exact ⟨i, x, e1, by rw [List.getElem?_append_left (List.getElem?_eq_some_iff.1 e2).1]; exact e2, e3⟩
  · rcases List.mem_append.1 hx2 with hx2 | hx2
    · exact h.k x hx2
    · simp only [List.mem_singleton] at hx2
      subst hx2
      exact ⟨⟨hx, Rd.nil w 5, Rd.nil w 4, hl, by simp, by simp⟩, by simp⟩
/-- A Busy of a request that waits. -/
theorem Rel.busy {w : World} {c : Nat} {cs : List SC} {dn : List Nat} {l : List RC} (h : Rel w c cs dn l) {i : Nat} {q : SC} {x : RC} (hq : cs[i]? = some q) (hd : q.d = none) (hx : l[i]? = some x) (co : Nat) (hco : co < 256) :
    Rel w c (cs.set i { q with la := (co : Int), n := q.n + 1 }) dn (l.set i { x with c := co, b := x.b + 1 }) := by
  have hil := (List.getElem?_eq_some_iff.1 hq).1
  have hil2 := (List.getElem?_eq_some_iff.1 hx).1
  have h0 := h.q i q x hq hx
  refine ⟨by simp [h.n], fun j p y hp hy => ?_, fun j k hj => ?_, fun y hy => ?_⟩
  · by_cases e : i = j
    · subst e
      rw [List.getElem?_set_self hil] at hp
      rw [List.getElem?_set_self hil2] at hy
      cases hp
      cases hy
      refine ⟨h0.r, h0.F, fun _ => ⟨(h0.w hd).1, rfl, ?_⟩, fun y hy => ?_⟩
      · have := (h0.w hd).2.2
        simp only
        omega
      · simp only at hy
        rw [hd] at hy
        cases hy
    · rw [List.getElem?_set_ne e] at hp hy
      exact h.q j p y hp hy
  · obtain ⟨m, y, e1, e2, e3⟩ := h.g j k hj
    by_cases e : i = m
    · subst e
      rw [hx] at e2
      cases e2
      exact ⟨i, _, e1, List.getElem?_set_self hil2, e3⟩
    · exact ⟨m, y, e1, by rw [List.getElem?_set_ne e]; exact e2, e3⟩
  · rcases List.mem_or_eq_of_mem_set hy with hy | rfl
    · exact h.k y hy
    · have hk := h.k x (List.mem_of_getElem? hx)
      exact ⟨⟨hk.1.f, hk.1.g, hk.1.k, hk.1.fl, hk.1.gl, hk.1.kl⟩, hco⟩
/-- The first answer of a request. -/
theorem Rel.new {w : World} {c : Nat} {cs : List SC} {dn : List Nat} {l : List RC} (h : Rel w c cs dn l) {i : Nat} {q : SC} {x : RC} (hq : cs[i]? = some q) (hd : q.d = none) (hx : l[i]? = some x) (a : AN) (hc : a.cl = c) (hn : a.nu = i + 1) (F : List F5) (K : List SM) (v u : Value) (hF : Rd w a.fv F.length 5 (fcells F)) (hK : Rd w a.hv K.length 4 (scells K)) (hFl : F.length ≤ 1048576) (hKl : K.length ≤ 1048576) :
    Rel w c (cs.set i { q with d := some ⟨⟨c, i + 1, a.co, a.rc, a.ve, v, u⟩, F, K⟩ }) (dn ++ [i + 1]) (l.set i { x with o := dn.length + 1, a := a, G := F, K := K }) := by
  have hil := (List.getElem?_eq_some_iff.1 hq).1
  have hil2 := (List.getElem?_eq_some_iff.1 hx).1
  have h0 := h.q i q x hq hx
  refine ⟨by simp [h.n], fun j p y hp hy => ?_, fun j k hj => ?_, fun y hy => ?_⟩
  · by_cases e : i = j
    · subst e
      rw [List.getElem?_set_self hil] at hp
      rw [List.getElem?_set_self hil2] at hy
      cases hp
      cases hy
      refine ⟨h0.r, h0.F, fun e => (by cases e), fun z hz => ?_⟩
      simp only [Option.some.injEq] at hz
      subst hz
      exact ⟨Nat.succ_pos _, by simp, ⟨hc.symm, hn.symm, rfl, rfl, rfl⟩, rfl, rfl, hc, hn⟩
    · rw [List.getElem?_set_ne e] at hp hy
      have h1 := h.q j p y hp hy
      refine ⟨h1.r, h1.F, h1.w, fun z hz => ?_⟩
      obtain ⟨a1, a2, a3⟩ := h1.d z hz
      exact ⟨a1, by rw [List.getElem?_append_left (List.getElem?_eq_some_iff.1 a2).1]; exact a2, a3⟩
  · by_cases hj2 : j < dn.length
    · rw [List.getElem?_append_left hj2] at hj
      obtain ⟨m, y, e1, e2, e3⟩ := h.g j k hj
      by_cases e : i = m
      · subst e
        rw [hx] at e2
        cases e2
        have := (h0.w hd).1
        omega
      · exact ⟨m, y, e1, by rw [List.getElem?_set_ne e]; exact e2, e3⟩
    · have hj3 : j = dn.length := by have := (List.getElem?_eq_some_iff.1 hj).1; simp at this; omega
      subst hj3
      rw [List.getElem?_append_right (Nat.le_refl _), Nat.sub_self] at hj
      simp only [List.getElem?_cons_zero, Option.some.injEq] at hj
      exact ⟨i, _, hj.symm, List.getElem?_set_self hil2, rfl⟩
  · rcases List.mem_or_eq_of_mem_set hy with hy | rfl
    · exact h.k y hy
    · have hk := h.k x (List.mem_of_getElem? hx)
      exact ⟨⟨hk.1.f, hF, hK, hk.1.fl, hFl, hKl⟩, hk.2⟩
end Go.Proofs.Ytkiepcdncegniaa

