import Derived.Test.YtkiepcdncegniaaZba
namespace Go.Proofs.Ytkiepcdncegniaa
open Go.RowKit Go.Maps

/-- An answer that was taken, with what its lists hold. -/
structure AD where
  a : AN
  F : List F5
  H : List SM
/-- A request that was called: what its list holds, the last refusal, how many, its answer. -/
structure SC where
  r : RQ
  F : List F5
  la : Int
  n : Nat
  d : Option AD
def SC.cs (q : SC) : List Value := q.r.cs ++ [.int .i64 q.la, .int .i64 (q.n : Nat)]
def SC.v (q : SC) : Value := .agg q.cs.toArray
/-- What the two maps hold. -/
def fW (cs : List SC) (k : Nat) : Option Value := if k = 0 then none else cs[k - 1]?.bind fun q => match q.d with
  | none => some q.v
  | some _ => none
def fA (cs : List SC) (k : Nat) : Option Value := if k = 0 then none else cs[k - 1]?.bind fun q => q.d.map fun x => x.a.v
def nW (cs : List SC) : Nat := cs.countP fun q => q.d.isNone
def nA (cs : List SC) : Nat := cs.countP fun q => q.d.isSome
theorem nWA (cs : List SC) : nW cs + nA cs = cs.length := by
  induction cs with
  | nil => rfl
  | cons q r ih =>
    simp only [nW, nA, List.countP_cons, List.length_cons] at *
    cases q.d <;> simp <;> omega
theorem fW_at {cs : List SC} {i : Nat} {q : SC} (h : cs[i]? = some q) (hd : q.d = none) : fW cs (i + 1) = some q.v := by
  simp [fW, h, hd]
theorem fW_dn {cs : List SC} {i : Nat} {q : SC} {x : AD} (h : cs[i]? = some q) (hd : q.d = some x) : fW cs (i + 1) = none := by
  simp [fW, h, hd]
theorem fA_at {cs : List SC} {i : Nat} {q : SC} {x : AD} (h : cs[i]? = some q) (hd : q.d = some x) : fA cs (i + 1) = some x.a.v := by
  simp [fA, h, hd]
theorem fA_wt {cs : List SC} {i : Nat} {q : SC} (h : cs[i]? = some q) (hd : q.d = none) : fA cs (i + 1) = none := by
  simp [fA, h, hd]
theorem fW_no {cs : List SC} {k : Nat} (h : k = 0 ∨ cs.length < k) : fW cs k = none := by
  rcases h with rfl | h
  · rfl
  · have : cs[k - 1]? = none := List.getElem?_eq_none (by omega)
    simp [fW, this]
theorem fA_no {cs : List SC} {k : Nat} (h : k = 0 ∨ cs.length < k) : fA cs k = none := by
  rcases h with rfl | h
  · rfl
  · have : cs[k - 1]? = none := List.getElem?_eq_none (by omega)
    simp [fA, this]
theorem fW_put (cs : List SC) (q : SC) (hq : q.d = none) : fW (cs ++ [q]) = fun j => if j = cs.length + 1 then some q.v else fW cs j := by
  funext j
  by_cases e : j = cs.length + 1
  · subst e
    simp [fW, hq]
  · rw [if_neg e]
    unfold fW
    by_cases h0 : j = 0
    · simp [h0]
    · rw [if_neg h0, if_neg h0]
      by_cases hl : j - 1 < cs.length
      · rw [List.getElem?_append_left hl]
      · rw [List.getElem?_eq_none (by simp; omega), List.getElem?_eq_none (by omega)]
theorem fA_put (cs : List SC) (q : SC) (hq : q.d = none) : fA (cs ++ [q]) = fA cs := by
  funext j
  unfold fA
  by_cases h0 : j = 0
  · simp [h0]
  · rw [if_neg h0, if_neg h0]
    by_cases hl : j - 1 < cs.length
    · rw [List.getElem?_append_left hl]
    · rw [List.getElem?_eq_none (l := cs) (by omega)]
      by_cases e : j - 1 = cs.length
      · rw [e]; simp [hq]
      · rw [List.getElem?_eq_none (by simp; omega)]
theorem fW_set (cs : List SC) (i : Nat) (q : SC) (hi : i < cs.length) : fW (cs.set i q) = fun j => if j = i + 1 then (match q.d with | none => some q.v | some _ => none) else fW cs j := by
  funext j
  by_cases e : j = i + 1
  · subst e
    simp [fW, hi]
  · rw [if_neg e]
    unfold fW
    by_cases h0 : j = 0
    · simp [h0]
    · rw [if_neg h0, if_neg h0, List.getElem?_set_ne (by omega)]
theorem fA_set (cs : List SC) (i : Nat) (q : SC) (hi : i < cs.length) : fA (cs.set i q) = fun j => if j = i + 1 then (q.d.map fun x => x.a.v) else fA cs j := by
  funext j
  by_cases e : j = i + 1
  · subst e
    simp [fA, hi]
  · rw [if_neg e]
    unfold fA
    by_cases h0 : j = 0
    · simp [h0]
    · rw [if_neg h0, if_neg h0, List.getElem?_set_ne (by omega)]
theorem nA_put (cs : List SC) (q : SC) (hq : q.d = none) : nA (cs ++ [q]) = nA cs ∧ nW (cs ++ [q]) = nW cs + 1 := by
  simp [nA, nW, hq, List.countP_append]
theorem nA_set : ∀ (cs : List SC) (i : Nat) (p q : SC), cs[i]? = some p → p.d = none → q.d.isSome = true → nA (cs.set i q) = nA cs + 1 ∧ nW (cs.set i q) + 1 = nW cs
  | [], i, p, q, h, _, _ => by simp at h
  | x :: r, 0, p, q, h, hp, hq => by
    simp at h; subst h
    have : q.d.isNone = false := by cases hd : q.d <;> simp_all
    simp [nA, nW, hp, hq, this]
  | x :: r, i + 1, p, q, h, hp, hq => by
    have ih := nA_set r i p q (by simpa using h) hp hq
    simp only [nA, nW, List.set_cons_succ, List.countP_cons] at *
    omega
theorem nA_same : ∀ (cs : List SC) (i : Nat) (p q : SC), cs[i]? = some p → p.d = none → q.d = none → nA (cs.set i q) = nA cs ∧ nW (cs.set i q) = nW cs
  | [], i, p, q, h, _, _ => by simp at h
  | x :: r, 0, p, q, h, hp, hq => by
    simp at h; subst h
    simp [nA, nW, hp, hq]
  | x :: r, i + 1, p, q, h, hp, hq => by
    have ih := nA_same r i p q (by simpa using h) hp hq
    simp only [nA, nW, List.set_cons_succ, List.countP_cons] at *
    omega
/-- The numbers of the requests that wait. -/
def wl (cs : List SC) : List Nat := (List.range cs.length).filterMap fun j => if (cs[j]?.any fun q => q.d.isNone) then some (j + 1) else none
theorem wl_mem (cs : List SC) (k : Nat) : k ∈ wl cs ↔ (fW cs k).isSome = true := by
  unfold wl
  simp only [List.mem_filterMap, List.mem_range]
  constructor
  · rintro ⟨j, hj, h⟩
    split at h
    · rename_i hq
      cases h
      obtain ⟨q, hq1, hq2⟩ := (Option.any_eq_true _ _).1 hq
      rw [fW_at hq1 (by simpa using hq2)]
      rfl
    · cases h
  · intro h
    unfold fW at h
    split at h
    · cases h
    · rename_i h0
      cases hq : cs[k - 1]? with
      | none => rw [hq] at h; cases h
      | some q =>
        rw [hq] at h
        have hd : q.d = none := by
          cases hd : q.d with
          | none => rfl
          | some x => simp [hd] at h
        have hl := (List.getElem?_eq_some_iff.1 hq).1
        exact ⟨k - 1, hl, by rw [hq]; simp [hd]; omega⟩
theorem wl_rise (cs : List SC) : (wl cs).Pairwise (· < ·) := by
  unfold wl
  refine List.Pairwise.filterMap _ (R := fun a b : Nat => a < b) ?_ (List.pairwise_lt_range)
  intro a b hab c hc d hd
  split at hc
  · split at hd
    · cases hc; cases hd; omega
    · cases hd
  · cases hc
theorem wl_len (cs : List SC) : (wl cs).length ≤ cs.length := by
  unfold wl
  have := List.length_filterMap_le (fun j => if (cs[j]?.any fun q => q.d.isNone) then some (j + 1) else none) (List.range cs.length)
  simpa using this
/-- What lists of a request, of an answer lie in memory. -/
structure LsT (w : World) (T : Nat → Prop) (e z : Nat) (v : Value) (n : Nat) (xs : List Value) : Prop where
  o : w.ownsRow 0 e z v n xs
  t : ∀ g, v.ownBlock = some g → T g
  l : n ≤ 1048576
theorem LsT.fr {w w' : World} {T S : Nat → Prop} {e z n : Nat} {v : Value} {xs : List Value} (h : LsT w T e z v n xs) (hf : Fr S w w') (hS : ∀ g, T g → ¬ S g) : LsT w' T e z v n xs :=
  ⟨ownsRow_of_block h.o (fun g hg => hf.block g (h.o.lt g hg).2 (hS g (h.t g hg))), h.t, h.l⟩
theorem LsT.mono {w : World} {T T' : Nat → Prop} {e z n : Nat} {v : Value} {xs : List Value} (h : LsT w T e z v n xs) (hT : ∀ g, T g → T' g) : LsT w T' e z v n xs := ⟨h.o, fun g hg => hT g (h.t g hg), h.l⟩
/-- A request's lists, and its answer's. -/
structure QOk (w : World) (T : Nat → Prop) (q : SC) : Prop where
  wt : q.d = none → LsT w T 79 5 q.r.fv q.F.length (fcells q.F)
  an : ∀ x, q.d = some x → LsT w T 79 5 x.a.fv x.F.length (fcells x.F) ∧ LsT w T 81 4 x.a.hv x.H.length (scells x.H)
/-- A session in memory: its own blocks are d, mw, ma; all its blocks are among T. -/
structure SsAt (w : World) (d mw ma c : Nat) (cs : List SC) (dn : List Nat) (dv : Value) (T : Nat → Prop) : Prop where
  c16 : c < 16
  len : cs.length ≤ 4096
  blk : w.heap[d]? = some (.cells #[.int .u32 (c : Nat), .map (some mw), .map (some ma), dv] 86)
  wm : MpR w mw c (nW cs) (fW cs)
  am : MpR w ma c (nA cs) (fA cs)
  dn : LsT w T 29 2 dv dn.length (icells (dn.map fun k => (c, k)))
  qs : ∀ q ∈ cs, QOk w T q
  id : ∀ i q, cs[i]? = some q → q.r.cl = c ∧ q.r.nu = i + 1
  own : T d ∧ T mw ∧ T ma
  ap : mw ≠ ma
  lt : ∀ g, T g → g < w.heap.size
theorem SsAt.fr {w w' : World} {d mw ma c : Nat} {cs : List SC} {dn : List Nat} {dv : Value} {T S : Nat → Prop} (h : SsAt w d mw ma c cs dn dv T) (hf : Fr S w w') (hS : ∀ g, T g → ¬ S g) : SsAt w' d mw ma c cs dn dv T :=
  ⟨h.c16, h.len, (hf.block d (h.lt d h.own.1) (hS d h.own.1)).trans h.blk, h.wm.keep (hf.block mw (h.lt mw h.own.2.1) (hS mw h.own.2.1)), h.am.keep (hf.block ma (h.lt ma h.own.2.2) (hS ma h.own.2.2)),
    h.dn.fr hf hS, fun q hq => ⟨fun hd => ((h.qs q hq).wt hd).fr hf hS, fun x hx => ⟨((h.qs q hq).an x hx).1.fr hf hS, ((h.qs q hq).an x hx).2.fr hf hS⟩⟩, h.id, h.own, h.ap, fun g hg => Nat.lt_of_lt_of_le (h.lt g hg) hf.size⟩
theorem SsAt.fr0 {w w' : World} {d mw ma c : Nat} {cs : List SC} {dn : List Nat} {dv : Value} {T : Nat → Prop} (h : SsAt w d mw ma c cs dn dv T) (hf : Fr (fun _ => False) w w') : SsAt w' d mw ma c cs dn dv T := h.fr hf (fun _ _ h => h)
theorem SsAt.cells {w : World} {d mw ma c : Nat} {cs : List SC} {dn : List Nat} {dv : Value} {T : Nat → Prop} (h : SsAt w d mw ma c cs dn dv T) :
    w.cell? ⟨d, 0, none⟩ = some (.int .u32 (c : Nat)) ∧ w.cell? ⟨d, 1, none⟩ = some (.map (some mw)) ∧ w.cell? ⟨d, 2, none⟩ = some (.map (some ma)) ∧ w.cell? ⟨d, 3, none⟩ = some dv ∧ ∀ k, w.frozen? ⟨d, k, none⟩ = false := by
  refine ⟨?_, ?_, ?_, ?_, fun k => ?_⟩ <;> simp [World.cell?, World.frozen?, h.blk]
theorem SsAt.dm {w : World} {d mw ma c : Nat} {cs : List SC} {dn : List Nat} {dv : Value} {T : Nat → Prop} (h : SsAt w d mw ma c cs dn dv T) : d ≠ mw ∧ d ≠ ma := by
  obtain ⟨e1, c1, h1⟩ := h.wm.blk
  obtain ⟨e2, c2, h2⟩ := h.am.blk
  refine ⟨fun e => ?_, fun e => ?_⟩
  · rw [← e, h.blk] at h1; cases h1
  · rw [← e, h.blk] at h2; cases h2
/-- A block of a row is none of the session's own three. -/
theorem LsT.ne {w : World} {T : Nat → Prop} {e z n : Nat} {v : Value} {xs : List Value} (h : LsT w T e z v n xs) {d mw ma c : Nat} {cs : List SC} {dn : List Nat} {dv : Value} {T' : Nat → Prop} (hs : SsAt w d mw ma c cs dn dv T') (he : e ≠ 86) {g : Nat} (hg : v.ownBlock = some g) : g ≠ d ∧ g ≠ mw ∧ g ≠ ma := by
  obtain ⟨cur, hb⟩ := own_blk h.o hg
  obtain ⟨e1, c1, h1⟩ := hs.wm.blk
  obtain ⟨e2, c2, h2⟩ := hs.am.blk
  refine ⟨fun x => ?_, fun x => ?_, fun x => ?_⟩
  · rw [x, hs.blk] at hb; simp at hb; exact he hb.2.symm
  · rw [x, h1] at hb; cases hb
  · rw [x, h2] at hb; cases hb
end Go.Proofs.Ytkiepcdncegniaa
