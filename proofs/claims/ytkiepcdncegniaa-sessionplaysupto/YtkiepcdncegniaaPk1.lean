import Derived.Test.YtkiepcdncegniaaZah
import Derived.Test.YtkiepcdncegniaaZam
import Derived.ScopeJumps
import Derived.Laws.StructEq
namespace Go.Proofs.Ytkiepcdncegniaa
open Go.RowKit Go.Maps

theorem ownsMap_tight {H : Type} {w : World} {P : Program} {k : TypeId} {R : Value → Option (DataW H × List MemPlace)} {b n : Nat} {D : DataW H} (h : w.ownsMap P k R b n D) : w.ownsMap P k R b (Maps.size D) D := by
  obtain ⟨es, clock, h1, F, hs, hD⟩ := h
  exact ⟨es, clock, h1, F, by rw [hD]; simp [Maps.size, length_sorted], hD⟩
theorem ownsMap_keep {H : Type} {w w' : World} {P : Program} {k : TypeId} {R : Value → Option (DataW H × List MemPlace)} {b n : Nat} {D : DataW H} (h : w.ownsMap P k R b n D) (hb : w'.heap[b]? = w.heap[b]?) : w'.ownsMap P k R b n D := by
  obtain ⟨es, clock, h1, F, hs, hD⟩ := h
  exact ⟨es, clock, hb.trans h1, F, hs, hD⟩
theorem ownsMap_blk {H : Type} {w : World} {P : Program} {k : TypeId} {R : Value → Option (DataW H × List MemPlace)} {b n : Nat} {D : DataW H} (h : w.ownsMap P k R b n D) : ∃ es clock, w.heap[b]? = some (.map es clock) := by
  obtain ⟨es, clock, h1, _⟩ := h
  exact ⟨es, clock, h1⟩
/-- What a map's datum says of the client c's numbers. -/
structure DR (D : DataW Value) (c : Nat) (f : Nat → Option Value) : Prop where
  has : ∀ c' k, c' < 4294967296 → k < 4294967296 → has D (kid c' k) = (decide (c' = c) && (f k).isSome)
  at_ : ∀ k v, k < 4294967296 → f k = some v → ∀ z, D.atKey (kid c k) z = .held v
/-- A map in memory: N entries, of the client c, number by number. -/
def MpR (w : World) (b c N : Nat) (f : Nat → Option Value) : Prop := ∃ D, w.ownsMap Try.prog 29 RU b N D ∧ Maps.size D = N ∧ DR D c f
theorem MpR.blk {w : World} {b c N : Nat} {f : Nat → Option Value} (h : MpR w b c N f) : ∃ es clock, w.heap[b]? = some (.map es clock) := by
  obtain ⟨D, h1, _⟩ := h
  exact ownsMap_blk h1
theorem MpR.keep {w w' : World} {b c N : Nat} {f : Nat → Option Value} (h : MpR w b c N f) (hb : w'.heap[b]? = w.heap[b]?) : MpR w' b c N f := by
  obtain ⟨D, h1, h2⟩ := h
  exact ⟨D, ownsMap_keep h1 hb, h2⟩
theorem MpR.made (w : World) (c : Nat) : MpR (w.alloc (.map #[] 0)) w.heap.size c 0 (fun _ => none) :=
  ⟨.map [], World.ownsMap_made w _ _ _, rfl, ⟨fun c' k _ _ => by simp [Maps.has], fun k v _ h => by cases h⟩⟩
theorem MpR.look_yes {w : World} {b c N : Nat} {f : Nat → Option Value} (h : MpR w b c N f) (hc : c < 4294967296) {t e : TypeId} (ht : Try.prog.underlying t = some (.map 29 e)) {z : Value} (hz : (zeroValue e).run Try.prog w = .ok z w) {k : Nat} (hk : k < 4294967296) {v : Value} (hv : f k = some v) :
    (Instr.lookup t (.map (some b)) (idv c k) true).run Try.prog w = .ok (.tuple #[v, .bool true]) w ∧ (Instr.lookup t (.map (some b)) (idv c k) false).run Try.prog w = .ok v w := by
  obtain ⟨D, h1, _, h3⟩ := h
  obtain ⟨x, ps, hr, hx⟩ := h1.look_ok idK ht hz (zd := .held z) (zp := []) rfl (key_id c k hc hk)
  obtain ⟨y, qs, hr2, hy⟩ := h1.lookup idK ht hz (zd := .held z) (zp := []) rfl (key_id c k hc hk)
  rw [h3.at_ k v hk hv] at hx hy
  simp only [RU, Option.some.injEq, Prod.mk.injEq, DataW.held.injEq] at hx hy
  rw [hx.1, h3.has c k hc hk, hv] at hr
  rw [hy.1] at hr2
  exact ⟨by simpa using hr, hr2⟩
theorem MpR.look_no {w : World} {b c N : Nat} {f : Nat → Option Value} (h : MpR w b c N f) {t e : TypeId} (ht : Try.prog.underlying t = some (.map 29 e)) {z : Value} (hz : (zeroValue e).run Try.prog w = .ok z w) {c' k : Nat} (hc : c' < 4294967296) (hk : k < 4294967296) (hv : c' = c → f k = none) :
    (Instr.lookup t (.map (some b)) (idv c' k) true).run Try.prog w = .ok (.tuple #[z, .bool false]) w ∧ (Instr.lookup t (.map (some b)) (idv c' k) false).run Try.prog w = .ok z w := by
  obtain ⟨D, h1, _, h3⟩ := h
  have hh : has D (kid c' k) = false := by
    rw [h3.has c' k hc hk]
    by_cases e : c' = c
    · simp [hv e]
    · simp [e]
  obtain ⟨x, ps, hr, hx⟩ := h1.look_ok idK ht hz (zd := .held z) (zp := []) rfl (key_id c' k hc hk)
  obtain ⟨y, qs, hr2, hy⟩ := h1.lookup idK ht hz (zd := .held z) (zp := []) rfl (key_id c' k hc hk)
  rw [atKey_of_not_has hh] at hx hy
  simp only [RU, Option.some.injEq, Prod.mk.injEq, DataW.held.injEq] at hx hy
  rw [hx.1, hh] at hr
  rw [hy.1] at hr2
  exact ⟨hr, hr2⟩
theorem MpR.len {w : World} {b c N : Nat} {f : Nat → Option Value} (h : MpR w b c N f) {t e : TypeId} (ht : Try.prog.underlying t = some (.map 29 e)) (ty : TypeId) : (Builtin.len_ #[t] ty #[.map (some b)]).run Try.prog w = .ok (.int .i64 (N : Nat)) w := by
  obtain ⟨D, h1, h2, h3⟩ := h
  rw [h1.len ht ty, h2]
theorem MpR.put {w : World} {b c N : Nat} {f : Nat → Option Value} (h : MpR w b c N f) (hc : c < 4294967296) (hN : N ≤ 1048576) {t e : TypeId} (ht : Try.prog.underlying t = some (.map 29 e)) {k : Nat} (hk : k < 4294967296) (v : Value) :
    ∃ w', (Instr.mapUpdate t (.map (some b)) (idv c k) v).run Try.prog w = .ok () w' ∧ MpR w' b c (if (f k).isSome then N else N + 1) (fun j => if j = k then some v else f j) ∧ Fr (fun g => g = b) w w' := by
  obtain ⟨D, h1, h2, h3⟩ := h
  obtain ⟨w', hr, h4, h5⟩ := h1.update idK ht (by simp only [maxLen]; omega) (key_id c k hc hk) (show RU v = some (.held v, []) from rfl)
  have hI := h1.isMap
  have hs : Maps.size (D.put (kid c k) (.held v)) = if (f k).isSome then N else N + 1 := by
    rw [size_put (h1.tidy idK), h3.has c k hc hk, h2]
    simp
  refine ⟨w', hr, ⟨_, by rw [← hs]; exact ownsMap_tight h4, hs, ⟨fun c' j hc' hj => ?_, fun j u hj hu z => ?_⟩⟩, (Fr.refl _ _).grown h5 (fun g hg => .inl (by cases hg; rfl))⟩
  · by_cases e : kid c' j = kid c k
    · obtain ⟨rfl, rfl⟩ := kid_inj hc' hj hc hk e
      rw [has_put_same hI (kid_key _ _)]
      simp
    · rw [has_put_other e, h3.has c' j hc' hj]
      by_cases e2 : j = k
      · subst e2
        have : c' ≠ c := fun e3 => e (by rw [e3])
        simp [this]
      · simp [e2]
  · by_cases e : j = k
    · subst e
      simp at hu
      subst hu
      exact atKey_put_same hI (kid_key _ _) _ _
    · rw [atKey_put_other (fun e2 => e (kid_inj hc hj hc hk e2).2)]
      simp [e] at hu
      exact h3.at_ j u hj hu z
theorem MpR.del {w : World} {b c N : Nat} {f : Nat → Option Value} (h : MpR w b c N f) (hc : c < 4294967296) {t e : TypeId} (ht : Try.prog.underlying t = some (.map 29 e)) {k : Nat} (hk : k < 4294967296) (hf : (f k).isSome = true) (ty : TypeId) :
    ∃ w', (Builtin.delete_ #[t, 29] ty #[.map (some b), idv c k]).run Try.prog w = .ok (.tuple #[]) w' ∧ MpR w' b c (N - 1) (fun j => if j = k then none else f j) ∧ Fr (fun g => g = b) w w' := by
  obtain ⟨D, h1, h2, h3⟩ := h
  obtain ⟨w', hr, h4, h5⟩ := h1.drop idK ht (key_id c k hc hk) ty
  have hs : Maps.size (D.del (kid c k)) = N - 1 := by
    have := size_del (k := kid c k) (h1.tidy idK)
    rw [h3.has c k hc hk, h2] at this
    simp [hf] at this
    omega
  refine ⟨w', hr, ⟨_, by rw [← hs]; exact ownsMap_tight h4, hs, ⟨fun c' j hc' hj => ?_, fun j u hj hu z => ?_⟩⟩, (Fr.refl _ _).grown h5.grown (fun g hg => .inl (by cases hg; rfl))⟩
  · by_cases e : kid c' j = kid c k
    · obtain ⟨rfl, rfl⟩ := kid_inj hc' hj hc hk e
      rw [has_del_same]
      simp
    · rw [has_del_other e, h3.has c' j hc' hj]
      by_cases e2 : j = k
      · subst e2
        have : c' ≠ c := fun e3 => e (by rw [e3])
        simp [this]
      · simp [e2]
  · by_cases e : j = k
    · subst e
      simp at hu
    · rw [atKey_del_other (fun e2 => e (kid_inj hc hj hc hk e2).2)]
      simp [e] at hu
      exact h3.at_ j u hj hu z
end Go.Proofs.Ytkiepcdncegniaa

namespace Go.Proofs.Ytkiepcdncegniaa
open Go.RowKit Go.Maps

/-- An answer that was taken, with what its lists hold. -/
structure AD where
  a : AN
  F : List F5
  H : List SM
/-- A request that was called: what its list holds, the last refusal, how many, its answer. -/
structure SC where
  r : RQ
  F : List F5
  la : Int
  n : Nat
  d : Option AD
def SC.cs (q : SC) : List Value := q.r.cs ++ [.int .i64 q.la, .int .i64 (q.n : Nat)]
def SC.v (q : SC) : Value := .agg q.cs.toArray
/-- What the two maps hold. -/
def fW (cs : List SC) (k : Nat) : Option Value := if k = 0 then none else cs[k - 1]?.bind fun q => match q.d with
  | none => some q.v
  | some _ => none
def fA (cs : List SC) (k : Nat) : Option Value := if k = 0 then none else cs[k - 1]?.bind fun q => q.d.map fun x => x.a.v
def nW (cs : List SC) : Nat := cs.countP fun q => q.d.isNone
def nA (cs : List SC) : Nat := cs.countP fun q => q.d.isSome
theorem nWA (cs : List SC) : nW cs + nA cs = cs.length := by
  induction cs with
  | nil => rfl
  | cons q r ih =>
    simp only [nW, nA, List.countP_cons, List.length_cons] at *
    cases q.d <;> simp <;> omega
theorem fW_at {cs : List SC} {i : Nat} {q : SC} (h : cs[i]? = some q) (hd : q.d = none) : fW cs (i + 1) = some q.v := by
  simp [fW, h, hd]
theorem fW_dn {cs : List SC} {i : Nat} {q : SC} {x : AD} (h : cs[i]? = some q) (hd : q.d = some x) : fW cs (i + 1) = none := by
  simp [fW, h, hd]
theorem fA_at {cs : List SC} {i : Nat} {q : SC} {x : AD} (h : cs[i]? = some q) (hd : q.d = some x) : fA cs (i + 1) = some x.a.v := by
  simp [fA, h, hd]
theorem fA_wt {cs : List SC} {i : Nat} {q : SC} (h : cs[i]? = some q) (hd : q.d = none) : fA cs (i + 1) = none := by
  simp [fA, h, hd]
theorem fW_no {cs : List SC} {k : Nat} (h : k = 0 ∨ cs.length < k) : fW cs k = none := by
  rcases h with rfl | h
  · rfl
  · have : cs[k - 1]? = none := List.getElem?_eq_none (by omega)
    simp [fW, this]
theorem fA_no {cs : List SC} {k : Nat} (h : k = 0 ∨ cs.length < k) : fA cs k = none := by
  rcases h with rfl | h
  · rfl
  · have : cs[k - 1]? = none := List.getElem?_eq_none (by omega)
    simp [fA, this]
theorem fW_put (cs : List SC) (q : SC) (hq : q.d = none) : fW (cs ++ [q]) = fun j => if j = cs.length + 1 then some q.v else fW cs j := by
  funext j
  by_cases e : j = cs.length + 1
  · subst e
    simp [fW, hq]
  · rw [if_neg e]
    unfold fW
    by_cases h0 : j = 0
    · simp [h0]
    · rw [if_neg h0, if_neg h0]
      by_cases hl : j - 1 < cs.length
      · rw [List.getElem?_append_left hl]
      · rw [List.getElem?_eq_none (by simp; omega), List.getElem?_eq_none (by omega)]
theorem fA_put (cs : List SC) (q : SC) (hq : q.d = none) : fA (cs ++ [q]) = fA cs := by
  funext j
  unfold fA
  by_cases h0 : j = 0
  · simp [h0]
  · rw [if_neg h0, if_neg h0]
    by_cases hl : j - 1 < cs.length
    · rw [List.getElem?_append_left hl]
    · rw [List.getElem?_eq_none (l := cs) (by omega)]
      by_cases e : j - 1 = cs.length
      · rw [e]; simp [hq]
      · rw [List.getElem?_eq_none (by simp; omega)]
theorem fW_set (cs : List SC) (i : Nat) (q : SC) (hi : i < cs.length) : fW (cs.set i q) = fun j => if j = i + 1 then (match q.d with | none => some q.v | some _ => none) else fW cs j := by
  funext j
  by_cases e : j = i + 1
  · subst e
    simp [fW, hi]
  · rw [if_neg e]
    unfold fW
    by_cases h0 : j = 0
    · simp [h0]
    · rw [if_neg h0, if_neg h0, List.getElem?_set_ne (by omega)]
theorem fA_set (cs : List SC) (i : Nat) (q : SC) (hi : i < cs.length) : fA (cs.set i q) = fun j => if j = i + 1 then (q.d.map fun x => x.a.v) else fA cs j := by
  funext j
  by_cases e : j = i + 1
  · subst e
    simp [fA, hi]
  · rw [if_neg e]
    unfold fA
    by_cases h0 : j = 0
    · simp [h0]
    · rw [if_neg h0, if_neg h0, List.getElem?_set_ne (by omega)]
theorem nA_put (cs : List SC) (q : SC) (hq : q.d = none) : nA (cs ++ [q]) = nA cs ∧ nW (cs ++ [q]) = nW cs + 1 := by
  simp [nA, nW, hq, List.countP_append]
theorem nA_set : ∀ (cs : List SC) (i : Nat) (p q : SC), cs[i]? = some p → p.d = none → q.d.isSome = true → nA (cs.set i q) = nA cs + 1 ∧ nW (cs.set i q) + 1 = nW cs
  | [], i, p, q, h, _, _ => by simp at h
  | x :: r, 0, p, q, h, hp, hq => by
    simp at h; subst h
    have : q.d.isNone = false := by cases hd : q.d <;> simp_all
    simp [nA, nW, hp, hq, this]
  | x :: r, i + 1, p, q, h, hp, hq => by
    have ih := nA_set r i p q (by simpa using h) hp hq
    simp only [nA, nW, List.set_cons_succ, List.countP_cons] at *
    omega
theorem nA_same : ∀ (cs : List SC) (i : Nat) (p q : SC), cs[i]? = some p → p.d = none → q.d = none → nA (cs.set i q) = nA cs ∧ nW (cs.set i q) = nW cs
  | [], i, p, q, h, _, _ => by simp at h
  | x :: r, 0, p, q, h, hp, hq => by
    simp at h; subst h
    simp [nA, nW, hp, hq]
  | x :: r, i + 1, p, q, h, hp, hq => by
    have ih := nA_same r i p q (by simpa using h) hp hq
    simp only [nA, nW, List.set_cons_succ, List.countP_cons] at *
    omega
/-- The numbers of the requests that wait. -/
def wl (cs : List SC) : List Nat := (List.range cs.length).filterMap fun j => if (cs[j]?.any fun q => q.d.isNone) then some (j + 1) else none
theorem wl_mem (cs : List SC) (k : Nat) : k ∈ wl cs ↔ (fW cs k).isSome = true := by
  unfold wl
  simp only [List.mem_filterMap, List.mem_range]
  constructor
  · rintro ⟨j, hj, h⟩
    split at h
    · rename_i hq
      cases h
      obtain ⟨q, hq1, hq2⟩ := (Option.any_eq_true _ _).1 hq
      rw [fW_at hq1 (by simpa using hq2)]
      rfl
    · cases h
  · intro h
    unfold fW at h
    split at h
    · cases h
    · rename_i h0
      cases hq : cs[k - 1]? with
      | none => rw [hq] at h; cases h
      | some q =>
        rw [hq] at h
        have hd : q.d = none := by
          cases hd : q.d with
          | none => rfl
          | some x => simp [hd] at h
        have hl := (List.getElem?_eq_some_iff.1 hq).1
        exact ⟨k - 1, hl, by rw [hq]; simp [hd]; omega⟩
theorem wl_rise (cs : List SC) : (wl cs).Pairwise (· < ·) := by
  unfold wl
  refine List.Pairwise.filterMap _ (R := fun a b : Nat => a < b) ?_ (List.pairwise_lt_range)
  intro a b hab c hc d hd
  split at hc
  · split at hd
    · cases hc; cases hd; omega
    · cases hd
  · cases hc
theorem wl_len (cs : List SC) : (wl cs).length ≤ cs.length := by
  unfold wl
  have := List.length_filterMap_le (fun j => if (cs[j]?.any fun q => q.d.isNone) then some (j + 1) else none) (List.range cs.length)
  simpa using this
/-- What lists of a request, of an answer lie in memory. -/
structure LsT (w : World) (T : Nat → Prop) (e z : Nat) (v : Value) (n : Nat) (xs : List Value) : Prop where
  o : w.ownsRow 0 e z v n xs
  t : ∀ g, v.ownBlock = some g → T g
  l : n ≤ 1048576
theorem LsT.fr {w w' : World} {T S : Nat → Prop} {e z n : Nat} {v : Value} {xs : List Value} (h : LsT w T e z v n xs) (hf : Fr S w w') (hS : ∀ g, T g → ¬ S g) : LsT w' T e z v n xs :=
  ⟨ownsRow_of_block h.o (fun g hg => hf.block g (h.o.lt g hg).2 (hS g (h.t g hg))), h.t, h.l⟩
theorem LsT.mono {w : World} {T T' : Nat → Prop} {e z n : Nat} {v : Value} {xs : List Value} (h : LsT w T e z v n xs) (hT : ∀ g, T g → T' g) : LsT w T' e z v n xs := ⟨h.o, fun g hg => hT g (h.t g hg), h.l⟩
/-- A request's lists, and its answer's. -/
structure QOk (w : World) (T : Nat → Prop) (q : SC) : Prop where
  wt : q.d = none → LsT w T 79 5 q.r.fv q.F.length (fcells q.F)
  an : ∀ x, q.d = some x → LsT w T 79 5 x.a.fv x.F.length (fcells x.F) ∧ LsT w T 81 4 x.a.hv x.H.length (scells x.H)
/-- A session in memory: its own blocks are d, mw, ma; all its blocks are among T. -/
structure SsAt (w : World) (d mw ma c : Nat) (cs : List SC) (dn : List Nat) (dv : Value) (T : Nat → Prop) : Prop where
  c16 : c < 16
  len : cs.length ≤ 4096
  blk : w.heap[d]? = some (.cells #[.int .u32 (c : Nat), .map (some mw), .map (some ma), dv] 86)
  wm : MpR w mw c (nW cs) (fW cs)
  am : MpR w ma c (nA cs) (fA cs)
  dn : LsT w T 29 2 dv dn.length (icells (dn.map fun k => (c, k)))
  qs : ∀ q ∈ cs, QOk w T q
  id : ∀ i q, cs[i]? = some q → q.r.cl = c ∧ q.r.nu = i + 1
  own : T d ∧ T mw ∧ T ma
  ap : mw ≠ ma
  lt : ∀ g, T g → g < w.heap.size
theorem SsAt.fr {w w' : World} {d mw ma c : Nat} {cs : List SC} {dn : List Nat} {dv : Value} {T S : Nat → Prop} (h : SsAt w d mw ma c cs dn dv T) (hf : Fr S w w') (hS : ∀ g, T g → ¬ S g) : SsAt w' d mw ma c cs dn dv T :=
  ⟨h.c16, h.len, (hf.block d (h.lt d h.own.1) (hS d h.own.1)).trans h.blk, h.wm.keep (hf.block mw (h.lt mw h.own.2.1) (hS mw h.own.2.1)), h.am.keep (hf.block ma (h.lt ma h.own.2.2) (hS ma h.own.2.2)),
    h.dn.fr hf hS, fun q hq => ⟨fun hd => ((h.qs q hq).wt hd).fr hf hS, fun x hx => ⟨((h.qs q hq).an x hx).1.fr hf hS, ((h.qs q hq).an x hx).2.fr hf hS⟩⟩, h.id, h.own, h.ap, fun g hg => Nat.lt_of_lt_of_le (h.lt g hg) hf.size⟩
theorem SsAt.fr0 {w w' : World} {d mw ma c : Nat} {cs : List SC} {dn : List Nat} {dv : Value} {T : Nat → Prop} (h : SsAt w d mw ma c cs dn dv T) (hf : Fr (fun _ => False) w w') : SsAt w' d mw ma c cs dn dv T := h.fr hf (fun _ _ h => h)
theorem SsAt.cells {w : World} {d mw ma c : Nat} {cs : List SC} {dn : List Nat} {dv : Value} {T : Nat → Prop} (h : SsAt w d mw ma c cs dn dv T) :
    w.cell? ⟨d, 0, none⟩ = some (.int .u32 (c : Nat)) ∧ w.cell? ⟨d, 1, none⟩ = some (.map (some mw)) ∧ w.cell? ⟨d, 2, none⟩ = some (.map (some ma)) ∧ w.cell? ⟨d, 3, none⟩ = some dv ∧ ∀ k, w.frozen? ⟨d, k, none⟩ = false := by
  refine ⟨?_, ?_, ?_, ?_, fun k => ?_⟩ <;> simp [World.cell?, World.frozen?, h.blk]
theorem SsAt.dm {w : World} {d mw ma c : Nat} {cs : List SC} {dn : List Nat} {dv : Value} {T : Nat → Prop} (h : SsAt w d mw ma c cs dn dv T) : d ≠ mw ∧ d ≠ ma := by
  obtain ⟨e1, c1, h1⟩ := h.wm.blk
  obtain ⟨e2, c2, h2⟩ := h.am.blk
  refine ⟨fun e => ?_, fun e => ?_⟩
  · rw [← e, h.blk] at h1; cases h1
  · rw [← e, h.blk] at h2; cases h2
/-- A block of a row is none of the session's own three. -/
theorem LsT.ne {w : World} {T : Nat → Prop} {e z n : Nat} {v : Value} {xs : List Value} (h : LsT w T e z v n xs) {d mw ma c : Nat} {cs : List SC} {dn : List Nat} {dv : Value} {T' : Nat → Prop} (hs : SsAt w d mw ma c cs dn dv T') (he : e ≠ 86) {g : Nat} (hg : v.ownBlock = some g) : g ≠ d ∧ g ≠ mw ∧ g ≠ ma := by
  obtain ⟨cur, hb⟩ := own_blk h.o hg
  obtain ⟨e1, c1, h1⟩ := hs.wm.blk
  obtain ⟨e2, c2, h2⟩ := hs.am.blk
  refine ⟨fun x => ?_, fun x => ?_, fun x => ?_⟩
  · rw [x, hs.blk] at hb; simp at hb; exact he hb.2.symm
  · rw [x, h1] at hb; cases hb
  · rw [x, h2] at hb; cases hb
end Go.Proofs.Ytkiepcdncegniaa

namespace Go.Proofs.Ytkiepcdncegniaa
open Go.RowKit Go.Maps Go.Sort Go.Shelf

/-- Blocks of one's own, made between two worlds. -/
def Nb (w w' : World) (g : Nat) : Prop := w.heap.size ≤ g ∧ g < w'.heap.size
set_option maxRecDepth 100000 in
/-- New. -/
theorem snew_in (c : Nat) (w : World) (h : c < 16) :
    Calls Try.prog 8 #[.int .u32 (c : Nat)] w fun e w' => ∃ d, e = .returned (.tuple #[.pointer (some ⟨d, 0, none⟩), .int .i64 0]) ∧ (∃ mw ma, SsAt w' d mw ma c [] [] (.slice none 0 0) (Nb w w')) ∧ Fr (fun _ => False) w w' := by
  have hm1 : ∀ w' : World, (Instr.makeMap 83 none).run Try.prog w' = .ok (.map (some w'.heap.size)) (w'.alloc (.map #[] 0)) := fun _ => rfl
  have hm2 : ∀ w' : World, (Instr.makeMap 84 none).run Try.prog w' = .ok (.map (some w'.heap.size)) (w'.alloc (.map #[] 0)) := fun _ => rfl
  have h1 : ¬ (c : Int) ≥ 16 := by omega
  have h2 : ¬ (16 : Int) ≤ (c : Int) := by omega
  have h3 : ¬ 16 ≤ c := by omega
  go_enter Try.func8, Try.ntmps8
  go_wp2
  go_ret2
  obtain ⟨w3, hw3⟩ : ∃ w3, ((w.alloc (.map #[] 0)).alloc (.map #[] 0)).alloc (.cells #[.int .u32 (c : Nat), .map (some w.heap.size), .map (some (w.heap.size + 1)), .slice none 0 0] 86) = w3 := ⟨_, rfl⟩
  have hs : w3.heap.size = w.heap.size + 3 := by rw [← hw3]; simp
  have hf : Fr (fun _ => False) w w3 := by rw [← hw3]; exact ((box1 w _).alloc _).alloc _
  have hb : w3.heap[w.heap.size + 2]? = some (.cells #[.int .u32 (c : Nat), .map (some w.heap.size), .map (some (w.heap.size + 1)), .slice none 0 0] 86) := by
    rw [← hw3]
    have := heap_alloc_new ((w.alloc (.map #[] 0)).alloc (.map #[] 0)) (.cells #[.int .u32 (c : Nat), .map (some w.heap.size), .map (some (w.heap.size + 1)), .slice none 0 0] 86)
    simpa using this
  have hk1 : MpR w3 w.heap.size c 0 (fun _ => none) := (MpR.made w c).keep (by rw [← hw3]; exact (Below.heap_alloc _ _ _ (by simp; omega)).trans (Below.heap_alloc _ _ _ (by simp)))
  have hk2 : MpR w3 (w.heap.size + 1) c 0 (fun _ => none) := by
    have := MpR.made (w.alloc (.map #[] 0)) c
    rw [World.size_alloc] at this
    exact this.keep (by rw [← hw3]; exact Below.heap_alloc _ _ _ (by simp))
  have e1 : fW [] = fun _ => none := by funext k; unfold fW; split <;> simp
  have e2 : fA [] = fun _ => none := by funext k; unfold fA; split <;> simp
  refine ⟨w.heap.size + 2, rfl, ?_, by rw [hw3]; exact hf⟩
  rw [hw3]
  exact ⟨w.heap.size, w.heap.size + 1, h, by simp, hb, by rw [e1]; exact hk1, by rw [e2]; exact hk2, ⟨World.ownsRow_nil _ _ _ _, fun g hg => (by cases hg), by simp⟩, fun q hq => (by simp at hq), fun i q hq => (by simp at hq), by unfold Nb; omega, by omega, fun g hg => hg.2⟩
set_option maxRecDepth 100000 in
theorem snew_no (c : Nat) (w : World) (h : 16 ≤ c) :
    Calls Try.prog 8 #[.int .u32 (c : Nat)] w fun e w' => e = .returned (.tuple #[.pointer none, .int .i64 1]) ∧ w' = w := by
  have h1 : (c : Int) ≥ 16 := by omega
  have h2 : (16 : Int) ≤ (c : Int) := by omega
  go_enter Try.func8, Try.ntmps8
  go_wp2
  go_ret2
  exact ⟨rfl, rfl⟩
theorem permI {cs : List SC} {c : Nat} {D : DataW Value} {ss : List (Nat × Nat)} (hA : AllI D ss) (hD : DR D c (fW cs)) (hc : c < 4294967296) (hl : cs.length < 4294967296) : ss.Perm ((wl cs).map fun k => (c, k)) := by
  have hkl : ∀ k ∈ wl cs, k < 4294967296 := fun k hk => by
    have := (wl_mem cs k).1 hk
    by_cases h : cs.length < k
    · rw [fW_no (.inr h)] at this; cases this
    · omega
  refine (List.perm_ext_iff_of_nodup hA.nd ?_).2 fun p => ?_
  · exact List.pairwise_map.2 ((wl_rise cs).imp fun h e => by simp at e; omega)
  · constructor
    · intro hp
      have hb := hA.lt p hp
      have h2 := (hA.mem p.1 p.2 hb.1 hb.2).1 hp
      rw [hD.has p.1 p.2 hb.1 hb.2, Bool.and_eq_true, decide_eq_true_eq] at h2
      exact List.mem_map.2 ⟨p.2, (wl_mem cs p.2).2 h2.2, by rw [← h2.1]⟩
    · intro hp
      obtain ⟨k, hk, rfl⟩ := List.mem_map.1 hp
      refine (hA.mem c k hc (hkl k hk)).2 ?_
      rw [hD.has c k hc (hkl k hk), (wl_mem cs k).1 hk]
      simp
theorem idsI {cs : List SC} {c : Nat} {ss : List (Nat × Nat)} (hp : ss.Perm ((wl cs).map fun k => (c, k))) (hs : ss.Pairwise (fun a b => a.2 ≤ b.2)) : ss = (wl cs).map fun k => (c, k) := by
  refine List.Perm.eq_of_pairwise (le := fun a b => a.2 ≤ b.2) (fun a b ha hb h1 h2 => ?_) hs (List.pairwise_map.2 ((wl_rise cs).imp fun h => by simp; omega)) hp
  obtain ⟨k, hk, rfl⟩ := List.mem_map.1 hb
  obtain ⟨k', hk', rfl⟩ := List.mem_map.1 (hp.mem_iff.1 ha)
  simp at h1 h2 ⊢
  omega
theorem keysC (mb : Option Nat) (w : World) : Calls Try.prog 30 #[.map mb] w fun e w' => e = .returned (.func (.func 46) #[] #[.pointer (some ⟨w.heap.size, 0, none⟩)]) ∧ w' = w.alloc (.cells #[.map mb] 83) :=
  callsIn_wide.1 (keysI Fence.wide wide_fn rfl 1 mb w)
set_option maxRecDepth 100000 in
/-- slices.SortedFunc of the keys. -/
theorem sortedI (d mw ma c : Nat) (cs : List SC) (dn : List Nat) (dv : Value) (T : Nat → Prop) (w : World) (h : SsAt w d mw ma c cs dn dv T) :
    Calls Try.prog 29 #[.func (.func 46) #[] #[.pointer (some ⟨w.heap.size, 0, none⟩)], .func (.func 31) #[] #[]] (w.alloc (.cells #[.map (some mw)] 83)) fun e w' => ∃ v, e = .returned v ∧ OwI w' w.heap.size v ((wl cs).map fun k => (c, k)) ∧ Fr (fun _ => False) w w' := by
  obtain ⟨D, hown, hsz, hD⟩ := h.wm
  have hbl := h.lt mw h.own.2.1
  have hn := nWA cs
  have hl := h.len
  have hc := h.c16
  have hseq : SeqGives Fence.wide 1 Try.prog 46 #[.pointer (some ⟨w.heap.size, 0, none⟩)] encI (AllI D) (Maps.size D) (w.alloc (.cells #[.map (some mw)] 83)) :=
    keysI_gives Fence.wide wide_fn rfl 1 (by omega) w.heap.size mw (nW cs) D _ (by simp) (by simp) (ownsMap_keep hown (Below.heap_alloc _ _ mw hbl))
  have HC := hide (collectI 46 #[.pointer (some ⟨w.heap.size, 0, none⟩)] (enters_of Try.func46 (by kernel_rfl) rfl) (AllI D) (Maps.size D) (by omega) _ hseq)
  have HD := hide (And.intro hD (And.intro hsz (And.intro hn (And.intro hl hc))))
  clear hown hsz hD hbl hseq hn hl hc h
  go_enter Try.func29, Try.ntmps29
  go_wp2_with fail
  refine (unhide HC).mono ?_
  rintro e w1 ⟨v, ss, rfl, hS, hrow, hb⟩
  obtain ⟨ao, cap, rfl⟩ := own_formX hrow
  have hpm := permI hS (unhide HD).1 (by have := (unhide HD).2.2.2.2; omega) (by have := (unhide HD).2.2.2.1; omega)
  have hll : ss.length ≤ 1048576 := by
    have h1 := hpm.length_eq
    have h2 := wl_len cs
    have h3 := (unhide HD).2.2.2.1
    simp at h1
    omega
  have HR := hide (And.intro hpm (And.intro hrow hb))
  have HX := hide (sortI_any w1 _ ss ao cap hrow hll)
  clear hS hrow hb hll hpm
  go_wp2_with fail
  refine (unhide HX).mono ?_
  rintro e w2 ⟨rfl, L', hp, hs, hrow2, hf2⟩
  have HY := hide (And.intro hp (And.intro hs (And.intro hrow2 hf2)))
  clear hp hs hrow2 hf2
  go_wp2_with fail
  go_ret
  have e := idsI ((unhide HY).1.trans (unhide HR).1) (unhide HY).2.1
  have hb := (unhide HR).2.2
  have hr2 := (unhide HY).2.2.1
  rw [e] at hr2
  refine ⟨_, rfl, ownsRow_base hr2 (by simp), ?_⟩
  refine ((box1 w _).trans0 (Fr.of_below hb)).trans (unhide HY).2.2.2 (fun g hg hx => ?_)
  have := ((unhide HR).2.1.lt g hx).1
  simp at this
  omega
set_option maxRecDepth 100000 in
/-- Waiting. -/
theorem swaiting_any (d mw ma c : Nat) (cs : List SC) (dn : List Nat) (dv : Value) (T : Nat → Prop) (w : World) (h : SsAt w d mw ma c cs dn dv T) :
    Calls Try.prog 17 #[.pointer (some ⟨d, 0, none⟩)] w fun e w' => ∃ v, e = .returned v ∧ OwI w' w.heap.size v ((wl cs).map fun k => (c, k)) ∧ Fr (fun _ => False) w w' := by
  have c1 := h.cells.2.1
  have HS := hide (sortedI d mw ma c cs dn dv T w h)
  clear h
  go_enter Try.func17, Try.ntmps17
  go_wp2_with fail
  refine (keysC _ _).mono ?_
  rintro e w1 ⟨rfl, rfl⟩
  go_wp2_with fail
  refine (unhide HS).mono ?_
  rintro e w2 ⟨v, rfl, hrow, hf⟩
  go_wp2_with fail
  go_ret
  exact ⟨_, rfl, hrow, hf⟩
set_option maxRecDepth 100000 in
/-- Done. -/
theorem sdone_any (d mw ma c : Nat) (cs : List SC) (dn : List Nat) (dv : Value) (T : Nat → Prop) (w : World) (h : SsAt w d mw ma c cs dn dv T) :
    Calls Try.prog 18 #[.pointer (some ⟨d, 0, none⟩)] w fun e w' => ∃ v, e = .returned v ∧ OwI w' w.heap.size v (dn.map fun k => (c, k)) ∧ Fr (fun _ => False) w w' := by
  have c3 := h.cells.2.2.2.1
  have HC := hide (cloneId dv dn.length (icells (dn.map fun k => (c, k))) w (own_rd h.dn.o (fun u hu => by
    simp only [icells, List.mem_flatMap] at hu
    obtain ⟨p, _, hu⟩ := hu
    simp at hu
    rcases hu with rfl | rfl <;> rfl)) h.dn.l)
  clear h
  go_enter Try.func18, Try.ntmps18
  go_wp2_with fail
  refine (unhide HC).mono ?_
  rintro e w2 ⟨v, rfl, hrow, hf⟩
  go_wp2_with fail
  go_ret
  exact ⟨_, rfl, by unfold OwI; rw [List.length_map]; exact hrow, hf⟩
end Go.Proofs.Ytkiepcdncegniaa

namespace Go.Proofs.Ytkiepcdncegniaa
open Go.RowKit Go.Maps

theorem cell_of_blk {w : World} {b t o : Nat} {cs : Array Value} {v : Value} (h : w.heap[b]? = some (.cells cs t)) (hv : cs[o]? = some v) : w.cell? ⟨b, o, none⟩ = some v := by
  simp [World.cell?, h, hv]
theorem frz_of_blk {w : World} {b t o : Nat} {cs : Array Value} (h : w.heap[b]? = some (.cells cs t)) : w.frozen? ⟨b, o, none⟩ = false := by
  simp [World.frozen?, h]
set_option maxRecDepth 100000 in
set_option maxHeartbeats 2000000 in
/-- Busy, by what the map tells. -/
theorem sbusy_core (d mw cl nu : Nat) (x : List Value) (la n : Value) (hx : x.length = 10) (h1 : ∀ v ∈ x ++ [la, n], v.oneCell' = true) (w : World) (c1 : w.cell? ⟨d, 1, none⟩ = some (.map (some mw)))
    (hL : ∀ W', Fr (fun _ => False) w W' → (Instr.lookup 83 (.map (some mw)) (.agg #[.int .u32 (cl : Nat), .int .u32 (nu : Nat)]) false).run Try.prog W' = .ok (.agg (x ++ [la, n]).toArray) W') :
    Calls Try.prog 15 #[.pointer (some ⟨d, 0, none⟩), .agg #[.int .u32 (cl : Nat), .int .u32 (nu : Nat)]] w fun e w' => e = .returned (.tuple #[la, n]) ∧ Fr (fun _ => False) w w' := by
  have hd : d < w.heap.size := lt_of_cell c1
  have HS : Hid (∀ W', Fr (fun _ => False) (w.alloc (.cells #[.int .u32 (cl : Nat), .int .u32 (nu : Nat)] 29)) W' → W'.cell? ⟨d, 1, none⟩ = some (.map (some mw)) ∧ W'.cell? ⟨w.heap.size, 0, none⟩ = some (.int .u32 (cl : Nat)) ∧ W'.cell? ⟨w.heap.size, 1, none⟩ = some (.int .u32 (nu : Nat)) ∧ (Instr.lookup 83 (.map (some mw)) (.agg #[.int .u32 (cl : Nat), .int .u32 (nu : Nat)]) false).run Try.prog W' = .ok (.agg (x ++ [la, n]).toArray) W') := hide (fun W' hf => by
    have hb : W'.heap[w.heap.size]? = some (.cells #[.int .u32 (cl : Nat), .int .u32 (nu : Nat)] 29) := (hf.block _ (by simp) (fun h => h)).trans (heap_alloc_new w _)
    exact ⟨((box1 w _).trans0 hf).cell (p := ⟨d, 1, none⟩) hd (fun h => h) |>.trans c1, cell_of_blk hb rfl, cell_of_blk hb rfl, hL W' ((box1 w _).trans0 hf)⟩)
  have HV := hide (And.intro hx h1)
  clear hL c1 hx h1
  go_enter Try.func15, Try.ntmps15
  go_wp2_with fail
  obtain ⟨W1, hW1⟩ : ∃ W1, w.alloc (.cells #[.int .u32 (cl : Nat), .int .u32 (nu : Nat)] 29) = W1 := ⟨_, rfl⟩
  have hf1 : Fr (fun _ => False) w W1 := by rw [← hW1]; exact box1 w _
  rw [hW1] at HS
  rw [hW1]
  clear hW1
  refine wp_region_held_drew (S := (fun W => W.cell? ⟨d, 1, none⟩ = some (.map (some mw)) ∧ W.cell? ⟨w.heap.size, 0, none⟩ = some (.int .u32 (cl : Nat)) ∧ W.cell? ⟨w.heap.size, 1, none⟩ = some (.int .u32 (nu : Nat)) ∧ (Instr.lookup 83 (.map (some mw)) (.agg #[.int .u32 (cl : Nat), .int .u32 (nu : Nat)]) false).run Try.prog W = .ok (.agg (x ++ [la, n]).toArray) W)) (by kernel_rfl) ((unhide HS) _ (Fr.refl _ _).drew) (fun hHeld => ?_)
  refine wtk2 (i := 0) rfl hHeld ?_
  (try simp only [Act.put, nrm])
  refine wtk2 (i := 1) rfl hHeld ?_
  (try simp only [Act.put, nrm])
  refine wtk2 (i := 2) rfl hHeld ?_
  (try simp only [Act.put, nrm])
  refine wtk2 (i := 3) rfl hHeld ?_
  (try simp only [Act.put, nrm])
  refine wtk2 (i := 4) rfl hHeld ?_
  (try simp only [Act.put, nrm])
  refine wtk2 (i := 5) rfl hHeld ?_
  (try simp only [Act.put, nrm])
  refine wpAnyH_ready (rs := [6]) (by kernel_rfl) (by simp) (AllReadyH.cons rfl (fun K hK => ?_) AllReadyH.nil)
  go_simp
  refine hK.out _ _ ((unhide HS) _ ((Fr.refl _ _).drew.alloc _)) (fun hHeld => ?_)
  clear hK K
  (try simp only [Act.put, nrm])
  have hb0 : (W1.drew.alloc (.cells [.int .u32 0, .int .u32 0, .int .u32 0, .int .u8 0, .int .u32 0, .int .u32 0, .int .u32 0, .int .u32 0, .slice none 0 0, .string ⟨#[]⟩, .int .i64 0, .int .i64 0].toArray 89)).heap[W1.heap.size]? = some (.cells [.int .u32 0, .int .u32 0, .int .u32 0, .int .u8 0, .int .u32 0, .int .u32 0, .int .u32 0, .int .u32 0, .slice none 0 0, .string ⟨#[]⟩, .int .i64 0, .int .i64 0].toArray 89) := heap_alloc_new W1.drew _
  obtain ⟨W8, hst, hb8, hf8⟩ := st_all (P := Try.prog) (ty := 89) [.int .u32 0, .int .u32 0, .int .u32 0, .int .u8 0, .int .u32 0, .int .u32 0, .int .u32 0, .int .u32 0, .slice none 0 0, .string ⟨#[]⟩, .int .i64 0, .int .i64 0] (x ++ [la, n]) hb0 (by simp [(unhide HV).1]) (by rw [Try.sizeCa]; simp [(unhide HV).1]) (unhide HV).2
  have hf18 : Fr (fun _ => False) W1 W8 := ((Fr.refl _ _).drew.alloc _).trans hf8 (fun k hk e => by omega)
  have hc1 : W8.cell? ⟨W1.heap.size, 10, none⟩ = some la := cell_of_blk hb8 (by simp [(unhide HV).1])
  have hc2 : W8.cell? ⟨W1.heap.size, 11, none⟩ = some n := cell_of_blk hb8 (by simp [(unhide HV).1])
  have HF := hide (And.intro (hf1.trans0 hf18) hf18)
  have HST := hide hst
  clear hst hb8 hf8 hf18 hb0
  refine wpAnyH_ready (rs := [7]) (by kernel_rfl) (by simp) (AllReadyH.cons rfl (fun K hK => ?_) AllReadyH.nil)
  refine step_stN rfl 89 (.tmp 6) (.tmp 12) rfl _ _ (by simp [Act.eval]) (by simp [Act.eval]) (unhide HST) ?_
  refine hK.out _ _ ((unhide HS) _ (unhide HF).2) (fun hHeld => ?_)
  clear hK K
  (try simp only [Act.put, nrm])
  refine wpAnyH_done (by kernel_rfl) ?_ _
  clear hHeld HS HST hf1
  go_wp2_with fail
  go_quiet (fail)
  go_wp2_with fail
  go_ret2
  exact ⟨rfl, (unhide HF).1.drewN _⟩
end Go.Proofs.Ytkiepcdncegniaa

namespace Go.Proofs.Ytkiepcdncegniaa
open Go.RowKit Go.Maps

theorem SC.one {w : World} {T : Nat → Prop} {q : SC} (h : QOk w T q) (hd : q.d = none) : ∀ v ∈ q.cs, v.oneCell' = true := by
  intro v hv
  rcases List.mem_append.1 hv with h1 | h1
  · exact RQ.one q.r (own_one (h.wt hd).o) v h1
  · simp at h1
    rcases h1 with rfl | rfl <;> rfl
theorem SsAt.look_w {w : World} {d mw ma c : Nat} {cs : List SC} {dn : List Nat} {dv : Value} {T : Nat → Prop} (h : SsAt w d mw ma c cs dn dv T) {i : Nat} {q : SC} (hq : cs[i]? = some q) (hd : q.d = none) :
    ∀ W', Fr (fun _ => False) w W' → (Instr.lookup 83 (.map (some mw)) (.agg #[.int .u32 (c : Nat), .int .u32 ((i + 1 : Nat) : Int)]) true).run Try.prog W' = .ok (.tuple #[.agg q.cs.toArray, .bool true]) W' ∧ (Instr.lookup 83 (.map (some mw)) (.agg #[.int .u32 (c : Nat), .int .u32 ((i + 1 : Nat) : Int)]) false).run Try.prog W' = .ok (.agg q.cs.toArray) W' := fun W' hf => by
  have hl := (List.getElem?_eq_some_iff.1 hq).1
  have hcl := h.len
  have hc := h.c16
  exact (h.fr0 hf).wm.look_yes (by omega) Try.underlying83 (Try.zeroValue89 W') (by omega) (fW_at hq hd)
theorem SsAt.look_wn {w : World} {d mw ma c : Nat} {cs : List SC} {dn : List Nat} {dv : Value} {T : Nat → Prop} (h : SsAt w d mw ma c cs dn dv T) {cl k : Nat} (hcl : cl < 4294967296) (hk : k < 4294967296) (hn : cl = c → fW cs k = none) :
    ∀ W', Fr (fun _ => False) w W' → (Instr.lookup 83 (.map (some mw)) (.agg #[.int .u32 (cl : Nat), .int .u32 (k : Nat)]) true).run Try.prog W' = .ok (.tuple #[.agg #[.int .u32 0, .int .u32 0, .int .u32 0, .int .u8 0, .int .u32 0, .int .u32 0, .int .u32 0, .int .u32 0, .slice none 0 0, .string ⟨#[]⟩, .int .i64 0, .int .i64 0], .bool false]) W' ∧ (Instr.lookup 83 (.map (some mw)) (.agg #[.int .u32 (cl : Nat), .int .u32 (k : Nat)]) false).run Try.prog W' = .ok (.agg #[.int .u32 0, .int .u32 0, .int .u32 0, .int .u8 0, .int .u32 0, .int .u32 0, .int .u32 0, .int .u32 0, .slice none 0 0, .string ⟨#[]⟩, .int .i64 0, .int .i64 0]) W' := fun W' hf =>
  (h.fr0 hf).wm.look_no Try.underlying83 (Try.zeroValue89 W') hcl hk hn
theorem SsAt.look_a {w : World} {d mw ma c : Nat} {cs : List SC} {dn : List Nat} {dv : Value} {T : Nat → Prop} (h : SsAt w d mw ma c cs dn dv T) {i : Nat} {q : SC} {x : AD} (hq : cs[i]? = some q) (hd : q.d = some x) :
    ∀ W', Fr (fun _ => False) w W' → (Instr.lookup 84 (.map (some ma)) (.agg #[.int .u32 (c : Nat), .int .u32 ((i + 1 : Nat) : Int)]) true).run Try.prog W' = .ok (.tuple #[.agg x.a.cs.toArray, .bool true]) W' := fun W' hf => by
  have hl := (List.getElem?_eq_some_iff.1 hq).1
  have hcl := h.len
  have hc := h.c16
  exact ((h.fr0 hf).am.look_yes (by omega) Try.underlying84 (Try.zeroValue44 W') (by omega) (fA_at hq hd)).1
theorem SsAt.look_an {w : World} {d mw ma c : Nat} {cs : List SC} {dn : List Nat} {dv : Value} {T : Nat → Prop} (h : SsAt w d mw ma c cs dn dv T) {cl k : Nat} (hcl : cl < 4294967296) (hk : k < 4294967296) (hn : cl = c → fA cs k = none) :
    ∀ W', Fr (fun _ => False) w W' → (Instr.lookup 84 (.map (some ma)) (.agg #[.int .u32 (cl : Nat), .int .u32 (k : Nat)]) true).run Try.prog W' = .ok (.tuple #[.agg #[.int .u32 0, .int .u32 0, .int .u8 0, .int .u32 0, .int .u32 0, .slice none 0 0, .slice none 0 0], .bool false]) W' := fun W' hf =>
  ((h.fr0 hf).am.look_no Try.underlying84 (Try.zeroValue44 W') hcl hk hn).1
/-- Busy. -/
theorem sbusy_yes (d mw ma c : Nat) (cs : List SC) (dn : List Nat) (dv : Value) (T : Nat → Prop) (w : World) (h : SsAt w d mw ma c cs dn dv T) (i : Nat) (q : SC) (hq : cs[i]? = some q) (hd : q.d = none) :
    Calls Try.prog 15 #[.pointer (some ⟨d, 0, none⟩), .agg #[.int .u32 (c : Nat), .int .u32 ((i + 1 : Nat) : Int)]] w fun e w' => e = .returned (.tuple #[.int .i64 q.la, .int .i64 (q.n : Nat)]) ∧ Fr (fun _ => False) w w' :=
  sbusy_core d mw c (i + 1) q.r.cs _ _ rfl (SC.one (h.qs q (List.mem_of_getElem? hq)) hd) w h.cells.2.1 (fun W' hf => (h.look_w hq hd W' hf).2)
theorem sbusy_no (d mw ma c : Nat) (cs : List SC) (dn : List Nat) (dv : Value) (T : Nat → Prop) (w : World) (h : SsAt w d mw ma c cs dn dv T) (cl k : Nat) (hcl : cl < 4294967296) (hk : k < 4294967296) (hn : cl = c → fW cs k = none) :
    Calls Try.prog 15 #[.pointer (some ⟨d, 0, none⟩), .agg #[.int .u32 (cl : Nat), .int .u32 (k : Nat)]] w fun e w' => e = .returned (.tuple #[.int .i64 0, .int .i64 0]) ∧ Fr (fun _ => False) w w' :=
  sbusy_core d mw cl k [.int .u32 0, .int .u32 0, .int .u32 0, .int .u8 0, .int .u32 0, .int .u32 0, .int .u32 0, .int .u32 0, .slice none 0 0, .string ⟨#[]⟩] _ _ rfl (fun v hv => by simp at hv; rcases hv with rfl | rfl | rfl | rfl | rfl | rfl <;> rfl) w h.cells.2.1 (fun W' hf => (h.look_wn hcl hk hn W' hf).2)
/-- A request that waits, refused once more. -/
theorem SsAt.busy {w w1 w2 : World} {d mw ma c : Nat} {cs : List SC} {dn : List Nat} {dv : Value} {T : Nat → Prop} (h : SsAt w d mw ma c cs dn dv T) (hf : Fr (fun _ => False) w w1) {i : Nat} {q q' : SC} (hq : cs[i]? = some q) (hd : q.d = none) (hr : q'.r = q.r) (hF : q'.F = q.F) (hd' : q'.d = none)
    (hm : MpR w2 mw c (nW cs) (fun j => if j = i + 1 then some q'.v else fW cs j)) (hf2 : Fr (fun g => g = mw) w1 w2) : SsAt w2 d mw ma c (cs.set i q') dn dv T := by
  have h1 := h.fr0 hf
  have hi := (List.getElem?_eq_some_iff.1 hq).1
  have hne := h1.dm
  have hn := nA_same cs i q q' hq hd hd'
  have hL : ∀ {e z n : Nat} {v : Value} {xs : List Value}, e ≠ 86 → LsT w1 T e z v n xs → LsT w2 T e z v n xs := fun he hl =>
    ⟨ownsRow_of_block hl.o (fun g hg => hf2.block g (hl.o.lt g hg).2 (fun e => ((hl.ne h1 he hg).2.1) e)), hl.t, hl.l⟩
  refine ⟨h.c16, by rw [List.length_set]; exact h.len, (hf2.block d (h1.lt d h1.own.1) hne.1).trans h1.blk, ?_, ?_, hL (by decide) h1.dn, fun x hx => ?_, fun j x hx => ?_, h.own, h.ap, fun g hg => Nat.lt_of_lt_of_le (h1.lt g hg) hf2.size⟩
  · rw [hn.2, fW_set cs i q' hi, hd']; exact hm
  · rw [hn.1, fA_set cs i q' hi, hd']
    have e : (fun j => if j = i + 1 then (Option.map (fun x : AD => x.a.v) none) else fA cs j) = fA cs := by
      funext j
      by_cases e : j = i + 1
      · subst e; rw [if_pos rfl, fA_wt hq hd]; rfl
      · rw [if_neg e]
    rw [e]
    exact h1.am.keep (hf2.block ma (h1.lt ma h1.own.2.2) (fun e => h.ap e.symm))
  · rcases List.mem_or_eq_of_mem_set hx with hx | rfl
    · exact ⟨fun e => hL (by decide) ((h1.qs x hx).wt e), fun y e => ⟨hL (by decide) ((h1.qs x hx).an y e).1, hL (by decide) ((h1.qs x hx).an y e).2⟩⟩
    · refine ⟨fun _ => ?_, fun y e => by rw [hd'] at e; cases e⟩
      rw [hr, hF]
      exact hL (by decide) ((h1.qs q (List.mem_of_getElem? hq)).wt hd)
  · by_cases e : i = j
    · subst e
      rw [List.getElem?_set_self hi] at hx
      cases hx
      rw [hr]
      exact h.id i q hq
    · rw [List.getElem?_set_ne e] at hx
      exact h.id j x hx
end Go.Proofs.Ytkiepcdncegniaa

namespace Go.Proofs.Ytkiepcdncegniaa
open Go.RowKit Go.Maps

theorem step_mu {P : Program} {w w' : World} {ops : Array Oper} {op : Oper} {a : Act} {K : Act → World → Prop} {Q : Exit → Act → World → Prop} {E : Prop} (hgd : op.guard = none) (t : TypeId) (m x y : Operand) (ho : op.op = .mapUpdate t m x y)
    (vm vx vy : Value) (hm : a.eval m = vm) (hx : a.eval x = vx) (hy : a.eval y = vy) (hr : (Instr.mapUpdate t vm vx vy).run P w = .ok () w')
    (h : K (a.put op.dst undef) w') : if Region.wanted op (yielded ops a.tmps) = true then Oper.wp P op a w K Q else E := by
  have hw : Region.wanted op (yielded ops a.tmps) = true := by simp [Region.wanted, hgd]
  rw [if_pos hw]
  unfold Oper.wp execOp
  simp only [ho, hm, hx, hy, Sem.run_bind, hr, Result.andThen_ok, Sem.run_pure]
  exact h
set_option maxRecDepth 100000 in
set_option maxHeartbeats 2000000 in
theorem stb_none (d mw ma cl nu : Nat) (y : Int)  (w : World) (c1 : w.cell? ⟨d, 1, none⟩ = some (.map (some mw))) (c2 : w.cell? ⟨d, 2, none⟩ = some (.map (some ma)))
    (hL : ∀ W', Fr (fun _ => False) w W' → (Instr.lookup 83 (.map (some mw)) (.agg #[.int .u32 (cl : Nat), .int .u32 (nu : Nat)]) true).run Try.prog W' = .ok (.tuple #[.agg [.int .u32 0, .int .u32 0, .int .u32 0, .int .u8 0, .int .u32 0, .int .u32 0, .int .u32 0, .int .u32 0, .slice none 0 0, .string ⟨#[]⟩, .int .i64 0, .int .i64 0].toArray, .bool false]) W') (hM : ∀ W', Fr (fun _ => False) w W' → (Instr.lookup 84 (.map (some ma)) (.agg #[.int .u32 (cl : Nat), .int .u32 (nu : Nat)]) true).run Try.prog W' = .ok (.tuple #[.agg [.int .u32 0, .int .u32 0, .int .u8 0, .int .u32 0, .int .u32 0, .slice none 0 0, .slice none 0 0].toArray, .bool false]) W') :
    Calls Try.prog 28 #[.pointer (some ⟨d, 0, none⟩), .agg #[.int .u32 (cl : Nat), .int .u32 (nu : Nat)], .int .i64 y] w fun e w' => e = .returned (.int .i64 15) ∧ Fr (fun _ => False) w w' := by
  have hd : d < w.heap.size := lt_of_cell c1
  have HS : Hid (∀ W', Fr (fun _ => False) (w.alloc (.cells #[.int .u32 (cl : Nat), .int .u32 (nu : Nat)] 29)) W' → (W'.cell? ⟨d, 1, none⟩ = some (.map (some mw)) ∧ W'.cell? ⟨d, 2, none⟩ = some (.map (some ma))) ∧ W'.cell? ⟨w.heap.size, 0, none⟩ = some (.int .u32 (cl : Nat)) ∧ W'.cell? ⟨w.heap.size, 1, none⟩ = some (.int .u32 (nu : Nat)) ∧ Fr (fun _ => False) w W') := hide (fun W' hf => by
    have hb : W'.heap[w.heap.size]? = some (.cells #[.int .u32 (cl : Nat), .int .u32 (nu : Nat)] 29) := (hf.block _ (by simp) (fun h => h)).trans (heap_alloc_new w _)
    exact ⟨⟨((box1 w _).trans0 hf).cell (p := ⟨d, 1, none⟩) hd (fun h => h) |>.trans c1, ((box1 w _).trans0 hf).cell (p := ⟨d, 2, none⟩) hd (fun h => h) |>.trans c2⟩, cell_of_blk hb rfl, cell_of_blk hb rfl, (box1 w _).trans0 hf⟩)
  have HL := hide hL
  have HM := hide hM
  clear hL hM c1 c2
  go_enter Try.func28, Try.ntmps28
  go_wp2_with fail
  obtain ⟨W1, hW1⟩ : ∃ W1, w.alloc (.cells #[.int .u32 (cl : Nat), .int .u32 (nu : Nat)] 29) = W1 := ⟨_, rfl⟩
  have hf1 : Fr (fun _ => False) w W1 := by rw [← hW1]; exact box1 w _
  rw [hW1] at HS
  rw [hW1]
  clear hW1
  have HSW : Hid (∀ W', Fr (fun _ => False) W1 W' → (W'.cell? ⟨d, 1, none⟩ = some (.map (some mw)) ∧ W'.cell? ⟨w.heap.size, 0, none⟩ = some (.int .u32 (cl : Nat)) ∧ W'.cell? ⟨w.heap.size, 1, none⟩ = some (.int .u32 (nu : Nat)) ∧ (Instr.lookup 83 (.map (some mw)) (.agg #[.int .u32 (cl : Nat), .int .u32 (nu : Nat)]) true).run Try.prog W' = .ok (.tuple #[.agg [.int .u32 0, .int .u32 0, .int .u32 0, .int .u8 0, .int .u32 0, .int .u32 0, .int .u32 0, .int .u32 0, .slice none 0 0, .string ⟨#[]⟩, .int .i64 0, .int .i64 0].toArray, .bool false]) W')) := hide (fun W' hf => ⟨((unhide HS) W' hf).1.1, ((unhide HS) W' hf).2.1, ((unhide HS) W' hf).2.2.1, (unhide HL) W' ((unhide HS) W' hf).2.2.2⟩)
  have HSA : Hid (∀ W', Fr (fun _ => False) W1 W' → (W'.cell? ⟨d, 2, none⟩ = some (.map (some ma)) ∧ W'.cell? ⟨w.heap.size, 0, none⟩ = some (.int .u32 (cl : Nat)) ∧ W'.cell? ⟨w.heap.size, 1, none⟩ = some (.int .u32 (nu : Nat)) ∧ (Instr.lookup 84 (.map (some ma)) (.agg #[.int .u32 (cl : Nat), .int .u32 (nu : Nat)]) true).run Try.prog W' = .ok (.tuple #[.agg [.int .u32 0, .int .u32 0, .int .u8 0, .int .u32 0, .int .u32 0, .slice none 0 0, .slice none 0 0].toArray, .bool false]) W')) := hide (fun W' hf => ⟨((unhide HS) W' hf).1.2, ((unhide HS) W' hf).2.1, ((unhide HS) W' hf).2.2.1, (unhide HM) W' ((unhide HS) W' hf).2.2.2⟩)
  refine wp_region_held_drew (S := (fun W => W.cell? ⟨d, 1, none⟩ = some (.map (some mw)) ∧ W.cell? ⟨w.heap.size, 0, none⟩ = some (.int .u32 (cl : Nat)) ∧ W.cell? ⟨w.heap.size, 1, none⟩ = some (.int .u32 (nu : Nat)) ∧ (Instr.lookup 83 (.map (some mw)) (.agg #[.int .u32 (cl : Nat), .int .u32 (nu : Nat)]) true).run Try.prog W = .ok (.tuple #[.agg [.int .u32 0, .int .u32 0, .int .u32 0, .int .u8 0, .int .u32 0, .int .u32 0, .int .u32 0, .int .u32 0, .slice none 0 0, .string ⟨#[]⟩, .int .i64 0, .int .i64 0].toArray, .bool false]) W)) (by kernel_rfl) ((unhide HSW) _ (Fr.refl _ _).drew) (fun hHeld => ?_)
  refine wtk2 (i := 0) rfl hHeld ?_
  (try simp only [Act.put, nrm])
  refine wtk2 (i := 1) rfl hHeld ?_
  (try simp only [Act.put, nrm])
  refine wtk2 (i := 2) rfl hHeld ?_
  (try simp only [Act.put, nrm])
  refine wtk2 (i := 3) rfl hHeld ?_
  (try simp only [Act.put, nrm])
  refine wtk2 (i := 4) rfl hHeld ?_
  (try simp only [Act.put, nrm])
  refine wtk2 (i := 5) rfl hHeld ?_
  (try simp only [Act.put, nrm])
  refine wtk2 (i := 6) rfl hHeld ?_
  (try simp only [Act.put, nrm])
  refine wtk2 (i := 7) rfl hHeld ?_
  (try simp only [Act.put, nrm])
  refine wtk2 (i := 8) rfl hHeld ?_
  (try simp only [Act.put, nrm])
  refine wpAnyH_ready (rs := [9]) (by kernel_rfl) (by simp) (AllReadyH.cons rfl (fun K hK => ?_) AllReadyH.nil)
  go_simp
  refine hK.out _ _ ((unhide HSW) _ ((Fr.refl _ _).drew.alloc _)) (fun hHeld => ?_)
  clear hK K
  (try simp only [Act.put, nrm])
  have hb0 : (W1.drew.alloc (.cells [.int .u32 0, .int .u32 0, .int .u32 0, .int .u8 0, .int .u32 0, .int .u32 0, .int .u32 0, .int .u32 0, .slice none 0 0, .string ⟨#[]⟩, .int .i64 0, .int .i64 0].toArray 89)).heap[W1.heap.size]? = some (.cells [.int .u32 0, .int .u32 0, .int .u32 0, .int .u8 0, .int .u32 0, .int .u32 0, .int .u32 0, .int .u32 0, .slice none 0 0, .string ⟨#[]⟩, .int .i64 0, .int .i64 0].toArray 89) := heap_alloc_new W1.drew _
  obtain ⟨W8, hst, hb8, hf8⟩ := st_all (P := Try.prog) (ty := 89) [.int .u32 0, .int .u32 0, .int .u32 0, .int .u8 0, .int .u32 0, .int .u32 0, .int .u32 0, .int .u32 0, .slice none 0 0, .string ⟨#[]⟩, .int .i64 0, .int .i64 0] [.int .u32 0, .int .u32 0, .int .u32 0, .int .u8 0, .int .u32 0, .int .u32 0, .int .u32 0, .int .u32 0, .slice none 0 0, .string ⟨#[]⟩, .int .i64 0, .int .i64 0] hb0 rfl Try.sizeCa (List.all_eq_true.1 (show List.all ([.int .u32 0, .int .u32 0, .int .u32 0, .int .u8 0, .int .u32 0, .int .u32 0, .int .u32 0, .int .u32 0, .slice none 0 0, .string ⟨#[]⟩, .int .i64 0, .int .i64 0] : List Value) (fun v => v.oneCell') = true from rfl))
  have hf18 : Fr (fun _ => False) W1 W8 := ((Fr.refl _ _).drew.alloc _).trans hf8 (fun k hk e => by omega)
  have HF8 := hide hf18
  have HST := hide hst
  clear hst hb8 hf8 hf18 hb0
  refine wpAnyH_ready (rs := [10]) (by kernel_rfl) (by simp) (AllReadyH.cons rfl (fun K hK => ?_) AllReadyH.nil)
  refine step_stN rfl 89 (.tmp 7) (.tmp 18) rfl _ _ (by simp [Act.eval]) (by simp [Act.eval]) (unhide HST) ?_
  refine hK.out _ _ ((unhide HSW) _ (unhide HF8)) (fun hHeld => ?_)
  clear hK K
  (try simp only [Act.put, nrm])
  refine wtk2 (i := 11) rfl hHeld ?_
  (try simp only [Act.put, nrm])
  refine wpAnyH_done (by kernel_rfl) ?_ _
  clear hHeld HSW HST
  go_wp2_with fail
  refine wp_region_held_drew (S := (fun W => W.cell? ⟨d, 2, none⟩ = some (.map (some ma)) ∧ W.cell? ⟨w.heap.size, 0, none⟩ = some (.int .u32 (cl : Nat)) ∧ W.cell? ⟨w.heap.size, 1, none⟩ = some (.int .u32 (nu : Nat)) ∧ (Instr.lookup 84 (.map (some ma)) (.agg #[.int .u32 (cl : Nat), .int .u32 (nu : Nat)]) true).run Try.prog W = .ok (.tuple #[.agg [.int .u32 0, .int .u32 0, .int .u8 0, .int .u32 0, .int .u32 0, .slice none 0 0, .slice none 0 0].toArray, .bool false]) W)) (by kernel_rfl) ((unhide HSA) _ ((unhide HF8).drew)) (fun hHeld => ?_)
  refine wtk2 (i := 0) rfl hHeld ?_
  (try simp only [Act.put, nrm])
  refine wtk2 (i := 1) rfl hHeld ?_
  (try simp only [Act.put, nrm])
  refine wtk2 (i := 2) rfl hHeld ?_
  (try simp only [Act.put, nrm])
  refine wtk2 (i := 3) rfl hHeld ?_
  (try simp only [Act.put, nrm])
  refine wtk2 (i := 4) rfl hHeld ?_
  (try simp only [Act.put, nrm])
  refine wtk2 (i := 5) rfl hHeld ?_
  (try simp only [Act.put, nrm])
  refine wtk2 (i := 6) rfl hHeld ?_
  (try simp only [Act.put, nrm])
  refine wtk2 (i := 7) rfl hHeld ?_
  (try simp only [Act.put, nrm])
  refine wtk2 (i := 8) rfl hHeld ?_
  (try simp only [Act.put, nrm])
  refine wpAnyH_ready (rs := [9]) (by kernel_rfl) (by simp) (AllReadyH.cons rfl (fun K hK => ?_) AllReadyH.nil)
  go_simp
  refine hK.out _ _ ((unhide HSA) _ ((unhide HF8).drew.alloc _)) (fun hHeld => ?_)
  clear hK K
  (try simp only [Act.put, nrm])
  have hb0 : (W8.drew.alloc (.cells [.int .u32 0, .int .u32 0, .int .u8 0, .int .u32 0, .int .u32 0, .slice none 0 0, .slice none 0 0].toArray 44)).heap[W8.heap.size]? = some (.cells [.int .u32 0, .int .u32 0, .int .u8 0, .int .u32 0, .int .u32 0, .slice none 0 0, .slice none 0 0].toArray 44) := heap_alloc_new W8.drew _
  obtain ⟨W9, hst, hb9, hf9⟩ := st_all (P := Try.prog) (ty := 44) [.int .u32 0, .int .u32 0, .int .u8 0, .int .u32 0, .int .u32 0, .slice none 0 0, .slice none 0 0] [.int .u32 0, .int .u32 0, .int .u8 0, .int .u32 0, .int .u32 0, .slice none 0 0, .slice none 0 0] hb0 rfl Try.sizeAn (List.all_eq_true.1 (show List.all ([.int .u32 0, .int .u32 0, .int .u8 0, .int .u32 0, .int .u32 0, .slice none 0 0, .slice none 0 0] : List Value) (fun v => v.oneCell') = true from rfl))
  have hs18 := (unhide HF8).size
  have hf19 : Fr (fun _ => False) W1 W9 := ((unhide HF8).drew.alloc _).trans hf9 (fun k hk e => by omega)
  have HF9 := hide (And.intro (hf1.trans0 hf19) hf19)
  have HST := hide hst
  clear hst hb9 hf9 hf19 hb0 hs18
  refine wpAnyH_ready (rs := [10]) (by kernel_rfl) (by simp) (AllReadyH.cons rfl (fun K hK => ?_) AllReadyH.nil)
  refine step_stN rfl 44 (.tmp 9) (.tmp 40) rfl _ _ (by simp [Act.eval]) (by simp [Act.eval]) (unhide HST) ?_
  refine hK.out _ _ ((unhide HSA) _ (unhide HF9).2) (fun hHeld => ?_)
  clear hK K
  (try simp only [Act.put, nrm])
  refine wtk2 (i := 11) rfl hHeld ?_
  (try simp only [Act.put, nrm])
  refine wpAnyH_done (by kernel_rfl) ?_ _
  clear hHeld HSA HST
  go_wp2_with fail
  go_ret
  exact ⟨rfl, (unhide HF9).1⟩
set_option maxRecDepth 100000 in
set_option maxHeartbeats 2000000 in
theorem stb_done (d mw ma cl nu : Nat) (y : Int) (A : AN) (h7 : ∀ v ∈ A.cs, v.oneCell' = true) (w : World) (c1 : w.cell? ⟨d, 1, none⟩ = some (.map (some mw))) (c2 : w.cell? ⟨d, 2, none⟩ = some (.map (some ma)))
    (hL : ∀ W', Fr (fun _ => False) w W' → (Instr.lookup 83 (.map (some mw)) (.agg #[.int .u32 (cl : Nat), .int .u32 (nu : Nat)]) true).run Try.prog W' = .ok (.tuple #[.agg [.int .u32 0, .int .u32 0, .int .u32 0, .int .u8 0, .int .u32 0, .int .u32 0, .int .u32 0, .int .u32 0, .slice none 0 0, .string ⟨#[]⟩, .int .i64 0, .int .i64 0].toArray, .bool false]) W') (hM : ∀ W', Fr (fun _ => False) w W' → (Instr.lookup 84 (.map (some ma)) (.agg #[.int .u32 (cl : Nat), .int .u32 (nu : Nat)]) true).run Try.prog W' = .ok (.tuple #[.agg A.cs.toArray, .bool true]) W') :
    Calls Try.prog 28 #[.pointer (some ⟨d, 0, none⟩), .agg #[.int .u32 (cl : Nat), .int .u32 (nu : Nat)], .int .i64 y] w fun e w' => e = .returned (.int .i64 0) ∧ Fr (fun _ => False) w w' := by
  have hd : d < w.heap.size := lt_of_cell c1
  have HS : Hid (∀ W', Fr (fun _ => False) (w.alloc (.cells #[.int .u32 (cl : Nat), .int .u32 (nu : Nat)] 29)) W' → (W'.cell? ⟨d, 1, none⟩ = some (.map (some mw)) ∧ W'.cell? ⟨d, 2, none⟩ = some (.map (some ma))) ∧ W'.cell? ⟨w.heap.size, 0, none⟩ = some (.int .u32 (cl : Nat)) ∧ W'.cell? ⟨w.heap.size, 1, none⟩ = some (.int .u32 (nu : Nat)) ∧ Fr (fun _ => False) w W') := hide (fun W' hf => by
    have hb : W'.heap[w.heap.size]? = some (.cells #[.int .u32 (cl : Nat), .int .u32 (nu : Nat)] 29) := (hf.block _ (by simp) (fun h => h)).trans (heap_alloc_new w _)
    exact ⟨⟨((box1 w _).trans0 hf).cell (p := ⟨d, 1, none⟩) hd (fun h => h) |>.trans c1, ((box1 w _).trans0 hf).cell (p := ⟨d, 2, none⟩) hd (fun h => h) |>.trans c2⟩, cell_of_blk hb rfl, cell_of_blk hb rfl, (box1 w _).trans0 hf⟩)
  have HL := hide hL
  have HM := hide hM
  clear hL hM c1 c2
  go_enter Try.func28, Try.ntmps28
  go_wp2_with fail
  obtain ⟨W1, hW1⟩ : ∃ W1, w.alloc (.cells #[.int .u32 (cl : Nat), .int .u32 (nu : Nat)] 29) = W1 := ⟨_, rfl⟩
  have hf1 : Fr (fun _ => False) w W1 := by rw [← hW1]; exact box1 w _
  rw [hW1] at HS
  rw [hW1]
  clear hW1
  have HSW : Hid (∀ W', Fr (fun _ => False) W1 W' → (W'.cell? ⟨d, 1, none⟩ = some (.map (some mw)) ∧ W'.cell? ⟨w.heap.size, 0, none⟩ = some (.int .u32 (cl : Nat)) ∧ W'.cell? ⟨w.heap.size, 1, none⟩ = some (.int .u32 (nu : Nat)) ∧ (Instr.lookup 83 (.map (some mw)) (.agg #[.int .u32 (cl : Nat), .int .u32 (nu : Nat)]) true).run Try.prog W' = .ok (.tuple #[.agg [.int .u32 0, .int .u32 0, .int .u32 0, .int .u8 0, .int .u32 0, .int .u32 0, .int .u32 0, .int .u32 0, .slice none 0 0, .string ⟨#[]⟩, .int .i64 0, .int .i64 0].toArray, .bool false]) W')) := hide (fun W' hf => ⟨((unhide HS) W' hf).1.1, ((unhide HS) W' hf).2.1, ((unhide HS) W' hf).2.2.1, (unhide HL) W' ((unhide HS) W' hf).2.2.2⟩)
  have HSA : Hid (∀ W', Fr (fun _ => False) W1 W' → (W'.cell? ⟨d, 2, none⟩ = some (.map (some ma)) ∧ W'.cell? ⟨w.heap.size, 0, none⟩ = some (.int .u32 (cl : Nat)) ∧ W'.cell? ⟨w.heap.size, 1, none⟩ = some (.int .u32 (nu : Nat)) ∧ (Instr.lookup 84 (.map (some ma)) (.agg #[.int .u32 (cl : Nat), .int .u32 (nu : Nat)]) true).run Try.prog W' = .ok (.tuple #[.agg A.cs.toArray, .bool true]) W')) := hide (fun W' hf => ⟨((unhide HS) W' hf).1.2, ((unhide HS) W' hf).2.1, ((unhide HS) W' hf).2.2.1, (unhide HM) W' ((unhide HS) W' hf).2.2.2⟩)
  refine wp_region_held_drew (S := (fun W => W.cell? ⟨d, 1, none⟩ = some (.map (some mw)) ∧ W.cell? ⟨w.heap.size, 0, none⟩ = some (.int .u32 (cl : Nat)) ∧ W.cell? ⟨w.heap.size, 1, none⟩ = some (.int .u32 (nu : Nat)) ∧ (Instr.lookup 83 (.map (some mw)) (.agg #[.int .u32 (cl : Nat), .int .u32 (nu : Nat)]) true).run Try.prog W = .ok (.tuple #[.agg [.int .u32 0, .int .u32 0, .int .u32 0, .int .u8 0, .int .u32 0, .int .u32 0, .int .u32 0, .int .u32 0, .slice none 0 0, .string ⟨#[]⟩, .int .i64 0, .int .i64 0].toArray, .bool false]) W)) (by kernel_rfl) ((unhide HSW) _ (Fr.refl _ _).drew) (fun hHeld => ?_)
  refine wtk2 (i := 0) rfl hHeld ?_
  (try simp only [Act.put, nrm])
  refine wtk2 (i := 1) rfl hHeld ?_
  (try simp only [Act.put, nrm])
  refine wtk2 (i := 2) rfl hHeld ?_
  (try simp only [Act.put, nrm])
  refine wtk2 (i := 3) rfl hHeld ?_
  (try simp only [Act.put, nrm])
  refine wtk2 (i := 4) rfl hHeld ?_
  (try simp only [Act.put, nrm])
  refine wtk2 (i := 5) rfl hHeld ?_
  (try simp only [Act.put, nrm])
  refine wtk2 (i := 6) rfl hHeld ?_
  (try simp only [Act.put, nrm])
  refine wtk2 (i := 7) rfl hHeld ?_
  (try simp only [Act.put, nrm])
  refine wtk2 (i := 8) rfl hHeld ?_
  (try simp only [Act.put, nrm])
  refine wpAnyH_ready (rs := [9]) (by kernel_rfl) (by simp) (AllReadyH.cons rfl (fun K hK => ?_) AllReadyH.nil)
  go_simp
  refine hK.out _ _ ((unhide HSW) _ ((Fr.refl _ _).drew.alloc _)) (fun hHeld => ?_)
  clear hK K
  (try simp only [Act.put, nrm])
  have hb0 : (W1.drew.alloc (.cells [.int .u32 0, .int .u32 0, .int .u32 0, .int .u8 0, .int .u32 0, .int .u32 0, .int .u32 0, .int .u32 0, .slice none 0 0, .string ⟨#[]⟩, .int .i64 0, .int .i64 0].toArray 89)).heap[W1.heap.size]? = some (.cells [.int .u32 0, .int .u32 0, .int .u32 0, .int .u8 0, .int .u32 0, .int .u32 0, .int .u32 0, .int .u32 0, .slice none 0 0, .string ⟨#[]⟩, .int .i64 0, .int .i64 0].toArray 89) := heap_alloc_new W1.drew _
  obtain ⟨W8, hst, hb8, hf8⟩ := st_all (P := Try.prog) (ty := 89) [.int .u32 0, .int .u32 0, .int .u32 0, .int .u8 0, .int .u32 0, .int .u32 0, .int .u32 0, .int .u32 0, .slice none 0 0, .string ⟨#[]⟩, .int .i64 0, .int .i64 0] [.int .u32 0, .int .u32 0, .int .u32 0, .int .u8 0, .int .u32 0, .int .u32 0, .int .u32 0, .int .u32 0, .slice none 0 0, .string ⟨#[]⟩, .int .i64 0, .int .i64 0] hb0 rfl Try.sizeCa (List.all_eq_true.1 (show List.all ([.int .u32 0, .int .u32 0, .int .u32 0, .int .u8 0, .int .u32 0, .int .u32 0, .int .u32 0, .int .u32 0, .slice none 0 0, .string ⟨#[]⟩, .int .i64 0, .int .i64 0] : List Value) (fun v => v.oneCell') = true from rfl))
  have hf18 : Fr (fun _ => False) W1 W8 := ((Fr.refl _ _).drew.alloc _).trans hf8 (fun k hk e => by omega)
  have HF8 := hide hf18
  have HST := hide hst
  clear hst hb8 hf8 hf18 hb0
  refine wpAnyH_ready (rs := [10]) (by kernel_rfl) (by simp) (AllReadyH.cons rfl (fun K hK => ?_) AllReadyH.nil)
  refine step_stN rfl 89 (.tmp 7) (.tmp 18) rfl _ _ (by simp [Act.eval]) (by simp [Act.eval]) (unhide HST) ?_
  refine hK.out _ _ ((unhide HSW) _ (unhide HF8)) (fun hHeld => ?_)
  clear hK K
  (try simp only [Act.put, nrm])
  refine wtk2 (i := 11) rfl hHeld ?_
  (try simp only [Act.put, nrm])
  refine wpAnyH_done (by kernel_rfl) ?_ _
  clear hHeld HSW HST
  go_wp2_with fail
  refine wp_region_held_drew (S := (fun W => W.cell? ⟨d, 2, none⟩ = some (.map (some ma)) ∧ W.cell? ⟨w.heap.size, 0, none⟩ = some (.int .u32 (cl : Nat)) ∧ W.cell? ⟨w.heap.size, 1, none⟩ = some (.int .u32 (nu : Nat)) ∧ (Instr.lookup 84 (.map (some ma)) (.agg #[.int .u32 (cl : Nat), .int .u32 (nu : Nat)]) true).run Try.prog W = .ok (.tuple #[.agg A.cs.toArray, .bool true]) W)) (by kernel_rfl) ((unhide HSA) _ ((unhide HF8).drew)) (fun hHeld => ?_)
  refine wtk2 (i := 0) rfl hHeld ?_
  (try simp only [Act.put, nrm])
  refine wtk2 (i := 1) rfl hHeld ?_
  (try simp only [Act.put, nrm])
  refine wtk2 (i := 2) rfl hHeld ?_
  (try simp only [Act.put, nrm])
  refine wtk2 (i := 3) rfl hHeld ?_
  (try simp only [Act.put, nrm])
  refine wtk2 (i := 4) rfl hHeld ?_
  (try simp only [Act.put, nrm])
  refine wtk2 (i := 5) rfl hHeld ?_
  (try simp only [Act.put, nrm])
  refine wtk2 (i := 6) rfl hHeld ?_
  (try simp only [Act.put, nrm])
  refine wtk2 (i := 7) rfl hHeld ?_
  (try simp only [Act.put, nrm])
  refine wtk2 (i := 8) rfl hHeld ?_
  (try simp only [Act.put, nrm])
  refine wpAnyH_ready (rs := [9]) (by kernel_rfl) (by simp) (AllReadyH.cons rfl (fun K hK => ?_) AllReadyH.nil)
  go_simp
  refine hK.out _ _ ((unhide HSA) _ ((unhide HF8).drew.alloc _)) (fun hHeld => ?_)
  clear hK K
  (try simp only [Act.put, nrm])
  have hb0 : (W8.drew.alloc (.cells [.int .u32 0, .int .u32 0, .int .u8 0, .int .u32 0, .int .u32 0, .slice none 0 0, .slice none 0 0].toArray 44)).heap[W8.heap.size]? = some (.cells [.int .u32 0, .int .u32 0, .int .u8 0, .int .u32 0, .int .u32 0, .slice none 0 0, .slice none 0 0].toArray 44) := heap_alloc_new W8.drew _
  obtain ⟨W9, hst, hb9, hf9⟩ := st_all (P := Try.prog) (ty := 44) [.int .u32 0, .int .u32 0, .int .u8 0, .int .u32 0, .int .u32 0, .slice none 0 0, .slice none 0 0] A.cs hb0 rfl Try.sizeAn h7
  have hs18 := (unhide HF8).size
  have hf19 : Fr (fun _ => False) W1 W9 := ((unhide HF8).drew.alloc _).trans hf9 (fun k hk e => by omega)
  have HF9 := hide (And.intro (hf1.trans0 hf19) hf19)
  have HST := hide hst
  clear hst hb9 hf9 hf19 hb0 hs18
  refine wpAnyH_ready (rs := [10]) (by kernel_rfl) (by simp) (AllReadyH.cons rfl (fun K hK => ?_) AllReadyH.nil)
  refine step_stN rfl 44 (.tmp 9) (.tmp 40) rfl _ _ (by simp [Act.eval]) (by simp [Act.eval]) (unhide HST) ?_
  refine hK.out _ _ ((unhide HSA) _ (unhide HF9).2) (fun hHeld => ?_)
  clear hK K
  (try simp only [Act.put, nrm])
  refine wtk2 (i := 11) rfl hHeld ?_
  (try simp only [Act.put, nrm])
  refine wpAnyH_done (by kernel_rfl) ?_ _
  clear hHeld HSA HST
  go_wp2_with fail
  go_ret
  exact ⟨rfl, (unhide HF9).1⟩
end Go.Proofs.Ytkiepcdncegniaa

namespace Go.Proofs.Ytkiepcdncegniaa
open Go.RowKit Go.Maps

theorem set_two (x : List Value) (hx : x.length = 10) (a b c e : Value) : ((x ++ [a, b]).toArray.setIfInBounds 10 c).setIfInBounds 11 e = (x ++ [c, e]).toArray := by
  rw [List.setIfInBounds_toArray, List.setIfInBounds_toArray, List.set_append_right _ _ (by omega), List.set_append_right _ _ (by omega), hx]
  rfl
theorem wrap_succ (n : Nat) (h : n ≤ 1000000000000) : wrap64 ((n : Int) + 1) = ((n : Int) + 1) := by unfold wrap64; omega
set_option maxRecDepth 100000 in
set_option maxHeartbeats 4000000 in
/-- takeBusy of a request that waits. -/
theorem stb_wait (d mw cl nu : Nat) (y la : Int) (n : Nat) (hn : n ≤ 1000000000000) (x : List Value) (hx : x.length = 10) (h1 : ∀ v ∈ x, v.oneCell' = true) (w : World) (c1 : w.cell? ⟨d, 1, none⟩ = some (.map (some mw))) (hdm : d ≠ mw) (hml : mw < w.heap.size) (PM : World → Prop)
    (hL : ∀ W', Fr (fun _ => False) w W' → (Instr.lookup 83 (.map (some mw)) (.agg #[.int .u32 (cl : Nat), .int .u32 (nu : Nat)]) true).run Try.prog W' = .ok (.tuple #[.agg (x ++ [Value.int .i64 la, Value.int .i64 (n : Nat)]).toArray, .bool true]) W')
    (hU : ∀ W', Fr (fun _ => False) w W' → ∃ W2, (Instr.mapUpdate 83 (.map (some mw)) (.agg #[.int .u32 (cl : Nat), .int .u32 (nu : Nat)]) (.agg (x ++ [Value.int .i64 y, Value.int .i64 ((n : Int) + 1)]).toArray)).run Try.prog W' = .ok () W2 ∧ PM W2 ∧ Fr (fun g => g = mw) W' W2) :
    Calls Try.prog 28 #[.pointer (some ⟨d, 0, none⟩), .agg #[.int .u32 (cl : Nat), .int .u32 (nu : Nat)], .int .i64 y] w fun e w' => e = .returned (.int .i64 0) ∧ PM w' ∧ ∃ w1, Fr (fun _ => False) w w1 ∧ Fr (fun g => g = mw) w1 w' := by
  have hd : d < w.heap.size := lt_of_cell c1
  have HS : Hid (∀ W', Fr (fun _ => False) (w.alloc (.cells #[.int .u32 (cl : Nat), .int .u32 (nu : Nat)] 29)) W' → W'.cell? ⟨d, 1, none⟩ = some (.map (some mw)) ∧ W'.cell? ⟨w.heap.size, 0, none⟩ = some (.int .u32 (cl : Nat)) ∧ W'.cell? ⟨w.heap.size, 1, none⟩ = some (.int .u32 (nu : Nat)) ∧ Fr (fun _ => False) w W') := hide (fun W' hf => by
    have hb : W'.heap[w.heap.size]? = some (.cells #[.int .u32 (cl : Nat), .int .u32 (nu : Nat)] 29) := (hf.block _ (by simp) (fun h => h)).trans (heap_alloc_new w _)
    exact ⟨((box1 w _).trans0 hf).cell (p := ⟨d, 1, none⟩) hd (fun h => h) |>.trans c1, cell_of_blk hb rfl, cell_of_blk hb rfl, (box1 w _).trans0 hf⟩)
  have HL := hide hL
  have HU := hide hU
  have HV := hide (And.intro hx h1)
  have HW := hide (wrap_succ n hn)
  have HD := hide (And.intro hdm hml)
  clear hL hU c1 hx h1 hn hdm hml
  go_enter Try.func28, Try.ntmps28
  go_wp2_with fail
  obtain ⟨W1, hW1⟩ : ∃ W1, w.alloc (.cells #[.int .u32 (cl : Nat), .int .u32 (nu : Nat)] 29) = W1 := ⟨_, rfl⟩
  have hf1 : Fr (fun _ => False) w W1 := by rw [← hW1]; exact box1 w _
  have hsz1 : W1.heap.size = w.heap.size + 1 := by rw [← hW1]; simp
  have HZ := hide hsz1
  clear hsz1
  rw [hW1] at HS
  rw [hW1]
  clear hW1
  have HSW : Hid (∀ W', Fr (fun _ => False) W1 W' → W'.cell? ⟨d, 1, none⟩ = some (.map (some mw)) ∧ W'.cell? ⟨w.heap.size, 0, none⟩ = some (.int .u32 (cl : Nat)) ∧ W'.cell? ⟨w.heap.size, 1, none⟩ = some (.int .u32 (nu : Nat)) ∧ (Instr.lookup 83 (.map (some mw)) (.agg #[.int .u32 (cl : Nat), .int .u32 (nu : Nat)]) true).run Try.prog W' = .ok (.tuple #[.agg (x ++ [Value.int .i64 la, Value.int .i64 (n : Nat)]).toArray, .bool true]) W') := hide (fun W' hf => ⟨((unhide HS) W' hf).1, ((unhide HS) W' hf).2.1, ((unhide HS) W' hf).2.2.1, (unhide HL) W' ((unhide HS) W' hf).2.2.2⟩)
  refine wp_region_held_drew (S := (fun W => W.cell? ⟨d, 1, none⟩ = some (.map (some mw)) ∧ W.cell? ⟨w.heap.size, 0, none⟩ = some (.int .u32 (cl : Nat)) ∧ W.cell? ⟨w.heap.size, 1, none⟩ = some (.int .u32 (nu : Nat)) ∧ (Instr.lookup 83 (.map (some mw)) (.agg #[.int .u32 (cl : Nat), .int .u32 (nu : Nat)]) true).run Try.prog W = .ok (.tuple #[.agg (x ++ [Value.int .i64 la, Value.int .i64 (n : Nat)]).toArray, .bool true]) W)) (by kernel_rfl) ((unhide HSW) _ (Fr.refl _ _).drew) (fun hHeld => ?_)
  refine wtk2 (i := 0) rfl hHeld ?_
  (try simp only [Act.put, nrm])
  refine wtk2 (i := 1) rfl hHeld ?_
  (try simp only [Act.put, nrm])
  refine wtk2 (i := 2) rfl hHeld ?_
  (try simp only [Act.put, nrm])
  refine wtk2 (i := 3) rfl hHeld ?_
  (try simp only [Act.put, nrm])
  refine wtk2 (i := 4) rfl hHeld ?_
  (try simp only [Act.put, nrm])
  refine wtk2 (i := 5) rfl hHeld ?_
  (try simp only [Act.put, nrm])
  refine wtk2 (i := 6) rfl hHeld ?_
  (try simp only [Act.put, nrm])
  refine wtk2 (i := 7) rfl hHeld ?_
  (try simp only [Act.put, nrm])
  refine wtk2 (i := 8) rfl hHeld ?_
  (try simp only [Act.put, nrm])
  refine wpAnyH_ready (rs := [9]) (by kernel_rfl) (by simp) (AllReadyH.cons rfl (fun K hK => ?_) AllReadyH.nil)
  go_simp
  refine hK.out _ _ ((unhide HSW) _ ((Fr.refl _ _).drew.alloc _)) (fun hHeld => ?_)
  clear hK K
  (try simp only [Act.put, nrm])
  have hb0 : (W1.drew.alloc (.cells [.int .u32 0, .int .u32 0, .int .u32 0, .int .u8 0, .int .u32 0, .int .u32 0, .int .u32 0, .int .u32 0, .slice none 0 0, .string ⟨#[]⟩, .int .i64 0, .int .i64 0].toArray 89)).heap[W1.heap.size]? = some (.cells [.int .u32 0, .int .u32 0, .int .u32 0, .int .u8 0, .int .u32 0, .int .u32 0, .int .u32 0, .int .u32 0, .slice none 0 0, .string ⟨#[]⟩, .int .i64 0, .int .i64 0].toArray 89) := heap_alloc_new W1.drew _
  obtain ⟨W8, hst, hb8, hf8⟩ := st_all (P := Try.prog) (ty := 89) [.int .u32 0, .int .u32 0, .int .u32 0, .int .u8 0, .int .u32 0, .int .u32 0, .int .u32 0, .int .u32 0, .slice none 0 0, .string ⟨#[]⟩, .int .i64 0, .int .i64 0] (x ++ [Value.int .i64 la, Value.int .i64 (n : Nat)]) hb0 (by simp [(unhide HV).1]) (by rw [Try.sizeCa]; simp [(unhide HV).1]) (fun v hv => by
    rcases List.mem_append.1 hv with h | h
    · exact (unhide HV).2 v h
    · simp at h; rcases h with rfl | rfl <;> rfl)
  have hf18 : Fr (fun _ => False) W1 W8 := ((Fr.refl _ _).drew.alloc _).trans hf8 (fun k hk e => by omega)
  have hc10 : W8.cell? ⟨W1.heap.size, 10, none⟩ = some (.int .i64 la) := cell_of_blk hb8 (by simp [(unhide HV).1])
  have hc11 : W8.cell? ⟨W1.heap.size, 11, none⟩ = some (.int .i64 (n : Nat)) := cell_of_blk hb8 (by simp [(unhide HV).1])
  have hz10 : W8.frozen? ⟨W1.heap.size, 10, none⟩ = false := frz_of_blk hb8
  have hz11 : W8.frozen? ⟨W1.heap.size, 11, none⟩ = false := frz_of_blk hb8
  have hb9 := blkset (blkset hb8 10 (.int .i64 y)) 11 (.int .i64 ((n : Int) + 1))
  rw [set_two x (unhide HV).1] at hb9
  have hf19 : Fr (fun _ => False) W1 ((W8.setCell ⟨W1.heap.size, 10, none⟩ (.int .i64 y)).setCell ⟨W1.heap.size, 11, none⟩ (.int .i64 ((n : Int) + 1))) := (hf18.setCell (p := ⟨W1.heap.size, 10, none⟩) (.inr (Nat.le_refl _)) _).setCell (p := ⟨W1.heap.size, 11, none⟩) (.inr (Nat.le_refl _)) _
  have HF8 := hide hf18
  have HB9 := hide (And.intro hb9 hf19)
  have HST := hide hst
  clear hst hb8 hf8 hf18 hb0 hb9 hf19
  refine wpAnyH_ready (rs := [10]) (by kernel_rfl) (by simp) (AllReadyH.cons rfl (fun K hK => ?_) AllReadyH.nil)
  refine step_stN rfl 89 (.tmp 7) (.tmp 18) rfl _ _ (by simp [Act.eval]) (by simp [Act.eval]) (unhide HST) ?_
  refine hK.out _ _ ((unhide HSW) _ (unhide HF8)) (fun hHeld => ?_)
  clear hK K
  (try simp only [Act.put, nrm])
  refine wtk2 (i := 11) rfl hHeld ?_
  (try simp only [Act.put, nrm])
  refine wpAnyH_done (by kernel_rfl) ?_ _
  clear hHeld HSW HST
  have hw := unhide HW
  go_wp2_with fail
  clear hw
  obtain ⟨W9, hW9⟩ : ∃ W9, (W8.setCell ⟨W1.heap.size, 10, none⟩ (.int .i64 y)).setCell ⟨W1.heap.size, 11, none⟩ (.int .i64 ((n : Int) + 1)) = W9 := ⟨_, rfl⟩
  rw [hW9] at HB9
  rw [hW9]
  clear hW9 hc10 hc11 hz10 hz11
  have HS2 : Hid (∀ W', Fr (fun g => g = mw) W9 W' → W'.cell? ⟨d, 1, none⟩ = some (.map (some mw)) ∧ W'.cell? ⟨w.heap.size, 0, none⟩ = some (.int .u32 (cl : Nat)) ∧ W'.cell? ⟨w.heap.size, 1, none⟩ = some (.int .u32 (nu : Nat)) ∧ W'.rangeAt W1.heap.size 0 (x ++ [Value.int .i64 y, Value.int .i64 ((n : Int) + 1)])) := hide (fun W' hf => by
    have h9 := (unhide HS) W9 (unhide HB9).2
    have hz := unhide HZ
    have hm := (unhide HD).2
    have hb := (hf.block _ (lt_of_block (unhide HB9).1) (by omega)).trans (unhide HB9).1
    exact ⟨(hf.cell (p := ⟨d, 1, none⟩) (lt_of_cell h9.1) (unhide HD).1).trans h9.1, (hf.cell (p := ⟨w.heap.size, 0, none⟩) (lt_of_cell h9.2.1) (by show w.heap.size ≠ mw; omega)).trans h9.2.1, (hf.cell (p := ⟨w.heap.size, 1, none⟩) (lt_of_cell h9.2.2.1) (by show w.heap.size ≠ mw; omega)).trans h9.2.2.1, range_of_block hb⟩)
  obtain ⟨W10, hmu, hpm, hf10⟩ := (unhide HU) W9.drew ((hf1.trans0 (unhide HB9).2).drew)
  have HMU := hide hmu
  have HPM := hide (And.intro hpm hf10)
  have HFW := hide ((hf1.trans0 (unhide HB9).2).drew)
  clear hmu hpm hf10 hf1
  refine wp_region_held_drew (S := (fun W => W.cell? ⟨d, 1, none⟩ = some (.map (some mw)) ∧ W.cell? ⟨w.heap.size, 0, none⟩ = some (.int .u32 (cl : Nat)) ∧ W.cell? ⟨w.heap.size, 1, none⟩ = some (.int .u32 (nu : Nat)) ∧ W.rangeAt W1.heap.size 0 (x ++ [Value.int .i64 y, Value.int .i64 ((n : Int) + 1)]))) (by kernel_rfl) ((unhide HS2) _ (Fr.refl _ _).drew) (fun hHeld => ?_)
  refine wtk2 (i := 0) rfl hHeld ?_
  (try simp only [Act.put, nrm])
  refine wtk2 (i := 1) rfl hHeld ?_
  (try simp only [Act.put, nrm])
  refine wtk2 (i := 2) rfl hHeld ?_
  (try simp only [Act.put, nrm])
  refine wtk2 (i := 3) rfl hHeld ?_
  (try simp only [Act.put, nrm])
  refine wtk2 (i := 4) rfl hHeld ?_
  (try simp only [Act.put, nrm])
  refine wtk (i := 5) rfl (yieldsIf_load_mid rfl 89 (.tmp 7) rfl W1.heap.size 0 rfl _ _ (fun w h => h.2.2.2) Try.underlying89 rfl (by rw [Try.sizeCa]; simp [(unhide HV).1])) hHeld ?_
  (try simp only [Act.put, nrm])
  refine wpAnyH_ready (rs := [6]) (by kernel_rfl) (by simp) (AllReadyH.cons rfl (fun K hK => ?_) AllReadyH.nil)
  refine step_mu rfl 83 (.tmp 30) (.tmp 31) (.tmp 32) rfl _ _ _ (by simp [Act.eval]) (by simp [Act.eval]) (by simp [Act.eval]) (unhide HMU) ?_
  refine hK.out _ _ ((unhide HS2) _ ((Fr.refl _ _).drew.trans (unhide HPM).2 (fun _ _ h => h))) (fun hHeld => ?_)
  clear hK K
  (try simp only [Act.put, nrm])
  refine wpAnyH_done (by kernel_rfl) ?_ _
  clear hHeld HS2 HMU
  go_wp2_with fail
  go_ret
  exact ⟨rfl, (unhide HPM).1, _, unhide HFW, (unhide HPM).2⟩
end Go.Proofs.Ytkiepcdncegniaa

namespace Go.Proofs.Ytkiepcdncegniaa
open Go.RowKit Go.Maps

/-- append(s.done, id). -/
theorem app_id (w : World) (v : Value) (l : List (Nat × Nat)) (p : Nat × Nat) (h : w.ownsRow 0 29 2 v l.length (icells l)) (hl : l.length ≤ 1048575) :
    ∃ ao cap w', (Builtin.append_ #[37, 37] 37 #[v, .slice (some ⟨w.heap.size, 0, none⟩) 1 1]).run Try.prog (w.alloc (.cells #[.int .u32 (p.1 : Nat), .int .u32 (p.2 : Nat)] 29)) = .ok (.slice ao (l.length + 1) cap) w' ∧ w'.ownsRow 0 29 2 (.slice ao (l.length + 1) cap) (l.length + 1) (icells (l ++ [p])) ∧ Fr (fun g => v.ownBlock = some g) w w' ∧
      ∀ g, (Value.slice ao (l.length + 1) cap).ownBlock = some g → v.ownBlock = some g ∨ w.heap.size ≤ g := by
  obtain ⟨i0, hi, hz0, hz1, hz2⟩ := info_parts Try.infoId
  have hb' := ownsRow_of_block (w' := w.alloc (.cells #[.int .u32 (p.1 : Nat), .int .u32 (p.2 : Nat)] 29)) h (fun g hg => Below.heap_alloc _ _ _ (h.lt g hg).2)
  obtain ⟨v', w', hr, h2, h3, _, h5⟩ := run_append_own_at (P := Try.prog) (w := w.alloc (.cells #[.int .u32 (p.1 : Nat), .int .u32 (p.2 : Nat)] 29)) 0 37 37 29 i0 (.agg #[.int .u32 0, .int .u32 0]) 2 8 Try.underlying37 hi hz0 hz1 hz2 rfl (by decide) v l.length (icells l) hb' ⟨w.heap.size, 0, none⟩ 1 1 [.int .u32 (p.1 : Nat), .int .u32 (p.2 : Nat)] rfl (fun j u hu => by
    rw [addr_add, World.cell?_alloc_at _ _ _ _ rfl]; simpa using hu) (fun u hu => by simp at hu; rcases hu with rfl | rfl <;> rfl) (by simp only [maxLen]; omega) (by omega) (by simp)
  obtain ⟨ao, cap, rfl⟩ := own_formX h2
  refine ⟨ao, cap, w', hr, by rw [icells_app]; exact h2, ((box1 w _).mono (fun _ _ h => h.elim)).grown h3 (fun g hg => .inl hg), fun g hg => ?_⟩
  rcases h5 with e | e
  · rw [e] at hg; exact .inl hg
  · rw [e] at hg; cases hg; exact .inr (by simp)
theorem rd_not {w : World} {x : Value} {n z b : Nat} {cs : List Value} (h : Rd w x n z cs) {es : Array MapEntry} {ck : Nat} (hb : w.heap[b]? = some (.map es ck)) : ∀ g o n c, x = .slice (some ⟨g, o, none⟩) n c → 0 < cs.length → g ≠ b := by
  intro g o n c e hp hg
  obtain ⟨xo, c', e2, _, _, h3⟩ := h.f
  obtain ⟨u, hu⟩ : ∃ u, cs[0]? = some u := ⟨cs[0], List.getElem?_eq_getElem hp⟩
  obtain ⟨g', o', e3, hc⟩ := h3 0 u hu
  rw [e] at e2
  cases e2
  cases e3
  rw [hg] at hc
  simp [World.cell?, hb] at hc
/-- A request answered. -/
theorem SsAt.answer {w w' : World} {d mw ma c : Nat} {cs : List SC} {dn : List Nat} {dv : Value} {T : Nat → Prop} (h : SsAt w d mw ma c cs dn dv T) {i : Nat} {q : SC} (hq : cs[i]? = some q) (hd : q.d = none) (a' : AN) (F : List F5) (H : List SM) (hFl : F.length ≤ 1048576) (hHl : H.length ≤ 1048576) (hdl : dn.length + 1 ≤ 1048576) (dv' : Value)
    (hf : Fr (fun g => g = mw ∨ g = ma ∨ dv.ownBlock = some g ∨ g = d) w w')
    (blk : w'.heap[d]? = some (.cells #[.int .u32 (c : Nat), .map (some mw), .map (some ma), dv'] 86))
    (wm : MpR w' mw c (nW cs - 1) (fun j => if j = i + 1 then none else fW cs j)) (am : MpR w' ma c (nA cs + 1) (fun j => if j = i + 1 then some a'.v else fA cs j))
    (hdn : w'.ownsRow 0 29 2 dv' (dn.length + 1) (icells ((dn ++ [i + 1]).map fun k => (c, k)))) (hdt : ∀ g, dv'.ownBlock = some g → dv.ownBlock = some g ∨ w.heap.size ≤ g)
    (hF : w'.ownsRow w.heap.size 79 5 a'.fv F.length (fcells F)) (hH : w'.ownsRow w.heap.size 81 4 a'.hv H.length (scells H)) :
    SsAt w' d mw ma c (cs.set i { q with d := some ⟨a', F, H⟩ }) (dn ++ [i + 1]) dv' (fun g => T g ∨ Nb w w' g) := by
  have hi := (List.getElem?_eq_some_iff.1 hq).1
  have hn := nA_set cs i q { q with d := some ⟨a', F, H⟩ } hq hd rfl
  have hL : ∀ {e z n : Nat} {v : Value} {xs : List Value}, e ≠ 86 → e ≠ 29 → LsT w T e z v n xs → LsT w' (fun g => T g ∨ Nb w w' g) e z v n xs := fun he he2 hl =>
    ⟨ownsRow_of_block hl.o (fun g hg => hf.block g (hl.o.lt g hg).2 (fun e => by
      have h1 := hl.ne h he hg
      rcases e with e | e | e | e
      · exact h1.2.1 e
      · exact h1.2.2 e
      · obtain ⟨c1, k1⟩ := own_blk hl.o hg
        obtain ⟨c2, k2⟩ := own_blk h.dn.o e
        rw [k1] at k2
        simp at k2
        exact he2 k2.2
      · exact h1.1 e)), fun g hg => .inl (hl.t g hg), hl.l⟩
  refine ⟨h.c16, by rw [List.length_set]; exact h.len, blk, ?_, ?_, ⟨by rw [List.length_append]; exact hdn, fun g hg => ?_, by simpa using hdl⟩, fun x hx => ?_, fun j x hx => ?_, ⟨.inl h.own.1, .inl h.own.2.1, .inl h.own.2.2⟩, h.ap, fun g hg => ?_⟩
  · rw [fW_set cs i _ hi, show nW (cs.set i { q with d := some ⟨a', F, H⟩ }) = nW cs - 1 by omega]; exact wm
  · rw [fA_set cs i _ hi, hn.1]; exact am
  · rcases hdt g hg with e | e
    · exact .inl (h.dn.t g e)
    · exact .inr ⟨e, (hdn.lt g hg).2⟩
  · rcases List.mem_or_eq_of_mem_set hx with hx | rfl
    · exact ⟨fun e => hL (by decide) (by decide) ((h.qs x hx).wt e), fun y e => ⟨hL (by decide) (by decide) ((h.qs x hx).an y e).1, hL (by decide) (by decide) ((h.qs x hx).an y e).2⟩⟩
    · refine ⟨fun e => (by cases e), fun y e => ?_⟩
      cases e
      exact ⟨⟨ownsRow_base hF (Nat.zero_le _), fun g hg => .inr (hF.lt g hg), hFl⟩, ⟨ownsRow_base hH (Nat.zero_le _), fun g hg => .inr (hH.lt g hg), hHl⟩⟩
  · by_cases e : i = j
    · subst e
      rw [List.getElem?_set_self hi] at hx
      cases hx
      exact h.id i q hq
    · rw [List.getElem?_set_ne e] at hx
      exact h.id j x hx
  · rcases hg with hg | hg
    · exact Nat.lt_of_lt_of_le (h.lt g hg) hf.size
    · exact hg.2
end Go.Proofs.Ytkiepcdncegniaa

namespace Go.Proofs.Ytkiepcdncegniaa
open Go.RowKit Go.Maps

theorem step_del {P : Program} {w w' : World} {ops : Array Oper} {op : Oper} {a : Act} {K : Act → World → Prop} {Q : Exit → Act → World → Prop} {E : Prop} (hgd : op.guard = none) (t u : TypeId) (m x : Operand) (ho : op.op = .call { callee := .builtin .delete, args := #[m, x], argTypes := #[t, u] })
    (vm vx v : Value) (hm : a.eval m = vm) (hx : a.eval x = vx) (hr : (Builtin.delete_ #[t, u] op.type #[vm, vx]).run P w = .ok v w')
    (h : K (a.put op.dst v) w') : if Region.wanted op (yielded ops a.tmps) = true then Oper.wp P op a w K Q else E := by
  have hw : Region.wanted op (yielded ops a.tmps) = true := by simp [Region.wanted, hgd]
  rw [if_pos hw]
  unfold Oper.wp execOp
  simp only [ho, resolve, invoke, builtin, Sem.run_bind, Sem.run_pure, Result.andThen_ok, List.map_toArray, List.map_cons, List.map_nil, hm, hx, hr]
  exact h
theorem step_app {P : Program} {w w' : World} {ops : Array Oper} {o : Oper} {a : Act} {K : Act → World → Prop} {Q : Exit → Act → World → Prop} {E : Prop} (hgd : o.guard = none) (s x : Operand) (t u : TypeId)
    (ho : o.op = .call { callee := .builtin .append, args := #[s, x], argTypes := #[t, u] }) (vs vx v' : Value) (hs : a.eval s = vs) (hx : a.eval x = vx) (hr : (Builtin.append_ #[t, u] o.type #[vs, vx]).run P w = .ok v' w')
    (h : K (a.put o.dst v') w') : if Region.wanted o (yielded ops a.tmps) = true then Oper.wp P o a w K Q else E := by
  have hw : Region.wanted o (yielded ops a.tmps) = true := by simp [Region.wanted, hgd]
  rw [if_pos hw]
  unfold Oper.wp execOp
  simp only [ho, resolve, invoke, builtin, Sem.run_bind, Sem.run_pure, Result.andThen_ok, List.map_toArray, List.map_cons, List.map_nil, hs, hx, hr]
  exact h
set_option maxRecDepth 100000 in
set_option maxHeartbeats 8000000 in
/-- takeAnswer of a request that waits. -/
theorem sta_wait (d mw ma c : Nat) (cs : List SC) (dn : List Nat) (dv : Value) (T : Nat → Prop) (w : World) (h : SsAt w d mw ma c cs dn dv T) (i : Nat) (q : SC) (hq : cs[i]? = some q) (hd : q.d = none) (co rc ve : Nat) (fv hv : Value) (F : List F5) (H : List SM)
    (hF : Rd w fv F.length 5 (fcells F)) (hH : Rd w hv H.length 4 (scells H)) (hFl : F.length ≤ 1048576) (hHl : H.length ≤ 1048576) (hdl : dn.length ≤ 1048575) :
    Calls Try.prog 27 #[.pointer (some ⟨d, 0, none⟩), .agg #[.int .u32 (c : Nat), .int .u32 ((i : Int) + 1), .int .u8 (co : Nat), .int .u32 (rc : Nat), .int .u32 (ve : Nat), fv, hv]] w fun e w' => e = .returned (.int .i64 0) ∧ ∃ v u dv', SsAt w' d mw ma c (cs.set i { q with d := some ⟨⟨c, i + 1, co, rc, ve, v, u⟩, F, H⟩ }) (dn ++ [i + 1]) dv' (fun g => T g ∨ Nb w w' g) ∧ Fr (fun g => g = mw ∨ g = ma ∨ dv.ownBlock = some g ∨ g = d) w w' := by
  have hiN : ((i : Int) + 1) = (((i + 1 : Nat)) : Int) := rfl
  obtain ⟨em, km, hmb⟩ := h.wm.blk
  obtain ⟨ea, ka, hab⟩ := h.am.blk
  have hil := (List.getElem?_eq_some_iff.1 hq).1
  have hcl := h.len
  have hc16 := h.c16
  have hdm := h.dm
  have hdvd : ∀ g, dv.ownBlock = some g → g ≠ d ∧ g ≠ mw ∧ g ≠ ma := fun g hg => h.dn.ne h (by decide) hg
  have HL : Hid (∀ W', Fr (fun _ => False) w W' → (Instr.lookup 83 (.map (some mw)) (.agg #[.int .u32 (c : Nat), .int .u32 ((i : Int) + 1)]) true).run Try.prog W' = .ok (.tuple #[.agg q.cs.toArray, .bool true]) W') := hide (fun W' hf => (h.look_w hq hd W' hf).1)
  have HS : Hid (∀ W', Fr (fun g => g = mw ∨ g = ma ∨ dv.ownBlock = some g) (w.alloc (.cells #[.int .u32 (c : Nat), .int .u32 ((i : Int) + 1), .int .u8 (co : Nat), .int .u32 (rc : Nat), .int .u32 (ve : Nat), fv, hv] 44)) W' → W'.heap[d]? = some (.cells #[.int .u32 (c : Nat), .map (some mw), .map (some ma), dv] 86) ∧ W'.heap[w.heap.size]? = some (.cells #[.int .u32 (c : Nat), .int .u32 ((i : Int) + 1), .int .u8 (co : Nat), .int .u32 (rc : Nat), .int .u32 (ve : Nat), fv, hv] 44)) := hide (fun W' hf => by
    have hlm := h.lt mw h.own.2.1
    have hla := h.lt ma h.own.2.2
    have hld := h.lt d h.own.1
    refine ⟨(hf.block d (by simp; omega) (fun e => ?_)).trans ((Below.heap_alloc _ _ d hld).trans h.blk), (hf.block _ (by simp) (fun e => ?_)).trans (heap_alloc_new w _)⟩
    · rcases e with e | e | e
      · exact hdm.1 e
      · exact hdm.2 e
      · exact (hdvd d e).1 rfl
    · rcases e with e | e | e
      · omega
      · omega
      · have := (h.dn.o.lt _ e).2; omega)
  have HX := hide (And.intro h (And.intro hF hH))
  have HM := hide (And.intro hmb hab)
  clear hF hH hmb hab
  have HK := hide (And.intro hq (And.intro hd (And.intro hil (And.intro hcl hc16))))
  clear hq hd hil hcl hc16 hdm hdvd h hiN
  go_enter Try.func27, Try.ntmps27
  go_wp2_with fail
  obtain ⟨W1, hW1⟩ : ∃ W1, w.alloc (.cells #[.int .u32 (c : Nat), .int .u32 ((i : Int) + 1), .int .u8 (co : Nat), .int .u32 (rc : Nat), .int .u32 (ve : Nat), fv, hv] 44) = W1 := ⟨_, rfl⟩
  have hf1 : Fr (fun _ => False) w W1 := by rw [← hW1]; exact box1 w _
  have HZ : Hid (W1.heap.size = w.heap.size + 1) := hide (by rw [← hW1]; simp)
  rw [hW1] at HS
  rw [hW1]
  clear hW1
  have HS1 : Hid (∀ W', Fr (fun _ => False) W1 W' → W'.cell? ⟨d, 1, none⟩ = some (.map (some mw)) ∧ W'.cell? ⟨w.heap.size, 0, none⟩ = some (.int .u32 (c : Nat)) ∧ W'.cell? ⟨w.heap.size, 1, none⟩ = some (.int .u32 ((i : Int) + 1)) ∧ (Instr.lookup 83 (.map (some mw)) (.agg #[.int .u32 (c : Nat), .int .u32 ((i : Int) + 1)]) true).run Try.prog W' = .ok (.tuple #[.agg q.cs.toArray, .bool true]) W') := hide (fun W' hf => by
    have hb := (unhide HS) W' (hf.mono (fun _ _ e => e.elim))
    exact ⟨cell_of_blk hb.1 rfl, cell_of_blk hb.2 rfl, cell_of_blk hb.2 rfl, (unhide HL) W' (hf1.trans0 hf)⟩)
  have HS3 : Hid (∀ W', Fr (fun g => g = mw ∨ g = ma ∨ dv.ownBlock = some g) W1 W' → W'.cell? ⟨d, 1, none⟩ = some (.map (some mw)) ∧ W'.cell? ⟨w.heap.size, 0, none⟩ = some (.int .u32 (c : Nat)) ∧ W'.cell? ⟨w.heap.size, 1, none⟩ = some (.int .u32 ((i : Int) + 1))) := hide (fun W' hf => by
    have hb := (unhide HS) W' hf
    exact ⟨cell_of_blk hb.1 rfl, cell_of_blk hb.2 rfl, cell_of_blk hb.2 rfl⟩)
  have HS4 : Hid (∀ W', Fr (fun g => g = mw ∨ g = ma ∨ dv.ownBlock = some g) W1 W' → W'.cell? ⟨d, 2, none⟩ = some (.map (some ma)) ∧ W'.cell? ⟨w.heap.size, 0, none⟩ = some (.int .u32 (c : Nat)) ∧ W'.cell? ⟨w.heap.size, 1, none⟩ = some (.int .u32 ((i : Int) + 1)) ∧ W'.rangeAt w.heap.size 0 [.int .u32 (c : Nat), .int .u32 ((i : Int) + 1), .int .u8 (co : Nat), .int .u32 (rc : Nat), .int .u32 (ve : Nat), fv, hv]) := hide (fun W' hf => by
    have hb := (unhide HS) W' hf
    exact ⟨cell_of_blk hb.1 rfl, cell_of_blk hb.2 rfl, cell_of_blk hb.2 rfl, range_of_block hb.2⟩)
  have HS5 : Hid (∀ W', Fr (fun g => g = mw ∨ g = ma ∨ dv.ownBlock = some g) W1 W' → W'.cell? ⟨d, 3, none⟩ = some dv ∧ W'.cell? ⟨w.heap.size, 0, none⟩ = some (.int .u32 (c : Nat)) ∧ W'.cell? ⟨w.heap.size, 1, none⟩ = some (.int .u32 ((i : Int) + 1))) := hide (fun W' hf => by
    have hb := (unhide HS) W' hf
    exact ⟨cell_of_blk hb.1 rfl, cell_of_blk hb.2 rfl, cell_of_blk hb.2 rfl⟩)
  refine wp_region_held_drew (S := (fun W => W.cell? ⟨d, 1, none⟩ = some (.map (some mw)) ∧ W.cell? ⟨w.heap.size, 0, none⟩ = some (.int .u32 (c : Nat)) ∧ W.cell? ⟨w.heap.size, 1, none⟩ = some (.int .u32 ((i : Int) + 1)) ∧ (Instr.lookup 83 (.map (some mw)) (.agg #[.int .u32 (c : Nat), .int .u32 ((i : Int) + 1)]) true).run Try.prog W = .ok (.tuple #[.agg q.cs.toArray, .bool true]) W)) (by kernel_rfl) ((unhide HS1) _ (Fr.refl _ _).drew) (fun hHeld => ?_)
  refine wtk2 (i := 0) rfl hHeld ?_
  (try simp only [Act.put, nrm])
  refine wtk2 (i := 1) rfl hHeld ?_
  (try simp only [Act.put, nrm])
  refine wtk2 (i := 2) rfl hHeld ?_
  (try simp only [Act.put, nrm])
  refine wtk2 (i := 3) rfl hHeld ?_
  (try simp only [Act.put, nrm])
  refine wtk2 (i := 4) rfl hHeld ?_
  (try simp only [Act.put, nrm])
  refine wtk2 (i := 5) rfl hHeld ?_
  (try simp only [Act.put, nrm])
  refine wtk2 (i := 6) rfl hHeld ?_
  (try simp only [Act.put, nrm])
  refine wtk2 (i := 7) rfl hHeld ?_
  (try simp only [Act.put, nrm])
  refine wtk2 (i := 8) rfl hHeld ?_
  (try simp only [Act.put, nrm])
  refine wtk2 (i := 9) rfl hHeld ?_
  (try simp only [Act.put, nrm])
  refine wpAnyH_ready (rs := [10]) (by kernel_rfl) (by simp) (AllReadyH.cons rfl (fun K hK => ?_) AllReadyH.nil)
  go_simp
  refine hK.out _ _ ((unhide HS1) _ ((Fr.refl _ _).drew.alloc _)) (fun hHeld => ?_)
  clear hK K
  (try simp only [Act.put, nrm])
  have hb0 : (W1.drew.alloc (.cells [.int .u32 0, .int .u32 0, .int .u32 0, .int .u8 0, .int .u32 0, .int .u32 0, .int .u32 0, .int .u32 0, .slice none 0 0, .string ⟨#[]⟩, .int .i64 0, .int .i64 0].toArray 89)).heap[W1.heap.size]? = some (.cells [.int .u32 0, .int .u32 0, .int .u32 0, .int .u8 0, .int .u32 0, .int .u32 0, .int .u32 0, .int .u32 0, .slice none 0 0, .string ⟨#[]⟩, .int .i64 0, .int .i64 0].toArray 89) := heap_alloc_new W1.drew _
  obtain ⟨W8, hst, hb8, hf8⟩ := st_all (P := Try.prog) (ty := 89) [.int .u32 0, .int .u32 0, .int .u32 0, .int .u8 0, .int .u32 0, .int .u32 0, .int .u32 0, .int .u32 0, .slice none 0 0, .string ⟨#[]⟩, .int .i64 0, .int .i64 0] q.cs hb0 rfl Try.sizeCa (SC.one ((unhide HX).1.qs q (List.mem_of_getElem? (unhide HK).1)) (unhide HK).2.1)
  have hf18 : Fr (fun _ => False) W1 W8 := ((Fr.refl _ _).drew.alloc _).trans hf8 (fun k hk e => by omega)
  have HF8 := hide hf18
  have HST := hide hst
  clear hst hb8 hf8 hf18 hb0
  refine wpAnyH_ready (rs := [11]) (by kernel_rfl) (by simp) (AllReadyH.cons rfl (fun K hK => ?_) AllReadyH.nil)
  refine step_stN rfl 89 (.tmp 5) (.tmp 17) rfl _ _ (by simp [Act.eval]) (by simp [Act.eval]) (unhide HST) ?_
  refine hK.out _ _ ((unhide HS1) _ (unhide HF8)) (fun hHeld => ?_)
  clear hK K
  (try simp only [Act.put, nrm])
  refine wtk2 (i := 12) rfl hHeld ?_
  (try simp only [Act.put, nrm])
  refine wpAnyH_done (by kernel_rfl) ?_ _
  clear hHeld HS1 HST HL
  have hfw8 : Fr (fun _ => False) w W8.drew := (hf1.trans0 (unhide HF8)).drew
  obtain ⟨W9, hdel, hm9, hf9⟩ := ((unhide HX).1.fr0 hfw8).wm.del (by have := (unhide HK).2.2.2.2; omega) Try.underlying83 (k := i + 1) (by have := (unhide HK).2.2.1; have := (unhide HK).2.2.2.1; omega) (by rw [fW_at (unhide HK).1 (unhide HK).2.1]; rfl) 0
  have hdel' : (Builtin.delete_ #[83, 29] 0 #[.map (some mw), .agg #[.int .u32 (c : Nat), .int .u32 ((i : Int) + 1)]]).run Try.prog W8.drew = .ok (.tuple #[]) W9 := hdel
  have hf19 : Fr (fun g => g = mw ∨ g = ma ∨ dv.ownBlock = some g) W1 W9 := ((unhide HF8).drew.mono (fun _ _ e => e.elim)).trans hf9 (fun _ _ e => .inl e)
  have hfm9 : Fr (fun g => g = mw) w W9 := (hfw8.mono (fun _ _ e => e.elim)).trans hf9 (fun _ _ e => e)
  have HD9 := hide hdel'
  have H9 := hide (And.intro hm9 (And.intro hf19 hfm9))
  clear hdel hdel' hm9 hf9 hf19 hfm9
  go_wp2_with fail
  refine wp_region_held_drew (S := (fun W => W.cell? ⟨d, 1, none⟩ = some (.map (some mw)) ∧ W.cell? ⟨w.heap.size, 0, none⟩ = some (.int .u32 (c : Nat)) ∧ W.cell? ⟨w.heap.size, 1, none⟩ = some (.int .u32 ((i : Int) + 1)))) (by kernel_rfl) ((unhide HS3) _ ((unhide HF8).drew.mono (fun _ _ e => e.elim))) (fun hHeld => ?_)
  refine wtk2 (i := 0) rfl hHeld ?_
  (try simp only [Act.put, nrm])
  refine wtk2 (i := 1) rfl hHeld ?_
  (try simp only [Act.put, nrm])
  refine wtk2 (i := 2) rfl hHeld ?_
  (try simp only [Act.put, nrm])
  refine wtk2 (i := 3) rfl hHeld ?_
  (try simp only [Act.put, nrm])
  refine wtk2 (i := 4) rfl hHeld ?_
  (try simp only [Act.put, nrm])
  refine wtk2 (i := 5) rfl hHeld ?_
  (try simp only [Act.put, nrm])
  refine wpAnyH_ready (rs := [6]) (by kernel_rfl) (by simp) (AllReadyH.cons rfl (fun K hK => ?_) AllReadyH.nil)
  refine step_del rfl 83 29 (.tmp 23) (.tmp 25) rfl _ _ _ (by simp [Act.eval]) (by simp [Act.eval]) (unhide HD9) ?_
  refine hK.out _ _ ((unhide HS3) _ (unhide H9).2.1) (fun hHeld => ?_)
  clear hK K
  (try simp only [Act.put, nrm])
  refine wpAnyH_done (by kernel_rfl) ?_ _
  clear hHeld HS3 HD9 hfw8
  go_wp2_with fail
  refine wp_region_held_drew (S := (fun W => W.cell? ⟨d, 2, none⟩ = some (.map (some ma)) ∧ W.cell? ⟨w.heap.size, 0, none⟩ = some (.int .u32 (c : Nat)) ∧ W.cell? ⟨w.heap.size, 1, none⟩ = some (.int .u32 ((i : Int) + 1)) ∧ W.rangeAt w.heap.size 0 [.int .u32 (c : Nat), .int .u32 ((i : Int) + 1), .int .u8 (co : Nat), .int .u32 (rc : Nat), .int .u32 (ve : Nat), fv, hv])) (by kernel_rfl) ((unhide HS4) _ (unhide H9).2.1.drew) (fun hHeld => ?_)
  refine wtk2 (i := 0) rfl hHeld ?_
  (try simp only [Act.put, nrm])
  refine wtk2 (i := 1) rfl hHeld ?_
  (try simp only [Act.put, nrm])
  refine wtk2 (i := 2) rfl hHeld ?_
  (try simp only [Act.put, nrm])
  refine wtk2 (i := 3) rfl hHeld ?_
  (try simp only [Act.put, nrm])
  refine wtk2 (i := 4) rfl hHeld ?_
  (try simp only [Act.put, nrm])
  refine wtk2 (i := 5) rfl hHeld ?_
  (try simp only [Act.put, nrm])
  refine wtk (i := 6) rfl (yieldsIf_load_mid rfl 44 (.tmp 3) rfl w.heap.size 0 rfl _ _ (fun w h => h.2.2.2) Try.underlying44 rfl Try.sizeAn) hHeld ?_
  (try simp only [Act.put, nrm])
  refine wpAnyH_ready (rs := [7]) (by kernel_rfl) (by simp) (AllReadyH.cons rfl (fun K hK => ?_) AllReadyH.nil)
  have HOA := hide (ownAns_any ⟨c, i + 1, co, rc, ve, fv, hv⟩ F.length H.length (fcells F) (scells H) W9.drew ((unhide HX).2.1.fr (unhide H9).2.2.drew (rd_not (unhide HX).2.1 (unhide HM).1)) ((unhide HX).2.2.fr (unhide H9).2.2.drew (rd_not (unhide HX).2.2 (unhide HM).1)) hFl hHl)
  go_simp
  refine (unhide HOA).mono ?_
  rintro e W10 ⟨v, u, rfl, hF10, hH10, hf10⟩
  clear HOA
  have hf110 : Fr (fun g => g = mw ∨ g = ma ∨ dv.ownBlock = some g) W1 W10 := (unhide H9).2.1.drew.trans hf10 (fun _ _ e => e.elim)
  have hfm10 : Fr (fun g => g = mw) w W10 := (unhide H9).2.2.drew.trans hf10 (fun _ _ e => e.elim)
  have hm10 : MpR W10 mw c (nW cs - 1) (fun j => if j = i + 1 then none else fW cs j) := (unhide H9).1.keep (hf10.block mw (by obtain ⟨e, k, hb⟩ := (unhide H9).1.blk; exact lt_of_block hb) (fun h => h))
  have ham : MpR W10 ma c (nA cs) (fA cs) := (unhide HX).1.am.keep (hfm10.block ma ((unhide HX).1.lt ma (unhide HX).1.own.2.2) (fun e => (unhide HX).1.ap e.symm))
  have hnn := nWA cs
  obtain ⟨W11, hup, ha11, hf11⟩ := ham.put (by have := (unhide HK).2.2.2.2; omega) (by have := (unhide HK).2.2.2.1; omega) Try.underlying84 (k := i + 1) (by have := (unhide HK).2.2.1; have := (unhide HK).2.2.2.1; omega) (AN.v ⟨c, i + 1, co, rc, ve, v, u⟩)
  rw [fA_wt (unhide HK).1 (unhide HK).2.1] at ha11
  have hup' : (Instr.mapUpdate 84 (.map (some ma)) (.agg #[.int .u32 (c : Nat), .int .u32 ((i : Int) + 1)]) (AN.v ⟨c, i + 1, co, rc, ve, v, u⟩)).run Try.prog W10 = .ok () W11 := hup
  have hf111 : Fr (fun g => g = mw ∨ g = ma ∨ dv.ownBlock = some g) W1 W11 := hf110.trans hf11 (fun _ _ e => .inr (.inl e))
  have hfm11 : Fr (fun g => g = mw ∨ g = ma) w W11 := (hfm10.mono (fun _ _ e => .inl e)).trans hf11 (fun _ _ e => .inr e)
  have hm11 : MpR W11 mw c (nW cs - 1) (fun j => if j = i + 1 then none else fW cs j) := hm10.keep (hf11.block mw (by obtain ⟨e, k, hb⟩ := hm10.blk; exact lt_of_block hb) (unhide HX).1.ap)
  have hszw : w.heap.size ≤ W9.heap.size := (unhide H9).2.2.size
  have hmal := (unhide HX).1.lt ma (unhide HX).1.own.2.2
  have hF11 : W11.ownsRow w.heap.size 79 5 v F.length (fcells F) := ownsRow_base (ownsRow_of_block hF10 (fun g hg => hf11.block g (hF10.lt g hg).2 (fun e => by have := (hF10.lt g hg).1; have : W9.drew.heap.size = W9.heap.size := rfl; omega))) hszw
  have hH11 : W11.ownsRow w.heap.size 81 4 u H.length (scells H) := ownsRow_base (ownsRow_of_block hH10 (fun g hg => hf11.block g (hH10.lt g hg).2 (fun e => by have := (hH10.lt g hg).1; have : W9.drew.heap.size = W9.heap.size := rfl; omega))) hszw
  have HUP := hide hup'
  have H11 := hide (And.intro ha11 (And.intro hf111 (And.intro hfm11 (And.intro hm11 (And.intro hF11 hH11)))))
  have HF10 := hide hf110
  clear hup hup' ha11 hf11 hf111 hfm11 hm11 hF11 hH11 hF10 hH10 hf10 hfm10 hm10 ham hnn hszw hmal
  try dsimp only
  refine hK.out _ _ ((unhide HS4) _ hf110) (fun hHeld => ?_)
  clear hK K
  (try simp only [Act.put, nrm])
  clear hf110
  refine wpAnyH_ready (rs := [8]) (by kernel_rfl) (by simp) (AllReadyH.cons rfl (fun K hK => ?_) AllReadyH.nil)
  refine step_mu rfl 84 (.tmp 29) (.tmp 31) (.tmp 33) rfl _ _ _ (by simp [Act.eval]) (by simp [Act.eval]) (by simp [Act.eval]) (unhide HUP) ?_
  refine hK.out _ _ ((unhide HS4) _ (unhide H11).2.1) (fun hHeld => ?_)
  clear hK K
  (try simp only [Act.put, nrm])
  refine wpAnyH_done (by kernel_rfl) ?_ _
  clear hHeld HS4 HUP HF10
  go_wp2_with fail
  have hdo : W11.ownsRow 0 29 2 dv dn.length (icells (dn.map fun k => (c, k))) := ownsRow_of_block (unhide HX).1.dn.o (fun g hg => (unhide H11).2.2.1.block g ((unhide HX).1.dn.o.lt g hg).2 (fun e => by
    have h1 := (unhide HX).1.dn.ne (unhide HX).1 (by decide) hg
    rcases e with e | e
    · exact h1.2.1 e
    · exact h1.2.2 e))
  obtain ⟨ao, cap, W13, hap, ho13, hf13, ht13⟩ := app_id W11.drew dv (dn.map fun k => (c, k)) (c, i + 1) (by rw [List.length_map]; exact hdo) (by rw [List.length_map]; exact hdl)
  rw [List.length_map] at hap ho13 ht13
  have hap' : (Builtin.append_ #[37, 37] 37 #[dv, .slice (some ⟨W11.heap.size, 0, none⟩) 1 1]).run Try.prog (W11.drew.alloc (.cells #[.int .u32 (c : Nat), .int .u32 ((i : Int) + 1)] 29)) = .ok (.slice ao (dn.length + 1) cap) W13 := hap
  have hf113 : Fr (fun g => g = mw ∨ g = ma ∨ dv.ownBlock = some g) W1 W13 := (unhide H11).2.1.drew.trans hf13 (fun _ _ e => .inr (.inr e))
  have HAP := hide hap'
  have H13 := hide (And.intro ho13 (And.intro hf13 (And.intro ht13 hf113)))
  clear hap hap' ho13 hf13 ht13 hf113 hdo
  refine wp_region_last (n := 11) (m := 11) (S := (fun W => W.cell? ⟨d, 3, none⟩ = some dv ∧ W.cell? ⟨w.heap.size, 0, none⟩ = some (.int .u32 (c : Nat)) ∧ W.cell? ⟨w.heap.size, 1, none⟩ = some (.int .u32 ((i : Int) + 1)))) (by kernel_rfl) rfl rfl rfl (by kernel_rfl) (by kernel_rfl) ((unhide HS5) _ (unhide H11).2.1.drew) (fun hHeld => ?_)
  refine wtk2 (i := 0) rfl hHeld ?_
  (try simp only [Act.put, nrm])
  refine wtk2 (i := 1) rfl hHeld ?_
  (try simp only [Act.put, nrm])
  refine wtk2 (i := 2) rfl hHeld ?_
  (try simp only [Act.put, nrm])
  refine wtk2 (i := 3) rfl hHeld ?_
  (try simp only [Act.put, nrm])
  refine wtk2 (i := 4) rfl hHeld ?_
  (try simp only [Act.put, nrm])
  refine wtk2 (i := 5) rfl hHeld ?_
  (try simp only [Act.put, nrm])
  refine wtk2 (i := 6) rfl hHeld ?_
  (try simp only [Act.put, nrm])
  refine wpAnyH_ready (rs := [7]) (by kernel_rfl) (by simp) (AllReadyH.cons rfl (fun K hK => ?_) AllReadyH.nil)
  go_simp
  refine hK.out _ _ ((unhide HS5) _ ((unhide H11).2.1.drew.alloc _)) (fun hHeld => ?_)
  clear hK K
  (try simp only [Act.put, nrm])
  refine wpAnyH_ready (rs := [8]) (by kernel_rfl) (by simp) (AllReadyH.cons rfl (fun K hK => ?_) AllReadyH.nil)
  refine step_app rfl (.tmp 38) (.tmp 41) 37 37 rfl _ _ _ (by simp [Act.eval]) (by simp [Act.eval]) (unhide HAP) ?_
  refine hK.out _ _ ((unhide HS5) _ (unhide H13).2.2.2) (fun hHeld => ?_)
  clear hK K
  (try simp only [Act.put, nrm])
  refine wtk2 (i := 9) rfl hHeld ?_
  (try simp only [Act.put, nrm])
  refine wtk2 (i := 10) rfl hHeld ?_
  (try simp only [Act.put, nrm])
  refine wpAnyH_done (by kernel_rfl) ?_ _
  have hb13 := ((unhide HS) _ (unhide H13).2.2.2).1
  have c3 : W13.cell? ⟨d, 3, none⟩ = some dv := cell_of_blk hb13 rfl
  have z3 : W13.frozen? ⟨d, 3, none⟩ = false := frz_of_blk hb13
  have hblk := blkset hb13 3 (.slice ao (dn.length + 1) cap)
  have hbl2 : (W13.setCell ⟨d, 3, none⟩ (.slice ao (dn.length + 1) cap)).heap[d]? = some (.cells #[.int .u32 (c : Nat), .map (some mw), .map (some ma), .slice ao (dn.length + 1) cap] 86) := by simpa using hblk
  have HEND : Hid (∃ v u dv', SsAt (W13.setCell ⟨d, 3, none⟩ (.slice ao (dn.length + 1) cap)) d mw ma c (cs.set i { q with d := some ⟨⟨c, i + 1, co, rc, ve, v, u⟩, F, H⟩ }) (dn ++ [i + 1]) dv' (fun g => T g ∨ Nb w (W13.setCell ⟨d, 3, none⟩ (.slice ao (dn.length + 1) cap)) g) ∧ Fr (fun g => g = mw ∨ g = ma ∨ dv.ownBlock = some g ∨ g = d) w (W13.setCell ⟨d, 3, none⟩ (.slice ao (dn.length + 1) cap))) := hide (by
    have h := (unhide HX).1
    have h11 := unhide H11
    have h13 := unhide H13
    have hlt := h.lt d h.own.1
    have hfw : Fr (fun g => g = mw ∨ g = ma ∨ dv.ownBlock = some g ∨ g = d) w (W13.setCell ⟨d, 3, none⟩ (.slice ao (dn.length + 1) cap)) := by
      refine Fr.setCell (p := ⟨d, 3, none⟩) ?_ (.inl (.inr (.inr (.inr rfl)))) _
      refine (h11.2.2.1.drew.mono (fun g _ e => ?_)).trans h13.2.1 (fun g _ e => .inr (.inr (.inl e)))
      rcases e with e | e
      · exact .inl e
      · exact .inr (.inl e)
    have hk : ∀ g, W11.heap[g]? ≠ none → dv.ownBlock ≠ some g → g ≠ d → (W13.setCell ⟨d, 3, none⟩ (.slice ao (dn.length + 1) cap)).heap[g]? = W11.heap[g]? := fun g hg h1 h2 => by
      have hgl : g < W11.heap.size := by
        rcases Nat.lt_or_ge g W11.heap.size with hx | hx
        · exact hx
        · exact absurd (Array.getElem?_eq_none hx) hg
      exact (Below.heap_setCell W13 ⟨d, 3, none⟩ _ g h2).trans (h13.2.1.block g hgl h1)
    have hdm := h.dm
    have hnd : ∀ g, dv.ownBlock = some g → g ≠ d ∧ g ≠ mw ∧ g ≠ ma := fun g hg => h.dn.ne h (by decide) hg
    have hdvl : ∀ g, dv.ownBlock = some g → g < w.heap.size := fun g hg => (h.dn.o.lt g hg).2
    have hmw := h11.2.2.2.1.keep (w' := W13.setCell ⟨d, 3, none⟩ (.slice ao (dn.length + 1) cap)) (hk mw (by obtain ⟨a, b, hb⟩ := h11.2.2.2.1.blk; rw [hb]; simp) (fun e => (hnd mw e).2.1 rfl) (fun e => hdm.1 e.symm))
    have hma := h11.1.keep (w' := W13.setCell ⟨d, 3, none⟩ (.slice ao (dn.length + 1) cap)) (hk ma (by obtain ⟨a, b, hb⟩ := h11.1.blk; rw [hb]; simp) (fun e => (hnd ma e).2.2 rfl) (fun e => hdm.2 e.symm))
    have hrow : ∀ {e z n : Nat} {x : Value} {xs : List Value}, W11.ownsRow w.heap.size e z x n xs → (W13.setCell ⟨d, 3, none⟩ (.slice ao (dn.length + 1) cap)).ownsRow w.heap.size e z x n xs := fun hr => ownsRow_of_block hr (fun g hg => by
      have hgl := hr.lt g hg
      refine hk g (by rw [Array.getElem?_eq_getElem hgl.2]; simp) (fun e => ?_) (by omega)
      have := hdvl g e
      omega)
    refine ⟨_, _, .slice ao (dn.length + 1) cap, h.answer (unhide HK).1 (unhide HK).2.1 ⟨c, i + 1, co, rc, ve, v, u⟩ F H hFl hHl (by omega) _ hfw hbl2 hmw (by simpa using hma) ?_ (fun g hg => ?_) (hrow h11.2.2.2.2.1) (hrow h11.2.2.2.2.2), hfw⟩
    · rw [List.map_append]
      refine ownsRow_of_block h13.1 (fun g hg => Below.heap_setCell W13 ⟨d, 3, none⟩ _ g (fun e => ?_))
      obtain ⟨cur, hb⟩ := own_blk h13.1 hg
      have e2 : g = d := e
      rw [e2, hb13] at hb
      simp at hb
    · rcases h13.2.2.1 g hg with e | e
      · exact .inl e
      · exact .inr (Nat.le_trans h11.2.2.1.size e))
  clear HX HM HK HS HF8 H9 H11 H13 HAP hblk hbl2 hb13 hHeld HS5
  simp only [lastQ]
  go_simp
  go_wp2_with fail
  go_ret
  exact ⟨rfl, unhide HEND⟩
end Go.Proofs.Ytkiepcdncegniaa

namespace Go.Proofs.Ytkiepcdncegniaa
open Go.RowKit Go.Maps

set_option maxRecDepth 100000 in
set_option maxHeartbeats 4000000 in
theorem sta_none (d mw ma cl nu co rc ve : Nat) (fv hv : Value)  (w : World) (c1 : w.cell? ⟨d, 1, none⟩ = some (.map (some mw))) (c2 : w.cell? ⟨d, 2, none⟩ = some (.map (some ma)))
    (hL : ∀ W', Fr (fun _ => False) w W' → (Instr.lookup 83 (.map (some mw)) (.agg #[.int .u32 (cl : Nat), .int .u32 (nu : Nat)]) true).run Try.prog W' = .ok (.tuple #[.agg [.int .u32 0, .int .u32 0, .int .u32 0, .int .u8 0, .int .u32 0, .int .u32 0, .int .u32 0, .int .u32 0, .slice none 0 0, .string ⟨#[]⟩, .int .i64 0, .int .i64 0].toArray, .bool false]) W') (hM : ∀ W', Fr (fun _ => False) w W' → (Instr.lookup 84 (.map (some ma)) (.agg #[.int .u32 (cl : Nat), .int .u32 (nu : Nat)]) true).run Try.prog W' = .ok (.tuple #[.agg [.int .u32 0, .int .u32 0, .int .u8 0, .int .u32 0, .int .u32 0, .slice none 0 0, .slice none 0 0].toArray, .bool false]) W')  :
    Calls Try.prog 27 #[.pointer (some ⟨d, 0, none⟩), .agg #[.int .u32 (cl : Nat), .int .u32 (nu : Nat), .int .u8 (co : Nat), .int .u32 (rc : Nat), .int .u32 (ve : Nat), fv, hv]] w fun e w' => e = .returned (.int .i64 15) ∧ Fr (fun _ => False) w w' := by
  have hd : d < w.heap.size := lt_of_cell c1
  have HS : Hid (∀ W', Fr (fun _ => False) (w.alloc (.cells #[.int .u32 (cl : Nat), .int .u32 (nu : Nat), .int .u8 (co : Nat), .int .u32 (rc : Nat), .int .u32 (ve : Nat), fv, hv] 44)) W' → (W'.cell? ⟨d, 1, none⟩ = some (.map (some mw)) ∧ W'.cell? ⟨d, 2, none⟩ = some (.map (some ma))) ∧ W'.heap[w.heap.size]? = some (.cells #[.int .u32 (cl : Nat), .int .u32 (nu : Nat), .int .u8 (co : Nat), .int .u32 (rc : Nat), .int .u32 (ve : Nat), fv, hv] 44) ∧ Fr (fun _ => False) w W') := hide (fun W' hf =>
    ⟨⟨((box1 w _).trans0 hf).cell (p := ⟨d, 1, none⟩) hd (fun h => h) |>.trans c1, ((box1 w _).trans0 hf).cell (p := ⟨d, 2, none⟩) hd (fun h => h) |>.trans c2⟩, (hf.block _ (by simp) (fun h => h)).trans (heap_alloc_new w _), (box1 w _).trans0 hf⟩)
  have HL := hide hL
  have HM := hide hM
  clear hL hM c1 c2
  go_enter Try.func27, Try.ntmps27
  go_wp2_with fail
  obtain ⟨W1, hW1⟩ : ∃ W1, w.alloc (.cells #[.int .u32 (cl : Nat), .int .u32 (nu : Nat), .int .u8 (co : Nat), .int .u32 (rc : Nat), .int .u32 (ve : Nat), fv, hv] 44) = W1 := ⟨_, rfl⟩
  have hf1 : Fr (fun _ => False) w W1 := by rw [← hW1]; exact box1 w _
  have HZ : Hid (W1.heap.size = w.heap.size + 1) := hide (by rw [← hW1]; simp)
  rw [hW1] at HS
  rw [hW1]
  clear hW1
  have HSW : Hid (∀ W', Fr (fun _ => False) W1 W' → W'.cell? ⟨d, 1, none⟩ = some (.map (some mw)) ∧ W'.cell? ⟨w.heap.size, 0, none⟩ = some (.int .u32 (cl : Nat)) ∧ W'.cell? ⟨w.heap.size, 1, none⟩ = some (.int .u32 (nu : Nat)) ∧ (Instr.lookup 83 (.map (some mw)) (.agg #[.int .u32 (cl : Nat), .int .u32 (nu : Nat)]) true).run Try.prog W' = .ok (.tuple #[.agg [.int .u32 0, .int .u32 0, .int .u32 0, .int .u8 0, .int .u32 0, .int .u32 0, .int .u32 0, .int .u32 0, .slice none 0 0, .string ⟨#[]⟩, .int .i64 0, .int .i64 0].toArray, .bool false]) W') := hide (fun W' hf => by
    have hb := (unhide HS) W' hf
    exact ⟨hb.1.1, cell_of_blk hb.2.1 rfl, cell_of_blk hb.2.1 rfl, (unhide HL) W' hb.2.2⟩)
  have HSA : Hid (∀ W', Fr (fun _ => False) W1 W' → W'.cell? ⟨d, 2, none⟩ = some (.map (some ma)) ∧ W'.cell? ⟨w.heap.size, 0, none⟩ = some (.int .u32 (cl : Nat)) ∧ W'.cell? ⟨w.heap.size, 1, none⟩ = some (.int .u32 (nu : Nat)) ∧ (Instr.lookup 84 (.map (some ma)) (.agg #[.int .u32 (cl : Nat), .int .u32 (nu : Nat)]) true).run Try.prog W' = .ok (.tuple #[.agg [.int .u32 0, .int .u32 0, .int .u8 0, .int .u32 0, .int .u32 0, .slice none 0 0, .slice none 0 0].toArray, .bool false]) W') := hide (fun W' hf => by
    have hb := (unhide HS) W' hf
    exact ⟨hb.1.2, cell_of_blk hb.2.1 rfl, cell_of_blk hb.2.1 rfl, (unhide HM) W' hb.2.2⟩)
  refine wp_region_held_drew (S := (fun W => W.cell? ⟨d, 1, none⟩ = some (.map (some mw)) ∧ W.cell? ⟨w.heap.size, 0, none⟩ = some (.int .u32 (cl : Nat)) ∧ W.cell? ⟨w.heap.size, 1, none⟩ = some (.int .u32 (nu : Nat)) ∧ (Instr.lookup 83 (.map (some mw)) (.agg #[.int .u32 (cl : Nat), .int .u32 (nu : Nat)]) true).run Try.prog W = .ok (.tuple #[.agg [.int .u32 0, .int .u32 0, .int .u32 0, .int .u8 0, .int .u32 0, .int .u32 0, .int .u32 0, .int .u32 0, .slice none 0 0, .string ⟨#[]⟩, .int .i64 0, .int .i64 0].toArray, .bool false]) W)) (by kernel_rfl) ((unhide HSW) _ (Fr.refl _ _).drew) (fun hHeld => ?_)
  refine wtk2 (i := 0) rfl hHeld ?_
  (try simp only [Act.put, nrm])
  refine wtk2 (i := 1) rfl hHeld ?_
  (try simp only [Act.put, nrm])
  refine wtk2 (i := 2) rfl hHeld ?_
  (try simp only [Act.put, nrm])
  refine wtk2 (i := 3) rfl hHeld ?_
  (try simp only [Act.put, nrm])
  refine wtk2 (i := 4) rfl hHeld ?_
  (try simp only [Act.put, nrm])
  refine wtk2 (i := 5) rfl hHeld ?_
  (try simp only [Act.put, nrm])
  refine wtk2 (i := 6) rfl hHeld ?_
  (try simp only [Act.put, nrm])
  refine wtk2 (i := 7) rfl hHeld ?_
  (try simp only [Act.put, nrm])
  refine wtk2 (i := 8) rfl hHeld ?_
  (try simp only [Act.put, nrm])
  refine wtk2 (i := 9) rfl hHeld ?_
  (try simp only [Act.put, nrm])
  refine wpAnyH_ready (rs := [10]) (by kernel_rfl) (by simp) (AllReadyH.cons rfl (fun K hK => ?_) AllReadyH.nil)
  go_simp
  refine hK.out _ _ ((unhide HSW) _ ((Fr.refl _ _).drew.alloc _)) (fun hHeld => ?_)
  clear hK K
  (try simp only [Act.put, nrm])
  have hb0 : (W1.drew.alloc (.cells [.int .u32 0, .int .u32 0, .int .u32 0, .int .u8 0, .int .u32 0, .int .u32 0, .int .u32 0, .int .u32 0, .slice none 0 0, .string ⟨#[]⟩, .int .i64 0, .int .i64 0].toArray 89)).heap[W1.heap.size]? = some (.cells [.int .u32 0, .int .u32 0, .int .u32 0, .int .u8 0, .int .u32 0, .int .u32 0, .int .u32 0, .int .u32 0, .slice none 0 0, .string ⟨#[]⟩, .int .i64 0, .int .i64 0].toArray 89) := heap_alloc_new W1.drew _
  obtain ⟨W8, hst, hb8, hf8⟩ := st_all (P := Try.prog) (ty := 89) [.int .u32 0, .int .u32 0, .int .u32 0, .int .u8 0, .int .u32 0, .int .u32 0, .int .u32 0, .int .u32 0, .slice none 0 0, .string ⟨#[]⟩, .int .i64 0, .int .i64 0] [.int .u32 0, .int .u32 0, .int .u32 0, .int .u8 0, .int .u32 0, .int .u32 0, .int .u32 0, .int .u32 0, .slice none 0 0, .string ⟨#[]⟩, .int .i64 0, .int .i64 0] hb0 rfl Try.sizeCa (List.all_eq_true.1 (show List.all ([.int .u32 0, .int .u32 0, .int .u32 0, .int .u8 0, .int .u32 0, .int .u32 0, .int .u32 0, .int .u32 0, .slice none 0 0, .string ⟨#[]⟩, .int .i64 0, .int .i64 0] : List Value) (fun v => v.oneCell') = true from rfl))
  have hf18 : Fr (fun _ => False) W1 W8 := ((Fr.refl _ _).drew.alloc _).trans hf8 (fun k hk e => by omega)
  have HF8 := hide hf18
  have HST := hide hst
  clear hst hb8 hf8 hf18 hb0
  refine wpAnyH_ready (rs := [11]) (by kernel_rfl) (by simp) (AllReadyH.cons rfl (fun K hK => ?_) AllReadyH.nil)
  refine step_stN rfl 89 (.tmp 5) (.tmp 17) rfl _ _ (by simp [Act.eval]) (by simp [Act.eval]) (unhide HST) ?_
  refine hK.out _ _ ((unhide HSW) _ (unhide HF8)) (fun hHeld => ?_)
  clear hK K
  (try simp only [Act.put, nrm])
  refine wtk2 (i := 12) rfl hHeld ?_
  (try simp only [Act.put, nrm])
  refine wpAnyH_done (by kernel_rfl) ?_ _
  clear hHeld HSW HST
  go_wp2_with fail
  refine wp_region_held_drew (S := (fun W => W.cell? ⟨d, 2, none⟩ = some (.map (some ma)) ∧ W.cell? ⟨w.heap.size, 0, none⟩ = some (.int .u32 (cl : Nat)) ∧ W.cell? ⟨w.heap.size, 1, none⟩ = some (.int .u32 (nu : Nat)) ∧ (Instr.lookup 84 (.map (some ma)) (.agg #[.int .u32 (cl : Nat), .int .u32 (nu : Nat)]) true).run Try.prog W = .ok (.tuple #[.agg [.int .u32 0, .int .u32 0, .int .u8 0, .int .u32 0, .int .u32 0, .slice none 0 0, .slice none 0 0].toArray, .bool false]) W)) (by kernel_rfl) ((unhide HSA) _ ((unhide HF8).drew)) (fun hHeld => ?_)
  refine wtk2 (i := 0) rfl hHeld ?_
  (try simp only [Act.put, nrm])
  refine wtk2 (i := 1) rfl hHeld ?_
  (try simp only [Act.put, nrm])
  refine wtk2 (i := 2) rfl hHeld ?_
  (try simp only [Act.put, nrm])
  refine wtk2 (i := 3) rfl hHeld ?_
  (try simp only [Act.put, nrm])
  refine wtk2 (i := 4) rfl hHeld ?_
  (try simp only [Act.put, nrm])
  refine wtk2 (i := 5) rfl hHeld ?_
  (try simp only [Act.put, nrm])
  refine wtk2 (i := 6) rfl hHeld ?_
  (try simp only [Act.put, nrm])
  refine wtk2 (i := 7) rfl hHeld ?_
  (try simp only [Act.put, nrm])
  refine wtk2 (i := 8) rfl hHeld ?_
  (try simp only [Act.put, nrm])
  refine wtk2 (i := 9) rfl hHeld ?_
  (try simp only [Act.put, nrm])
  refine wpAnyH_ready (rs := [10]) (by kernel_rfl) (by simp) (AllReadyH.cons rfl (fun K hK => ?_) AllReadyH.nil)
  go_simp
  refine hK.out _ _ ((unhide HSA) _ ((unhide HF8).drew.alloc _)) (fun hHeld => ?_)
  clear hK K
  (try simp only [Act.put, nrm])
  have hb0 : (W8.drew.alloc (.cells [.int .u32 0, .int .u32 0, .int .u8 0, .int .u32 0, .int .u32 0, .slice none 0 0, .slice none 0 0].toArray 44)).heap[W8.heap.size]? = some (.cells [.int .u32 0, .int .u32 0, .int .u8 0, .int .u32 0, .int .u32 0, .slice none 0 0, .slice none 0 0].toArray 44) := heap_alloc_new W8.drew _
  obtain ⟨W9, hst, hb9, hf9⟩ := st_all (P := Try.prog) (ty := 44) [.int .u32 0, .int .u32 0, .int .u8 0, .int .u32 0, .int .u32 0, .slice none 0 0, .slice none 0 0] [.int .u32 0, .int .u32 0, .int .u8 0, .int .u32 0, .int .u32 0, .slice none 0 0, .slice none 0 0] hb0 rfl Try.sizeAn (List.all_eq_true.1 (show List.all ([.int .u32 0, .int .u32 0, .int .u8 0, .int .u32 0, .int .u32 0, .slice none 0 0, .slice none 0 0] : List Value) (fun v => v.oneCell') = true from rfl))
  have hs18 := (unhide HF8).size
  have hf19 : Fr (fun _ => False) W1 W9 := ((unhide HF8).drew.alloc _).trans hf9 (fun k hk e => by omega)
  have HF9 := hide (And.intro (hf1.trans0 hf19) (And.intro hf19 hb9))
  have HST := hide hst
  clear hst hb9 hf9 hf19 hb0 hs18
  refine wpAnyH_ready (rs := [11]) (by kernel_rfl) (by simp) (AllReadyH.cons rfl (fun K hK => ?_) AllReadyH.nil)
  refine step_stN rfl 44 (.tmp 7) (.tmp 53) rfl _ _ (by simp [Act.eval]) (by simp [Act.eval]) (unhide HST) ?_
  refine hK.out _ _ ((unhide HSA) _ (unhide HF9).2.1) (fun hHeld => ?_)
  clear hK K
  (try simp only [Act.put, nrm])
  refine wtk2 (i := 12) rfl hHeld ?_
  (try simp only [Act.put, nrm])
  refine wpAnyH_done (by kernel_rfl) ?_ _
  clear hHeld HSA HST
  go_wp2_with fail
  go_ret
  exact ⟨rfl, (unhide HF9).1⟩
set_option maxRecDepth 100000 in
set_option maxHeartbeats 4000000 in
theorem sta_same (d mw ma cl nu co rc ve : Nat) (fv hv : Value) (A : AN) (h7 : ∀ v ∈ A.cs, v.oneCell' = true) (w : World) (c1 : w.cell? ⟨d, 1, none⟩ = some (.map (some mw))) (c2 : w.cell? ⟨d, 2, none⟩ = some (.map (some ma)))
    (hL : ∀ W', Fr (fun _ => False) w W' → (Instr.lookup 83 (.map (some mw)) (.agg #[.int .u32 (cl : Nat), .int .u32 (nu : Nat)]) true).run Try.prog W' = .ok (.tuple #[.agg [.int .u32 0, .int .u32 0, .int .u32 0, .int .u8 0, .int .u32 0, .int .u32 0, .int .u32 0, .int .u32 0, .slice none 0 0, .string ⟨#[]⟩, .int .i64 0, .int .i64 0].toArray, .bool false]) W') (hM : ∀ W', Fr (fun _ => False) w W' → (Instr.lookup 84 (.map (some ma)) (.agg #[.int .u32 (cl : Nat), .int .u32 (nu : Nat)]) true).run Try.prog W' = .ok (.tuple #[.agg A.cs.toArray, .bool true]) W') (hQ : ∀ W', Fr (fun _ => False) w W' → Calls Try.prog 43 #[.agg A.cs.toArray, .agg #[.int .u32 (cl : Nat), .int .u32 (nu : Nat), .int .u8 (co : Nat), .int .u32 (rc : Nat), .int .u32 (ve : Nat), fv, hv]] W' fun e w' => e = .returned (.bool true) ∧ Fr (fun _ => False) W' w') :
    Calls Try.prog 27 #[.pointer (some ⟨d, 0, none⟩), .agg #[.int .u32 (cl : Nat), .int .u32 (nu : Nat), .int .u8 (co : Nat), .int .u32 (rc : Nat), .int .u32 (ve : Nat), fv, hv]] w fun e w' => e = .returned (.int .i64 0) ∧ Fr (fun _ => False) w w' := by
  have hd : d < w.heap.size := lt_of_cell c1
  have HS : Hid (∀ W', Fr (fun _ => False) (w.alloc (.cells #[.int .u32 (cl : Nat), .int .u32 (nu : Nat), .int .u8 (co : Nat), .int .u32 (rc : Nat), .int .u32 (ve : Nat), fv, hv] 44)) W' → (W'.cell? ⟨d, 1, none⟩ = some (.map (some mw)) ∧ W'.cell? ⟨d, 2, none⟩ = some (.map (some ma))) ∧ W'.heap[w.heap.size]? = some (.cells #[.int .u32 (cl : Nat), .int .u32 (nu : Nat), .int .u8 (co : Nat), .int .u32 (rc : Nat), .int .u32 (ve : Nat), fv, hv] 44) ∧ Fr (fun _ => False) w W') := hide (fun W' hf =>
    ⟨⟨((box1 w _).trans0 hf).cell (p := ⟨d, 1, none⟩) hd (fun h => h) |>.trans c1, ((box1 w _).trans0 hf).cell (p := ⟨d, 2, none⟩) hd (fun h => h) |>.trans c2⟩, (hf.block _ (by simp) (fun h => h)).trans (heap_alloc_new w _), (box1 w _).trans0 hf⟩)
  have HL := hide hL
  have HM := hide hM
  clear hL hM c1 c2
  have HQ := hide hQ
  clear hQ
  go_enter Try.func27, Try.ntmps27
  go_wp2_with fail
  obtain ⟨W1, hW1⟩ : ∃ W1, w.alloc (.cells #[.int .u32 (cl : Nat), .int .u32 (nu : Nat), .int .u8 (co : Nat), .int .u32 (rc : Nat), .int .u32 (ve : Nat), fv, hv] 44) = W1 := ⟨_, rfl⟩
  have hf1 : Fr (fun _ => False) w W1 := by rw [← hW1]; exact box1 w _
  have HZ : Hid (W1.heap.size = w.heap.size + 1) := hide (by rw [← hW1]; simp)
  rw [hW1] at HS
  rw [hW1]
  clear hW1
  have HSW : Hid (∀ W', Fr (fun _ => False) W1 W' → W'.cell? ⟨d, 1, none⟩ = some (.map (some mw)) ∧ W'.cell? ⟨w.heap.size, 0, none⟩ = some (.int .u32 (cl : Nat)) ∧ W'.cell? ⟨w.heap.size, 1, none⟩ = some (.int .u32 (nu : Nat)) ∧ (Instr.lookup 83 (.map (some mw)) (.agg #[.int .u32 (cl : Nat), .int .u32 (nu : Nat)]) true).run Try.prog W' = .ok (.tuple #[.agg [.int .u32 0, .int .u32 0, .int .u32 0, .int .u8 0, .int .u32 0, .int .u32 0, .int .u32 0, .int .u32 0, .slice none 0 0, .string ⟨#[]⟩, .int .i64 0, .int .i64 0].toArray, .bool false]) W') := hide (fun W' hf => by
    have hb := (unhide HS) W' hf
    exact ⟨hb.1.1, cell_of_blk hb.2.1 rfl, cell_of_blk hb.2.1 rfl, (unhide HL) W' hb.2.2⟩)
  have HSA : Hid (∀ W', Fr (fun _ => False) W1 W' → W'.cell? ⟨d, 2, none⟩ = some (.map (some ma)) ∧ W'.cell? ⟨w.heap.size, 0, none⟩ = some (.int .u32 (cl : Nat)) ∧ W'.cell? ⟨w.heap.size, 1, none⟩ = some (.int .u32 (nu : Nat)) ∧ (Instr.lookup 84 (.map (some ma)) (.agg #[.int .u32 (cl : Nat), .int .u32 (nu : Nat)]) true).run Try.prog W' = .ok (.tuple #[.agg A.cs.toArray, .bool true]) W') := hide (fun W' hf => by
    have hb := (unhide HS) W' hf
    exact ⟨hb.1.2, cell_of_blk hb.2.1 rfl, cell_of_blk hb.2.1 rfl, (unhide HM) W' hb.2.2⟩)
  refine wp_region_held_drew (S := (fun W => W.cell? ⟨d, 1, none⟩ = some (.map (some mw)) ∧ W.cell? ⟨w.heap.size, 0, none⟩ = some (.int .u32 (cl : Nat)) ∧ W.cell? ⟨w.heap.size, 1, none⟩ = some (.int .u32 (nu : Nat)) ∧ (Instr.lookup 83 (.map (some mw)) (.agg #[.int .u32 (cl : Nat), .int .u32 (nu : Nat)]) true).run Try.prog W = .ok (.tuple #[.agg [.int .u32 0, .int .u32 0, .int .u32 0, .int .u8 0, .int .u32 0, .int .u32 0, .int .u32 0, .int .u32 0, .slice none 0 0, .string ⟨#[]⟩, .int .i64 0, .int .i64 0].toArray, .bool false]) W)) (by kernel_rfl) ((unhide HSW) _ (Fr.refl _ _).drew) (fun hHeld => ?_)
  refine wtk2 (i := 0) rfl hHeld ?_
  (try simp only [Act.put, nrm])
  refine wtk2 (i := 1) rfl hHeld ?_
  (try simp only [Act.put, nrm])
  refine wtk2 (i := 2) rfl hHeld ?_
  (try simp only [Act.put, nrm])
  refine wtk2 (i := 3) rfl hHeld ?_
  (try simp only [Act.put, nrm])
  refine wtk2 (i := 4) rfl hHeld ?_
  (try simp only [Act.put, nrm])
  refine wtk2 (i := 5) rfl hHeld ?_
  (try simp only [Act.put, nrm])
  refine wtk2 (i := 6) rfl hHeld ?_
  (try simp only [Act.put, nrm])
  refine wtk2 (i := 7) rfl hHeld ?_
  (try simp only [Act.put, nrm])
  refine wtk2 (i := 8) rfl hHeld ?_
  (try simp only [Act.put, nrm])
  refine wtk2 (i := 9) rfl hHeld ?_
  (try simp only [Act.put, nrm])
  refine wpAnyH_ready (rs := [10]) (by kernel_rfl) (by simp) (AllReadyH.cons rfl (fun K hK => ?_) AllReadyH.nil)
  go_simp
  refine hK.out _ _ ((unhide HSW) _ ((Fr.refl _ _).drew.alloc _)) (fun hHeld => ?_)
  clear hK K
  (try simp only [Act.put, nrm])
  have hb0 : (W1.drew.alloc (.cells [.int .u32 0, .int .u32 0, .int .u32 0, .int .u8 0, .int .u32 0, .int .u32 0, .int .u32 0, .int .u32 0, .slice none 0 0, .string ⟨#[]⟩, .int .i64 0, .int .i64 0].toArray 89)).heap[W1.heap.size]? = some (.cells [.int .u32 0, .int .u32 0, .int .u32 0, .int .u8 0, .int .u32 0, .int .u32 0, .int .u32 0, .int .u32 0, .slice none 0 0, .string ⟨#[]⟩, .int .i64 0, .int .i64 0].toArray 89) := heap_alloc_new W1.drew _
  obtain ⟨W8, hst, hb8, hf8⟩ := st_all (P := Try.prog) (ty := 89) [.int .u32 0, .int .u32 0, .int .u32 0, .int .u8 0, .int .u32 0, .int .u32 0, .int .u32 0, .int .u32 0, .slice none 0 0, .string ⟨#[]⟩, .int .i64 0, .int .i64 0] [.int .u32 0, .int .u32 0, .int .u32 0, .int .u8 0, .int .u32 0, .int .u32 0, .int .u32 0, .int .u32 0, .slice none 0 0, .string ⟨#[]⟩, .int .i64 0, .int .i64 0] hb0 rfl Try.sizeCa (List.all_eq_true.1 (show List.all ([.int .u32 0, .int .u32 0, .int .u32 0, .int .u8 0, .int .u32 0, .int .u32 0, .int .u32 0, .int .u32 0, .slice none 0 0, .string ⟨#[]⟩, .int .i64 0, .int .i64 0] : List Value) (fun v => v.oneCell') = true from rfl))
  have hf18 : Fr (fun _ => False) W1 W8 := ((Fr.refl _ _).drew.alloc _).trans hf8 (fun k hk e => by omega)
  have HF8 := hide hf18
  have HST := hide hst
  clear hst hb8 hf8 hf18 hb0
  refine wpAnyH_ready (rs := [11]) (by kernel_rfl) (by simp) (AllReadyH.cons rfl (fun K hK => ?_) AllReadyH.nil)
  refine step_stN rfl 89 (.tmp 5) (.tmp 17) rfl _ _ (by simp [Act.eval]) (by simp [Act.eval]) (unhide HST) ?_
  refine hK.out _ _ ((unhide HSW) _ (unhide HF8)) (fun hHeld => ?_)
  clear hK K
  (try simp only [Act.put, nrm])
  refine wtk2 (i := 12) rfl hHeld ?_
  (try simp only [Act.put, nrm])
  refine wpAnyH_done (by kernel_rfl) ?_ _
  clear hHeld HSW HST
  go_wp2_with fail
  refine wp_region_held_drew (S := (fun W => W.cell? ⟨d, 2, none⟩ = some (.map (some ma)) ∧ W.cell? ⟨w.heap.size, 0, none⟩ = some (.int .u32 (cl : Nat)) ∧ W.cell? ⟨w.heap.size, 1, none⟩ = some (.int .u32 (nu : Nat)) ∧ (Instr.lookup 84 (.map (some ma)) (.agg #[.int .u32 (cl : Nat), .int .u32 (nu : Nat)]) true).run Try.prog W = .ok (.tuple #[.agg A.cs.toArray, .bool true]) W)) (by kernel_rfl) ((unhide HSA) _ ((unhide HF8).drew)) (fun hHeld => ?_)
  refine wtk2 (i := 0) rfl hHeld ?_
  (try simp only [Act.put, nrm])
  refine wtk2 (i := 1) rfl hHeld ?_
  (try simp only [Act.put, nrm])
  refine wtk2 (i := 2) rfl hHeld ?_
  (try simp only [Act.put, nrm])
  refine wtk2 (i := 3) rfl hHeld ?_
  (try simp only [Act.put, nrm])
  refine wtk2 (i := 4) rfl hHeld ?_
  (try simp only [Act.put, nrm])
  refine wtk2 (i := 5) rfl hHeld ?_
  (try simp only [Act.put, nrm])
  refine wtk2 (i := 6) rfl hHeld ?_
  (try simp only [Act.put, nrm])
  refine wtk2 (i := 7) rfl hHeld ?_
  (try simp only [Act.put, nrm])
  refine wtk2 (i := 8) rfl hHeld ?_
  (try simp only [Act.put, nrm])
  refine wtk2 (i := 9) rfl hHeld ?_
  (try simp only [Act.put, nrm])
  refine wpAnyH_ready (rs := [10]) (by kernel_rfl) (by simp) (AllReadyH.cons rfl (fun K hK => ?_) AllReadyH.nil)
  go_simp
  refine hK.out _ _ ((unhide HSA) _ ((unhide HF8).drew.alloc _)) (fun hHeld => ?_)
  clear hK K
  (try simp only [Act.put, nrm])
  have hb0 : (W8.drew.alloc (.cells [.int .u32 0, .int .u32 0, .int .u8 0, .int .u32 0, .int .u32 0, .slice none 0 0, .slice none 0 0].toArray 44)).heap[W8.heap.size]? = some (.cells [.int .u32 0, .int .u32 0, .int .u8 0, .int .u32 0, .int .u32 0, .slice none 0 0, .slice none 0 0].toArray 44) := heap_alloc_new W8.drew _
  obtain ⟨W9, hst, hb9, hf9⟩ := st_all (P := Try.prog) (ty := 44) [.int .u32 0, .int .u32 0, .int .u8 0, .int .u32 0, .int .u32 0, .slice none 0 0, .slice none 0 0] A.cs hb0 rfl Try.sizeAn h7
  have hs18 := (unhide HF8).size
  have hf19 : Fr (fun _ => False) W1 W9 := ((unhide HF8).drew.alloc _).trans hf9 (fun k hk e => by omega)
  have HF9 := hide (And.intro (hf1.trans0 hf19) (And.intro hf19 hb9))
  have HST := hide hst
  clear hst hb9 hf9 hf19 hb0 hs18
  refine wpAnyH_ready (rs := [11]) (by kernel_rfl) (by simp) (AllReadyH.cons rfl (fun K hK => ?_) AllReadyH.nil)
  refine step_stN rfl 44 (.tmp 7) (.tmp 53) rfl _ _ (by simp [Act.eval]) (by simp [Act.eval]) (unhide HST) ?_
  refine hK.out _ _ ((unhide HSA) _ (unhide HF9).2.1) (fun hHeld => ?_)
  clear hK K
  (try simp only [Act.put, nrm])
  refine wtk2 (i := 12) rfl hHeld ?_
  (try simp only [Act.put, nrm])
  refine wpAnyH_done (by kernel_rfl) ?_ _
  clear hHeld HSA HST
  have hr1 : W9.rangeAt W8.heap.size 0 A.cs := range_of_block (unhide HF9).2.2
  have hr2 : W9.rangeAt w.heap.size 0 [.int .u32 (cl : Nat), .int .u32 (nu : Nat), .int .u8 (co : Nat), .int .u32 (rc : Nat), .int .u32 (ve : Nat), fv, hv] := range_of_block ((unhide HS) _ (unhide HF9).2.1).2.1
  have HR1 := hide hr1
  have HR2 := hide hr2
  have HC := hide ((unhide HQ) W9 (unhide HF9).1)
  have HFF := hide (unhide HF9).1
  clear hr1 hr2 HQ HF9 HS HL HM HF8 HZ hf1
  go_wp2_with (first | refine wpList_load_mid rfl 44 (.tmp 7) rfl W8.heap.size 0 rfl _ _ (unhide HR1) Try.underlying44 rfl Try.sizeAn ?_ | refine wpList_load_mid rfl 44 (.tmp 3) rfl w.heap.size 0 rfl _ _ (unhide HR2) Try.underlying44 rfl Try.sizeAn ?_)
  refine (unhide HC).mono ?_
  rintro e W10 ⟨rfl, hf10⟩
  go_wp2_with fail
  go_ret
  exact ⟨rfl, (unhide HFF).trans0 hf10⟩
set_option maxRecDepth 100000 in
set_option maxHeartbeats 4000000 in
theorem sta_other (d mw ma cl nu co rc ve : Nat) (fv hv : Value) (A : AN) (h7 : ∀ v ∈ A.cs, v.oneCell' = true) (w : World) (c1 : w.cell? ⟨d, 1, none⟩ = some (.map (some mw))) (c2 : w.cell? ⟨d, 2, none⟩ = some (.map (some ma)))
    (hL : ∀ W', Fr (fun _ => False) w W' → (Instr.lookup 83 (.map (some mw)) (.agg #[.int .u32 (cl : Nat), .int .u32 (nu : Nat)]) true).run Try.prog W' = .ok (.tuple #[.agg [.int .u32 0, .int .u32 0, .int .u32 0, .int .u8 0, .int .u32 0, .int .u32 0, .int .u32 0, .int .u32 0, .slice none 0 0, .string ⟨#[]⟩, .int .i64 0, .int .i64 0].toArray, .bool false]) W') (hM : ∀ W', Fr (fun _ => False) w W' → (Instr.lookup 84 (.map (some ma)) (.agg #[.int .u32 (cl : Nat), .int .u32 (nu : Nat)]) true).run Try.prog W' = .ok (.tuple #[.agg A.cs.toArray, .bool true]) W') (hQ : ∀ W', Fr (fun _ => False) w W' → Calls Try.prog 43 #[.agg A.cs.toArray, .agg #[.int .u32 (cl : Nat), .int .u32 (nu : Nat), .int .u8 (co : Nat), .int .u32 (rc : Nat), .int .u32 (ve : Nat), fv, hv]] W' fun e w' => e = .returned (.bool false) ∧ Fr (fun _ => False) W' w') :
    Calls Try.prog 27 #[.pointer (some ⟨d, 0, none⟩), .agg #[.int .u32 (cl : Nat), .int .u32 (nu : Nat), .int .u8 (co : Nat), .int .u32 (rc : Nat), .int .u32 (ve : Nat), fv, hv]] w fun e w' => e = .returned (.int .i64 4) ∧ Fr (fun _ => False) w w' := by
  have hd : d < w.heap.size := lt_of_cell c1
  have HS : Hid (∀ W', Fr (fun _ => False) (w.alloc (.cells #[.int .u32 (cl : Nat), .int .u32 (nu : Nat), .int .u8 (co : Nat), .int .u32 (rc : Nat), .int .u32 (ve : Nat), fv, hv] 44)) W' → (W'.cell? ⟨d, 1, none⟩ = some (.map (some mw)) ∧ W'.cell? ⟨d, 2, none⟩ = some (.map (some ma))) ∧ W'.heap[w.heap.size]? = some (.cells #[.int .u32 (cl : Nat), .int .u32 (nu : Nat), .int .u8 (co : Nat), .int .u32 (rc : Nat), .int .u32 (ve : Nat), fv, hv] 44) ∧ Fr (fun _ => False) w W') := hide (fun W' hf =>
    ⟨⟨((box1 w _).trans0 hf).cell (p := ⟨d, 1, none⟩) hd (fun h => h) |>.trans c1, ((box1 w _).trans0 hf).cell (p := ⟨d, 2, none⟩) hd (fun h => h) |>.trans c2⟩, (hf.block _ (by simp) (fun h => h)).trans (heap_alloc_new w _), (box1 w _).trans0 hf⟩)
  have HL := hide hL
  have HM := hide hM
  clear hL hM c1 c2
  have HQ := hide hQ
  clear hQ
  go_enter Try.func27, Try.ntmps27
  go_wp2_with fail
  obtain ⟨W1, hW1⟩ : ∃ W1, w.alloc (.cells #[.int .u32 (cl : Nat), .int .u32 (nu : Nat), .int .u8 (co : Nat), .int .u32 (rc : Nat), .int .u32 (ve : Nat), fv, hv] 44) = W1 := ⟨_, rfl⟩
  have hf1 : Fr (fun _ => False) w W1 := by rw [← hW1]; exact box1 w _
  have HZ : Hid (W1.heap.size = w.heap.size + 1) := hide (by rw [← hW1]; simp)
  rw [hW1] at HS
  rw [hW1]
  clear hW1
  have HSW : Hid (∀ W', Fr (fun _ => False) W1 W' → W'.cell? ⟨d, 1, none⟩ = some (.map (some mw)) ∧ W'.cell? ⟨w.heap.size, 0, none⟩ = some (.int .u32 (cl : Nat)) ∧ W'.cell? ⟨w.heap.size, 1, none⟩ = some (.int .u32 (nu : Nat)) ∧ (Instr.lookup 83 (.map (some mw)) (.agg #[.int .u32 (cl : Nat), .int .u32 (nu : Nat)]) true).run Try.prog W' = .ok (.tuple #[.agg [.int .u32 0, .int .u32 0, .int .u32 0, .int .u8 0, .int .u32 0, .int .u32 0, .int .u32 0, .int .u32 0, .slice none 0 0, .string ⟨#[]⟩, .int .i64 0, .int .i64 0].toArray, .bool false]) W') := hide (fun W' hf => by
    have hb := (unhide HS) W' hf
    exact ⟨hb.1.1, cell_of_blk hb.2.1 rfl, cell_of_blk hb.2.1 rfl, (unhide HL) W' hb.2.2⟩)
  have HSA : Hid (∀ W', Fr (fun _ => False) W1 W' → W'.cell? ⟨d, 2, none⟩ = some (.map (some ma)) ∧ W'.cell? ⟨w.heap.size, 0, none⟩ = some (.int .u32 (cl : Nat)) ∧ W'.cell? ⟨w.heap.size, 1, none⟩ = some (.int .u32 (nu : Nat)) ∧ (Instr.lookup 84 (.map (some ma)) (.agg #[.int .u32 (cl : Nat), .int .u32 (nu : Nat)]) true).run Try.prog W' = .ok (.tuple #[.agg A.cs.toArray, .bool true]) W') := hide (fun W' hf => by
    have hb := (unhide HS) W' hf
    exact ⟨hb.1.2, cell_of_blk hb.2.1 rfl, cell_of_blk hb.2.1 rfl, (unhide HM) W' hb.2.2⟩)
  refine wp_region_held_drew (S := (fun W => W.cell? ⟨d, 1, none⟩ = some (.map (some mw)) ∧ W.cell? ⟨w.heap.size, 0, none⟩ = some (.int .u32 (cl : Nat)) ∧ W.cell? ⟨w.heap.size, 1, none⟩ = some (.int .u32 (nu : Nat)) ∧ (Instr.lookup 83 (.map (some mw)) (.agg #[.int .u32 (cl : Nat), .int .u32 (nu : Nat)]) true).run Try.prog W = .ok (.tuple #[.agg [.int .u32 0, .int .u32 0, .int .u32 0, .int .u8 0, .int .u32 0, .int .u32 0, .int .u32 0, .int .u32 0, .slice none 0 0, .string ⟨#[]⟩, .int .i64 0, .int .i64 0].toArray, .bool false]) W)) (by kernel_rfl) ((unhide HSW) _ (Fr.refl _ _).drew) (fun hHeld => ?_)
  refine wtk2 (i := 0) rfl hHeld ?_
  (try simp only [Act.put, nrm])
  refine wtk2 (i := 1) rfl hHeld ?_
  (try simp only [Act.put, nrm])
  refine wtk2 (i := 2) rfl hHeld ?_
  (try simp only [Act.put, nrm])
  refine wtk2 (i := 3) rfl hHeld ?_
  (try simp only [Act.put, nrm])
  refine wtk2 (i := 4) rfl hHeld ?_
  (try simp only [Act.put, nrm])
  refine wtk2 (i := 5) rfl hHeld ?_
  (try simp only [Act.put, nrm])
  refine wtk2 (i := 6) rfl hHeld ?_
  (try simp only [Act.put, nrm])
  refine wtk2 (i := 7) rfl hHeld ?_
  (try simp only [Act.put, nrm])
  refine wtk2 (i := 8) rfl hHeld ?_
  (try simp only [Act.put, nrm])
  refine wtk2 (i := 9) rfl hHeld ?_
  (try simp only [Act.put, nrm])
  refine wpAnyH_ready (rs := [10]) (by kernel_rfl) (by simp) (AllReadyH.cons rfl (fun K hK => ?_) AllReadyH.nil)
  go_simp
  refine hK.out _ _ ((unhide HSW) _ ((Fr.refl _ _).drew.alloc _)) (fun hHeld => ?_)
  clear hK K
  (try simp only [Act.put, nrm])
  have hb0 : (W1.drew.alloc (.cells [.int .u32 0, .int .u32 0, .int .u32 0, .int .u8 0, .int .u32 0, .int .u32 0, .int .u32 0, .int .u32 0, .slice none 0 0, .string ⟨#[]⟩, .int .i64 0, .int .i64 0].toArray 89)).heap[W1.heap.size]? = some (.cells [.int .u32 0, .int .u32 0, .int .u32 0, .int .u8 0, .int .u32 0, .int .u32 0, .int .u32 0, .int .u32 0, .slice none 0 0, .string ⟨#[]⟩, .int .i64 0, .int .i64 0].toArray 89) := heap_alloc_new W1.drew _
  obtain ⟨W8, hst, hb8, hf8⟩ := st_all (P := Try.prog) (ty := 89) [.int .u32 0, .int .u32 0, .int .u32 0, .int .u8 0, .int .u32 0, .int .u32 0, .int .u32 0, .int .u32 0, .slice none 0 0, .string ⟨#[]⟩, .int .i64 0, .int .i64 0] [.int .u32 0, .int .u32 0, .int .u32 0, .int .u8 0, .int .u32 0, .int .u32 0, .int .u32 0, .int .u32 0, .slice none 0 0, .string ⟨#[]⟩, .int .i64 0, .int .i64 0] hb0 rfl Try.sizeCa (List.all_eq_true.1 (show List.all ([.int .u32 0, .int .u32 0, .int .u32 0, .int .u8 0, .int .u32 0, .int .u32 0, .int .u32 0, .int .u32 0, .slice none 0 0, .string ⟨#[]⟩, .int .i64 0, .int .i64 0] : List Value) (fun v => v.oneCell') = true from rfl))
  have hf18 : Fr (fun _ => False) W1 W8 := ((Fr.refl _ _).drew.alloc _).trans hf8 (fun k hk e => by omega)
  have HF8 := hide hf18
  have HST := hide hst
  clear hst hb8 hf8 hf18 hb0
  refine wpAnyH_ready (rs := [11]) (by kernel_rfl) (by simp) (AllReadyH.cons rfl (fun K hK => ?_) AllReadyH.nil)
  refine step_stN rfl 89 (.tmp 5) (.tmp 17) rfl _ _ (by simp [Act.eval]) (by simp [Act.eval]) (unhide HST) ?_
  refine hK.out _ _ ((unhide HSW) _ (unhide HF8)) (fun hHeld => ?_)
  clear hK K
  (try simp only [Act.put, nrm])
  refine wtk2 (i := 12) rfl hHeld ?_
  (try simp only [Act.put, nrm])
  refine wpAnyH_done (by kernel_rfl) ?_ _
  clear hHeld HSW HST
  go_wp2_with fail
  refine wp_region_held_drew (S := (fun W => W.cell? ⟨d, 2, none⟩ = some (.map (some ma)) ∧ W.cell? ⟨w.heap.size, 0, none⟩ = some (.int .u32 (cl : Nat)) ∧ W.cell? ⟨w.heap.size, 1, none⟩ = some (.int .u32 (nu : Nat)) ∧ (Instr.lookup 84 (.map (some ma)) (.agg #[.int .u32 (cl : Nat), .int .u32 (nu : Nat)]) true).run Try.prog W = .ok (.tuple #[.agg A.cs.toArray, .bool true]) W)) (by kernel_rfl) ((unhide HSA) _ ((unhide HF8).drew)) (fun hHeld => ?_)
  refine wtk2 (i := 0) rfl hHeld ?_
  (try simp only [Act.put, nrm])
  refine wtk2 (i := 1) rfl hHeld ?_
  (try simp only [Act.put, nrm])
  refine wtk2 (i := 2) rfl hHeld ?_
  (try simp only [Act.put, nrm])
  refine wtk2 (i := 3) rfl hHeld ?_
  (try simp only [Act.put, nrm])
  refine wtk2 (i := 4) rfl hHeld ?_
  (try simp only [Act.put, nrm])
  refine wtk2 (i := 5) rfl hHeld ?_
  (try simp only [Act.put, nrm])
  refine wtk2 (i := 6) rfl hHeld ?_
  (try simp only [Act.put, nrm])
  refine wtk2 (i := 7) rfl hHeld ?_
  (try simp only [Act.put, nrm])
  refine wtk2 (i := 8) rfl hHeld ?_
  (try simp only [Act.put, nrm])
  refine wtk2 (i := 9) rfl hHeld ?_
  (try simp only [Act.put, nrm])
  refine wpAnyH_ready (rs := [10]) (by kernel_rfl) (by simp) (AllReadyH.cons rfl (fun K hK => ?_) AllReadyH.nil)
  go_simp
  refine hK.out _ _ ((unhide HSA) _ ((unhide HF8).drew.alloc _)) (fun hHeld => ?_)
  clear hK K
  (try simp only [Act.put, nrm])
  have hb0 : (W8.drew.alloc (.cells [.int .u32 0, .int .u32 0, .int .u8 0, .int .u32 0, .int .u32 0, .slice none 0 0, .slice none 0 0].toArray 44)).heap[W8.heap.size]? = some (.cells [.int .u32 0, .int .u32 0, .int .u8 0, .int .u32 0, .int .u32 0, .slice none 0 0, .slice none 0 0].toArray 44) := heap_alloc_new W8.drew _
  obtain ⟨W9, hst, hb9, hf9⟩ := st_all (P := Try.prog) (ty := 44) [.int .u32 0, .int .u32 0, .int .u8 0, .int .u32 0, .int .u32 0, .slice none 0 0, .slice none 0 0] A.cs hb0 rfl Try.sizeAn h7
  have hs18 := (unhide HF8).size
  have hf19 : Fr (fun _ => False) W1 W9 := ((unhide HF8).drew.alloc _).trans hf9 (fun k hk e => by omega)
  have HF9 := hide (And.intro (hf1.trans0 hf19) (And.intro hf19 hb9))
  have HST := hide hst
  clear hst hb9 hf9 hf19 hb0 hs18
  refine wpAnyH_ready (rs := [11]) (by kernel_rfl) (by simp) (AllReadyH.cons rfl (fun K hK => ?_) AllReadyH.nil)
  refine step_stN rfl 44 (.tmp 7) (.tmp 53) rfl _ _ (by simp [Act.eval]) (by simp [Act.eval]) (unhide HST) ?_
  refine hK.out _ _ ((unhide HSA) _ (unhide HF9).2.1) (fun hHeld => ?_)
  clear hK K
  (try simp only [Act.put, nrm])
  refine wtk2 (i := 12) rfl hHeld ?_
  (try simp only [Act.put, nrm])
  refine wpAnyH_done (by kernel_rfl) ?_ _
  clear hHeld HSA HST
  have hr1 : W9.rangeAt W8.heap.size 0 A.cs := range_of_block (unhide HF9).2.2
  have hr2 : W9.rangeAt w.heap.size 0 [.int .u32 (cl : Nat), .int .u32 (nu : Nat), .int .u8 (co : Nat), .int .u32 (rc : Nat), .int .u32 (ve : Nat), fv, hv] := range_of_block ((unhide HS) _ (unhide HF9).2.1).2.1
  have HR1 := hide hr1
  have HR2 := hide hr2
  have HC := hide ((unhide HQ) W9 (unhide HF9).1)
  have HFF := hide (unhide HF9).1
  clear hr1 hr2 HQ HF9 HS HL HM HF8 HZ hf1
  go_wp2_with (first | refine wpList_load_mid rfl 44 (.tmp 7) rfl W8.heap.size 0 rfl _ _ (unhide HR1) Try.underlying44 rfl Try.sizeAn ?_ | refine wpList_load_mid rfl 44 (.tmp 3) rfl w.heap.size 0 rfl _ _ (unhide HR2) Try.underlying44 rfl Try.sizeAn ?_)
  refine (unhide HC).mono ?_
  rintro e W10 ⟨rfl, hf10⟩
  go_wp2_with fail
  go_ret
  exact ⟨rfl, (unhide HFF).trans0 hf10⟩
end Go.Proofs.Ytkiepcdncegniaa

namespace Go.Proofs.Ytkiepcdncegniaa
open Go.RowKit Go.Maps

/-- What of a message Take looks at. -/
structure MsX (xs : List Value) (ki icl inu co : Nat) (a : AN) : Prop where
  k : xs[0]? = some (.int .u8 (ki : Nat))
  i1 : xs[11]? = some (.int .u32 (icl : Nat))
  i2 : xs[12]? = some (.int .u32 (inu : Nat))
  an : ∀ j v, a.cs[j]? = some v → xs[13 + j]? = some v
  c : xs[20]? = some (.int .u8 (co : Nat))
set_option maxRecDepth 100000 in
theorem stake_ans (d : Nat) (xs : List Value) (icl inu co : Nat) (a : AN) (hm : MsX xs 3 icl inu co a) (w : World) (R : Int → World → Prop)
    (hC : Calls Try.prog 27 #[.pointer (some ⟨d, 0, none⟩), .agg a.cs.toArray] (w.alloc (.cells xs.toArray 49)) fun e w' => ∃ r, e = .returned (.int .i64 r) ∧ R r w') :
    Calls Try.prog 14 #[.pointer (some ⟨d, 0, none⟩), .agg xs.toArray] w fun e w' => ∃ r, e = .returned (.int .i64 r) ∧ R r w' := by
  have hb := heap_alloc_new w (.cells xs.toArray 49)
  have c0 : (w.alloc (.cells xs.toArray 49)).cell? ⟨w.heap.size, 0, none⟩ = some (.int .u8 3) := cell_of_blk hb (by simpa using hm.k)
  have HR : Hid ((w.alloc (.cells xs.toArray 49)).rangeAt w.heap.size 13 a.cs) := hide (fun j v hv => cell_of_blk hb (by simpa using hm.an j v hv))
  have HC := hide hC
  clear hb hC hm
  go_enter Try.func14, Try.ntmps14
  go_wp2_with (refine wpList_load_mid rfl 44 (.tmp 10) rfl w.heap.size 13 rfl _ _ (unhide HR) Try.underlying44 rfl Try.sizeAn ?_)
  refine (unhide HC).mono ?_
  rintro e w1 ⟨r, rfl, hR⟩
  go_wp2_with fail
  go_ret
  exact ⟨r, rfl, hR⟩
set_option maxRecDepth 100000 in
theorem stake_busy (d : Nat) (xs : List Value) (icl inu co : Nat) (a : AN) (hm : MsX xs 4 icl inu co a) (hco : co < 256) (w : World) (R : Int → World → Prop)
    (hC : Calls Try.prog 28 #[.pointer (some ⟨d, 0, none⟩), .agg #[.int .u32 (icl : Nat), .int .u32 (inu : Nat)], .int .i64 (co : Nat)] (w.alloc (.cells xs.toArray 49)) fun e w' => ∃ r, e = .returned (.int .i64 r) ∧ R r w') :
    Calls Try.prog 14 #[.pointer (some ⟨d, 0, none⟩), .agg xs.toArray] w fun e w' => ∃ r, e = .returned (.int .i64 r) ∧ R r w' := by
  have hb := heap_alloc_new w (.cells xs.toArray 49)
  have c0 : (w.alloc (.cells xs.toArray 49)).cell? ⟨w.heap.size, 0, none⟩ = some (.int .u8 4) := cell_of_blk hb (by simpa using hm.k)
  have c1 : (w.alloc (.cells xs.toArray 49)).cell? ⟨w.heap.size, 11, none⟩ = some (.int .u32 (icl : Nat)) := cell_of_blk hb (by simpa using hm.i1)
  have c2 : (w.alloc (.cells xs.toArray 49)).cell? ⟨w.heap.size, 12, none⟩ = some (.int .u32 (inu : Nat)) := cell_of_blk hb (by simpa using hm.i2)
  have c3 : (w.alloc (.cells xs.toArray 49)).cell? ⟨w.heap.size, 20, none⟩ = some (.int .u8 (co : Nat)) := cell_of_blk hb (by simpa using hm.c)
  have HC := hide hC
  have hwr : wrap64 (co : Int) = (co : Int) := by unfold wrap64; omega
  clear hb hC hm
  go_enter Try.func14, Try.ntmps14
  go_wp2_with fail
  refine (unhide HC).mono ?_
  rintro e w1 ⟨r, rfl, hR⟩
  go_wp2_with fail
  go_ret
  exact ⟨r, rfl, hR⟩
set_option maxRecDepth 100000 in
theorem stake_no (d : Nat) (xs : List Value) (ki icl inu co : Nat) (a : AN) (hm : MsX xs ki icl inu co a) (h3 : ki ≠ 3) (h4 : ki ≠ 4) (w : World) :
    Calls Try.prog 14 #[.pointer (some ⟨d, 0, none⟩), .agg xs.toArray] w fun e w' => e = .returned (.int .i64 1) ∧ Fr (fun _ => False) w w' := by
  have hb := heap_alloc_new w (.cells xs.toArray 49)
  have c0 : (w.alloc (.cells xs.toArray 49)).cell? ⟨w.heap.size, 0, none⟩ = some (.int .u8 (ki : Nat)) := cell_of_blk hb (by simpa using hm.k)
  have e3 : ((ki : Int) == 3) = false := by simp; omega
  have e4 : ((ki : Int) == 4) = false := by simp; omega
  have e5 : ¬ (ki : Int) = 3 := by omega
  have e6 : ¬ (ki : Int) = 4 := by omega
  clear hb hm h3 h4
  go_enter Try.func14, Try.ntmps14
  go_wp2_with fail
  go_ret
  exact ⟨rfl, box1 w _⟩
end Go.Proofs.Ytkiepcdncegniaa

namespace Go.Proofs.Ytkiepcdncegniaa
open Go.RowKit Go.Maps

set_option maxRecDepth 100000 in
set_option maxHeartbeats 4000000 in
/-- Answer, by what the map tells. -/
theorem sanswer_core (d ma cl nu : Nat) (A : AN) (b : Bool) (n m : Nat) (xs ys : List Value) (w : World) (c2 : w.cell? ⟨d, 2, none⟩ = some (.map (some ma)))
    (hL : ∀ W', Fr (fun _ => False) w W' → (Instr.lookup 84 (.map (some ma)) (.agg #[.int .u32 (cl : Nat), .int .u32 (nu : Nat)]) true).run Try.prog W' = .ok (.tuple #[.agg A.cs.toArray, .bool b]) W') (hF : Rd w A.fv n 5 xs) (hH : Rd w A.hv m 4 ys) (hn : n ≤ 1048576) (hm : m ≤ 1048576) :
    Calls Try.prog 19 #[.pointer (some ⟨d, 0, none⟩), .agg #[.int .u32 (cl : Nat), .int .u32 (nu : Nat)]] w fun e w' => ∃ v u, e = .returned (.tuple #[AN.v { A with fv := v, hv := u }, .bool b]) ∧ w'.ownsRow w.heap.size 79 5 v n xs ∧ w'.ownsRow w.heap.size 81 4 u m ys ∧ Fr (fun _ => False) w w' := by
  have hd : d < w.heap.size := lt_of_cell c2
  have HS : Hid (∀ W', Fr (fun _ => False) ((w.alloc (.cells #[.int .u32 (cl : Nat), .int .u32 (nu : Nat)] 29)).alloc (.cells [.int .u32 0, .int .u32 0, .int .u8 0, .int .u32 0, .int .u32 0, .slice none 0 0, .slice none 0 0].toArray 44)) W' → (W'.cell? ⟨d, 2, none⟩ = some (.map (some ma)) ∧ W'.cell? ⟨w.heap.size, 0, none⟩ = some (.int .u32 (cl : Nat)) ∧ W'.cell? ⟨w.heap.size, 1, none⟩ = some (.int .u32 (nu : Nat))) ∧ W'.heap[w.heap.size + 1]? = some (.cells [.int .u32 0, .int .u32 0, .int .u8 0, .int .u32 0, .int .u32 0, .slice none 0 0, .slice none 0 0].toArray 44) ∧ Fr (fun _ => False) w W') := hide (fun W' hf => by
    have hf0 : Fr (fun _ => False) w W' := ((box1 w _).alloc _).trans0 hf
    have hb : W'.heap[w.heap.size]? = some (.cells #[.int .u32 (cl : Nat), .int .u32 (nu : Nat)] 29) := (hf.block _ (by simp; omega) (fun h => h)).trans ((Below.heap_alloc _ _ _ (by simp)).trans (heap_alloc_new w _))
    have hb2 := heap_alloc_new (w.alloc (.cells #[.int .u32 (cl : Nat), .int .u32 (nu : Nat)] 29)) (.cells [.int .u32 0, .int .u32 0, .int .u8 0, .int .u32 0, .int .u32 0, .slice none 0 0, .slice none 0 0].toArray 44)
    rw [World.size_alloc] at hb2
    exact ⟨⟨(hf0.cell (p := ⟨d, 2, none⟩) hd (fun h => h)).trans c2, cell_of_blk hb rfl, cell_of_blk hb rfl⟩, (hf.block _ (by simp) (fun h => h)).trans hb2, hf0⟩)
  have HL := hide hL
  have HX := hide (And.intro hF hH)
  have h7 : ∀ v ∈ A.cs, v.oneCell' = true := AN.one A hF.oneX hH.oneX
  have H7 := hide h7
  clear hL c2 hF hH h7
  go_enter Try.func19, Try.ntmps19
  go_wp2_with fail
  obtain ⟨W1, hW1⟩ : ∃ W1, (w.alloc (.cells #[.int .u32 (cl : Nat), .int .u32 (nu : Nat)] 29)).alloc (.cells [.int .u32 0, .int .u32 0, .int .u8 0, .int .u32 0, .int .u32 0, .slice none 0 0, .slice none 0 0].toArray 44) = W1 := ⟨_, rfl⟩
  have hf1 : Fr (fun _ => False) w W1 := by rw [← hW1]; exact (box1 w _).alloc _
  have HZ : Hid (W1.heap.size = w.heap.size + 2) := hide (by rw [← hW1]; simp)
  rw [hW1] at HS
  rw [hW1]
  clear hW1
  have HSA : Hid (∀ W', Fr (fun _ => False) W1 W' → W'.cell? ⟨d, 2, none⟩ = some (.map (some ma)) ∧ W'.cell? ⟨w.heap.size, 0, none⟩ = some (.int .u32 (cl : Nat)) ∧ W'.cell? ⟨w.heap.size, 1, none⟩ = some (.int .u32 (nu : Nat)) ∧ (Instr.lookup 84 (.map (some ma)) (.agg #[.int .u32 (cl : Nat), .int .u32 (nu : Nat)]) true).run Try.prog W' = .ok (.tuple #[.agg A.cs.toArray, .bool b]) W') := hide (fun W' hf => by
    have hb := (unhide HS) W' hf
    exact ⟨hb.1.1, hb.1.2.1, hb.1.2.2, (unhide HL) W' hb.2.2⟩)
  refine wp_region_held_drew (S := (fun W => W.cell? ⟨d, 2, none⟩ = some (.map (some ma)) ∧ W.cell? ⟨w.heap.size, 0, none⟩ = some (.int .u32 (cl : Nat)) ∧ W.cell? ⟨w.heap.size, 1, none⟩ = some (.int .u32 (nu : Nat)) ∧ (Instr.lookup 84 (.map (some ma)) (.agg #[.int .u32 (cl : Nat), .int .u32 (nu : Nat)]) true).run Try.prog W = .ok (.tuple #[.agg A.cs.toArray, .bool b]) W)) (by kernel_rfl) ((unhide HSA) _ (Fr.refl _ _).drew) (fun hHeld => ?_)
  refine wtk2 (i := 0) rfl hHeld ?_
  (try simp only [Act.put, nrm])
  refine wtk2 (i := 1) rfl hHeld ?_
  (try simp only [Act.put, nrm])
  refine wtk2 (i := 2) rfl hHeld ?_
  (try simp only [Act.put, nrm])
  refine wtk2 (i := 3) rfl hHeld ?_
  (try simp only [Act.put, nrm])
  refine wtk2 (i := 4) rfl hHeld ?_
  (try simp only [Act.put, nrm])
  refine wtk2 (i := 5) rfl hHeld ?_
  (try simp only [Act.put, nrm])
  refine wtk2 (i := 6) rfl hHeld ?_
  (try simp only [Act.put, nrm])
  refine wtk2 (i := 7) rfl hHeld ?_
  (try simp only [Act.put, nrm])
  refine wtk2 (i := 8) rfl hHeld ?_
  (try simp only [Act.put, nrm])
  refine wpAnyH_ready (rs := [9]) (by kernel_rfl) (by simp) (AllReadyH.cons rfl (fun K hK => ?_) AllReadyH.nil)
  go_simp
  refine hK.out _ _ ((unhide HSA) _ ((Fr.refl _ _).drew.alloc _)) (fun hHeld => ?_)
  clear hK K
  (try simp only [Act.put, nrm])
  have hb0 : (W1.drew.alloc (.cells [.int .u32 0, .int .u32 0, .int .u8 0, .int .u32 0, .int .u32 0, .slice none 0 0, .slice none 0 0].toArray 44)).heap[W1.heap.size]? = some (.cells [.int .u32 0, .int .u32 0, .int .u8 0, .int .u32 0, .int .u32 0, .slice none 0 0, .slice none 0 0].toArray 44) := heap_alloc_new W1.drew _
  obtain ⟨W8, hst, hb8, hf8⟩ := st_all (P := Try.prog) (ty := 44) [.int .u32 0, .int .u32 0, .int .u8 0, .int .u32 0, .int .u32 0, .slice none 0 0, .slice none 0 0] A.cs hb0 rfl Try.sizeAn (unhide H7)
  have hf18 : Fr (fun _ => False) W1 W8 := ((Fr.refl _ _).drew.alloc _).trans hf8 (fun k hk e => by omega)
  have HF8 := hide (And.intro hf18 (hf1.trans0 hf18))
  have HR8 := hide (range_of_block hb8)
  have HST := hide hst
  clear hst hb8 hf8 hf18 hb0
  refine wpAnyH_ready (rs := [10]) (by kernel_rfl) (by simp) (AllReadyH.cons rfl (fun K hK => ?_) AllReadyH.nil)
  refine step_stN rfl 44 (.tmp 6) (.tmp 15) rfl _ _ (by simp [Act.eval]) (by simp [Act.eval]) (unhide HST) ?_
  refine hK.out _ _ ((unhide HSA) _ (unhide HF8).1) (fun hHeld => ?_)
  clear hK K
  (try simp only [Act.put, nrm])
  refine wtk2 (i := 11) rfl hHeld ?_
  (try simp only [Act.put, nrm])
  refine wpAnyH_done (by kernel_rfl) ?_ _
  clear hHeld HSA HST HL
  have HOA := hide (ownAns_any A n m xs ys W8 ((unhide HX).1.fr0 (unhide HF8).2) ((unhide HX).2.fr0 (unhide HF8).2) hn hm)
  go_wp2_with (refine wpList_load_mid rfl 44 (.tmp 6) rfl W1.heap.size 0 rfl _ _ (unhide HR8) Try.underlying44 rfl Try.sizeAn ?_)
  refine (unhide HOA).mono ?_
  rintro e W9 ⟨v, u, rfl, hF9, hH9, hf9⟩
  have hb9 := ((unhide HS) W9 ((unhide HF8).1.trans0 hf9)).2.1
  have hov := own_one hF9
  have hou := own_one hH9
  obtain ⟨W10, hst, hb10, hf10⟩ := st_all (P := Try.prog) (ty := 44) [.int .u32 0, .int .u32 0, .int .u8 0, .int .u32 0, .int .u32 0, .slice none 0 0, .slice none 0 0] (AN.cs { A with fv := v, hv := u }) hb9 rfl Try.sizeAn (AN.one _ hov hou)
  have hfin : Fr (fun _ => False) w W10 := ((unhide HF8).2.trans0 hf9).trans hf10 (fun k hk e => by omega)
  have hz := unhide HZ
  have hs8 := (unhide HF8).1.size
  have hF10 : W10.ownsRow w.heap.size 79 5 v n xs := ownsRow_base (ownsRow_of_block hF9 (fun g hg => hf10.block g (hF9.lt g hg).2 (fun e => by have := (hF9.lt g hg).1; omega))) (unhide HF8).2.size
  have hH10 : W10.ownsRow w.heap.size 81 4 u m ys := ownsRow_base (ownsRow_of_block hH9 (fun g hg => hf10.block g (hH9.lt g hg).2 (fun e => by have := (hH9.lt g hg).1; omega))) (unhide HF8).2.size
  have HST := hide hst
  have HE := hide (And.intro (range_of_block hb10) (And.intro hF10 (And.intro hH10 hfin)))
  clear hst hb9 hb10 hf10 hfin hF10 hH10 hF9 hH9 hf9 hz hs8 HOA HX HS hov hou
  go_wp2_with (refine wpList_stN rfl 44 (.tmp 4) (.tmp 18) rfl _ _ rfl rfl (unhide HST) ?_)
  refine bodyPost_ret (results_cellt rfl _ _ (w.heap.size + 1) 0 _ _ _ rfl rfl (unhide HE).1 Try.underlying44 rfl Try.sizeAn) rfl ?_
  exact ⟨_, _, rfl, (unhide HE).2.1, (unhide HE).2.2.1, (unhide HE).2.2.2⟩
/-- Answer. -/
theorem sanswer_yes (d mw ma c : Nat) (cs : List SC) (dn : List Nat) (dv : Value) (T : Nat → Prop) (w : World) (h : SsAt w d mw ma c cs dn dv T) (i : Nat) (q : SC) (x : AD) (hq : cs[i]? = some q) (hd : q.d = some x) :
    Calls Try.prog 19 #[.pointer (some ⟨d, 0, none⟩), .agg #[.int .u32 (c : Nat), .int .u32 ((i + 1 : Nat) : Int)]] w fun e w' => ∃ v u, e = .returned (.tuple #[AN.v { x.a with fv := v, hv := u }, .bool true]) ∧ OwF w' w.heap.size v x.F ∧ OwS w' w.heap.size u x.H ∧ Fr (fun _ => False) w w' := by
  have hx := (h.qs q (List.mem_of_getElem? hq)).an x hd
  exact sanswer_core d ma c (i + 1) x.a true x.F.length x.H.length (fcells x.F) (scells x.H) w h.cells.2.2.1 (h.look_a hq hd) (own_rd hx.1.o (fcells_one _)) (own_rd hx.2.o (scells_one _)) hx.1.l hx.2.l
theorem sanswer_no (d mw ma c : Nat) (cs : List SC) (dn : List Nat) (dv : Value) (T : Nat → Prop) (w : World) (h : SsAt w d mw ma c cs dn dv T) (cl k : Nat) (hcl : cl < 4294967296) (hk : k < 4294967296) (hn : cl = c → fA cs k = none) :
    Calls Try.prog 19 #[.pointer (some ⟨d, 0, none⟩), .agg #[.int .u32 (cl : Nat), .int .u32 (k : Nat)]] w fun e w' => ∃ v u, e = .returned (.tuple #[AN.v ⟨0, 0, 0, 0, 0, v, u⟩, .bool false]) ∧ OwF w' w.heap.size v [] ∧ OwS w' w.heap.size u [] ∧ Fr (fun _ => False) w w' :=
  sanswer_core d ma cl k ⟨0, 0, 0, 0, 0, .slice none 0 0, .slice none 0 0⟩ false 0 0 [] [] w h.cells.2.2.1 (h.look_an hcl hk hn) (Rd.nil w 5) (Rd.nil w 4) (by omega) (by omega)
end Go.Proofs.Ytkiepcdncegniaa

namespace Go.Proofs.Ytkiepcdncegniaa
open Go.RowKit Go.Maps

theorem rd_fds {w : World} {x : Value} {F : List F5} (h : Rd w x F.length 5 (fcells F)) : Fds w x F := by
  obtain ⟨xo, c, rfl, h1, h2, h3⟩ := h.f
  cases F with
  | nil => exact .inl ⟨xo, c, rfl, rfl⟩
  | cons f r =>
    obtain ⟨e0, _⟩ := fcells_at (f :: r) 0 (by simp)
    obtain ⟨g, o, rfl, _⟩ := h3 _ _ e0
    refine .inr ⟨g, o, c, rfl, fun j hj => ?_⟩
    obtain ⟨d0, d1, d2, d3, d4⟩ := fcells_at (f :: r) j hj
    have k : ∀ i u, (fcells (f :: r))[i]? = some u → w.cell? ⟨g, o + i, none⟩ = some u := fun i u hu => by
      obtain ⟨g', o', e, hc⟩ := h3 i u hu
      cases e
      exact hc
    exact ⟨k _ _ d0, by rw [Nat.add_assoc]; exact k _ _ d1, by rw [Nat.add_assoc]; exact k _ _ d2, by rw [Nat.add_assoc]; exact k _ _ d3, by rw [Nat.add_assoc]; exact k _ _ d4⟩
/-- A request more. -/
theorem SsAt.call {w w' : World} {d mw ma c : Nat} {cs : List SC} {dn : List Nat} {dv : Value} {T : Nat → Prop} (h : SsAt w d mw ma c cs dn dv T) (q : SC) (hd : q.d = none) (hl : cs.length < 4096) (hid : q.r.cl = c ∧ q.r.nu = cs.length + 1) (hFl : q.F.length ≤ 1048576)
    (hf : Fr (fun g => g = mw) w w') (hm : MpR w' mw c (nW cs + 1) (fun j => if j = cs.length + 1 then some q.v else fW cs j)) (hF : w'.ownsRow w.heap.size 79 5 q.r.fv q.F.length (fcells q.F)) :
    SsAt w' d mw ma c (cs ++ [q]) dn dv (fun g => T g ∨ Nb w w' g) := by
  have hn := nA_put cs q hd
  have hdm := h.dm
  have hL : ∀ {e z n : Nat} {v : Value} {xs : List Value}, e ≠ 86 → LsT w T e z v n xs → LsT w' (fun g => T g ∨ Nb w w' g) e z v n xs := fun he hl =>
    ⟨ownsRow_of_block hl.o (fun g hg => hf.block g (hl.o.lt g hg).2 (fun e => (hl.ne h he hg).2.1 e)), fun g hg => .inl (hl.t g hg), hl.l⟩
  refine ⟨h.c16, by simp; omega, (hf.block d (h.lt d h.own.1) hdm.1).trans h.blk, ?_, ?_, hL (by decide) h.dn, fun x hx => ?_, fun j x hx => ?_, ⟨.inl h.own.1, .inl h.own.2.1, .inl h.own.2.2⟩, h.ap, fun g hg => ?_⟩
  · rw [hn.2, fW_put cs q hd]; exact hm
  · rw [hn.1, fA_put cs q hd]; exact h.am.keep (hf.block ma (h.lt ma h.own.2.2) (fun e => h.ap e.symm))
  · rcases List.mem_append.1 hx with hx | hx
    · exact ⟨fun e => hL (by decide) ((h.qs x hx).wt e), fun y e => ⟨hL (by decide) ((h.qs x hx).an y e).1, hL (by decide) ((h.qs x hx).an y e).2⟩⟩
    · simp at hx
      subst hx
      exact ⟨fun _ => ⟨ownsRow_base hF (Nat.zero_le _), fun g hg => .inr (hF.lt g hg), hFl⟩, fun y e => by rw [hd] at e; cases e⟩
  · by_cases e : j < cs.length
    · rw [List.getElem?_append_left e] at hx
      exact h.id j x hx
    · have hjl := (List.getElem?_eq_some_iff.1 hx).1
      simp at hjl
      obtain rfl : j = cs.length := by omega
      rw [List.getElem?_concat_length] at hx
      cases hx
      exact hid
  · rcases hg with hg | hg
    · exact Nat.lt_of_lt_of_le (h.lt g hg) hf.size
    · exact hg.2
end Go.Proofs.Ytkiepcdncegniaa

namespace Go.Proofs.Ytkiepcdncegniaa
open Go.RowKit Go.Maps

theorem wrap_sum0 (a b n : Nat) (h : a + b = n) (hn : n ≤ 4096) : wrap64 ((a : Int) + (b : Int)) = (n : Int) := by unfold wrap64; omega
theorem wrap_sum (a b n : Nat) (h : a + b = n) (hn : n ≤ 4096) : IntKind.i64.wrap ((a : Int) + (b : Int)) = (n : Int) := (IntWalk.i64_left _).trans (wrap_sum0 a b n h hn)
set_option maxRecDepth 100000 in
set_option maxHeartbeats 4000000 in
theorem scall_bad (d mw ma c : Nat) (cs : List SC) (dn : List Nat) (dv : Value) (T : Nat → Prop) (w : World) (h : SsAt w d mw ma c cs dn dv T) (r : RQ) (F : List F5) (hx : Rd w r.fv F.length 5 (fcells F)) (hl : F.length ≤ 1048576) (hv : ∀ f ∈ F, f.v < 4294967296 ∧ f.u < 256) (hfm : r.frm F = false) :
    Calls Try.prog 10 #[.pointer (some ⟨d, 0, none⟩), r.v] w fun e w' => e = .returned (.tuple #[.agg #[.int .u32 0, .int .u32 0], .int .i64 1]) ∧ Fr (fun _ => False) w w' := by
  have HFM : Hid (∀ W', Fr (fun _ => False) w W' → Calls Try.prog 20 #[r.v] W' fun e w' => e = .returned (.bool false) ∧ Fr (fun _ => False) W' w') := hide (fun W' hf => by
    have := formed_any r F W' (rd_fds (hx.fr0 hf)) (by omega) hv
    rw [hfm] at this
    exact this)
  have HX := hide (And.intro h hx)
  have hld := h.lt d h.own.1
  obtain ⟨cl, nu, ac, op, rc, ve, wa, ow, fv, rs⟩ := r
  have HFV : Hid (fv.oneCell' = true) := hide hx.oneX
  simp only [RQ.v] at HFM ⊢
  clear h hx hfm hv
  go_enter Try.func10, Try.ntmps10
  go_wp2_with fail
  obtain ⟨W1, hW1⟩ : ∃ W1, (w.alloc (.cells #[.int .u32 (cl : Nat), .int .u32 (nu : Nat), .int .u32 (ac : Nat), .int .u8 (op : Nat), .int .u32 (rc : Nat), .int .u32 (ve : Nat), .int .u32 (wa : Nat), .int .u32 (ow : Nat), fv, .string rs] 34)).alloc (.cells #[.int .u32 0, .int .u32 0] 29) = W1 := ⟨_, rfl⟩
  have hf1 : Fr (fun _ => False) w W1 := by rw [← hW1]; exact (box1 w _).alloc _
  have hb1 : W1.heap[w.heap.size]? = some (.cells #[.int .u32 (cl : Nat), .int .u32 (nu : Nat), .int .u32 (ac : Nat), .int .u8 (op : Nat), .int .u32 (rc : Nat), .int .u32 (ve : Nat), .int .u32 (wa : Nat), .int .u32 (ow : Nat), fv, .string rs] 34) := by rw [← hW1]; exact (Below.heap_alloc _ _ _ (by simp)).trans (heap_alloc_new w _)
  have hb2 : W1.heap[w.heap.size + 1]? = some (.cells #[.int .u32 0, .int .u32 0] 29) := by
    rw [← hW1]
    have := heap_alloc_new (w.alloc (.cells #[.int .u32 (cl : Nat), .int .u32 (nu : Nat), .int .u32 (ac : Nat), .int .u8 (op : Nat), .int .u32 (rc : Nat), .int .u32 (ve : Nat), .int .u32 (wa : Nat), .int .u32 (ow : Nat), fv, .string rs] 34)) (.cells #[.int .u32 0, .int .u32 0] 29)
    rwa [World.size_alloc] at this
  rw [hW1]
  clear hW1
  refine ((unhide HFM) W1 hf1).mono ?_
  rintro e W2 ⟨rfl, hf2⟩
  have hc1 := (hf2.block _ (lt_of_block hb1) (fun h => h)).trans hb1
  have hc2 := (hf2.block _ (lt_of_block hb2) (fun h => h)).trans hb2
  have hf02 := hf1.trans0 hf2
  have s0 : W2.cell? ⟨w.heap.size + 1, 0, none⟩ = some (.int .u32 0) := cell_of_blk hc2 rfl
  have s1 : W2.cell? ⟨w.heap.size + 1, 1, none⟩ = some (.int .u32 0) := cell_of_blk hc2 rfl
  have y0 : W2.frozen? ⟨w.heap.size + 1, 0, none⟩ = false := frz_of_blk hc2
  have y1 : W2.frozen? ⟨w.heap.size + 1, 1, none⟩ = false := frz_of_blk hc2
  have HB := hide (And.intro hc1 (And.intro hc2 hf02))
  clear hf1 hb1 hb2 hf2 hc1 hc2 hf02 HFM
  go_wp2_with fail
  refine bodyPost_ret (results_cellt rfl _ _ (w.heap.size + 1) 0 [.int .u32 0, .int .u32 0] _ _ rfl rfl (range_of_block (t := 29) ?_) Try.underlying29 rfl Try.sizeId2) rfl ?_
  · have hb := blkset (blkset (unhide HB).2.1 0 (.int .u32 0)) 1 (.int .u32 0)
    simpa using hb
  · exact ⟨rfl, ((unhide HB).2.2.setCell (p := ⟨w.heap.size + 1, 0, none⟩) (.inr (by show w.heap.size ≤ w.heap.size + 1; omega)) _).setCell (p := ⟨w.heap.size + 1, 1, none⟩) (.inr (by show w.heap.size ≤ w.heap.size + 1; omega)) _⟩
set_option maxRecDepth 100000 in
set_option maxHeartbeats 4000000 in
theorem scall_full (d mw ma c : Nat) (cs : List SC) (dn : List Nat) (dv : Value) (T : Nat → Prop) (w : World) (h : SsAt w d mw ma c cs dn dv T) (r : RQ) (F : List F5) (hx : Rd w r.fv F.length 5 (fcells F)) (hl : F.length ≤ 1048576) (hv : ∀ f ∈ F, f.v < 4294967296 ∧ f.u < 256) (hfm : r.frm F = true) (hkl : cs.length = 4096) :
    Calls Try.prog 10 #[.pointer (some ⟨d, 0, none⟩), r.v] w fun e w' => e = .returned (.tuple #[.agg #[.int .u32 0, .int .u32 0], .int .i64 2]) ∧ Fr (fun _ => False) w w' := by
  have HFM : Hid (∀ W', Fr (fun _ => False) w W' → Calls Try.prog 20 #[r.v] W' fun e w' => e = .returned (.bool true) ∧ Fr (fun _ => False) W' w') := hide (fun W' hf => by
    have := formed_any r F W' (rd_fds (hx.fr0 hf)) (by omega) hv
    rw [hfm] at this
    exact this)
  have HX := hide (And.intro h hx)
  have hld := h.lt d h.own.1
  obtain ⟨cl, nu, ac, op, rc, ve, wa, ow, fv, rs⟩ := r
  have HFV : Hid (fv.oneCell' = true) := hide hx.oneX
  simp only [RQ.v] at HFM ⊢
  clear h hx hfm hv
  go_enter Try.func10, Try.ntmps10
  go_wp2_with fail
  obtain ⟨W1, hW1⟩ : ∃ W1, (w.alloc (.cells #[.int .u32 (cl : Nat), .int .u32 (nu : Nat), .int .u32 (ac : Nat), .int .u8 (op : Nat), .int .u32 (rc : Nat), .int .u32 (ve : Nat), .int .u32 (wa : Nat), .int .u32 (ow : Nat), fv, .string rs] 34)).alloc (.cells #[.int .u32 0, .int .u32 0] 29) = W1 := ⟨_, rfl⟩
  have hf1 : Fr (fun _ => False) w W1 := by rw [← hW1]; exact (box1 w _).alloc _
  have hb1 : W1.heap[w.heap.size]? = some (.cells #[.int .u32 (cl : Nat), .int .u32 (nu : Nat), .int .u32 (ac : Nat), .int .u8 (op : Nat), .int .u32 (rc : Nat), .int .u32 (ve : Nat), .int .u32 (wa : Nat), .int .u32 (ow : Nat), fv, .string rs] 34) := by rw [← hW1]; exact (Below.heap_alloc _ _ _ (by simp)).trans (heap_alloc_new w _)
  have hb2 : W1.heap[w.heap.size + 1]? = some (.cells #[.int .u32 0, .int .u32 0] 29) := by
    rw [← hW1]
    have := heap_alloc_new (w.alloc (.cells #[.int .u32 (cl : Nat), .int .u32 (nu : Nat), .int .u32 (ac : Nat), .int .u8 (op : Nat), .int .u32 (rc : Nat), .int .u32 (ve : Nat), .int .u32 (wa : Nat), .int .u32 (ow : Nat), fv, .string rs] 34)) (.cells #[.int .u32 0, .int .u32 0] 29)
    rwa [World.size_alloc] at this
  rw [hW1]
  clear hW1
  refine ((unhide HFM) W1 hf1).mono ?_
  rintro e W2 ⟨rfl, hf2⟩
  have hc1 := (hf2.block _ (lt_of_block hb1) (fun h => h)).trans hb1
  have hc2 := (hf2.block _ (lt_of_block hb2) (fun h => h)).trans hb2
  have hf02 := hf1.trans0 hf2
  have s0 : W2.cell? ⟨w.heap.size + 1, 0, none⟩ = some (.int .u32 0) := cell_of_blk hc2 rfl
  have s1 : W2.cell? ⟨w.heap.size + 1, 1, none⟩ = some (.int .u32 0) := cell_of_blk hc2 rfl
  have y0 : W2.frozen? ⟨w.heap.size + 1, 0, none⟩ = false := frz_of_blk hc2
  have y1 : W2.frozen? ⟨w.heap.size + 1, 1, none⟩ = false := frz_of_blk hc2
  have HB := hide (And.intro hc1 (And.intro hc2 hf02))
  clear hf1 hb1 hb2 hf2 hc1 hc2 hf02 HFM
  obtain ⟨a, ha⟩ : ∃ a, nW cs = a := ⟨_, rfl⟩
  obtain ⟨b, hb⟩ : ∃ b, nA cs = b := ⟨_, rfl⟩
  obtain ⟨k, hk⟩ : ∃ k, cs.length = k := ⟨_, rfl⟩
  have hab : a + b = k := by rw [← ha, ← hb, ← hk]; exact nWA cs
  have hk4 : k ≤ 4096 := by rw [← hk]; exact (unhide HX).1.len
  have HN := hide (And.intro ha (And.intro hb hk))
  rw [hk] at hkl
  have HW := hide (wrap_sum a b k hab hk4)
  clear hab ha hb hk
  have HS3 : Hid (∀ W', Fr (fun _ => False) w W' → W'.cell? ⟨d, 1, none⟩ = some (.map (some mw)) ∧ W'.cell? ⟨d, 2, none⟩ = some (.map (some ma)) ∧ (Builtin.len_ #[83] 3 #[.map (some mw)]).run Try.prog W' = .ok (.int .i64 (a : Nat)) W' ∧ (Builtin.len_ #[84] 3 #[.map (some ma)]).run Try.prog W' = .ok (.int .i64 (b : Nat)) W') := hide (fun W' hf => by
    have hh := (unhide HX).1.fr0 hf
    have h1 := hh.wm.len Try.underlying83 3
    have h2 := hh.am.len Try.underlying84 3
    rw [(unhide HN).1] at h1
    rw [(unhide HN).2.1] at h2
    exact ⟨hh.cells.2.1, hh.cells.2.2.1, h1, h2⟩)
  go_wp2_with fail
  refine wp_region_held_drew (S := (fun W => W.cell? ⟨d, 1, none⟩ = some (.map (some mw)) ∧ W.cell? ⟨d, 2, none⟩ = some (.map (some ma)) ∧ (Builtin.len_ #[83] 3 #[.map (some mw)]).run Try.prog W = .ok (.int .i64 (a : Nat)) W ∧ (Builtin.len_ #[84] 3 #[.map (some ma)]).run Try.prog W = .ok (.int .i64 (b : Nat)) W)) (by kernel_rfl) ((unhide HS3) _ (unhide HB).2.2.drew) (fun hHeld => ?_)
  refine wtk2 (i := 0) rfl hHeld ?_
  (try simp only [Act.put, nrm])
  refine wtk2 (i := 1) rfl hHeld ?_
  (try simp only [Act.put, nrm])
  refine wtk2 (i := 2) rfl hHeld ?_
  (try simp only [Act.put, nrm])
  refine wtk2 (i := 3) rfl hHeld ?_
  (try simp only [Act.put, nrm])
  refine wtk2 (i := 4) rfl hHeld ?_
  (try simp only [Act.put, nrm])
  refine wtk2 (i := 5) rfl hHeld ?_
  (try simp only [Act.put, nrm])
  refine wtk2 (i := 6) rfl hHeld ?_
  (try simp only [Act.put, nrm])
  refine wtk2 (i := 7) rfl hHeld ?_
  (try simp only [Act.put, nrm])
  refine wtk2 (i := 8) rfl hHeld ?_
  (try simp only [Act.put, nrm])
  refine wtk2 (i := 9) rfl hHeld ?_
  (try simp only [Act.put, nrm])
  refine wtk2 (i := 10) rfl hHeld ?_
  (try simp only [Act.put, nrm])
  refine wtk2 (i := 11) rfl hHeld ?_
  (try simp only [Act.put, nrm])
  refine wpAnyH_done (by kernel_rfl) ?_ _
  have hww := unhide HW
  simp only [hww]
  clear hHeld HS3 hww HW
  subst hkl
  go_wp2_with fail
  refine bodyPost_ret (results_cellt rfl _ _ (w.heap.size + 1) 0 [.int .u32 0, .int .u32 0] _ _ rfl rfl (range_of_block (t := 29) ?_) Try.underlying29 rfl Try.sizeId2) rfl ?_
  · have hb : ((W2.setCell ⟨w.heap.size + 1, 0, none⟩ (.int .u32 0)).setCell ⟨w.heap.size + 1, 1, none⟩ (.int .u32 0)).heap[w.heap.size + 1]? = some (.cells #[.int .u32 0, .int .u32 0] 29) := by simpa using blkset (blkset (unhide HB).2.1 0 (.int .u32 0)) 1 (.int .u32 0)
    exact hb
  · exact ⟨rfl, (((unhide HB).2.2.setCell (p := ⟨w.heap.size + 1, 0, none⟩) (.inr (by show w.heap.size ≤ w.heap.size + 1; omega)) _).setCell (p := ⟨w.heap.size + 1, 1, none⟩) (.inr (by show w.heap.size ≤ w.heap.size + 1; omega)) _).drew⟩
set_option maxRecDepth 100000 in
set_option maxHeartbeats 4000000 in
theorem scall_ok (d mw ma c : Nat) (cs : List SC) (dn : List Nat) (dv : Value) (T : Nat → Prop) (w : World) (h : SsAt w d mw ma c cs dn dv T) (r : RQ) (F : List F5) (hx : Rd w r.fv F.length 5 (fcells F)) (hl : F.length ≤ 1048576) (hv : ∀ f ∈ F, f.v < 4294967296 ∧ f.u < 256) (hfm : r.frm F = true) (hkl : cs.length < 4096) :
    Calls Try.prog 10 #[.pointer (some ⟨d, 0, none⟩), r.v] w fun e w' => e = .returned (.tuple #[.agg #[.int .u32 (c : Nat), .int .u32 ((cs.length : Int) + 1)], .int .i64 0]) ∧ (∃ v, SsAt w' d mw ma c (cs ++ [⟨{ r with cl := c, nu := cs.length + 1, fv := v }, F, 0, 0, none⟩]) dn dv (fun g => T g ∨ Nb w w' g)) ∧ Fr (fun g => g = mw) w w' := by
  have HFM : Hid (∀ W', Fr (fun _ => False) w W' → Calls Try.prog 20 #[r.v] W' fun e w' => e = .returned (.bool true) ∧ Fr (fun _ => False) W' w') := hide (fun W' hf => by
    have := formed_any r F W' (rd_fds (hx.fr0 hf)) (by omega) hv
    rw [hfm] at this
    exact this)
  have HX := hide (And.intro h hx)
  have hld := h.lt d h.own.1
  obtain ⟨cl, nu, ac, op, rc, ve, wa, ow, fv, rs⟩ := r
  have HFV : Hid (fv.oneCell' = true) := hide hx.oneX
  simp only [RQ.v] at HFM ⊢
  clear h hx hfm hv
  go_enter Try.func10, Try.ntmps10
  go_wp2_with fail
  obtain ⟨W1, hW1⟩ : ∃ W1, (w.alloc (.cells #[.int .u32 (cl : Nat), .int .u32 (nu : Nat), .int .u32 (ac : Nat), .int .u8 (op : Nat), .int .u32 (rc : Nat), .int .u32 (ve : Nat), .int .u32 (wa : Nat), .int .u32 (ow : Nat), fv, .string rs] 34)).alloc (.cells #[.int .u32 0, .int .u32 0] 29) = W1 := ⟨_, rfl⟩
  have hf1 : Fr (fun _ => False) w W1 := by rw [← hW1]; exact (box1 w _).alloc _
  have hb1 : W1.heap[w.heap.size]? = some (.cells #[.int .u32 (cl : Nat), .int .u32 (nu : Nat), .int .u32 (ac : Nat), .int .u8 (op : Nat), .int .u32 (rc : Nat), .int .u32 (ve : Nat), .int .u32 (wa : Nat), .int .u32 (ow : Nat), fv, .string rs] 34) := by rw [← hW1]; exact (Below.heap_alloc _ _ _ (by simp)).trans (heap_alloc_new w _)
  have hb2 : W1.heap[w.heap.size + 1]? = some (.cells #[.int .u32 0, .int .u32 0] 29) := by
    rw [← hW1]
    have := heap_alloc_new (w.alloc (.cells #[.int .u32 (cl : Nat), .int .u32 (nu : Nat), .int .u32 (ac : Nat), .int .u8 (op : Nat), .int .u32 (rc : Nat), .int .u32 (ve : Nat), .int .u32 (wa : Nat), .int .u32 (ow : Nat), fv, .string rs] 34)) (.cells #[.int .u32 0, .int .u32 0] 29)
    rwa [World.size_alloc] at this
  rw [hW1]
  clear hW1
  refine ((unhide HFM) W1 hf1).mono ?_
  rintro e W2 ⟨rfl, hf2⟩
  have hc1 := (hf2.block _ (lt_of_block hb1) (fun h => h)).trans hb1
  have hc2 := (hf2.block _ (lt_of_block hb2) (fun h => h)).trans hb2
  have hf02 := hf1.trans0 hf2
  have s0 : W2.cell? ⟨w.heap.size + 1, 0, none⟩ = some (.int .u32 0) := cell_of_blk hc2 rfl
  have s1 : W2.cell? ⟨w.heap.size + 1, 1, none⟩ = some (.int .u32 0) := cell_of_blk hc2 rfl
  have y0 : W2.frozen? ⟨w.heap.size + 1, 0, none⟩ = false := frz_of_blk hc2
  have y1 : W2.frozen? ⟨w.heap.size + 1, 1, none⟩ = false := frz_of_blk hc2
  have HB := hide (And.intro hc1 (And.intro hc2 hf02))
  clear hf1 hb1 hb2 hf2 hc1 hc2 hf02 HFM
  obtain ⟨a, ha⟩ : ∃ a, nW cs = a := ⟨_, rfl⟩
  obtain ⟨b, hb⟩ : ∃ b, nA cs = b := ⟨_, rfl⟩
  obtain ⟨k, hk⟩ : ∃ k, cs.length = k := ⟨_, rfl⟩
  have hab : a + b = k := by rw [← ha, ← hb, ← hk]; exact nWA cs
  have hk4 : k ≤ 4096 := by rw [← hk]; exact (unhide HX).1.len
  have HN := hide (And.intro ha (And.intro hb hk))
  rw [hk] at hkl
  have HW := hide (wrap_sum a b k hab hk4)
  clear hab ha hb hk
  have HS3 : Hid (∀ W', Fr (fun _ => False) w W' → W'.cell? ⟨d, 1, none⟩ = some (.map (some mw)) ∧ W'.cell? ⟨d, 2, none⟩ = some (.map (some ma)) ∧ (Builtin.len_ #[83] 3 #[.map (some mw)]).run Try.prog W' = .ok (.int .i64 (a : Nat)) W' ∧ (Builtin.len_ #[84] 3 #[.map (some ma)]).run Try.prog W' = .ok (.int .i64 (b : Nat)) W') := hide (fun W' hf => by
    have hh := (unhide HX).1.fr0 hf
    have h1 := hh.wm.len Try.underlying83 3
    have h2 := hh.am.len Try.underlying84 3
    rw [(unhide HN).1] at h1
    rw [(unhide HN).2.1] at h2
    exact ⟨hh.cells.2.1, hh.cells.2.2.1, h1, h2⟩)
  go_wp2_with fail
  refine wp_region_held_drew (S := (fun W => W.cell? ⟨d, 1, none⟩ = some (.map (some mw)) ∧ W.cell? ⟨d, 2, none⟩ = some (.map (some ma)) ∧ (Builtin.len_ #[83] 3 #[.map (some mw)]).run Try.prog W = .ok (.int .i64 (a : Nat)) W ∧ (Builtin.len_ #[84] 3 #[.map (some ma)]).run Try.prog W = .ok (.int .i64 (b : Nat)) W)) (by kernel_rfl) ((unhide HS3) _ (unhide HB).2.2.drew) (fun hHeld => ?_)
  refine wtk2 (i := 0) rfl hHeld ?_
  (try simp only [Act.put, nrm])
  refine wtk2 (i := 1) rfl hHeld ?_
  (try simp only [Act.put, nrm])
  refine wtk2 (i := 2) rfl hHeld ?_
  (try simp only [Act.put, nrm])
  refine wtk2 (i := 3) rfl hHeld ?_
  (try simp only [Act.put, nrm])
  refine wtk2 (i := 4) rfl hHeld ?_
  (try simp only [Act.put, nrm])
  refine wtk2 (i := 5) rfl hHeld ?_
  (try simp only [Act.put, nrm])
  refine wtk2 (i := 6) rfl hHeld ?_
  (try simp only [Act.put, nrm])
  refine wtk2 (i := 7) rfl hHeld ?_
  (try simp only [Act.put, nrm])
  refine wtk2 (i := 8) rfl hHeld ?_
  (try simp only [Act.put, nrm])
  refine wtk2 (i := 9) rfl hHeld ?_
  (try simp only [Act.put, nrm])
  refine wtk2 (i := 10) rfl hHeld ?_
  (try simp only [Act.put, nrm])
  refine wtk2 (i := 11) rfl hHeld ?_
  (try simp only [Act.put, nrm])
  refine wpAnyH_done (by kernel_rfl) ?_ _
  have hww := unhide HW
  simp only [hww]
  clear hHeld HS3 hww HW
  have hnk : ¬ (k : Int) ≥ 4096 := by omega
  have hnk2 : ¬ (4096 : Int) ≤ (k : Int) := by omega
  have hnk3 : ¬ 4096 ≤ k := by omega
  have hw1 : wrap64 ((k : Int) + 1) = (k : Int) + 1 := by unfold wrap64; omega
  have hw2 : IntKind.u32.wrap ((k : Int) + 1) = (k : Int) + 1 := by
    have e : ((k : Int) + 1) % 4294967296 = (k : Int) + 1 := by omega
    simp [IntKind.wrap, IntKind.bits, IntKind.signed, e]
  have hcc := ((unhide HX).1.fr0 (unhide HB).2.2).cells
  have c0 := hcc.1
  have e0 : W2.cell? ⟨w.heap.size, 0, none⟩ = some (.int .u32 (cl : Nat)) := cell_of_blk (unhide HB).1 rfl
  have e1 : W2.cell? ⟨w.heap.size, 1, none⟩ = some (.int .u32 (nu : Nat)) := cell_of_blk (unhide HB).1 rfl
  have z0 : W2.frozen? ⟨w.heap.size, 0, none⟩ = false := frz_of_blk (unhide HB).1
  have z1 : W2.frozen? ⟨w.heap.size, 1, none⟩ = false := frz_of_blk (unhide HB).1
  have hdw : d ≠ w.heap.size := by omega
  clear hcc
  go_wp2_with fail
  obtain ⟨W3, hW3⟩ : ∃ W3, ((W2.setCell ⟨w.heap.size, 0, none⟩ (.int .u32 (c : Nat))).setCell ⟨w.heap.size, 1, none⟩ (.int .u32 ((k : Int) + 1))).drew = W3 := ⟨_, rfl⟩
  have hb3 : W3.heap[w.heap.size]? = some (.cells #[.int .u32 (c : Nat), .int .u32 ((k : Int) + 1), .int .u32 (ac : Nat), .int .u8 (op : Nat), .int .u32 (rc : Nat), .int .u32 (ve : Nat), .int .u32 (wa : Nat), .int .u32 (ow : Nat), fv, .string rs] 34) := by
    rw [← hW3]
    have hb : ((W2.setCell ⟨w.heap.size, 0, none⟩ (.int .u32 (c : Nat))).setCell ⟨w.heap.size, 1, none⟩ (.int .u32 ((k : Int) + 1))).heap[w.heap.size]? = some (.cells #[.int .u32 (c : Nat), .int .u32 ((k : Int) + 1), .int .u32 (ac : Nat), .int .u8 (op : Nat), .int .u32 (rc : Nat), .int .u32 (ve : Nat), .int .u32 (wa : Nat), .int .u32 (ow : Nat), fv, .string rs] 34) := by simpa using blkset (blkset (unhide HB).1 0 (.int .u32 (c : Nat))) 1 (.int .u32 ((k : Int) + 1))
    exact hb
  have hb4 : W3.heap[w.heap.size + 1]? = some (.cells #[.int .u32 0, .int .u32 0] 29) := by
    rw [← hW3]
    exact ((Below.heap_setCell _ ⟨w.heap.size, 1, none⟩ _ (w.heap.size + 1) (by show w.heap.size + 1 ≠ w.heap.size; omega)).trans (Below.heap_setCell W2 ⟨w.heap.size, 0, none⟩ _ (w.heap.size + 1) (by show w.heap.size + 1 ≠ w.heap.size; omega))).trans (unhide HB).2.1
  have hf3 : Fr (fun _ => False) w W3 := by
    rw [← hW3]
    exact (((unhide HB).2.2.setCell (p := ⟨w.heap.size, 0, none⟩) (.inr (Nat.le_refl _)) _).setCell (p := ⟨w.heap.size, 1, none⟩) (.inr (Nat.le_refl _)) _).drew
  rw [hW3]
  clear hW3 s0 s1 y0 y1 e0 e1 z0 z1 c0 hw1 hw2 HB
  have HB := hide (And.intro hb3 (And.intro hb4 hf3))
  clear hb3 hb4 hf3
  have HG : Hid (∀ W', Fr (fun g => g = mw) W3 W' → W'.heap[w.heap.size]? = some (.cells #[.int .u32 (c : Nat), .int .u32 ((k : Int) + 1), .int .u32 (ac : Nat), .int .u8 (op : Nat), .int .u32 (rc : Nat), .int .u32 (ve : Nat), .int .u32 (wa : Nat), .int .u32 (ow : Nat), fv, .string rs] 34) ∧ W'.heap[w.heap.size + 1]? = some (.cells #[.int .u32 0, .int .u32 0] 29) ∧ W'.cell? ⟨d, 1, none⟩ = some (.map (some mw))) := hide (fun W' hf => by
    have hh := (unhide HX).1
    have hml := hh.lt mw hh.own.2.1
    have hcd := (hh.fr0 (unhide HB).2.2).cells.2.1
    exact ⟨(hf.block _ (lt_of_block (unhide HB).1) (by omega)).trans (unhide HB).1, (hf.block _ (lt_of_block (unhide HB).2.1) (by omega)).trans (unhide HB).2.1, (hf.cell (p := ⟨d, 1, none⟩) (lt_of_cell hcd) hh.dm.1).trans hcd⟩)
  have HS7 : Hid (∀ W', Fr (fun g => g = mw) W3 W' → W'.cell? ⟨d, 1, none⟩ = some (.map (some mw)) ∧ W'.cell? ⟨w.heap.size, 0, none⟩ = some (.int .u32 (c : Nat)) ∧ W'.cell? ⟨w.heap.size, 1, none⟩ = some (.int .u32 ((k : Int) + 1)) ∧ W'.rangeAt w.heap.size 0 [.int .u32 (c : Nat), .int .u32 ((k : Int) + 1), .int .u32 (ac : Nat), .int .u8 (op : Nat), .int .u32 (rc : Nat), .int .u32 (ve : Nat), .int .u32 (wa : Nat), .int .u32 (ow : Nat), fv, .string rs]) := hide (fun W' hf => by
    have hb := (unhide HG) W' hf
    exact ⟨hb.2.2, cell_of_blk hb.1 rfl, cell_of_blk hb.1 rfl, range_of_block hb.1⟩)
  refine wp_region_held_drew (S := (fun W => W.cell? ⟨d, 1, none⟩ = some (.map (some mw)) ∧ W.cell? ⟨w.heap.size, 0, none⟩ = some (.int .u32 (c : Nat)) ∧ W.cell? ⟨w.heap.size, 1, none⟩ = some (.int .u32 ((k : Int) + 1)) ∧ W.rangeAt w.heap.size 0 [.int .u32 (c : Nat), .int .u32 ((k : Int) + 1), .int .u32 (ac : Nat), .int .u8 (op : Nat), .int .u32 (rc : Nat), .int .u32 (ve : Nat), .int .u32 (wa : Nat), .int .u32 (ow : Nat), fv, .string rs])) (by kernel_rfl) ((unhide HS7) _ (Fr.refl _ _).drew) (fun hHeld => ?_)
  refine wtk2 (i := 0) rfl hHeld ?_
  (try simp only [Act.put, nrm])
  refine wtk2 (i := 1) rfl hHeld ?_
  (try simp only [Act.put, nrm])
  refine wtk2 (i := 2) rfl hHeld ?_
  (try simp only [Act.put, nrm])
  refine wtk2 (i := 3) rfl hHeld ?_
  (try simp only [Act.put, nrm])
  refine wtk2 (i := 4) rfl hHeld ?_
  (try simp only [Act.put, nrm])
  refine wtk2 (i := 5) rfl hHeld ?_
  (try simp only [Act.put, nrm])
  refine wtk (i := 6) rfl (yieldsIf_load_mid rfl 34 (.tmp 3) rfl w.heap.size 0 rfl _ _ (fun w h => h.2.2.2) Try.underlying34 rfl Try.sizeRq) hHeld ?_
  (try simp only [Act.put, nrm])
  refine wpAnyH_ready (rs := [7]) (by kernel_rfl) (by simp) (AllReadyH.cons rfl (fun K hK => ?_) AllReadyH.nil)
  have HOA := hide (ownReq_any ⟨c, k + 1, ac, op, rc, ve, wa, ow, fv, rs⟩ F.length (fcells F) W3.drew ((unhide HX).2.fr0 (unhide HB).2.2.drew) hl)
  go_simp
  refine (unhide HOA).mono ?_
  rintro e W4 ⟨v, rfl, hF4, hf4⟩
  clear HOA
  have hov := own_one hF4
  have hf34 : Fr (fun g => g = mw) W3 W4 := ((Fr.refl _ _).drew.trans0 hf4).mono (fun _ _ e => e.elim)
  have hfw4 : Fr (fun _ => False) w W4 := (unhide HB).2.2.drew.trans0 hf4
  have hmw4 := ((unhide HX).1.fr0 hfw4).wm
  have hcs := (unhide HX).1.c16
  have hnk5 := (unhide HN).2.2
  have hnw := nWA cs
  obtain ⟨W5, hup, hm5, hf5⟩ := hmw4.put (by omega) (by have := (unhide HX).1.len; omega) Try.underlying83 (k := cs.length + 1) (by have := (unhide HX).1.len; omega) (SC.v ⟨⟨c, k + 1, ac, op, rc, ve, wa, ow, v, rs⟩, F, 0, 0, none⟩)
  rw [fW_no (.inr (Nat.lt_succ_self _))] at hm5
  rw [hnk5] at hup
  have hup' : (Instr.mapUpdate 83 (.map (some mw)) (.agg #[.int .u32 (c : Nat), .int .u32 ((k : Int) + 1)]) (.agg #[.int .u32 (c : Nat), .int .u32 ((k : Int) + 1), .int .u32 (ac : Nat), .int .u8 (op : Nat), .int .u32 (rc : Nat), .int .u32 (ve : Nat), .int .u32 (wa : Nat), .int .u32 (ow : Nat), v, .string rs, .int .i64 0, .int .i64 0])).run Try.prog W4 = .ok () W5 := hup
  have hf35 : Fr (fun g => g = mw) W3 W5 := hf34.trans hf5 (fun _ _ e => e)
  have hfw5 : Fr (fun g => g = mw) w W5 := (hfw4.mono (fun _ _ e => e.elim)).trans hf5 (fun _ _ e => e)
  have hml := (unhide HX).1.lt mw (unhide HX).1.own.2.1
  have hF5 : W5.ownsRow w.heap.size 79 5 v F.length (fcells F) := ownsRow_base (ownsRow_of_block hF4 (fun g hg => hf5.block g (hF4.lt g hg).2 (fun e => by have h1 := (hF4.lt g hg).1; have h2 := (unhide HB).2.2.size; have : W3.drew.heap.size = W3.heap.size := rfl; omega))) (unhide HB).2.2.size
  have HUP := hide hup'
  have H5 := hide (And.intro hm5 (And.intro hf35 (And.intro hfw5 hF5)))
  have HV := hide hov
  clear hup hup' hm5 hf5 hf35 hfw5 hF5 hF4 hf4 hfw4 hmw4 hml hov hcs hnk5 hnw
  simp only [RQ.v]
  try dsimp only
  refine hK.out _ _ ((unhide HS7) _ hf34) (fun hHeld => ?_)
  clear hK K
  (try simp only [Act.put, nrm])
  clear hf34
  refine wtk2 (i := 8) rfl hHeld ?_
  (try simp only [Act.put, nrm])
  refine wpAnyH_ready (rs := [9]) (by kernel_rfl) (by simp) (AllReadyH.cons rfl (fun K hK => ?_) AllReadyH.nil)
  refine step_mu rfl 83 (.tmp 37) (.tmp 39) (.tmp 42) rfl _ _ _ (by simp [Act.eval]) (by simp [Act.eval]) (by simp [Act.eval]) (unhide HUP) ?_
  refine hK.out _ _ ((unhide HS7) _ (unhide H5).2.1) (fun hHeld => ?_)
  clear hK K
  (try simp only [Act.put, nrm])
  refine wpAnyH_done (by kernel_rfl) ?_ _
  clear hHeld HS7 HUP
  have hb5 := (unhide HG) W5 (unhide H5).2.1
  have e0 : W5.cell? ⟨w.heap.size, 0, none⟩ = some (.int .u32 (c : Nat)) := cell_of_blk hb5.1 rfl
  have e1 : W5.cell? ⟨w.heap.size, 1, none⟩ = some (.int .u32 ((k : Int) + 1)) := cell_of_blk hb5.1 rfl
  have s0 : W5.cell? ⟨w.heap.size + 1, 0, none⟩ = some (.int .u32 0) := cell_of_blk hb5.2.1 rfl
  have s1 : W5.cell? ⟨w.heap.size + 1, 1, none⟩ = some (.int .u32 0) := cell_of_blk hb5.2.1 rfl
  have y0 : W5.frozen? ⟨w.heap.size + 1, 0, none⟩ = false := frz_of_blk hb5.2.1
  have y1 : W5.frozen? ⟨w.heap.size + 1, 1, none⟩ = false := frz_of_blk hb5.2.1
  have hb6 : ((W5.setCell ⟨w.heap.size + 1, 0, none⟩ (.int .u32 (c : Nat))).setCell ⟨w.heap.size + 1, 1, none⟩ (.int .u32 ((k : Int) + 1))).heap[w.heap.size + 1]? = some (.cells #[.int .u32 (c : Nat), .int .u32 ((k : Int) + 1)] 29) := by simpa using blkset (blkset hb5.2.1 0 (.int .u32 (c : Nat))) 1 (.int .u32 ((k : Int) + 1))
  have hf56 : Fr (fun g => g = w.heap.size + 1) W5 ((W5.setCell ⟨w.heap.size + 1, 0, none⟩ (.int .u32 (c : Nat))).setCell ⟨w.heap.size + 1, 1, none⟩ (.int .u32 ((k : Int) + 1))) := ((Fr.refl (fun g => g = w.heap.size + 1) W5).setCell (p := ⟨w.heap.size + 1, 0, none⟩) (.inl rfl) _).setCell (p := ⟨w.heap.size + 1, 1, none⟩) (.inl rfl) _
  have HE : Hid ((∃ v', SsAt ((W5.setCell ⟨w.heap.size + 1, 0, none⟩ (.int .u32 (c : Nat))).setCell ⟨w.heap.size + 1, 1, none⟩ (.int .u32 ((k : Int) + 1))) d mw ma c (cs ++ [⟨⟨c, cs.length + 1, ac, op, rc, ve, wa, ow, v', rs⟩, F, 0, 0, none⟩]) dn dv (fun g => T g ∨ Nb w ((W5.setCell ⟨w.heap.size + 1, 0, none⟩ (.int .u32 (c : Nat))).setCell ⟨w.heap.size + 1, 1, none⟩ (.int .u32 ((k : Int) + 1))) g)) ∧ Fr (fun g => g = mw) w ((W5.setCell ⟨w.heap.size + 1, 0, none⟩ (.int .u32 (c : Nat))).setCell ⟨w.heap.size + 1, 1, none⟩ (.int .u32 ((k : Int) + 1)))) := hide (by
    have h5 := unhide H5
    have hk5 := (unhide HN).2.2
    have hfw : Fr (fun g => g = mw) w ((W5.setCell ⟨w.heap.size + 1, 0, none⟩ (.int .u32 (c : Nat))).setCell ⟨w.heap.size + 1, 1, none⟩ (.int .u32 ((k : Int) + 1))) := h5.2.2.1.trans hf56 (fun g hg e => by omega)
    have hml := (unhide HX).1.lt mw (unhide HX).1.own.2.1
    have hz : W5.heap[w.heap.size + 1]? ≠ none := by rw [hb5.2.1]; simp
    refine ⟨⟨v, (unhide HX).1.call ⟨⟨c, cs.length + 1, ac, op, rc, ve, wa, ow, v, rs⟩, F, 0, 0, none⟩ rfl (by omega) ⟨rfl, rfl⟩ hl hfw ?_ ?_⟩, hfw⟩
    · have := h5.1.keep (w' := (W5.setCell ⟨w.heap.size + 1, 0, none⟩ (.int .u32 (c : Nat))).setCell ⟨w.heap.size + 1, 1, none⟩ (.int .u32 ((k : Int) + 1))) (hf56.block mw (by obtain ⟨a, b, hb⟩ := h5.1.blk; exact lt_of_block hb) (by omega))
      rw [hk5] at this ⊢
      simpa using this
    · refine ownsRow_of_block h5.2.2.2 (fun g hg => hf56.block g (h5.2.2.2.lt g hg).2 (fun e => ?_))
      obtain ⟨cur, hb⟩ := own_blk h5.2.2.2 hg
      rw [e, hb5.2.1] at hb
      simp at hb)
  have HE2 := hide hb6
  clear hb6 hf56 hb5 HX HG H5 HV HB
  go_wp2_with fail
  refine bodyPost_ret (results_cellt rfl _ _ (w.heap.size + 1) 0 [.int .u32 (c : Nat), .int .u32 ((k : Int) + 1)] _ _ rfl rfl (range_of_block (t := 29) (unhide HE2)) Try.underlying29 rfl Try.sizeId2) rfl ?_
  exact ⟨congrArg (fun z : Nat => Ending.returned (.tuple #[.agg #[.int .u32 (c : Nat), .int .u32 ((z : Int) + 1)], .int .i64 0])) (unhide HN).2.2.symm, unhide HE⟩
end Go.Proofs.Ytkiepcdncegniaa

namespace Go.Proofs.Ytkiepcdncegniaa
open Go.RowKit Go.Maps

theorem jump_mono {l : Nat} {J J' : Act → World → Prop} {Q : Exit → Act → World → Prop} (h : ∀ a w, J a w → J' a w) : ∀ (e : Exit) (a : Act) (w : World), Exit.jump l J Q e a w → Exit.jump l J' Q e a w := fun e a w hj => by
  cases e with
  | goto l => exact ⟨hj.1, h _ _ hj.2⟩
  | _ => exact hj
/-- A scope with one label, come to from ahead. -/
theorem wp_scope1d {P : Program} {a : Act} {w : World} {Q : Exit → Act → World → Prop} {pre X : Code} (l : Nat) (J : Act → World → Prop) (μ : Act → World → Nat) (hf : findLabel (pre.seq ((Code.label l).seq X)) l = some (Code.skip.seq X))
    (first : pre.wp P (Exit.then J (Exit.jump l J Q)) a w) (pass : ∀ a w, J a w → X.wp P (Exit.jump l (fun a' w' => J a' w' ∧ μ a' w' < μ a w) Q) a w) : (Code.scope (pre.seq ((Code.label l).seq X))).wp P Q a w := by
  refine wp_scope_jumps l J μ hf (wp_seq (Code.wp_mono (fun e a w h => ?_) first)) (fun a w h => wp_seq (wp_skip (pass a w h)))
  cases e with
  | normal => exact wp_seq (wp_label (Code.wp_mono (jump_mono (fun _ _ h => h.1)) (pass a w h)))
  | _ => exact h
/-- The cells of messages. -/
def zR : List Value := [.int .u32 0, .int .u32 0, .int .u32 0, .int .u8 0, .int .u32 0, .int .u32 0, .int .u32 0, .int .u32 0, .slice none 0 0, .string ⟨#[]⟩]
def zA : List Value := [.int .u32 0, .int .u32 0, .int .u8 0, .int .u32 0, .int .u32 0, .slice none 0 0, .slice none 0 0]
def zE : List Value := .int .u32 0 :: (zR ++ [.int .u8 0, .slice none 0 0])
def hmsg (r : RQ) : List Value := .int .u8 1 :: (r.cs ++ ([.int .u32 0, .int .u32 0] ++ (zA ++ (.int .u8 0 :: (zE ++ [.int .u32 0])))))
def tmsg (c k : Nat) : List Value := .int .u8 2 :: (zR ++ ([.int .u32 (c : Nat), .int .u32 (k : Nat)] ++ (zA ++ (.int .u8 0 :: (zE ++ [.int .u32 0])))))
theorem hmsg_one (r : RQ) (h : r.fv.oneCell' = true) : ∀ v ∈ hmsg r, v.oneCell' = true := by
  intro v hv
  simp only [hmsg, List.mem_cons, List.mem_append] at hv
  rcases hv with rfl | hv | hv | hv | rfl | hv | rfl | hv
  · rfl
  · exact RQ.one r h v hv
  · rcases hv with rfl | rfl | hv
    · rfl
    · rfl
    · cases hv
  · exact List.all_eq_true.1 (show List.all zA (fun v => v.oneCell') = true from rfl) v hv
  · rfl
  · exact List.all_eq_true.1 (show List.all zE (fun v => v.oneCell') = true from rfl) v hv
  · rfl
  · cases hv
theorem tmsg_one (c k : Nat) : ∀ v ∈ tmsg c k, v.oneCell' = true := List.all_eq_true.1 (show List.all (tmsg c k) (fun v => v.oneCell') = true from rfl)
theorem Try.infoMs : (Try.prog.info? 49).map (fun i => (i.zero, i.size, i.bytes)) = some (some (.agg (.int .u8 0 :: (zR ++ ([.int .u32 0, .int .u32 0] ++ (zA ++ (.int .u8 0 :: (zE ++ [.int .u32 0])))))).toArray), 35, 288) := by kernel_rfl
/-- append(l, m) of messages. -/
theorem app_ms (w : World) (base n : Nat) (v : Value) (xs m : List Value) (hm : m.length = 35) (h1 : ∀ u ∈ m, u.oneCell' = true) (h : w.ownsRow base 49 35 v n xs) (hb : base ≤ w.heap.size) (hl : n ≤ 100000) :
    ∃ ao cap w', (Builtin.append_ #[39, 39] 39 #[v, .slice (some ⟨w.heap.size, 0, none⟩) 1 1]).run Try.prog (w.alloc (.cells m.toArray 49)) = .ok (.slice ao (n + 1) cap) w' ∧ w'.ownsRow base 49 35 (.slice ao (n + 1) cap) (n + 1) (xs ++ m) ∧ Fr (fun g => v.ownBlock = some g) w w' ∧
      ∀ g, (Value.slice ao (n + 1) cap).ownBlock = some g → v.ownBlock = some g ∨ w.heap.size ≤ g := by
  obtain ⟨i0, hi, hz0, hz1, hz2⟩ := info_parts Try.infoMs
  have hb' := ownsRow_of_block (w' := w.alloc (.cells m.toArray 49)) h (fun g hg => Below.heap_alloc _ _ _ (h.lt g hg).2)
  obtain ⟨v', w', hr, h2, h3, _, h5⟩ := run_append_own_at (P := Try.prog) (w := w.alloc (.cells m.toArray 49)) base 39 39 49 i0 _ 35 288 Try.underlying39 hi hz0 hz1 hz2 rfl (by decide) v n xs hb' ⟨w.heap.size, 0, none⟩ 1 1 m hm (fun j u hu => by
    rw [addr_add, World.cell?_alloc_at _ _ _ _ rfl]; simpa using hu) h1 (by simp only [maxLen]; omega) (by omega) (by simp; omega)
  obtain ⟨ao, cap, rfl⟩ := own_formX h2
  refine ⟨ao, cap, w', hr, h2, ((box1 w _).mono (fun _ _ h => h.elim)).grown h3 (fun g hg => .inl hg), fun g hg => ?_⟩
  rcases h5 with e | e
  · rw [e] at hg; exact .inl hg
  · rw [e] at hg; cases hg; exact .inr (by simp)
end Go.Proofs.Ytkiepcdncegniaa

namespace Go.Proofs.Ytkiepcdncegniaa
open Go.RowKit Go.Maps

/-- A request with another list. -/
def RQ.re (r : RQ) (v : Value) : RQ := ⟨r.cl, r.nu, r.ac, r.op, r.rc, r.ve, r.wa, r.ow, v, r.rs⟩
/-- Out, between two rounds. -/
structure OutI (W2 wr : World) (c : Nat) (cs : List SC) (j : Nat) (hv tv : Value) (R : List RQ) : Prop where
  fr : Fr (fun _ => False) W2 wr
  h : wr.ownsRow W2.heap.size 49 35 hv j (R.flatMap hmsg)
  t : wr.ownsRow W2.heap.size 49 35 tv j (((wl cs).take j).flatMap (tmsg c))
  ap : ∀ g, hv.ownBlock = some g → tv.ownBlock ≠ some g
  rl : R.length = j
  rr : ∀ (i : Nat) r, R[i]? = some r → ∃ k q, (wl cs)[i]? = some k ∧ cs[k - 1]? = some q ∧ ∃ v, r = (q.r.re v) ∧ OwF wr W2.heap.size v q.F
theorem OutI.step {W2 wr w2 w3 w4 : World} {c : Nat} {cs : List SC} {j : Nat} {hv tv : Value} {R : List RQ} (h : OutI W2 wr c cs j hv tv R) (hf2 : Fr (fun _ => False) wr w2) {k : Nat} {q : SC} {v : Value} (hk : (wl cs)[j]? = some k) (hq : cs[k - 1]? = some q) (hv2 : OwF w2 wr.heap.size v q.F)
    {hv' tv' : Value} (h3 : w3.ownsRow W2.heap.size 49 35 hv' (j + 1) (R.flatMap hmsg ++ hmsg (q.r.re v))) (hf3 : Fr (fun g => hv.ownBlock = some g) w2 w3) (ht3 : ∀ g, hv'.ownBlock = some g → hv.ownBlock = some g ∨ w2.heap.size ≤ g)
    (h4 : w4.ownsRow W2.heap.size 49 35 tv' (j + 1) (((wl cs).take j).flatMap (tmsg c) ++ tmsg c k)) (hf4 : Fr (fun g => tv.ownBlock = some g) w3 w4) (ht4 : ∀ g, tv'.ownBlock = some g → tv.ownBlock = some g ∨ w3.heap.size ≤ g) : OutI W2 w4 c cs (j + 1) hv' tv' (R ++ [q.r.re v]) := by
  have hb := h.fr.size
  have hfr : Fr (fun _ => False) W2 w4 := by
    refine ((h.fr.trans0 hf2).trans hf3 (fun g hg e => ?_)).trans hf4 (fun g hg e => ?_)
    · have := (h.h.lt g e).1; omega
    · have := (h.t.lt g e).1; omega
  have hfld : ∀ {b n : Nat} {x : Value} {xs : List Value} {w0 : World}, w0.ownsRow b 79 5 x n xs → (∀ g, x.ownBlock = some g → w2.heap[g]? = w0.heap[g]? ∧ g < w2.heap.size) → w4.ownsRow b 79 5 x n xs := fun hr hk => ownsRow_of_block hr (fun g hg => by
    obtain ⟨k1, k2⟩ := hk g hg
    obtain ⟨cur, hc⟩ := own_blk hr hg
    have e2 : w2.heap[g]? = some (.cells cur 79) := k1.trans hc
    have n3 : ¬ hv.ownBlock = some g := fun e => by
      obtain ⟨c1, hc1⟩ := own_blk h.h e
      have := (hf2.block g (lt_of_block hc1) (fun h => h)).trans hc1
      rw [e2] at this
      simp at this
    have e3 := (hf3.block g k2 n3).trans e2
    have n4 : ¬ tv.ownBlock = some g := fun e => by
      obtain ⟨c1, hc1⟩ := own_blk h.t e
      have := (hf2.block g (lt_of_block hc1) (fun h => h)).trans hc1
      rw [e2] at this
      simp at this
    rw [hf4.block g (lt_of_block e3) n4, e3]
    exact hc.symm)
  have htk : (wl cs).take (j + 1) = (wl cs).take j ++ [k] := by rw [List.take_add_one, hk]; rfl
  refine ⟨hfr, ?_, ?_, fun g hg e => ?_, by simp [h.rl], fun i r hi => ?_⟩
  · rw [List.flatMap_append]
    simp only [List.flatMap_cons, List.flatMap_nil, List.append_nil]
    refine ownsRow_of_block h3 (fun g hg => hf4.block g (h3.lt g hg).2 (fun e => ?_))
    rcases ht3 g hg with e1 | e1
    · exact h.ap g e1 e
    · have := (h.t.lt g e).2
      have := hf2.size
      omega
  · rw [htk, List.flatMap_append]
    simpa using h4
  · rcases ht3 g hg with e1 | e1
    · rcases ht4 g e with e2 | e2
      · exact h.ap g e1 e2
      · have h5 := (h.h.lt g e1).2
        have h6 := hf2.size
        have h7 := hf3.size
        omega
    · rcases ht4 g e with e2 | e2
      · have h5 := (h.t.lt g e2).2
        have h6 := hf2.size
        omega
      · have h5 := (h3.lt g hg).2
        omega
  · by_cases e : i < R.length
    · rw [List.getElem?_append_left e] at hi
      obtain ⟨k', q', a1, a2, v', a3, a4⟩ := h.rr i r hi
      exact ⟨k', q', a1, a2, v', a3, hfld a4 (fun g hg => ⟨hf2.block g (a4.lt g hg).2 (fun h => h), Nat.lt_of_lt_of_le (a4.lt g hg).2 hf2.size⟩)⟩
    · have hil := (List.getElem?_eq_some_iff.1 hi).1
      simp at hil
      obtain rfl : i = R.length := by omega
      rw [List.getElem?_concat_length] at hi
      cases hi
      rw [h.rl]
      exact ⟨k, q, hk, hq, v, rfl, ownsRow_base (hfld hv2 (fun g hg => ⟨rfl, (hv2.lt g hg).2⟩)) hb⟩
def lenSl : Value → Nat
  | .slice _ n _ => n
  | _ => 0
/-- What is left of the ids. -/
def LeftI (lv : Value) (g n cap j : Nat) : Prop := (j < n ∧ lv = .slice (some ⟨g, 2 * j, none⟩) (n - j) (cap - j)) ∨ (j = n ∧ ∃ lo lc, lv = .slice lo 0 lc)
theorem LeftI.len {lv : Value} {g n cap j : Nat} (h : LeftI lv g n cap j) : lenSl lv = n - j := by
  rcases h with ⟨h1, rfl⟩ | ⟨h1, lo, lc, rfl⟩
  · rfl
  · simp [lenSl]; omega
/-- What holds at the label. -/
def OutJ (W2 : World) (d c g cap : Nat) (cs : List SC) (a : Act) (wr : World) : Prop :=
  ∃ (j : Nat) (hv tv lv : Value) (R : List RQ) (u1 u5 u6 u7 u8 u9 u10 u11 u12 u13 u14 u15 u16 u17 u18 u19 u20 u21 u22 u23 u24 u25 u26 u27 u28 u29 u30 u31 u32 u33 u34 : Value), a = { tmps := #[.pointer (some ⟨d, 0, none⟩), u1, hv, tv, lv, u5, u6, u7, u8, u9, u10, u11, u12, u13, u14, u15, u16, u17, u18, u19, u20, u21, u22, u23, u24, u25, u26, u27, u28, u29, u30, u31, u32, u33, u34], defers := [] } ∧ j ≤ (wl cs).length ∧ OutI W2 wr c cs j hv tv R ∧ LeftI lv g (wl cs).length cap j
def muO (a : Act) (_ : World) : Nat := lenSl (a.tmps.getD 4 undef)
end Go.Proofs.Ytkiepcdncegniaa

namespace Go.Proofs.Ytkiepcdncegniaa
open Go.RowKit Go.Maps

theorem left_cells {w : World} {base g cap n : Nat} {ks : List Nat} {c : Nat} (h : w.ownsRow base 29 2 (.slice (some ⟨g, 0, none⟩) n cap) n (icells (ks.map fun k => (c, k)))) {j k : Nat} (hk : ks[j]? = some k) : w.cell? ⟨g, 2 * j, none⟩ = some (.int .u32 (c : Nat)) ∧ w.cell? ⟨g, 2 * j + 1, none⟩ = some (.int .u32 (k : Nat)) := by
  have hl := (List.getElem?_eq_some_iff.1 hk).1
  have hn : n * 2 = ks.length * 2 := by have := h.1; rw [icells_len, List.length_map] at this; omega
  have hkk : (ks.map fun k => (c, k))[j]? = some (c, k) := by simp [hk]
  have e : ∀ i, i < 2 → (icells (ks.map fun k => (c, k)))[2 * j + i]? = (icell (c, k))[i]? := fun i hi => by
    rw [icells_get _ _ (by simp; omega)]
    have e1 : (2 * j + i) / 2 = j := by omega
    have e2 : (2 * j + i) % 2 = i := by omega
    rw [e1, e2, getElem!_pos (ks.map fun k => (c, k)) j (by simpa using hl)]
    have e3 : (ks.map fun k => (c, k))[j]'(by simpa using hl) = (c, k) := (List.getElem?_eq_some_iff.1 hkk).2
    rw [e3]
    match i, hi with
    | 0, _ => rfl
    | 1, _ => rfl
  exact ⟨(h.cellAt (2 * j) (by omega)).trans (by have := e 0 (by omega); simpa [icell] using this), (h.cellAt (2 * j + 1) (by omega)).trans (by have := e 1 (by omega); simpa [icell] using this)⟩
theorem fieldRq (x0 x1 x2 x3 x4 x5 x6 x7 x8 x9 x10 x11 : Value) (w : World) : (Instr.field 89 (.agg #[x0, x1, x2, x3, x4, x5, x6, x7, x8, x9, x10, x11]) 0).run Try.prog w = .ok (.agg #[x0, x1, x2, x3, x4, x5, x6, x7, x8, x9]) w := by kernel_rfl
/-- What holds at Out's label, whatever Waiting told. -/
def OutK (w : World) (d c : Nat) (cs : List SC) (a : Act) (wr : World) : Prop := ∃ W2 g cap, Fr (fun _ => False) w W2 ∧ ((wl cs).length = 0 ∨ W2.ownsRow w.heap.size 29 2 (.slice (some ⟨g, 0, none⟩) (wl cs).length cap) (wl cs).length (icells ((wl cs).map fun k => (c, k)))) ∧ OutJ W2 d c g cap cs a wr
set_option maxRecDepth 100000 in
set_option maxHeartbeats 8000000 in
/-- Out. -/
theorem sout_any (d mw ma c : Nat) (cs : List SC) (dn : List Nat) (dv : Value) (T : Nat → Prop) (w : World) (h : SsAt w d mw ma c cs dn dv T) :
    Calls Try.prog 13 #[.pointer (some ⟨d, 0, none⟩)] w fun e w' => ∃ hv tv, e = .returned (.tuple #[hv, tv]) ∧ ∃ W2 R, Fr (fun _ => False) w W2 ∧ OutI W2 w' c cs (wl cs).length hv tv R := by
  have HC := hide (swaiting_any d mw ma c cs dn dv T w h)
  have HX := hide h
  clear h
  go_enter Try.func13, Try.ntmps13
  go_wp2_with fail
  refine wp_scope1d 0 (OutK w d c cs) muO rfl ?_ ?_
  · go_wp2_with fail
    refine (unhide HC).mono ?_
    rintro e W2 ⟨v, rfl, hrow, hf2⟩
    have hlen : ((wl cs).map fun k => (c, k)).length = (wl cs).length := by simp
    unfold OwI at hrow
    rw [hlen] at hrow
    have HR := hide (And.intro hrow hf2)
    clear hrow hf2 HC
    go_wp2_with fail
    have hrow := (unhide HR).1
    have hO : OutI W2 W2 c cs 0 (.slice none 0 0) (.slice none 0 0) [] := ⟨Fr.refl _ _, World.ownsRow_nil _ _ _ _, by rw [List.take_zero]; exact World.ownsRow_nil _ _ _ _, (fun g hg => by cases hg), rfl, (fun i r hi => by simp at hi)⟩
    rcases hrow.2 with ⟨e1, e2⟩ | ⟨g, cap, cur, e1, _⟩
    · exact ⟨W2, 0, 0, (unhide HR).2, .inl e2, 0, _, _, v, [], _, _, _, _, _, _, _, _, _, _, _, _, _, _, _, _, _, _, _, _, _, _, _, _, _, _, _, _, _, _, _, rfl, by omega, hO, .inr ⟨by omega, none, 0, e1⟩⟩
    · refine ⟨W2, g, cap, (unhide HR).2, .inr (by rw [← e1]; exact hrow), 0, _, _, v, [], _, _, _, _, _, _, _, _, _, _, _, _, _, _, _, _, _, _, _, _, _, _, _, _, _, _, _, _, _, _, _, rfl, by omega, hO, ?_⟩
      by_cases h0 : (wl cs).length = 0
      · exact .inr ⟨by omega, some ⟨g, 0, none⟩, cap, by rw [e1, h0]⟩
      · exact .inl ⟨by omega, by rw [e1]; simp⟩
  · clear HC
    intro a wr hJ
    obtain ⟨W2, g, cap, hf2, hrow, j, hv, tv, lv, R, u1, u5, u6, u7, u8, u9, u10, u11, u12, u13, u14, u15, u16, u17, u18, u19, u20, u21, u22, u23, u24, u25, u26, u27, u28, u29, u30, u31, u32, u33, u34, rfl, hj, hO, hL⟩ := hJ
    generalize hMM : muO { tmps := _, defers := _ } wr = M
    have hM : (wl cs).length - j = M := by rw [← hMM, ← hL.len]; rfl
    clear hMM
    dsimp only
    rcases hL with ⟨hlt, rfl⟩ | ⟨rfl, lo, lc, rfl⟩
    · obtain ⟨k, hk⟩ : ∃ k, (wl cs)[j]? = some k := ⟨_, List.getElem?_eq_getElem hlt⟩
      have hrw := hrow.resolve_left (by omega)
      have hrr : wr.ownsRow w.heap.size 29 2 (.slice (some ⟨g, 0, none⟩) (wl cs).length cap) (wl cs).length (icells ((wl cs).map fun k => (c, k))) := ownsRow_of_block hrw (fun x hx => hO.fr.block x (hrw.lt x hx).2 (fun h => h))
      obtain ⟨c0, c1⟩ := left_cells hrr hk
      have hcap : (wl cs).length ≤ cap := by
        rcases hrr.2 with ⟨e, _⟩ | ⟨g', cap', cur, e, _, _, h3, _⟩
        · cases e
        · simp only [Value.slice.injEq] at e; omega
      have hkm := (wl_mem cs k).1 (List.mem_of_getElem? hk)
      obtain ⟨i, q, hki, hq, hd⟩ : ∃ i q, k = i + 1 ∧ cs[i]? = some q ∧ q.d = none := by
        unfold fW at hkm
        split at hkm
        · cases hkm
        · rename_i hk0
          cases hq : cs[k - 1]? with
          | none => rw [hq] at hkm; cases hkm
          | some q =>
            rw [hq] at hkm
            refine ⟨k - 1, q, by omega, hq, ?_⟩
            cases hd : q.d with
            | none => rfl
            | some x => simp [hd] at hkm
      have hfw : Fr (fun _ => False) w wr := hf2.trans0 hO.fr
      have hs := (unhide HX).fr0 hfw
      have hq' : cs[k - 1]? = some q := by rw [hki]; exact hq
      have hQO := (hs.qs q (List.mem_of_getElem? hq)).wt hd
      have HL : Hid (∀ W', Fr (fun _ => False) wr W' → (Instr.lookup 83 (.map (some mw)) (.agg #[.int .u32 (c : Nat), .int .u32 (k : Nat)]) false).run Try.prog W' = .ok (.agg #[.int .u32 (q.r.cl : Nat), .int .u32 (q.r.nu : Nat), .int .u32 (q.r.ac : Nat), .int .u8 (q.r.op : Nat), .int .u32 (q.r.rc : Nat), .int .u32 (q.r.ve : Nat), .int .u32 (q.r.wa : Nat), .int .u32 (q.r.ow : Nat), q.r.fv, .string q.r.rs, .int .i64 q.la, .int .i64 (q.n : Nat)]) W') := hide (fun W' hf => by
        have := (hs.look_w hq hd W' hf).2
        rw [← hki] at this
        exact this)
      have hcd := hs.cells.2.1
      have hdl := lt_of_cell hcd
      have HF := hide (And.intro hf2 (And.intro hrow (And.intro hO (And.intro hk (And.intro hq' (And.intro hQO (And.intro hM hlt)))))))
      have HCD := hide hcd
      have hgl : g < wr.heap.size := lt_of_cell c0
      obtain ⟨vo, vc, rfl⟩ := own_formX hO.h
      obtain ⟨to_, tc, rfl⟩ := own_formX hO.t
      obtain ⟨D, hD⟩ : ∃ D, (wl cs).length - j = D + 1 := ⟨(wl cs).length - j - 1, by omega⟩
      obtain ⟨E, hE⟩ : ∃ E, cap - j = E + 1 := ⟨cap - j - 1, by omega⟩
      have HDE := hide (And.intro hD (And.intro hE hcap))
      rw [hD, hE]
      have n1 : ¬ ((D : Int) + 1 = 0) := by omega
      have hjw : (0 : Int) ≤ 0 := by omega
      clear hf2 hrow hO hk hq hq' hd hQO hM hlt hrw hrr hcap hkm hki hfw hs hcd hD hE hj
      go_wp2_with fail
      obtain ⟨W3, hW3⟩ : ∃ W3, wr.alloc (.cells #[.int .u32 (c : Nat), .int .u32 (k : Nat)] 29) = W3 := ⟨_, rfl⟩
      have hf3 : Fr (fun _ => False) wr W3 := by rw [← hW3]; exact box1 wr _
      have hb3 : W3.heap[wr.heap.size]? = some (.cells #[.int .u32 (c : Nat), .int .u32 (k : Nat)] 29) := by rw [← hW3]; exact heap_alloc_new wr _
      rw [hW3]
      clear hW3
      have HS5 : Hid (∀ W', Fr (fun _ => False) W3 W' → W'.cell? ⟨d, 1, none⟩ = some (.map (some mw)) ∧ W'.cell? ⟨wr.heap.size, 0, none⟩ = some (.int .u32 (c : Nat)) ∧ W'.cell? ⟨wr.heap.size, 1, none⟩ = some (.int .u32 (k : Nat)) ∧ (Instr.lookup 83 (.map (some mw)) (.agg #[.int .u32 (c : Nat), .int .u32 (k : Nat)]) false).run Try.prog W' = .ok (.agg #[.int .u32 (q.r.cl : Nat), .int .u32 (q.r.nu : Nat), .int .u32 (q.r.ac : Nat), .int .u8 (q.r.op : Nat), .int .u32 (q.r.rc : Nat), .int .u32 (q.r.ve : Nat), .int .u32 (q.r.wa : Nat), .int .u32 (q.r.ow : Nat), q.r.fv, .string q.r.rs, .int .i64 q.la, .int .i64 (q.n : Nat)]) W') := hide (fun W' hf => by
        have hb := (hf.block _ (lt_of_block hb3) (fun h => h)).trans hb3
        exact ⟨((hf3.trans0 hf).cell (p := ⟨d, 1, none⟩) hdl (fun h => h)).trans (unhide HCD), cell_of_blk hb rfl, cell_of_blk hb rfl, (unhide HL) W' (hf3.trans0 hf)⟩)
      have HG3 := hide (And.intro hf3 hb3)
      clear hf3 hb3 c0 c1
      refine wp_region_held_drew (S := (fun W => W.cell? ⟨d, 1, none⟩ = some (.map (some mw)) ∧ W.cell? ⟨wr.heap.size, 0, none⟩ = some (.int .u32 (c : Nat)) ∧ W.cell? ⟨wr.heap.size, 1, none⟩ = some (.int .u32 (k : Nat)) ∧ (Instr.lookup 83 (.map (some mw)) (.agg #[.int .u32 (c : Nat), .int .u32 (k : Nat)]) false).run Try.prog W = .ok (.agg #[.int .u32 (q.r.cl : Nat), .int .u32 (q.r.nu : Nat), .int .u32 (q.r.ac : Nat), .int .u8 (q.r.op : Nat), .int .u32 (q.r.rc : Nat), .int .u32 (q.r.ve : Nat), .int .u32 (q.r.wa : Nat), .int .u32 (q.r.ow : Nat), q.r.fv, .string q.r.rs, .int .i64 q.la, .int .i64 (q.n : Nat)]) W)) (by kernel_rfl) ((unhide HS5) _ (Fr.refl _ _).drew) (fun hHeld => ?_)
      have hfq := fieldRq
      refine wtk2 (i := 0) rfl hHeld ?_
      (try simp only [Act.put, nrm])
      refine wtk2 (i := 1) rfl hHeld ?_
      (try simp only [Act.put, nrm])
      refine wtk2 (i := 2) rfl hHeld ?_
      (try simp only [Act.put, nrm])
      refine wtk2 (i := 3) rfl hHeld ?_
      (try simp only [Act.put, nrm])
      refine wtk2 (i := 4) rfl hHeld ?_
      (try simp only [Act.put, nrm])
      refine wtk2 (i := 5) rfl hHeld ?_
      (try simp only [Act.put, nrm])
      refine wtk2 (i := 6) rfl hHeld ?_
      (try simp only [Act.put, nrm])
      refine wtk2 (i := 7) rfl hHeld ?_
      (try simp only [Act.put, nrm])
      clear hfq
      refine wpAnyH_ready (rs := [8]) (by kernel_rfl) (by simp) (AllReadyH.cons rfl (fun K hK => ?_) AllReadyH.nil)
      have HOA := hide (ownReq_any q.r q.F.length (fcells q.F) W3.drew (own_rd ((unhide HF).2.2.2.2.2.1.fr (S := fun _ => False) ((unhide HG3).1.drew) (fun _ _ h => h)).o (fcells_one _)) (unhide HF).2.2.2.2.2.1.l)
      go_simp
      refine (unhide HOA).mono ?_
      rintro e W4 ⟨v, rfl, hF4, hf4⟩
      clear HOA
      have hov := own_one hF4
      have hf34 : Fr (fun _ => False) W3 W4 := (Fr.refl _ _).drew.trans0 hf4
      have hfr4 : Fr (fun _ => False) wr W4 := (unhide HG3).1.trans0 hf34
      have hF4' : OwF W4 wr.heap.size v q.F := ownsRow_base hF4 (unhide HG3).1.size
      have hhv : W4.ownsRow W2.heap.size 49 35 (.slice vo j vc) j (R.flatMap hmsg) := ownsRow_of_block (unhide HF).2.2.1.h (fun x hx => hfr4.block x ((unhide HF).2.2.1.h.lt x hx).2 (fun h => h))
      have hbb : W2.heap.size ≤ W4.heap.size := Nat.le_trans (unhide HF).2.2.1.fr.size hfr4.size
      have hj4 : j ≤ 100000 := by have h1 := (unhide HF).2.2.2.2.2.2.2; have h2 := wl_len cs; have h3 := (unhide HX).len; omega
      obtain ⟨ao5, cap5, W5, hap5, ho5, hf5, ht5⟩ := app_ms W4 W2.heap.size j (.slice vo j vc) (R.flatMap hmsg) (hmsg (q.r.re v)) rfl (hmsg_one _ hov) hhv hbb hj4
      have hap5' : (Builtin.append_ #[39, 39] 39 #[.slice vo j vc, .slice (some ⟨W4.heap.size, 0, none⟩) 1 1]).run Try.prog (W4.alloc (.cells #[.int .u8 1, .int .u32 (q.r.cl : Nat), .int .u32 (q.r.nu : Nat), .int .u32 (q.r.ac : Nat), .int .u8 (q.r.op : Nat), .int .u32 (q.r.rc : Nat), .int .u32 (q.r.ve : Nat), .int .u32 (q.r.wa : Nat), .int .u32 (q.r.ow : Nat), v, .string q.r.rs, .int .u32 0, .int .u32 0, .int .u32 0, .int .u32 0, .int .u8 0, .int .u32 0, .int .u32 0, .slice none 0 0, .slice none 0 0, .int .u8 0, .int .u32 0, .int .u32 0, .int .u32 0, .int .u32 0, .int .u8 0, .int .u32 0, .int .u32 0, .int .u32 0, .int .u32 0, .slice none 0 0, .string ⟨#[]⟩, .int .u8 0, .slice none 0 0, .int .u32 0] 49)) = .ok (.slice ao5 (j + 1) cap5) W5 := hap5
      have hb5 : W5.heap[wr.heap.size]? = some (.cells #[.int .u32 (c : Nat), .int .u32 (k : Nat)] 29) := by
        have hb4 := (hf34.block _ (lt_of_block (unhide HG3).2) (fun h => h)).trans (unhide HG3).2
        refine (hf5.block _ (lt_of_block hb4) (fun e => ?_)).trans hb4
        have := ((unhide HF).2.2.1.h.lt _ e).2
        omega
      have hcd5 : W5.cell? ⟨d, 1, none⟩ = some (.map (some mw)) := by
        have h4 := (hfr4.cell (p := ⟨d, 1, none⟩) hdl (fun h => h)).trans (unhide HCD)
        refine (hf5.cell (p := ⟨d, 1, none⟩) (lt_of_cell h4) (fun e => ?_)).trans h4
        obtain ⟨cur, hc⟩ := own_blk (unhide HF).2.2.1.h e
        have hbd := ((unhide HX).fr0 ((unhide HF).1.trans0 (unhide HF).2.2.1.fr)).blk
        rw [hbd] at hc
        simp at hc
      have hlk5 : (Instr.lookup 83 (.map (some mw)) (.agg #[.int .u32 (c : Nat), .int .u32 (k : Nat)]) false).run Try.prog W5 = .ok (.agg #[.int .u32 (q.r.cl : Nat), .int .u32 (q.r.nu : Nat), .int .u32 (q.r.ac : Nat), .int .u8 (q.r.op : Nat), .int .u32 (q.r.rc : Nat), .int .u32 (q.r.ve : Nat), .int .u32 (q.r.wa : Nat), .int .u32 (q.r.ow : Nat), q.r.fv, .string q.r.rs, .int .i64 q.la, .int .i64 (q.n : Nat)]) W5 := by
        have hs5 := ((unhide HX).fr0 ((unhide HF).1.trans0 ((unhide HF).2.2.1.fr.trans0 hfr4))).wm
        obtain ⟨e1, c1, hb1⟩ := hs5.blk
        have hne : ¬ (Value.slice vo j vc).ownBlock = some mw := fun e => by
          obtain ⟨cur, hc⟩ := own_blk hhv e
          rw [hb1] at hc
          cases hc
        have hk5 := hs5.keep (w' := W5) (hf5.block mw (lt_of_block hb1) hne)
        obtain ⟨i, q2, hki, hq2, hd2⟩ : ∃ i q2, k = i + 1 ∧ cs[i]? = some q2 ∧ q2.d = none := by
          have hkm := (wl_mem cs k).1 (List.mem_of_getElem? (unhide HF).2.2.2.1)
          unfold fW at hkm
          split at hkm
          · cases hkm
          · rename_i hk0
            cases hq : cs[k - 1]? with
            | none => rw [hq] at hkm; cases hkm
            | some q2 =>
              rw [hq] at hkm
              refine ⟨k - 1, q2, by omega, hq, ?_⟩
              cases hd : q2.d with
              | none => rfl
              | some x => simp [hd] at hkm
        have hqq : q2 = q := by
          have := (unhide HF).2.2.2.2.1
          rw [hki, Nat.add_sub_cancel, hq2] at this
          exact Option.some.inj this
        subst hqq
        have hc16 := (unhide HX).c16
        have hln := (unhide HX).len
        have hil := (List.getElem?_eq_some_iff.1 hq2).1
        have := (hk5.look_yes (by omega) Try.underlying83 (Try.zeroValue89 W5) (k := k) (by omega) (by rw [hki]; exact fW_at hq2 hd2)).2
        exact this
      have HAP5 := hide hap5'
      have H5 := hide (And.intro ho5 (And.intro hf5 (And.intro ht5 (And.intro hfr4 (And.intro hF4' (And.intro hbb (And.intro hj4 hb5)))))))
      have HS55 := hide (And.intro hcd5 (And.intro (cell_of_blk hb5 rfl : W5.cell? ⟨wr.heap.size, 0, none⟩ = some (.int .u32 (c : Nat))) (And.intro (cell_of_blk hb5 rfl : W5.cell? ⟨wr.heap.size, 1, none⟩ = some (.int .u32 (k : Nat))) hlk5)))
      clear hap5 hap5' ho5 hf5 ht5 hfr4 hF4' hbb hj4 hb5 hcd5 hlk5 hhv hF4 hf4
      simp only [RQ.v]
      try dsimp only
      refine hK.out _ _ ((unhide HS5) _ hf34) (fun hHeld => ?_)
      clear hK K
      (try simp only [Act.put, nrm])
      refine wtk2 (i := 9) rfl hHeld ?_
      (try simp only [Act.put, nrm])
      refine wpAnyH_ready (rs := [10]) (by kernel_rfl) (by simp) (AllReadyH.cons rfl (fun K hK => ?_) AllReadyH.nil)
      go_simp
      refine hK.out _ _ ((unhide HS5) _ (hf34.alloc _)) (fun hHeld => ?_)
      clear hK K
      (try simp only [Act.put, nrm])
      clear hf34
      refine wpAnyH_ready (rs := [11]) (by kernel_rfl) (by simp) (AllReadyH.cons rfl (fun K hK => ?_) AllReadyH.nil)
      refine step_app rfl (.tmp 16) (.tmp 26) 39 39 rfl _ _ _ (by simp [Act.eval]) (by simp [Act.eval]) (unhide HAP5) ?_
      refine hK.out _ _ (unhide HS55) (fun hHeld => ?_)
      clear hK K
      (try simp only [Act.put, nrm])
      refine wtk2 (i := 12) rfl hHeld ?_
      (try simp only [Act.put, nrm])
      refine wpAnyH_done (by kernel_rfl) ?_ _
      clear hHeld HS5 HAP5 HL hov
      have e0 := (unhide HS55).2.1
      have e1 := (unhide HS55).2.2.1
      clear HS55
      have h5 := unhide H5
      have htv : W5.ownsRow W2.heap.size 49 35 (.slice to_ j tc) j (((wl cs).take j).flatMap (tmsg c)) := by
        have h4 := ownsRow_of_block (w' := W4) (unhide HF).2.2.1.t (fun x hx => h5.2.2.2.1.block x ((unhide HF).2.2.1.t.lt x hx).2 (fun h => h))
        exact ownsRow_of_block h4 (fun x hx => h5.2.1.block x (h4.lt x hx).2 (fun e => (unhide HF).2.2.1.ap x e hx))
      obtain ⟨ao6, cap6, W6, hap6, ho6, hf6, ht6⟩ := app_ms W5 W2.heap.size j (.slice to_ j tc) _ (tmsg c k) rfl (tmsg_one c k) htv (Nat.le_trans h5.2.2.2.2.2.1 h5.2.1.size) h5.2.2.2.2.2.2.1
      have hap6' : (Builtin.append_ #[39, 39] 39 #[.slice to_ j tc, .slice (some ⟨W5.heap.size, 0, none⟩) 1 1]).run Try.prog (W5.alloc (.cells #[.int .u8 2, .int .u32 0, .int .u32 0, .int .u32 0, .int .u8 0, .int .u32 0, .int .u32 0, .int .u32 0, .int .u32 0, .slice none 0 0, .string ⟨#[]⟩, .int .u32 (c : Nat), .int .u32 (k : Nat), .int .u32 0, .int .u32 0, .int .u8 0, .int .u32 0, .int .u32 0, .slice none 0 0, .slice none 0 0, .int .u8 0, .int .u32 0, .int .u32 0, .int .u32 0, .int .u32 0, .int .u8 0, .int .u32 0, .int .u32 0, .int .u32 0, .int .u32 0, .slice none 0 0, .string ⟨#[]⟩, .int .u8 0, .slice none 0 0, .int .u32 0] 49)) = .ok (.slice ao6 (j + 1) cap6) W6 := hap6
      have hO6 := (unhide HF).2.2.1.step h5.2.2.2.1 (unhide HF).2.2.2.1 (unhide HF).2.2.2.2.1 h5.2.2.2.2.1 h5.1 h5.2.1 h5.2.2.1 ho6 hf6 ht6
      have HAP6 := hide hap6'
      have HO6 := hide hO6
      clear h5 htv hap6 hap6' ho6 hf6 ht6 hO6 H5
      go_wp2_with (at_builtin; refine wpList_app rfl (.tmp 28) (.tmp 31) 39 39 rfl _ _ _ rfl rfl (unhide HAP6) ?_)
      all_goals
        go_step3
        have hF := unhide HF
        have hDE := unhide HDE
        refine ⟨rfl, ⟨W2, g, cap, hF.1, hF.2.1, j + 1, _, _, _, _, _, _, _, _, _, _, _, _, _, _, _, _, _, _, _, _, _, _, _, _, _, _, _, _, _, _, _, _, _, _, _, rfl, by omega, unhide HO6, ?_⟩, by simp only [muO, lenSl]; have h1 := hF.2.2.2.2.2.2.1; show D < M; omega⟩
      · obtain rfl : D = 0 := by omega
        exact .inr ⟨by omega, _, _, rfl⟩
      · by_cases h0 : D = 0
        · subst h0
          exact .inr ⟨by omega, _, _, rfl⟩
        · refine .inl ⟨by omega, ?_⟩
          have e1 : (wl cs).length - (j + 1) = D := by omega
          have e2 : cap - (j + 1) = E := by omega
          rw [e1, e2]
          rfl
    · have HE : Hid (∃ W2 R, Fr (fun _ => False) w W2 ∧ OutI W2 wr c cs (wl cs).length hv tv R) := hide ⟨W2, R, hf2, hO⟩
      clear hrow hO hM hf2 hj HX
      go_wp2_with fail
      simp only [Exit.jump]
      go_ret2
      exact ⟨_, _, rfl, unhide HE⟩
end Go.Proofs.Ytkiepcdncegniaa

namespace Go.Proofs.Ytkiepcdncegniaa
open Go.RowKit Go.Maps

theorem Try.held_id : Try.prog.stoodInHeld 29 = false := by kernel_rfl
theorem Try.fields_id : Try.prog.underlying 29 = some (.struct (Try.prog.fieldsOf 29)) := by kernel_rfl
theorem nat_eq (a b : Nat) : ((a : Int) == (b : Int)) = decide (a = b) := by
  by_cases h : a = b
  · subst h; simp
  · have : ¬ ((a : Int) = (b : Int)) := by omega
    simp [h, this]
theorem eql_id (a b c d : Nat) (w : World) : (binOp .eql 29 (.agg #[.int .u32 (a : Nat), .int .u32 (b : Nat)]) (.agg #[.int .u32 (c : Nat), .int .u32 (d : Nat)])).run Try.prog w = .ok (.bool (decide (a = c) && decide (b = d))) w := by
  rw [run_eql_struct, show (10000 : Nat) = 9999 + 1 from rfl, run_equalIn_agg _ 9999 _ _ _ Try.fields_id Try.held_id]
  by_cases h1 : a = c <;> by_cases h2 : b = d <;> simp [Program.fieldsOf, Try.underlying29, Op.eqFields, go_sem, h1, h2, nat_eq]
theorem neq_id (a b c d : Nat) (w : World) : (binOp .neq 29 (.agg #[.int .u32 (a : Nat), .int .u32 (b : Nat)]) (.agg #[.int .u32 (c : Nat), .int .u32 (d : Nat)])).run Try.prog w = .ok (.bool (!(decide (a = c) && decide (b = d)))) w := by
  rw [run_neq_struct, show (10000 : Nat) = 9999 + 1 from rfl, run_equalIn_agg _ 9999 _ _ _ Try.fields_id Try.held_id]
  by_cases h1 : a = c <;> by_cases h2 : b = d <;> simp [Program.fieldsOf, Try.underlying29, Op.eqFields, go_sem, h1, h2, nat_eq]
/-- What create tells. -/
def crR : RQ := ⟨0, 0, 1, 1, 0, 0, 7, 6, .slice none 0 0, ⟨#[]⟩⟩
set_option maxRecDepth 100000 in
theorem create_any (w : World) : Calls Try.prog 11 #[] w fun e w' => e = .returned crR.v ∧ Fr (fun _ => False) w w' := by
  go_enter Try.func11, Try.ntmps11
  go_wp2_with fail
  refine bodyPost_ret (results_cell_mid rfl _ _ w.heap.size 0 crR.cs _ rfl (range_of_block (t := 34) (heap_alloc_new w _)) Try.underlying34 rfl Try.sizeRq) rfl ?_
  exact ⟨rfl, box1 w _⟩
/-- What answered tells. -/
def ansA (c k r : Nat) : AN := ⟨c, k, 0, r, 1, .slice none 0 0, .slice none 0 0⟩
def ansM (c k r : Nat) : List Value := .int .u8 3 :: (zR ++ ([.int .u32 0, .int .u32 0] ++ ((ansA c k r).cs ++ (.int .u8 0 :: (zE ++ [.int .u32 0])))))
theorem ansM_x (c k r : Nat) : MsX (ansM c k r) 3 0 0 0 (ansA c k r) := ⟨rfl, rfl, rfl, fun j v hj => by
  have hl := (List.getElem?_eq_some_iff.1 hj).1
  have h7 : j < 7 := hl
  match j, h7 with
  | 0, _ => exact hj
  | 1, _ => exact hj
  | 2, _ => exact hj
  | 3, _ => exact hj
  | 4, _ => exact hj
  | 5, _ => exact hj
  | 6, _ => exact hj, rfl⟩
def zM : List Value := .int .u8 0 :: (zR ++ ([.int .u32 0, .int .u32 0] ++ (zA ++ (.int .u8 0 :: (zE ++ [.int .u32 0])))))
theorem ansM_one (c k r : Nat) : ∀ v ∈ ansM c k r, v.oneCell' = true := List.all_eq_true.1 (show List.all (ansM c k r) (fun v => v.oneCell') = true from rfl)
set_option maxRecDepth 100000 in
set_option maxHeartbeats 4000000 in
theorem answered_any (c k r : Nat) (w : World) : Calls Try.prog 16 #[.int .u32 (c : Nat), .int .u32 (k : Nat), .int .u32 (r : Nat)] w fun e w' => e = .returned (.agg (ansM c k r).toArray) ∧ Fr (fun _ => False) w w' := by
  have hb : ((w.alloc (.cells zM.toArray 49)).alloc (.cells #[.int .u32 (c : Nat), .int .u32 (k : Nat)] 29)).heap[w.heap.size]? = some (.cells zM.toArray 49) := (Below.heap_alloc _ _ _ (by simp)).trans (heap_alloc_new w _)
  obtain ⟨W8, hst, hb8, hf8⟩ := st_all (P := Try.prog) (ty := 49) zM (ansM c k r) hb rfl Try.sizeMs (ansM_one c k r)
  have hfin : Fr (fun _ => False) w W8 := ((box1 w _).alloc _).trans hf8 (fun g hg e => by omega)
  have HST := hide hst
  have HE := hide (And.intro (range_of_block hb8) hfin)
  clear hb hst hb8 hf8 hfin
  go_enter Try.func16, Try.ntmps16
  go_wp2_with (refine wpList_stN rfl 49 (.tmp 6) (.tmp 14) rfl _ _ rfl rfl (unhide HST) ?_)
  refine bodyPost_ret (results_cell_mid rfl _ _ w.heap.size 0 _ _ rfl (unhide HE).1 Try.underlying49 rfl Try.sizeMs) rfl ?_
  exact ⟨rfl, (unhide HE).2⟩
end Go.Proofs.Ytkiepcdncegniaa

namespace Go.Proofs.Ytkiepcdncegniaa
open Go.RowKit Go.Maps

theorem SsAt.mono {w : World} {d mw ma c : Nat} {cs : List SC} {dn : List Nat} {dv : Value} {T T' : Nat → Prop} (h : SsAt w d mw ma c cs dn dv T) (hT : ∀ g, T g → T' g) (hl : ∀ g, T' g → g < w.heap.size) : SsAt w d mw ma c cs dn dv T' :=
  ⟨h.c16, h.len, h.blk, h.wm, h.am, h.dn.mono hT, fun q hq => ⟨fun e => ((h.qs q hq).wt e).mono hT, fun x e => ⟨((h.qs q hq).an x e).1.mono hT, ((h.qs q hq).an x e).2.mono hT⟩⟩, h.id, ⟨hT _ h.own.1, hT _ h.own.2.1, hT _ h.own.2.2⟩, h.ap, hl⟩
/-- A session, wherever its maps lie. -/
def SS (w : World) (d c : Nat) (cs : List SC) (dn : List Nat) (T : Nat → Prop) : Prop := ∃ mw ma dv, SsAt w d mw ma c cs dn dv T
/-- The session's blocks, and those made since. -/
def Tn (T : Nat → Prop) (w w' : World) (g : Nat) : Prop := T g ∨ Nb w w' g
theorem SS.fr {w w' : World} {d c : Nat} {cs : List SC} {dn : List Nat} {T S : Nat → Prop} (h : SS w d c cs dn T) (hf : Fr S w w') (hS : ∀ g, T g → ¬ S g) : SS w' d c cs dn T := by
  obtain ⟨mw, ma, dv, h⟩ := h
  exact ⟨mw, ma, dv, h.fr hf hS⟩
theorem SS.fr0 {w w' : World} {d c : Nat} {cs : List SC} {dn : List Nat} {T : Nat → Prop} (h : SS w d c cs dn T) (hf : Fr (fun _ => False) w w') : SS w' d c cs dn T := h.fr hf (fun _ _ h => h)
theorem SS.lt {w : World} {d c : Nat} {cs : List SC} {dn : List Nat} {T : Nat → Prop} (h : SS w d c cs dn T) : ∀ g, T g → g < w.heap.size := by
  obtain ⟨mw, ma, dv, h⟩ := h
  exact h.lt
theorem SS.dT {w : World} {d c : Nat} {cs : List SC} {dn : List Nat} {T : Nat → Prop} (h : SS w d c cs dn T) : T d := by
  obtain ⟨mw, ma, dv, h⟩ := h
  exact h.own.1
theorem SS.len {w : World} {d c : Nat} {cs : List SC} {dn : List Nat} {T : Nat → Prop} (h : SS w d c cs dn T) : cs.length ≤ 4096 := by
  obtain ⟨mw, ma, dv, h⟩ := h
  exact h.len
theorem SS.new (c : Nat) (w : World) (hc : c < 16) :
    Calls Try.prog 8 #[.int .u32 (c : Nat)] w fun e w' => ∃ d, e = .returned (.tuple #[.pointer (some ⟨d, 0, none⟩), .int .i64 0]) ∧ SS w' d c [] [] (Nb w w') ∧ Fr (fun _ => False) w w' := by
  refine (snew_in c w hc).mono ?_
  rintro e w' ⟨d, h1, ⟨mw, ma, h2⟩, h3⟩
  exact ⟨d, h1, ⟨mw, ma, _, h2⟩, h3⟩
theorem SS.call {w : World} {d c : Nat} {cs : List SC} {dn : List Nat} {T : Nat → Prop} (h : SS w d c cs dn T) (r : RQ) (F : List F5) (hx : Rd w r.fv F.length 5 (fcells F)) (hl : F.length ≤ 1048576) (hv : ∀ f ∈ F, f.v < 4294967296 ∧ f.u < 256) (hfm : r.frm F = true) (hkl : cs.length < 4096) :
    Calls Try.prog 10 #[.pointer (some ⟨d, 0, none⟩), r.v] w fun e w' => e = .returned (.tuple #[.agg #[.int .u32 (c : Nat), .int .u32 ((cs.length : Int) + 1)], .int .i64 0]) ∧ (∃ v, SS w' d c (cs ++ [⟨⟨c, cs.length + 1, r.ac, r.op, r.rc, r.ve, r.wa, r.ow, v, r.rs⟩, F, 0, 0, none⟩]) dn (Tn T w w')) ∧ Fr T w w' := by
  obtain ⟨mw, ma, dv, h⟩ := h
  refine (scall_ok d mw ma c cs dn dv T w h r F hx hl hv hfm hkl).mono ?_
  rintro e w' ⟨h1, ⟨v, h2⟩, h3⟩
  exact ⟨h1, ⟨v, mw, ma, dv, h2⟩, h3.mono (fun g _ e => by rw [e]; exact h.own.2.1)⟩
theorem SS.bad {w : World} {d c : Nat} {cs : List SC} {dn : List Nat} {T : Nat → Prop} (h : SS w d c cs dn T) (r : RQ) (F : List F5) (hx : Rd w r.fv F.length 5 (fcells F)) (hl : F.length ≤ 1048576) (hv : ∀ f ∈ F, f.v < 4294967296 ∧ f.u < 256) (hfm : r.frm F = false) :
    Calls Try.prog 10 #[.pointer (some ⟨d, 0, none⟩), r.v] w fun e w' => e = .returned (.tuple #[.agg #[.int .u32 0, .int .u32 0], .int .i64 1]) ∧ Fr (fun _ => False) w w' := by
  obtain ⟨mw, ma, dv, h⟩ := h
  exact scall_bad d mw ma c cs dn dv T w h r F hx hl hv hfm
theorem SS.full {w : World} {d c : Nat} {cs : List SC} {dn : List Nat} {T : Nat → Prop} (h : SS w d c cs dn T) (r : RQ) (F : List F5) (hx : Rd w r.fv F.length 5 (fcells F)) (hl : F.length ≤ 1048576) (hv : ∀ f ∈ F, f.v < 4294967296 ∧ f.u < 256) (hfm : r.frm F = true) (hkl : cs.length = 4096) :
    Calls Try.prog 10 #[.pointer (some ⟨d, 0, none⟩), r.v] w fun e w' => e = .returned (.tuple #[.agg #[.int .u32 0, .int .u32 0], .int .i64 2]) ∧ Fr (fun _ => False) w w' := by
  obtain ⟨mw, ma, dv, h⟩ := h
  exact scall_full d mw ma c cs dn dv T w h r F hx hl hv hfm hkl
theorem SS.waiting {w : World} {d c : Nat} {cs : List SC} {dn : List Nat} {T : Nat → Prop} (h : SS w d c cs dn T) :
    Calls Try.prog 17 #[.pointer (some ⟨d, 0, none⟩)] w fun e w' => ∃ v, e = .returned v ∧ OwI w' w.heap.size v ((wl cs).map fun k => (c, k)) ∧ Fr (fun _ => False) w w' := by
  obtain ⟨mw, ma, dv, h⟩ := h
  exact swaiting_any d mw ma c cs dn dv T w h
theorem SS.done {w : World} {d c : Nat} {cs : List SC} {dn : List Nat} {T : Nat → Prop} (h : SS w d c cs dn T) :
    Calls Try.prog 18 #[.pointer (some ⟨d, 0, none⟩)] w fun e w' => ∃ v, e = .returned v ∧ OwI w' w.heap.size v (dn.map fun k => (c, k)) ∧ Fr (fun _ => False) w w' := by
  obtain ⟨mw, ma, dv, h⟩ := h
  exact sdone_any d mw ma c cs dn dv T w h
theorem SS.out {w : World} {d c : Nat} {cs : List SC} {dn : List Nat} {T : Nat → Prop} (h : SS w d c cs dn T) :
    Calls Try.prog 13 #[.pointer (some ⟨d, 0, none⟩)] w fun e w' => ∃ hv tv, e = .returned (.tuple #[hv, tv]) ∧ ∃ W2 R, Fr (fun _ => False) w W2 ∧ OutI W2 w' c cs (wl cs).length hv tv R := by
  obtain ⟨mw, ma, dv, h⟩ := h
  exact sout_any d mw ma c cs dn dv T w h
/-- Take of an answer of a request that waits. -/
theorem SS.answer {w : World} {d c : Nat} {cs : List SC} {dn : List Nat} {T : Nat → Prop} (h : SS w d c cs dn T) (xs : List Value) (icl inu ico : Nat) (a : AN) (hm : MsX xs 3 icl inu ico a) (i : Nat) (q : SC) (hq : cs[i]? = some q) (hd : q.d = none) (hc : a.cl = c) (hn : a.nu = i + 1) (F : List F5) (H : List SM)
    (hF : Rd w a.fv F.length 5 (fcells F)) (hH : Rd w a.hv H.length 4 (scells H)) (hFl : F.length ≤ 1048576) (hHl : H.length ≤ 1048576) (hdl : dn.length ≤ 1048575) :
    Calls Try.prog 14 #[.pointer (some ⟨d, 0, none⟩), .agg xs.toArray] w fun e w' => ∃ r, e = .returned (.int .i64 r) ∧ r = 0 ∧ (∃ v u, SS w' d c (cs.set i { q with d := some ⟨⟨c, i + 1, a.co, a.rc, a.ve, v, u⟩, F, H⟩ }) (dn ++ [i + 1]) (Tn T w w')) ∧ Fr T w w' := by
  obtain ⟨mw, ma, dv, h⟩ := h
  obtain ⟨cl, nu, co, rc, ve, fv, hv⟩ := a
  simp only at hc hn hF hH
  subst hc
  subst hn
  have hf1 := box1 w (.cells xs.toArray 49)
  refine stake_ans d xs icl inu ico _ hm w _ ?_
  refine (sta_wait d mw ma cl cs dn dv T _ (h.fr0 hf1) i q hq hd co rc ve fv hv F H (hF.fr0 hf1) (hH.fr0 hf1) hFl hHl hdl).mono ?_
  rintro e w' ⟨h1, v, u, dv', h2, h3⟩
  have hfw : Fr T w w' := (hf1.mono (fun _ _ e => e.elim)).trans h3 (fun g _ e => by
    rcases e with e | e | e | e
    · rw [e]; exact h.own.2.1
    · rw [e]; exact h.own.2.2
    · exact h.dn.t g e
    · rw [e]; exact h.own.1)
  refine ⟨0, h1, rfl, ⟨v, u, mw, ma, dv', h2.mono (fun g hg => ?_) (fun g hg => ?_)⟩, hfw⟩
  · rcases hg with hg | hg
    · exact .inl hg
    · exact .inr ⟨Nat.le_trans hf1.size hg.1, hg.2⟩
  · rcases hg with hg | hg
    · exact Nat.lt_of_lt_of_le (h.lt g hg) hfw.size
    · exact hg.2
/-- What is known of an id that was not called. -/
def Unc (c : Nat) (cs : List SC) (cl k : Nat) : Prop := cl = c → k = 0 ∨ cs.length < k
/-- Take of an answer of none. -/
theorem SS.ansNone {w : World} {d c : Nat} {cs : List SC} {dn : List Nat} {T : Nat → Prop} (h : SS w d c cs dn T) (xs : List Value) (icl inu ico : Nat) (a : AN) (hm : MsX xs 3 icl inu ico a) (hu : Unc c cs a.cl a.nu) (hcl : a.cl < 4294967296) (hnu : a.nu < 4294967296) :
    Calls Try.prog 14 #[.pointer (some ⟨d, 0, none⟩), .agg xs.toArray] w fun e w' => ∃ r, e = .returned (.int .i64 r) ∧ r = 15 ∧ Fr (fun _ => False) w w' := by
  obtain ⟨mw, ma, dv, h⟩ := h
  have hf1 := box1 w (.cells xs.toArray 49)
  have h1 := h.fr0 hf1
  refine stake_ans d xs icl inu ico _ hm w _ ?_
  refine (sta_none d mw ma a.cl a.nu a.co a.rc a.ve a.fv a.hv _ h1.cells.2.1 h1.cells.2.2.1 (fun W' hf => (h1.look_wn hcl hnu (fun e => fW_no (hu e)) W' hf).1) (fun W' hf => h1.look_an hcl hnu (fun e => fA_no (hu e)) W' hf)).mono ?_
  rintro e w' ⟨e1, hf⟩
  exact ⟨15, e1, rfl, hf1.trans0 hf⟩
/-- Take of an answer of a request that is answered. -/
theorem SS.ansDone {w : World} {d c : Nat} {cs : List SC} {dn : List Nat} {T : Nat → Prop} (h : SS w d c cs dn T) (xs : List Value) (icl inu ico : Nat) (a : AN) (hm : MsX xs 3 icl inu ico a) (i : Nat) (q : SC) (x : AD) (hq : cs[i]? = some q) (hd : q.d = some x) (hc : a.cl = c) (hn : a.nu = i + 1) (b : Bool)
    (hS : ∀ W', Fr (fun _ => False) w W' → Calls Try.prog 43 #[.agg x.a.cs.toArray, .agg a.cs.toArray] W' fun e w' => e = .returned (.bool b) ∧ Fr (fun _ => False) W' w') :
    Calls Try.prog 14 #[.pointer (some ⟨d, 0, none⟩), .agg xs.toArray] w fun e w' => ∃ r, e = .returned (.int .i64 r) ∧ r = (if b then 0 else 4) ∧ Fr (fun _ => False) w w' := by
  obtain ⟨mw, ma, dv, h⟩ := h
  obtain ⟨cl, nu, co, rc, ve, fv, hv⟩ := a
  simp only at hc hn
  subst hc
  subst hn
  have hf1 := box1 w (.cells xs.toArray 49)
  have h1 := h.fr0 hf1
  have hx := (h.qs q (List.mem_of_getElem? hq)).an x hd
  have h7 : ∀ v ∈ x.a.cs, v.oneCell' = true := AN.one x.a (own_one hx.1.o) (own_one hx.2.o)
  have hc16 := h.c16
  have hil := (List.getElem?_eq_some_iff.1 hq).1
  have hln := h.len
  refine stake_ans d xs icl inu ico _ hm w _ ?_
  cases b with
  | true =>
    refine (sta_same d mw ma cl (i + 1) co rc ve fv hv x.a h7 _ h1.cells.2.1 h1.cells.2.2.1 (fun W' hf => (h1.look_wn (by omega) (by omega) (fun _ => fW_dn hq hd) W' hf).1) (fun W' hf => h1.look_a hq hd W' hf) (fun W' hf => hS W' (hf1.trans0 hf))).mono ?_
    rintro e w' ⟨e1, hf⟩
    exact ⟨0, e1, rfl, hf1.trans0 hf⟩
  | false =>
    refine (sta_other d mw ma cl (i + 1) co rc ve fv hv x.a h7 _ h1.cells.2.1 h1.cells.2.2.1 (fun W' hf => (h1.look_wn (by omega) (by omega) (fun _ => fW_dn hq hd) W' hf).1) (fun W' hf => h1.look_a hq hd W' hf) (fun W' hf => hS W' (hf1.trans0 hf))).mono ?_
    rintro e w' ⟨e1, hf⟩
    exact ⟨4, e1, rfl, hf1.trans0 hf⟩
/-- Take of a refusal of a request that waits. -/
theorem SS.busy {w : World} {d c : Nat} {cs : List SC} {dn : List Nat} {T : Nat → Prop} (h : SS w d c cs dn T) (xs : List Value) (ico : Nat) (a : AN) (i : Nat) (hm : MsX xs 4 c (i + 1) ico a) (hco : ico < 256) (q : SC) (hq : cs[i]? = some q) (hd : q.d = none) (hn : q.n ≤ 1000000000000) :
    Calls Try.prog 14 #[.pointer (some ⟨d, 0, none⟩), .agg xs.toArray] w fun e w' => ∃ r, e = .returned (.int .i64 r) ∧ r = 0 ∧ SS w' d c (cs.set i { q with la := (ico : Nat), n := q.n + 1 }) dn T ∧ Fr T w w' := by
  obtain ⟨mw, ma, dv, h⟩ := h
  have hf1 := box1 w (.cells xs.toArray 49)
  have h1 := h.fr0 hf1
  have hc16 := h.c16
  have hil := (List.getElem?_eq_some_iff.1 hq).1
  have hln := h.len
  have hnw := nWA cs
  refine stake_busy d xs c (i + 1) ico a hm hco w _ ?_
  refine (stb_wait d mw c (i + 1) (ico : Nat) q.la q.n hn q.r.cs rfl (RQ.one q.r (own_one ((h.qs q (List.mem_of_getElem? hq)).wt hd).o)) _ h1.cells.2.1 h.dm.1 (h1.lt mw h1.own.2.1) (fun W => MpR W mw c (nW cs) (fun j => if j = i + 1 then some (SC.v { q with la := (ico : Nat), n := q.n + 1 }) else fW cs j)) (fun W' hf => (h1.look_w hq hd W' hf).1) (fun W' hf => ?_)).mono ?_
  · obtain ⟨W2, a1, a2, a3⟩ := (h1.fr0 hf).wm.put (by omega) (by omega) Try.underlying83 (k := i + 1) (by omega) (SC.v { q with la := (ico : Nat), n := q.n + 1 })
    rw [fW_at hq hd] at a2
    exact ⟨W2, a1, by simpa using a2, a3⟩
  · rintro e w' ⟨e1, hp, w1, hf2, hf3⟩
    have h4 := h1.busy hf2 (q' := { q with la := (ico : Nat), n := q.n + 1 }) hq hd rfl rfl hd hp hf3
    exact ⟨0, e1, rfl, ⟨mw, ma, dv, h4⟩, ((hf1.trans0 hf2).mono (fun _ _ e => e.elim)).trans hf3 (fun g _ e => by rw [e]; exact h.own.2.1)⟩
/-- Take of a refusal of another id. -/
theorem SS.busyDone {w : World} {d c : Nat} {cs : List SC} {dn : List Nat} {T : Nat → Prop} (h : SS w d c cs dn T) (xs : List Value) (ico : Nat) (a : AN) (i : Nat) (hm : MsX xs 4 c (i + 1) ico a) (hco : ico < 256) (q : SC) (x : AD) (hq : cs[i]? = some q) (hd : q.d = some x) :
    Calls Try.prog 14 #[.pointer (some ⟨d, 0, none⟩), .agg xs.toArray] w fun e w' => ∃ r, e = .returned (.int .i64 r) ∧ r = 0 ∧ Fr (fun _ => False) w w' := by
  obtain ⟨mw, ma, dv, h⟩ := h
  have hf1 := box1 w (.cells xs.toArray 49)
  have h1 := h.fr0 hf1
  have hx := (h.qs q (List.mem_of_getElem? hq)).an x hd
  have hc16 := h.c16
  have hil := (List.getElem?_eq_some_iff.1 hq).1
  have hln := h.len
  refine stake_busy d xs c (i + 1) ico a hm hco w _ ?_
  refine (stb_done d mw ma c (i + 1) (ico : Nat) x.a (AN.one x.a (own_one hx.1.o) (own_one hx.2.o)) _ h1.cells.2.1 h1.cells.2.2.1 (fun W' hf => (h1.look_wn (by omega) (by omega) (fun _ => fW_dn hq hd) W' hf).1) (fun W' hf => h1.look_a hq hd W' hf)).mono ?_
  rintro e w' ⟨e1, hf⟩
  exact ⟨0, e1, rfl, hf1.trans0 hf⟩
theorem SS.busyNone {w : World} {d c : Nat} {cs : List SC} {dn : List Nat} {T : Nat → Prop} (h : SS w d c cs dn T) (xs : List Value) (icl inu ico : Nat) (a : AN) (hm : MsX xs 4 icl inu ico a) (hco : ico < 256) (hu : Unc c cs icl inu) (hcl : icl < 4294967296) (hnu : inu < 4294967296) :
    Calls Try.prog 14 #[.pointer (some ⟨d, 0, none⟩), .agg xs.toArray] w fun e w' => ∃ r, e = .returned (.int .i64 r) ∧ r = 15 ∧ Fr (fun _ => False) w w' := by
  obtain ⟨mw, ma, dv, h⟩ := h
  have hf1 := box1 w (.cells xs.toArray 49)
  have h1 := h.fr0 hf1
  refine stake_busy d xs icl inu ico a hm hco w _ ?_
  refine (stb_none d mw ma icl inu (ico : Nat) _ h1.cells.2.1 h1.cells.2.2.1 (fun W' hf => (h1.look_wn hcl hnu (fun e => fW_no (hu e)) W' hf).1) (fun W' hf => h1.look_an hcl hnu (fun e => fA_no (hu e)) W' hf)).mono ?_
  rintro e w' ⟨e1, hf⟩
  exact ⟨15, e1, rfl, hf1.trans0 hf⟩
end Go.Proofs.Ytkiepcdncegniaa

