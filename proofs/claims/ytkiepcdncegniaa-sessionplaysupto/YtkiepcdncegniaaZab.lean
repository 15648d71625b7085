import Derived.Test.YtkiepcdncegniaaZaa
import Derived.Shelf.SlIterI.Nil
namespace Go.Proofs.Ytkiepcdncegniaa
open Go.RowKit Go.Maps Go.Sort Go.Shelf

/-- An id as a pair of numbers. -/
def encI (p : Nat × Nat) : Value := idv p.1 p.2
theorem encI_inj {p q : Nat × Nat} (h : encI p = encI q) : p = q := by
  simp only [encI, idv, Value.agg.injEq] at h
  have e1 := congrArg (fun a : Array Value => a[0]?) h
  have e2 := congrArg (fun a : Array Value => a[1]?) h
  simp at e1 e2
  obtain ⟨a, b⟩ := p
  obtain ⟨c, d⟩ := q
  simp at e1 e2 ⊢
  omega
/-- Ids that have come out of a map, none twice, all that are not still to come. -/
structure ColI (D : DataW Value) (left : Lit → Bool) (ss : List (Nat × Nat)) : Prop where
  nd : ss.Nodup
  lt : ∀ p ∈ ss, p.1 < 4294967296 ∧ p.2 < 4294967296
  mem : ∀ c k, c < 4294967296 → k < 4294967296 → ((c, k) ∈ ss ↔ (has D (kid c k) = true ∧ left (kid c k) = false))
theorem ColI.start (D : DataW Value) : ColI D (has D) [] := ⟨List.nodup_nil, fun p h => by simp at h, fun c k _ _ => by cases has D (kid c k) <;> simp⟩
theorem ColI.step {D : DataW Value} {left : Lit → Bool} {ss : List (Nat × Nat)} (h : ColI D left ss) {c k : Nat} (hc : c < 4294967296) (hk : k < 4294967296) {y : DataW Value} (hl : left (kid c k) = true) (hat : ∀ z, D.atKey (kid c k) z = y) :
    ColI D (fun z => left z && !z.sameKey (kid c k)) (ss ++ [(c, k)]) := by
  have hh : has D (kid c k) = true := has_true_of_atKey hat
  have hnew : (c, k) ∉ ss := fun hx => by have := ((h.mem c k hc hk).1 hx).2; rw [hl] at this; cases this
  refine ⟨?_, fun p hp => ?_, fun a b ha hb => ?_⟩
  · rw [List.nodup_append]
    exact ⟨h.nd, by simp, fun p hp q hq e => by simp at hq; subst hq; subst e; exact hnew hp⟩
  · rcases List.mem_append.1 hp with hp | hp
    · exact h.lt p hp
    · simp at hp; subst hp; exact ⟨hc, hk⟩
  · rw [List.mem_append, h.mem a b ha hb]
    by_cases e : a = c ∧ b = k
    · obtain ⟨rfl, rfl⟩ := e
      have : (kid a b).sameKey (kid a b) = true := by simp [kid, Lit.sameKey]
      simp [hh, this]
    · have hne : kid a b ≠ kid c k := fun e2 => e (kid_inj ha hb hc hk e2)
      have hs : (kid a b).sameKey (kid c k) = false := sameKey_ne hne
      have : (a, b) ∉ [(c, k)] := by simpa using e
      simp only [this, or_false, hs, Bool.not_false, Bool.and_true]
/-- All ids of a map. -/
structure AllI (D : DataW Value) (ss : List (Nat × Nat)) : Prop where
  nd : ss.Nodup
  lt : ∀ p ∈ ss, p.1 < 4294967296 ∧ p.2 < 4294967296
  mem : ∀ c k, c < 4294967296 → k < 4294967296 → ((c, k) ∈ ss ↔ has D (kid c k) = true)
theorem ColI.all {D : DataW Value} {left : Lit → Bool} {ss : List (Nat × Nat)} (h : ColI D left ss) (hl : ∀ z, left z = false) : AllI D ss :=
  ⟨h.nd, h.lt, fun c k hc hk => by rw [h.mem c k hc hk]; simp [hl]⟩
set_option maxRecDepth 100000 in
set_option maxHeartbeats 2000000 in
/-- The iterator of maps.Keys. -/
theorem keysI1 (F : Fence) (hF : ∀ f, F.fn f) (hro : F.round = none) (n : Nat) (hn : 1 ≤ n) (l Bm b nn : Nat) (D : DataW Value) (J : List (Nat × Nat) → World → Prop)
    (hY : ∀ pre x W, J pre W → pre.length < Maps.size D → YieldAt F (n - 1) Try.prog l #[encI x] W fun e W' => e = .returned (.bool true) ∧ J (pre ++ [x]) W' ∧ KeepsWalks W W')
    (W : World) (hJ : AbidesFrom W.heap.size J) (hm : W.cell? ⟨Bm, 0, none⟩ = some (.map (some b))) (hown : W.ownsMap Try.prog 29 RU b nn D) (h0 : J [] W) :
    CallsIn F n Try.prog 46 #[.func (.yield l) #[] #[], .pointer (some ⟨Bm, 0, none⟩)] W fun e W' => (∃ v, e = .returned v) ∧ ∃ ss, AllI D ss ∧ J ss W' := by
  refine callsIn_of_wp Try.func46 rfl (hF _) ?_ hro
  simp only [Try.ntmps46, List.size_toArray, List.length_cons, List.length_nil, Nat.reduceAdd, Nat.reduceSub, Array.replicate_succ, Array.replicate_zero, List.push_toArray, List.append_toArray, List.nil_append, List.cons_append]
  gi_wp2_with (first
    | (gi_at_range; refine wpListIn_range_own _ rfl _ 83 rfl 29 89 idK Try.underlying83 _ b nn _ rfl hown ?_; intro w0 hrg0 hg0 hs0)
    | gi_in)
  go_frame
  gi_loopw [3] (fun _ wr => ∃ (left : Lit → Bool) (cnt : Nat) (ss : List (Nat × Nat)), wr.ranges Try.prog 29 RU b W.heap.size nn D left cnt ∧ ss.length + cnt ≤ Maps.size D ∧ ColI D left ss ∧ J ss wr)
    (fun _ wr => wr.rangeLeft b W.heap.size)
  case atStart =>
    exact ⟨_, _, [], hrg0, by simp, ColI.start D, hJ [] W w0 none h0 hg0 (fun r e => by cases e)⟩
  case round =>
    obtain ⟨left, cnt, ss, hrg, hcs, hC, hJs⟩ := hrel
    gi_wp2_with (first
      | (gi_at_next; refine wpListIn_next_ranges _ rfl _ rfl 29 idK RU encI id (fun key kl hk => by obtain ⟨c, k, hx, _⟩ := keyOf_id hk; exact ⟨(c, k), hx⟩) (fun v _ _ => ⟨v, rfl⟩) b W.heap.size nn _ _ _ rfl hrg ?_ ?_)
      | gi_in)
    · intro hc0 hl0
      gi_wp2
      go_end0
      exact ⟨⟨_, rfl⟩, ss, hC.all hl0, hJs⟩
    · intro x1 x2 v0 kl yd yp w2 cnt2 hkey hlk hv hat hrg2 hlt hg2 hs2 hen
      obtain ⟨c', k', ex, rfl, hc', hk'⟩ := keyOf_id hkey
      obtain ⟨rfl, rfl⟩ : x1 = c' ∧ x2 = k' := by have := encI_inj (p := (x1, x2)) (q := (c', k')) ex; simpa using this
      have hJ2 : J ss w2 := hJ ss wr w2 (some W.heap.size) hJs hg2 (fun r e => by cases e; exact ⟨Nat.le_refl _, hrg.iter_walk⟩)
      have hJ3 : J ss (w2.alloc (.cells #[.int .u32 (x1 : Nat), .int .u32 (x2 : Nat)] 29)) := hJ ss w2 _ none hJ2 (World.grownBy_alloc w2 _ none) (fun r e => by cases e)
      have hrg3 := hrg2.of_walks (KeepsWalks.alloc w2 (.cells #[.int .u32 (x1 : Nat), .int .u32 (x2 : Nat)] 29))
      obtain ⟨fn, tmps, assign, body, hy, hR⟩ := hY ss (x1, x2) _ hJ3 (by omega)
      simp only [encI, idv] at hen hy
      clear hs2 ex hkey hv
      simp only [encI, idv]
      gi_wp2
      refine hR.mono ?_
      rintro e W3 ⟨rfl, hJ4, hk4⟩
      gi_wp2
      have hrg4 := hrg3.of_walks hk4
      go_roundw
      case rel => exact ⟨_, cnt2, ss ++ [(x1, x2)], hrg4, by simp; omega, hC.step hc' hk' hlk hat, hJ4⟩
      case measure => rw [hrg4.left_eq, hrg.left_eq]; exact hlt
end Go.Proofs.Ytkiepcdncegniaa
