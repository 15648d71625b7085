import Derived.Test.YtkiepcdncegniaaZah
import Derived.Test.YtkiepcdncegniaaZam
namespace Go.Proofs.Ytkiepcdncegniaa
open Go.RowKit Go.Maps

theorem ownsMap_tight {H : Type} {w : World} {P : Program} {k : TypeId} {R : Value → Option (DataW H × List MemPlace)} {b n : Nat} {D : DataW H} (h : w.ownsMap P k R b n D) : w.ownsMap P k R b (Maps.size D) D := by
  obtain ⟨es, clock, h1, F, hs, hD⟩ := h
  exact ⟨es, clock, h1, F, by rw [hD]; simp [Maps.size, length_sorted], hD⟩
theorem ownsMap_keep {H : Type} {w w' : World} {P : Program} {k : TypeId} {R : Value → Option (DataW H × List MemPlace)} {b n : Nat} {D : DataW H} (h : w.ownsMap P k R b n D) (hb : w'.heap[b]? = w.heap[b]?) : w'.ownsMap P k R b n D := by
  obtain ⟨es, clock, h1, F, hs, hD⟩ := h
  exact ⟨es, clock, hb.trans h1, F, hs, hD⟩
theorem ownsMap_blk {H : Type} {w : World} {P : Program} {k : TypeId} {R : Value → Option (DataW H × List MemPlace)} {b n : Nat} {D : DataW H} (h : w.ownsMap P k R b n D) : ∃ es clock, w.heap[b]? = some (.map es clock) := by
  obtain ⟨es, clock, h1, _⟩ := h
  exact ⟨es, clock, h1⟩
/-- What a map's datum says of the client c's numbers. -/
structure DR (D : DataW Value) (c : Nat) (f : Nat → Option Value) : Prop where
  has : ∀ c' k, c' < 4294967296 → k < 4294967296 → has D (kid c' k) = (decide (c' = c) && (f k).isSome)
  at_ : ∀ k v, k < 4294967296 → f k = some v → ∀ z, D.atKey (kid c k) z = .held v
/-- A map in memory: N entries, of the client c, number by number. -/
def MpR (w : World) (b c N : Nat) (f : Nat → Option Value) : Prop := ∃ D, w.ownsMap Try.prog 29 RU b N D ∧ Maps.size D = N ∧ DR D c f
theorem MpR.blk {w : World} {b c N : Nat} {f : Nat → Option Value} (h : MpR w b c N f) : ∃ es clock, w.heap[b]? = some (.map es clock) := by
  obtain ⟨D, h1, _⟩ := h
  exact ownsMap_blk h1
theorem MpR.keep {w w' : World} {b c N : Nat} {f : Nat → Option Value} (h : MpR w b c N f) (hb : w'.heap[b]? = w.heap[b]?) : MpR w' b c N f := by
  obtain ⟨D, h1, h2⟩ := h
  exact ⟨D, ownsMap_keep h1 hb, h2⟩
theorem MpR.made (w : World) (c : Nat) : MpR (w.alloc (.map #[] 0)) w.heap.size c 0 (fun _ => none) :=
  ⟨.map [], World.ownsMap_made w _ _ _, rfl, ⟨fun c' k _ _ => by simp [Maps.has], fun k v _ h => by cases h⟩⟩
theorem MpR.look_yes {w : World} {b c N : Nat} {f : Nat → Option Value} (h : MpR w b c N f) (hc : c < 4294967296) {t e : TypeId} (ht : Try.prog.underlying t = some (.map 29 e)) {z : Value} (hz : (zeroValue e).run Try.prog w = .ok z w) {k : Nat} (hk : k < 4294967296) {v : Value} (hv : f k = some v) :
    (Instr.lookup t (.map (some b)) (idv c k) true).run Try.prog w = .ok (.tuple #[v, .bool true]) w ∧ (Instr.lookup t (.map (some b)) (idv c k) false).run Try.prog w = .ok v w := by
  obtain ⟨D, h1, _, h3⟩ := h
  obtain ⟨x, ps, hr, hx⟩ := h1.look_ok idK ht hz (zd := .held z) (zp := []) rfl (key_id c k hc hk)
  obtain ⟨y, qs, hr2, hy⟩ := h1.lookup idK ht hz (zd := .held z) (zp := []) rfl (key_id c k hc hk)
  rw [h3.at_ k v hk hv] at hx hy
  simp only [RU, Option.some.injEq, Prod.mk.injEq, DataW.held.injEq] at hx hy
  rw [hx.1, h3.has c k hc hk, hv] at hr
  rw [hy.1] at hr2
  exact ⟨by simpa using hr, hr2⟩
theorem MpR.look_no {w : World} {b c N : Nat} {f : Nat → Option Value} (h : MpR w b c N f) {t e : TypeId} (ht : Try.prog.underlying t = some (.map 29 e)) {z : Value} (hz : (zeroValue e).run Try.prog w = .ok z w) {c' k : Nat} (hc : c' < 4294967296) (hk : k < 4294967296) (hv : c' = c → f k = none) :
    (Instr.lookup t (.map (some b)) (idv c' k) true).run Try.prog w = .ok (.tuple #[z, .bool false]) w ∧ (Instr.lookup t (.map (some b)) (idv c' k) false).run Try.prog w = .ok z w := by
  obtain ⟨D, h1, _, h3⟩ := h
  have hh : has D (kid c' k) = false := by
    rw [h3.has c' k hc hk]
    by_cases e : c' = c
    · simp [hv e]
    · simp [e]
  obtain ⟨x, ps, hr, hx⟩ := h1.look_ok idK ht hz (zd := .held z) (zp := []) rfl (key_id c' k hc hk)
  obtain ⟨y, qs, hr2, hy⟩ := h1.lookup idK ht hz (zd := .held z) (zp := []) rfl (key_id c' k hc hk)
  rw [atKey_of_not_has hh] at hx hy
  simp only [RU, Option.some.injEq, Prod.mk.injEq, DataW.held.injEq] at hx hy
  rw [hx.1, hh] at hr
  rw [hy.1] at hr2
  exact ⟨hr, hr2⟩
theorem MpR.len {w : World} {b c N : Nat} {f : Nat → Option Value} (h : MpR w b c N f) {t e : TypeId} (ht : Try.prog.underlying t = some (.map 29 e)) (ty : TypeId) : (Builtin.len_ #[t] ty #[.map (some b)]).run Try.prog w = .ok (.int .i64 (N : Nat)) w := by
  obtain ⟨D, h1, h2, h3⟩ := h
  rw [h1.len ht ty, h2]
theorem MpR.put {w : World} {b c N : Nat} {f : Nat → Option Value} (h : MpR w b c N f) (hc : c < 4294967296) (hN : N ≤ 1048576) {t e : TypeId} (ht : Try.prog.underlying t = some (.map 29 e)) {k : Nat} (hk : k < 4294967296) (v : Value) :
    ∃ w', (Instr.mapUpdate t (.map (some b)) (idv c k) v).run Try.prog w = .ok () w' ∧ MpR w' b c (if (f k).isSome then N else N + 1) (fun j => if j = k then some v else f j) ∧ Fr (fun g => g = b) w w' := by
  obtain ⟨D, h1, h2, h3⟩ := h
  obtain ⟨w', hr, h4, h5⟩ := h1.update idK ht (by simp only [maxLen]; omega) (key_id c k hc hk) (show RU v = some (.held v, []) from rfl)
  have hI := h1.isMap
  have hs : Maps.size (D.put (kid c k) (.held v)) = if (f k).isSome then N else N + 1 := by
    rw [size_put (h1.tidy idK), h3.has c k hc hk, h2]
    simp
  refine ⟨w', hr, ⟨_, by rw [← hs]; exact ownsMap_tight h4, hs, ⟨fun c' j hc' hj => ?_, fun j u hj hu z => ?_⟩⟩, (Fr.refl _ _).grown h5 (fun g hg => .inl (by cases hg; rfl))⟩
  · by_cases e : kid c' j = kid c k
    · obtain ⟨rfl, rfl⟩ := kid_inj hc' hj hc hk e
      rw [has_put_same hI (kid_key _ _)]
      simp
    · rw [has_put_other e, h3.has c' j hc' hj]
      by_cases e2 : j = k
      · subst e2
        have : c' ≠ c := fun e3 => e (by rw [e3])
        simp [this]
      · simp [e2]
  · by_cases e : j = k
    · subst e
      simp at hu
      subst hu
      exact atKey_put_same hI (kid_key _ _) _ _
    · rw [atKey_put_other (fun e2 => e (kid_inj hc hj hc hk e2).2)]
      simp [e] at hu
      exact h3.at_ j u hj hu z
theorem MpR.del {w : World} {b c N : Nat} {f : Nat → Option Value} (h : MpR w b c N f) (hc : c < 4294967296) {t e : TypeId} (ht : Try.prog.underlying t = some (.map 29 e)) {k : Nat} (hk : k < 4294967296) (hf : (f k).isSome = true) (ty : TypeId) :
    ∃ w', (Builtin.delete_ #[t, 29] ty #[.map (some b), idv c k]).run Try.prog w = .ok (.tuple #[]) w' ∧ MpR w' b c (N - 1) (fun j => if j = k then none else f j) ∧ Fr (fun g => g = b) w w' := by
  obtain ⟨D, h1, h2, h3⟩ := h
  obtain ⟨w', hr, h4, h5⟩ := h1.drop idK ht (key_id c k hc hk) ty
  have hs : Maps.size (D.del (kid c k)) = N - 1 := by
    have := size_del (k := kid c k) (h1.tidy idK)
    rw [h3.has c k hc hk, h2] at this
    simp [hf] at this
    omega
  refine ⟨w', hr, ⟨_, by rw [← hs]; exact ownsMap_tight h4, hs, ⟨fun c' j hc' hj => ?_, fun j u hj hu z => ?_⟩⟩, (Fr.refl _ _).grown h5.grown (fun g hg => .inl (by cases hg; rfl))⟩
  · by_cases e : kid c' j = kid c k
    · obtain ⟨rfl, rfl⟩ := kid_inj hc' hj hc hk e
      rw [has_del_same]
      simp
    · rw [has_del_other e, h3.has c' j hc' hj]
      by_cases e2 : j = k
      · subst e2
        have : c' ≠ c := fun e3 => e (by rw [e3])
        simp [this]
      · simp [e2]
  · by_cases e : j = k
    · subst e
      simp at hu
    · rw [atKey_del_other (fun e2 => e (kid_inj hc hj hc hk e2).2)]
      simp [e] at hu
      exact h3.at_ j u hj hu z
end Go.Proofs.Ytkiepcdncegniaa
