import Derived.Test.YthccbfgjekdiiaaDoorSbp
namespace Go.Proofs.YthccbfgjekdiiaaDoor
open Go.RowKit

/-- Some bytes of the rest are stored anew. -/
theorem HsAt.putC {w : World} {b o t h : Nat} {s : S8} {f : Nat → Nat} (H : HsAt w b o s f t) (c : List Nat) (hc : h + c.length ≤ 64) : HsAt (w.setCells b (o + 8 + h) (V8 c)) b o s (fun j => if h ≤ j ∧ j < h + c.length then c.getD (j - h) 0 else f j) t := by
  have hth : w.there b (o + 8 + h) (V8 c).length := fun j hj => by
    rw [V8_len] at hj
    have := H.thereR (h + j) (by omega)
    rwa [← Nat.add_assoc] at this
  have hr := World.rangeAt_setCells_same w b (o + 8 + h) (V8 c) hth
  refine ⟨fun j v hv => ?_, fun j hj => ?_, ?_, fun j hj => ?_⟩
  · have hj : j < 8 := (List.getElem?_eq_some_iff.1 hv).1
    rw [World.cell?_setCells_out b (V8 c) (o + 8 + h) w _ (fun _ _ => .inl (by show o + j < o + 8 + h; omega))]; exact H.st j v hv
  · by_cases hin : h ≤ j ∧ j < h + c.length
    · rw [if_pos hin]
      have := hr (j - h) (.int .u8 (c.getD (j - h) 0 : Nat)) (by
        rw [V8, List.getElem?_map, List.getElem?_eq_getElem (by omega), Option.map_some, List.getD, List.getElem?_eq_getElem (by omega), Option.getD_some])
      rwa [show o + 8 + h + (j - h) = o + 8 + j by omega] at this
    · rw [if_neg hin, World.cell?_setCells_out b (V8 c) (o + 8 + h) w _ (fun _ _ => by
        rw [V8_len]
        show o + 8 + j < o + 8 + h ∨ o + 8 + h + c.length ≤ o + 8 + j
        omega)]
      exact H.rs j hj
  · rw [World.cell?_setCells_out b (V8 c) (o + 8 + h) w _ (fun _ _ => .inr (by rw [V8_len]; show o + 8 + h + c.length ≤ o + 72; omega))]; exact H.tk
  · rw [World.frozen?_setCells]; exact H.fz j hj
/-- The block k of a text. -/
def mb (m : List Nat) (k : Nat) : List Nat := rl (fun j => m.getD (64 * k + j) 0)
def ssn (m : List Nat) : Nat → S8
  | 0 => st0
  | k + 1 => fo (ssn m k) (mb m k)
theorem ssn_ok (m : List Nat) (k : Nat) : (ssn m k).ok := by
  cases k with
  | zero => exact st0_ok
  | succ k => exact fo_ok _ _
theorem mb_app (m c : List Nat) (k : Nat) (h : 64 * (k + 1) ≤ m.length) : mb (m ++ c) k = mb m k := rl_congr _ _ (fun j hj => by
  rw [List.getD, List.getD, List.getElem?_append_left (by omega)])
theorem ssn_app (m c : List Nat) (k : Nat) (h : 64 * k ≤ m.length) : ssn (m ++ c) k = ssn m k := by
  induction k with
  | zero => rfl
  | succ k ih => rw [ssn, ssn, ih (by omega), mb_app m c k h]
def rfn (m : List Nat) (j : Nat) : Nat := if j < m.length % 64 then m.getD (64 * (m.length / 64) + j) 0 else 0
theorem rfn_lt (m : List Nat) (hm : ∀ x ∈ m, x < 256) (j : Nat) : rfn m j < 256 := by
  unfold rfn
  split
  · rw [List.getD]
    rcases h : m[64 * (m.length / 64) + j]? with _ | x
    · decide
    · exact hm x (List.mem_of_getElem? h)
  · decide
/-- A Hash that has taken a text. -/
def HM (w : World) (b o : Nat) (m : List Nat) : Prop := HsAt w b o (ssn m (m.length / 64)) (rfn m) m.length
theorem hm_small {w : World} {b o : Nat} {m c : List Nat} (hs : m.length % 64 + c.length < 64) (h : HsAt w b o (ssn m (m.length / 64)) (fun j => if m.length % 64 ≤ j ∧ j < m.length % 64 + c.length then c.getD (j - m.length % 64) 0 else rfn m j) (m.length + c.length)) : HM w b o (m ++ c) := by
  unfold HM
  have e1 : (m ++ c).length / 64 = m.length / 64 := by rw [List.length_append]; omega
  have e2 : (m ++ c).length % 64 = m.length % 64 + c.length := by rw [List.length_append]; omega
  have e3 : (m ++ c).length = m.length + c.length := List.length_append
  rw [e1, ssn_app m c _ (by omega), e3]
  refine h.congr (fun j hj => ?_)
  unfold rfn
  rw [e1, e2]
  by_cases hin : m.length % 64 ≤ j ∧ j < m.length % 64 + c.length
  · rw [if_pos hin, if_pos (by omega), List.getD, List.getD, List.getElem?_append_right (by omega)]
    congr 2
    omega
  · rw [if_neg hin]
    by_cases h2 : j < m.length % 64
    · rw [if_pos h2, if_pos (by omega), List.getD, List.getD, List.getElem?_append_left (by omega)]
    · rw [if_neg h2, if_neg (by omega)]
/-- A Hash's own cells may change, no others of its block, nor other blocks. -/
structure FrH (w w' : World) (b o : Nat) : Prop where
  fr : Fr (fun k => k = b) w w'
  out : ∀ j, (j < o ∨ o + 73 ≤ j) → w'.cell? ⟨b, j, none⟩ = w.cell? ⟨b, j, none⟩ ∧ w'.frozen? ⟨b, j, none⟩ = w.frozen? ⟨b, j, none⟩
theorem FrH.refl (w : World) (b o : Nat) : FrH w w b o := ⟨Fr.refl _ _, fun _ _ => ⟨rfl, rfl⟩⟩
theorem FrH.trans {w w1 w2 : World} {b o : Nat} (h : FrH w w1 b o) (h2 : FrH w1 w2 b o) : FrH w w2 b o :=
  ⟨h.fr.trans h2.fr (fun _ _ h => h), fun j hj => ⟨(h2.out j hj).1.trans (h.out j hj).1, (h2.out j hj).2.trans (h.out j hj).2⟩⟩
theorem FrH.of0 {w w' : World} {b : Nat} (h : Fr (fun _ => False) w w') (hb : b < w.heap.size) (o : Nat) : FrH w w' b o :=
  ⟨h.mono (T := fun k => k = b) (fun _ _ h => h.elim), fun j _ => ⟨h.cell (p := ⟨b, j, none⟩) hb (fun h => h), h.frozen (p := ⟨b, j, none⟩) hb (fun h => h)⟩⟩
theorem FrH.setCell (w : World) (b o k : Nat) (v : Value) (h1 : o ≤ k) (h2 : k < o + 73) : FrH w (w.setCell ⟨b, k, none⟩ v) b o :=
  ⟨Fr.setCell (S := fun k => k = b) (Fr.refl _ _) (p := ⟨b, k, none⟩) (.inl rfl) _, fun j hj => ⟨World.cell?_setCell_other _ _ _ _ (by intro h; injection h with _ h3 _; omega), World.frozen?_setCell _ _ _ _⟩⟩
theorem FrH.setCells {w w1 : World} {b o : Nat} (h : FrH w w1 b o) (k : Nat) (vs : List Value) (h1 : o ≤ k) (h2 : k + vs.length ≤ o + 73) : FrH w (w1.setCells b k vs) b o := by
  induction vs generalizing k w1 with
  | nil => exact h
  | cons v r ih =>
    rw [World.setCells]
    rw [List.length_cons] at h2
    exact ih (h.trans (FrH.setCell w1 b o k v h1 (by omega))) (k + 1) (by omega) (by omega)
/-- copy of a slice of bytes into the rest. -/
theorem copy_rest {w : World} {b o t h : Nat} {s : S8} {f : Nat → Nat} {xo : Option Addr} {xc : Nat} {c : List Nat} (H : HsAt w b o s f t) (hx : Src w (.slice xo c.length xc) c) (hc : ∀ v ∈ c, v < 256) (hle : h + c.length ≤ 64) (n cp : Nat) (hn : c.length ≤ n) :
    ∃ W', (∀ ty, (Builtin.copy_ #[25, 25] ty #[.slice (some ⟨b, o + 8 + h, none⟩) n cp, .slice xo c.length xc]).run Tryd.prog w = .ok (goInt c.length) W') ∧
      HsAt W' b o s (fun j => if h ≤ j ∧ j < h + c.length then c.getD (j - h) 0 else f j) t ∧ FrH w W' b o := by
  by_cases h0 : c.length = 0
  · refine ⟨w, fun ty => ?_, H.congr (fun j _ => by rw [if_neg (by omega)]), FrH.refl _ _ _⟩
    have := run_copy_none (P := Tryd.prog) w 25 25 ty 5 (some ⟨b, o + 8 + h, none⟩) xo n cp c.length xc Tryd.underlying25 Tryd.sizeU8 (by rw [h0]; exact Nat.zero_min n)
    rw [h0] at this ⊢
    exact this
  · obtain ⟨g, oc, rfl, _⟩ := src_at hx 0 (by omega)
    have hsrc : ∀ j v, (V8 c)[j]? = some v → w.cell? ((⟨g, oc, none⟩ : Addr).add j) = some v := fun j v hv => by
      have e : (⟨g, oc, none⟩ : Addr).add j = ⟨g, oc + j, none⟩ := by unfold Addr.add; split <;> simp_all
      rw [e]
      rcases hx with ⟨e2, _⟩ | ⟨g', o', c', e2, hcc⟩ | ⟨_, _, e2, e3⟩
      · cases e2
      · simp only [Value.slice.injEq, Option.some.injEq, Addr.mk.injEq, and_true] at e2
        obtain ⟨⟨rfl, rfl⟩, _⟩ := e2
        rw [cells_of_lt c hc] at hcc
        exact hcc j v hv
      · rw [e3] at h0; exact absurd rfl h0
    have hth : ∀ j, j < (V8 c).length → (w.cell? ⟨b, o + 8 + h + j, none⟩).isSome = true ∧ w.frozen? ⟨b, o + 8 + h + j, none⟩ = false := fun j hj => by
      rw [V8_len] at hj
      have := H.thereR (h + j) (by omega)
      rwa [← Nat.add_assoc] at this
    refine ⟨w.setCells b (o + 8 + h) (V8 c), fun ty => ?_, H.putC c hle, (FrH.refl w b o).setCells _ _ (by omega) (by rw [V8_len]; omega)⟩
    have := run_copy_cells (P := Tryd.prog) w 25 25 ty 5 b (o + 8 + h) n cp ⟨g, oc, none⟩ c.length xc (V8 c) Tryd.underlying25 Tryd.sizeU8 (by rw [V8_len]; exact (Nat.min_eq_left hn).symm) hsrc (fun j hj => (hth j hj).1) (fun j hj => (hth j hj).2) (V8_one c)
    rw [V8_len] at this
    exact this
end Go.Proofs.YthccbfgjekdiiaaDoor
