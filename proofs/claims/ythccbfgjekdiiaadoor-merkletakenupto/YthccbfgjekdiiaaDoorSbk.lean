import Derived.Test.YthccbfgjekdiiaaDoorSbi
import Derived.Test.YthccbfgjekdiiaaDoorSbj
namespace Go.Proofs.YthccbfgjekdiiaaDoor
open Go.RowKit

theorem zero_bl (w : World) : (zeroValue 90).run Tryd.prog w = .ok (.agg (Array.replicate 64 (.int .u8 0))) w := by kernel_rfl
/-- 64 bytes, as a list. -/
def rl (f : Nat → Nat) : List Nat := (List.range 64).map f
theorem rl_len (f : Nat → Nat) : (rl f).length = 64 := by simp [rl]
theorem rl_at (f : Nat → Nat) (j : Nat) (h : j < 64) : (rl f).getD j 0 = f j := by rw [rl, List.getD, List.getElem?_map, List.getElem?_range h]; rfl
theorem rl_lt (f : Nat → Nat) (h : ∀ j, j < 64 → f j < 256) (j : Nat) : (rl f).getD j 0 < 256 := by
  by_cases hj : j < 64
  · rw [rl_at f j hj]; exact h j hj
  · rw [List.getD, List.getElem?_eq_none (by rw [rl_len]; omega)]; decide
theorem rl_congr (f g : Nat → Nat) (h : ∀ j, j < 64 → f j = g j) : rl f = rl g := List.map_congr_left (fun j hj => h j (by simpa using hj))
def S8.cells (s : S8) : List Value := [.int .u32 s.a, .int .u32 s.b, .int .u32 s.c, .int .u32 s.d, .int .u32 s.e, .int .u32 s.f, .int .u32 s.g, .int .u32 s.h]
theorem cells_V (s : S8) : s.cells = V32 s.vals := rfl
/-- A Hash in memory. -/
structure HsAt (w : World) (b o : Nat) (s : S8) (f : Nat → Nat) (t : Nat) : Prop where
  st : w.rangeAt b o s.cells
  rs : ∀ j, j < 64 → w.cell? ⟨b, o + 8 + j, none⟩ = some (.int .u8 (f j : Nat))
  tk : w.cell? ⟨b, o + 72, none⟩ = some (.int .u64 (t : Nat))
  fz : ∀ j, j < 73 → w.frozen? ⟨b, o + j, none⟩ = false
theorem HsAt.lt {w : World} {b o t : Nat} {s : S8} {f : Nat → Nat} (h : HsAt w b o s f t) : b < w.heap.size := lt_of_cell h.tk
theorem HsAt.congr {w : World} {b o t : Nat} {s : S8} {f g : Nat → Nat} (h : HsAt w b o s f t) (e : ∀ j, j < 64 → f j = g j) : HsAt w b o s g t := ⟨h.st, fun j hj => by rw [← e j hj]; exact h.rs j hj, h.tk, h.fz⟩
theorem HsAt.fr {w w' : World} {b o t : Nat} {s : S8} {f : Nat → Nat} {S : Nat → Prop} (h : HsAt w b o s f t) (hf : Fr S w w') (hS : ¬ S b) : HsAt w' b o s f t :=
  ⟨fun j v hv => (hf.cell (p := ⟨b, o + j, none⟩) h.lt hS).trans (h.st j v hv), fun j hj => (hf.cell (p := ⟨b, o + 8 + j, none⟩) h.lt hS).trans (h.rs j hj), (hf.cell (p := ⟨b, o + 72, none⟩) h.lt hS).trans h.tk, fun j hj => (hf.frozen (p := ⟨b, o + j, none⟩) h.lt hS).trans (h.fz j hj)⟩
theorem HsAt.drewN {w : World} {b o t n : Nat} {s : S8} {f : Nat → Nat} (h : HsAt w b o s f t) : HsAt (w.drewN n) b o s f t := h.fr (S := fun _ => False) ⟨rfl, rfl, rfl, Nat.le_refl _, fun _ _ _ => rfl⟩ (fun h => h)
theorem HsAt.restR {w : World} {b o t : Nat} {s : S8} {f : Nat → Nat} (h : HsAt w b o s f t) : w.rangeAt b (o + 8) (V8 (rl f)) := fun j v hv => by
  obtain ⟨hj, rfl⟩ := V8_at _ j v hv
  rw [rl_len] at hj
  rw [h.rs j hj, rl_at f j hj]
theorem HsAt.thereS {w : World} {b o t : Nat} {s : S8} {f : Nat → Nat} (h : HsAt w b o s f t) : w.there b o 8 := fun j hj => by
  refine ⟨?_, h.fz j (by omega)⟩
  have : j < s.cells.length := hj
  rw [h.st j _ (List.getElem?_eq_getElem this)]; rfl
theorem HsAt.thereR {w : World} {b o t : Nat} {s : S8} {f : Nat → Nat} (h : HsAt w b o s f t) : w.there b (o + 8) 64 := fun j hj => by
  refine ⟨by rw [h.rs j hj]; rfl, ?_⟩
  have := h.fz (8 + j) (by omega)
  rwa [← Nat.add_assoc] at this
/-- The state is stored anew. -/
theorem HsAt.putS {w : World} {b o t : Nat} {s : S8} {f : Nat → Nat} (h : HsAt w b o s f t) (s' : S8) : HsAt (w.setCells b o s'.cells) b o s' f t := by
  refine ⟨World.rangeAt_setCells_same w b o s'.cells h.thereS, fun j hj => ?_, ?_, fun j hj => ?_⟩
  · rw [World.cell?_setCells_out b s'.cells o w _ (fun _ _ => .inr (by show o + 8 ≤ o + 8 + j; omega))]; exact h.rs j hj
  · rw [World.cell?_setCells_out b s'.cells o w _ (fun _ _ => .inr (by show o + 8 ≤ o + 72; omega))]; exact h.tk
  · rw [World.frozen?_setCells]; exact h.fz j hj
/-- The rest is stored anew. -/
theorem HsAt.putR {w : World} {b o t : Nat} {s : S8} {f : Nat → Nat} (h : HsAt w b o s f t) (l : List Nat) (hl : l.length = 64) : HsAt (w.setCells b (o + 8) (V8 l)) b o s (fun j => l.getD j 0) t := by
  have hlen : (V8 l).length = 64 := by rw [V8_len, hl]
  have hr := World.rangeAt_setCells_same w b (o + 8) (V8 l) (by rw [hlen]; exact h.thereR)
  refine ⟨fun j v hv => ?_, fun j hj => ?_, ?_, fun j hj => ?_⟩
  · have hj : j < 8 := (List.getElem?_eq_some_iff.1 hv).1
    rw [World.cell?_setCells_out b (V8 l) (o + 8) w _ (fun _ _ => .inl (by show o + j < o + 8; omega))]; exact h.st j v hv
  · refine hr j _ ?_
    rw [V8, List.getElem?_map, List.getElem?_eq_getElem (by omega), Option.map_some, List.getD, List.getElem?_eq_getElem (by omega), Option.getD_some]
  · rw [World.cell?_setCells_out b (V8 l) (o + 8) w _ (fun _ _ => .inr (by show o + 8 + (V8 l).length ≤ o + 72; omega))]; exact h.tk
  · rw [World.frozen?_setCells]; exact h.fz j hj
/-- A byte of the rest is stored anew. -/
theorem HsAt.put {w : World} {b o t : Nat} {s : S8} {f : Nat → Nat} (h : HsAt w b o s f t) (k v : Nat) (hk : k < 64) : HsAt (w.setCell ⟨b, o + 8 + k, none⟩ (.int .u8 (v : Int))) b o s (fun j => if j = k then v else f j) t := by
  refine ⟨fun j u hu => ?_, fun j hj => ?_, ?_, fun j hj => ?_⟩
  · have hj : j < 8 := (List.getElem?_eq_some_iff.1 hu).1
    rw [World.cell?_setCell_other _ _ _ _ (by intro e; injection e with _ e2 _; omega)]; exact h.st j u hu
  · by_cases e : j = k
    · subst e
      rw [World.cell?_setCell_same _ _ _ (h.rs j hj)]; simp
    · rw [World.cell?_setCell_other _ _ _ _ (by intro e1; injection e1 with _ e2 _; omega), h.rs j hj]; simp [e]
  · rw [World.cell?_setCell_other _ _ _ _ (by intro e; injection e with _ e2 _; omega)]; exact h.tk
  · rw [World.frozen?_setCell]; exact h.fz j hj
/-- How many were taken is stored anew. -/
theorem HsAt.putT {w : World} {b o t : Nat} {s : S8} {f : Nat → Nat} (h : HsAt w b o s f t) (v : Nat) : HsAt (w.setCell ⟨b, o + 72, none⟩ (.int .u64 (v : Int))) b o s f v := by
  refine ⟨fun j u hu => ?_, fun j hj => ?_, World.cell?_setCell_same _ _ _ h.tk, fun j hj => ?_⟩
  · have hj : j < 8 := (List.getElem?_eq_some_iff.1 hu).1
    rw [World.cell?_setCell_other _ _ _ _ (by intro e; injection e with _ e2 _; omega)]; exact h.st j u hu
  · rw [World.cell?_setCell_other _ _ _ _ (by intro e; injection e with _ e2 _; omega)]; exact h.rs j hj
  · rw [World.frozen?_setCell]; exact h.fz j hj
/-- A Hash as a value. -/
def hv (s : S8) (f : Nat → Nat) (t : Nat) : List Value := s.cells ++ (V8 (rl f) ++ [.int .u64 (t : Nat)])
theorem hv_len (s : S8) (f : Nat → Nat) (t : Nat) : (hv s f t).length = 73 := by rw [hv, List.length_append, List.length_append, V8_len, rl_len]; rfl
theorem HsAt.all {w : World} {b o t : Nat} {s : S8} {f : Nat → Nat} (h : HsAt w b o s f t) : w.rangeAt b o (hv s f t) := fun j v hvv => by
  rw [hv] at hvv
  by_cases h1 : j < 8
  · rw [List.getElem?_append_left h1] at hvv; exact h.st j v hvv
  · rw [List.getElem?_append_right (show s.cells.length ≤ j from by show 8 ≤ j; omega), show j - s.cells.length = j - 8 from rfl] at hvv
    by_cases h2 : j < 72
    · rw [List.getElem?_append_left (by rw [V8_len, rl_len]; omega)] at hvv
      have := h.restR (j - 8) v hvv
      rwa [show o + 8 + (j - 8) = o + j by omega] at this
    · rw [List.getElem?_append_right (by rw [V8_len, rl_len]; omega), V8_len, rl_len] at hvv
      have hj : j = 72 := by
        have := (List.getElem?_eq_some_iff.1 hvv).1
        simp at this; omega
      subst hj
      simp at hvv
      rw [← hvv]; exact h.tk
theorem HsAt.of {w : World} {b o t : Nat} {s : S8} {f : Nat → Nat} (h : w.rangeAt b o (hv s f t)) (hz : ∀ j, j < 73 → w.frozen? ⟨b, o + j, none⟩ = false) : HsAt w b o s f t := by
  refine ⟨fun j v hvv => h j v ?_, fun j hj => ?_, ?_, hz⟩
  · have hj : j < 8 := (List.getElem?_eq_some_iff.1 hvv).1
    rw [hv, List.getElem?_append_left hj]; exact hvv
  · have := h (8 + j) (.int .u8 (f j : Nat)) (by
      rw [hv, List.getElem?_append_right (show s.cells.length ≤ 8 + j from by show 8 ≤ 8 + j; omega), show 8 + j - s.cells.length = j from by show 8 + j - 8 = j; omega, List.getElem?_append_left (by rw [V8_len, rl_len]; omega), V8, List.getElem?_map, rl, List.getElem?_map, List.getElem?_range hj]; rfl)
    rwa [← Nat.add_assoc] at this
  · refine h 72 _ ?_
    rw [hv, List.getElem?_append_right (show s.cells.length ≤ 72 from by show 8 ≤ 72; decide), show 72 - s.cells.length = 64 from rfl, List.getElem?_append_right (by rw [V8_len, rl_len]; decide), V8_len, rl_len]; rfl
theorem hv_one (s : S8) (f : Nat → Nat) (t : Nat) : ∀ v ∈ hv s f t, v.oneCell' = true := by
  intro v h
  rw [hv, List.mem_append, List.mem_append] at h
  rcases h with h | h | h
  · exact V32_one s.vals v h
  · exact V8_one _ v h
  · simp at h; subst h; rfl
theorem info_h : (Tryd.prog.info? 93).map (·.size) = some 73 := by kernel_rfl
end Go.Proofs.YthccbfgjekdiiaaDoor
