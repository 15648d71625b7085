import Derived.Test.YthccbfgjekdiiaaDoorSba
import Derived.Deep.RegionHeld3
namespace Go.Proofs.YthccbfgjekdiiaaDoor
open Go.RowKit

def u8s (l : List Nat) : Array Value := (l.map fun c : Nat => Value.int .u8 (c : Int)).toArray
def u32s (l : List Nat) : Array Value := (l.map fun c : Nat => Value.int .u32 (c : Int)).toArray
/-- The first words of a block. -/
def wd (l : List Nat) (i : Nat) : Nat := (l.getD (4 * i) 0 * 16777216 ||| l.getD (4 * i + 1) 0 * 65536 ||| l.getD (4 * i + 2) 0 * 256 ||| l.getD (4 * i + 3) 0)
def s0 (x : Nat) : Nat := rr x 7 ^^^ rr x 18 ^^^ x / 8
def s1 (x : Nat) : Nat := rr x 17 ^^^ rr x 19 ^^^ x / 1024
/-- A later word. -/
def nxt (f : Nat → Nat) (i : Nat) : Nat := (s1 (f (i - 2)) + f (i - 7) + s0 (f (i - 15)) + f (i - 16)) % 4294967296
/-- The words, 16 and n. -/
def wl (l : List Nat) : Nat → List Nat
  | 0 => (List.range 16).map (wd l)
  | n + 1 => wl l n ++ [nxt (fun i => (wl l n).getD i 0) (16 + n)]
theorem wl_len (l : List Nat) (n : Nat) : (wl l n).length = 16 + n := by
  induction n with
  | zero => simp [wl]
  | succ n ih => rw [wl, List.length_append, ih]; rfl
theorem wl_0 (l : List Nat) (j : Nat) : (wl l 0).getD j 0 = if j < 16 then wd l j else 0 := by
  generalize hf : wd l = f
  rw [wl, List.getD, List.getElem?_map, hf]
  by_cases h : j < 16
  · rw [if_pos h, List.getElem?_range h, Option.map_some, Option.getD_some]
  · rw [if_neg h, List.getElem?_eq_none (by rw [List.length_range]; omega), Option.map_none, Option.getD_none]
theorem snoc_getD (p : List Nat) (v j m : Nat) (hp : p.length = m) : (p ++ [v]).getD j 0 = if j = m then v else p.getD j 0 := by
  rw [List.getD, List.getD]
  by_cases h : j = m
  · rw [if_pos h, List.getElem?_append_right (by omega), show j - p.length = 0 from by omega, List.getElem?_cons_zero, Option.getD_some]
  · rw [if_neg h]
    by_cases h2 : j < m
    · rw [List.getElem?_append_left (by omega)]
    · rw [List.getElem?_eq_none (by rw [List.length_append, List.length_singleton]; omega), List.getElem?_eq_none (by omega)]
theorem wl_succ (l : List Nat) (n j : Nat) : (wl l (n + 1)).getD j 0 = if j = 16 + n then nxt (fun i => (wl l n).getD i 0) (16 + n) else (wl l n).getD j 0 := by
  rw [wl]
  exact snoc_getD _ _ _ _ (wl_len l n)
theorem wd_lt (l : List Nat) (hb : ∀ j, l.getD j 0 < 256) (i : Nat) : wd l i < 4294967296 := by
  have h0 := hb (4 * i)
  have h1 := hb (4 * i + 1)
  have h2 := hb (4 * i + 2)
  have h3 := hb (4 * i + 3)
  unfold wd
  have a0 : l.getD (4 * i) 0 * 16777216 < 2 ^ 32 := Nat.lt_of_lt_of_le (Nat.mul_lt_mul_of_pos_right h0 (by decide)) (by decide)
  have a1 : l.getD (4 * i + 1) 0 * 65536 < 2 ^ 32 := Nat.lt_of_lt_of_le (Nat.mul_lt_mul_of_pos_right h1 (by decide)) (by decide)
  have a2 : l.getD (4 * i + 2) 0 * 256 < 2 ^ 32 := Nat.lt_of_lt_of_le (Nat.mul_lt_mul_of_pos_right h2 (by decide)) (by decide)
  have a3 : l.getD (4 * i + 3) 0 < 2 ^ 32 := Nat.lt_of_lt_of_le h3 (by decide)
  exact Nat.or_lt_two_pow (Nat.or_lt_two_pow (Nat.or_lt_two_pow a0 a1) a2) a3
theorem wl_lt (l : List Nat) (hb : ∀ j, l.getD j 0 < 256) (n j : Nat) : (wl l n).getD j 0 < 4294967296 := by
  induction n with
  | zero =>
    rw [wl_0]
    split
    · exact wd_lt l hb j
    · decide
  | succ n ih =>
    rw [wl_succ]
    split
    · exact Nat.mod_lt _ (by decide)
    · exact ih
theorem s_lt (a b c : Nat) (ha : a < 4294967296) (hb : b < 4294967296) (hc : c < 4294967296) : a ^^^ b ^^^ c < 4294967296 :=
  Nat.xor_lt_two_pow (n := 32) (Nat.xor_lt_two_pow ha hb) hc
/-- Numbers of one kind in a block. -/
def NumsAt (w : World) (g : Nat) (k : IntKind) (n : Nat) (f : Nat → Nat) : Prop := ∀ j, j < n → w.cell? ⟨g, j, none⟩ = some (.int k (f j : Nat))
structure InvS (w wr : World) (g0 g2 : Nat) (l : List Nat) (f : Nat → Nat) : Prop where
  from_ : NumsAt wr g0 .u8 64 (fun j => l.getD j 0)
  to : NumsAt wr g2 .u32 64 f
  fz : ∀ j, wr.frozen? ⟨g2, j, none⟩ = false
  fr : Fr (fun k => k = g2) w wr
  res : ∀ j, j < 64 → wr.cell? ⟨g0 + 1, j, none⟩ = some (.int .u32 0) ∧ wr.frozen? ⟨g0 + 1, j, none⟩ = false
theorem InvS.put {w wr : World} {g0 g2 : Nat} {l : List Nat} {f : Nat → Nat} (h : InvS w wr g0 g2 l f) (hg : g0 ≠ g2) (hg1 : g0 + 1 ≠ g2) (k v : Nat) (hk : k < 64) (n : Nat) : InvS w ((wr.setCell ⟨g2, k, none⟩ (.int .u32 (v : Int))).drewN n) g0 g2 l (fun j => if j = k then v else f j) := by
  refine ⟨fun j hj => ?_, fun j hj => ?_, fun j => ?_, ?_, fun j hj => ⟨?_, ?_⟩⟩
  · rw [World.cell?_drewN, World.cell?_setCell_other _ _ _ _ (by intro h; injection h with h1 _ _; exact hg h1.symm)]; exact h.from_ j hj
  · rw [World.cell?_drewN]
    by_cases e : j = k
    · subst e
      rw [World.cell?_setCell_same _ _ _ (h.to j hj), if_pos rfl]
    · rw [World.cell?_setCell_other _ _ _ _ (by intro h; injection h with _ h2 _; exact e h2.symm), if_neg e]; exact h.to j hj
  · rw [World.frozen?_drewN, World.frozen?_setCell]; exact h.fz j
  · have := Fr.setCell (S := fun k => k = g2) h.fr (p := ⟨g2, k, none⟩) (.inl rfl) (.int .u32 (v : Int))
    exact ⟨this.os, this.tape, this.output, this.size, this.block⟩
  · rw [World.cell?_drewN, World.cell?_setCell_other _ _ _ _ (by intro h; injection h with h1 _ _; exact hg1 h1.symm)]; exact (h.res j hj).1
  · rw [World.frozen?_drewN, World.frozen?_setCell]; exact (h.res j hj).2
theorem InvS.congr {w wr : World} {g0 g2 : Nat} {l : List Nat} {f f' : Nat → Nat} (h : InvS w wr g0 g2 l f) (e : ∀ j, j < 64 → f j = f' j) : InvS w wr g0 g2 l f' :=
  ⟨h.from_, fun j hj => by rw [← e j hj]; exact h.to j hj, h.fz, h.fr, h.res⟩
theorem word_eq (x0 x1 x2 x3 : Nat) (h0 : x0 < 256) (h1 : x1 < 256) (h2 : x2 < 256) (h3 : x3 < 256) :
    bits .or .u32 (bits .or .u32 (bits .or .u32 (IntKind.u32.wrap (IntKind.u32.wrap (x0 : Int) * 16777216)) (IntKind.u32.wrap (IntKind.u32.wrap (x1 : Int) * 65536))) (IntKind.u32.wrap (IntKind.u32.wrap (x2 : Int) * 256))) (IntKind.u32.wrap (x3 : Int)) = ((x0 * 16777216 ||| x1 * 65536 ||| x2 * 256 ||| x3 : Nat) : Int) := by
  have e0 : IntKind.u32.wrap (IntKind.u32.wrap (x0 : Int) * 16777216) = ((x0 * 16777216 : Nat) : Int) := by rw [IntKind.wrap_u32, IntKind.wrap_u32]; omega
  have e1 : IntKind.u32.wrap (IntKind.u32.wrap (x1 : Int) * 65536) = ((x1 * 65536 : Nat) : Int) := by rw [IntKind.wrap_u32, IntKind.wrap_u32]; omega
  have e2 : IntKind.u32.wrap (IntKind.u32.wrap (x2 : Int) * 256) = ((x2 * 256 : Nat) : Int) := by rw [IntKind.wrap_u32, IntKind.wrap_u32]; omega
  have e3 : IntKind.u32.wrap (x3 : Int) = ((x3 : Nat) : Int) := by rw [IntKind.wrap_u32]; omega
  have a0 : x0 * 16777216 < 2 ^ 32 := Nat.lt_of_lt_of_le (Nat.mul_lt_mul_of_pos_right h0 (by decide)) (by decide)
  have a1 : x1 * 65536 < 2 ^ 32 := Nat.lt_of_lt_of_le (Nat.mul_lt_mul_of_pos_right h1 (by decide)) (by decide)
  have a2 : x2 * 256 < 2 ^ 32 := Nat.lt_of_lt_of_le (Nat.mul_lt_mul_of_pos_right h2 (by decide)) (by decide)
  have o1 := Nat.or_lt_two_pow a0 a1
  have o2 := Nat.or_lt_two_pow o1 a2
  rw [e0, e1, e2, e3, u32_or_nat _ _ a0 a1, u32_or_nat _ _ o1 a2, u32_or_nat _ _ o2 (by omega)]

theorem next_eq (y2 y7 y15 y16 : Nat) (h2 : y2 < 4294967296) (h15 : y15 < 4294967296) :
    IntKind.u32.wrap (IntKind.u32.wrap (IntKind.u32.wrap (bits .xor .u32 (bits .xor .u32 (rr y2 17 : Nat) (rr y2 19 : Nat)) ((y2 : Int) / 1024) + (y7 : Int)) + bits .xor .u32 (bits .xor .u32 (rr y15 7 : Nat) (rr y15 18 : Nat)) ((y15 : Int) / 8)) + (y16 : Int)) = (((s1 y2 + y7 + s0 y15 + y16) % 4294967296 : Nat) : Int) := by
  have e1 : (y2 : Int) / 1024 = ((y2 / 1024 : Nat) : Int) := by omega
  have e2 : (y15 : Int) / 8 = ((y15 / 8 : Nat) : Int) := by omega
  have x1 : rr y2 17 ^^^ rr y2 19 < 4294967296 := Nat.xor_lt_two_pow (n := 32) (rr_lt y2 17 h2) (rr_lt y2 19 h2)
  have x2 : rr y15 7 ^^^ rr y15 18 < 4294967296 := Nat.xor_lt_two_pow (n := 32) (rr_lt y15 7 h15) (rr_lt y15 18 h15)
  rw [e1, e2, u32_xor_nat _ _ (rr_lt y2 17 h2) (rr_lt y2 19 h2), u32_xor_nat _ _ (rr_lt y15 7 h15) (rr_lt y15 18 h15), u32_xor_nat _ _ x1 (by omega), u32_xor_nat _ _ x2 (by omega)]
  rw [s0, s1]
  generalize rr y2 17 ^^^ rr y2 19 ^^^ y2 / 1024 = p
  generalize rr y15 7 ^^^ rr y15 18 ^^^ y15 / 8 = q
  rw [IntKind.wrap_u32, IntKind.wrap_u32, IntKind.wrap_u32]
  omega
theorem keep_far {w : World} {g i j : Nat} {v u : Value} (h : i ≠ j) (hc : w.cell? ⟨g, j, none⟩ = some u) : (w.setCell ⟨g, i, none⟩ v).cell? ⟨g, j, none⟩ = some u := by
  rw [World.cell?_setCell_other _ _ _ _ (by intro e; injection e with _ h2 _; exact h h2)]; exact hc
end Go.Proofs.YthccbfgjekdiiaaDoor
