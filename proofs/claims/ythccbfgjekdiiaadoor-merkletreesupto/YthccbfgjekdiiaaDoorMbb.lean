import Derived.Test.YthccbfgjekdiiaaDoorMba
import Derived.Lib.ItoaNum
import Derived.Handy
namespace Go.Proofs.YthccbfgjekdiiaaDoor
open Go.RowKit

/-- k(n) by the length of n - 1 in bits. -/
theorem hf_bits (n : Nat) (h2 : 2 ≤ n) (hn : n < 9223372036854775808) : 1 ≤ Lib.bitLen (n - 1) ∧ Lib.bitLen (n - 1) ≤ 63 ∧ 2 ^ (Lib.bitLen (n - 1) - 1) = hf n := by
  obtain ⟨h1, ha, hb⟩ := Lib.bitLenAux_bounds 64 (n - 1) (by omega) (by omega)
  have e : Lib.bitLenAux 64 (n - 1) = Lib.bitLen (n - 1) := rfl
  rw [e] at h1 ha hb
  have h63 : Lib.bitLen (n - 1) ≤ 63 := by
    apply Classical.byContradiction
    intro hc
    have : 2 ^ 63 ≤ 2 ^ (Lib.bitLen (n - 1) - 1) := Nat.pow_le_pow_right (by decide) (by omega)
    omega
  refine ⟨h1, h63, ?_⟩
  have hs : 2 ^ Lib.bitLen (n - 1) = 2 * 2 ^ (Lib.bitLen (n - 1) - 1) := by
    have : Lib.bitLen (n - 1) = (Lib.bitLen (n - 1) - 1) + 1 := by omega
    rw [this, Nat.pow_succ, Nat.mul_comm, Nat.add_sub_cancel]
  exact (hf_uniq n _ (by omega) (by omega)).symm

def sv (f n : Nat) : Value := .agg #[.int .i64 f, .int .i64 n]
set_option maxRecDepth 100000 in
set_option maxHeartbeats 1000000 in
theorem halves_any (f n : Nat) (w : World) (hn : f + n < 9223372036854775808) (h2 : 2 ≤ n) :
    Calls Tryd.prog 59 #[sv f n] w fun e w' => e = .returned (.tuple #[sv f (hf n), sv (f + hf n) (n - hf n)]) ∧ Fr (fun _ => False) w w' := by
  obtain ⟨hb1, hb2, hb3⟩ := hf_bits n h2 (by omega)
  have hlt := hf_lt n h2
  have hpos := hf_pos n
  generalize hK : hf n = K at *
  generalize hL : Lib.bitLen (n - 1) = L at *
  have w1 : IntKind.i64.wrap ((n : Int) - 1) = (n : Int) - 1 := by rw [IntKind.wrap_i64]; omega
  have w2 : IntKind.u64.wrap ((n : Int) - 1) = (n : Int) - 1 := by rw [IntKind.wrap_u64]; omega
  have w3 : IntKind.i64.wrap ((L : Int) - 1) = (L : Int) - 1 := by rw [IntKind.wrap_i64]; omega
  have w4 : IntKind.i64.wrap ((f : Int) + (K : Int)) = (f : Int) + (K : Int) := by rw [IntKind.wrap_i64]; omega
  have w5 : IntKind.i64.wrap ((n : Int) - (K : Int)) = (n : Int) - (K : Int) := by rw [IntKind.wrap_i64]; omega
  have HB := hide (And.intro hb1 (And.intro hb2 hb3))
  unfold sv
  go_enter Tryd.func59, Tryd.ntmps59
  go_wp2_with (go_at_call 86; refine (len_any ((n : Int) - 1) _ (by omega) (by omega)).mono ?_; rintro e w' ⟨rfl, hw'⟩; rw [hw', show ((n : Int) - 1).toNat = n - 1 by omega, hL])
  have hsh : wrap64 ((2 : Int) ^ (L - 1)) = (K : Int) := by
    have e : (2 : Int) ^ (L - 1) = (K : Int) := by rw [← (unhide HB).2.2]; simp
    rw [e, wrap64]; omega
  simp only [hsh]
  go_region
  go_wp2_with fail
  go_returns
  refine ⟨?_, ((((Fr.refl _ _).alloc _).alloc _).alloc _).drew⟩
  have e1 : ((f + K : Nat) : Int) = (f : Int) + (K : Int) := by omega
  have e2 : ((n - K : Nat) : Int) = (n : Int) - (K : Int) := by omega
  rw [e1, e2]
set_option maxRecDepth 100000 in
theorem before_any (f n g m : Nat) (w : World) :
    Calls Tryd.prog 61 #[sv f n, sv g m] w fun e w' => e = .returned (.bool (decide (f < g))) ∧ Fr (fun _ => False) w w' := by
  unfold sv
  go_enter Tryd.func61, Tryd.ntmps61
  go_wp2_with fail
  go_ret
  refine ⟨?_, ((Fr.refl _ _).alloc _).alloc _⟩
  rfl

/-- Two structs of two numbers laid behind: what was there stays. -/
theorem two_past (w1 : World) (a b c d : Int) (ty : Nat) :
    (∀ p : Addr, p.block < w1.heap.size → ((w1.alloc (.cells #[.int .i64 a, .int .i64 b] ty)).alloc (.cells #[.int .i64 c, .int .i64 d] ty)).cell? p = w1.cell? p ∧ ((w1.alloc (.cells #[.int .i64 a, .int .i64 b] ty)).alloc (.cells #[.int .i64 c, .int .i64 d] ty)).frozen? p = w1.frozen? p) ∧
    ((w1.alloc (.cells #[.int .i64 a, .int .i64 b] ty)).alloc (.cells #[.int .i64 c, .int .i64 d] ty)).cell? ⟨w1.heap.size, 0, none⟩ = some (.int .i64 a) ∧
    ((w1.alloc (.cells #[.int .i64 a, .int .i64 b] ty)).alloc (.cells #[.int .i64 c, .int .i64 d] ty)).cell? ⟨w1.heap.size, 1, none⟩ = some (.int .i64 b) ∧
    ((w1.alloc (.cells #[.int .i64 a, .int .i64 b] ty)).alloc (.cells #[.int .i64 c, .int .i64 d] ty)).cell? ⟨w1.heap.size + 1, 0, none⟩ = some (.int .i64 c) ∧
    ((w1.alloc (.cells #[.int .i64 a, .int .i64 b] ty)).alloc (.cells #[.int .i64 c, .int .i64 d] ty)).cell? ⟨w1.heap.size + 1, 1, none⟩ = some (.int .i64 d) ∧
    Fr (fun _ => False) w1 ((w1.alloc (.cells #[.int .i64 a, .int .i64 b] ty)).alloc (.cells #[.int .i64 c, .int .i64 d] ty)) := by
  have hF : Fr (fun _ => False) w1 ((w1.alloc (.cells #[.int .i64 a, .int .i64 b] ty)).alloc (.cells #[.int .i64 c, .int .i64 d] ty)) := ((Fr.refl _ _).alloc _).alloc _
  have a2 : w1.heap.size + 1 = (w1.alloc (.cells #[.int .i64 a, .int .i64 b] ty)).heap.size := by simp
  refine ⟨fun p hp => ⟨hF.cell hp (fun h => h), hF.frozen hp (fun h => h)⟩, ?_, ?_, ?_, ?_, hF⟩
  iterate 2 (rw [World.cell?_alloc_past _ _ _ (by simp), World.cell?_alloc_at _ _ _ _ rfl]; rfl)
  iterate 2 (rw [a2, World.cell?_alloc_at _ _ _ _ rfl]; rfl)
/-- What three structs laid one behind the other hold behind a call that changes none. -/
theorem parts_cells (t : Option Addr) (f n ty : Nat) (w w1 : World) (hF : Fr (fun _ => False) (((w.alloc (.cells #[.pointer t, .int .i64 f, .int .i64 n] ty)).alloc (.cells #[.pointer none, .int .i64 0, .int .i64 0] ty)).alloc (.cells #[.pointer none, .int .i64 0, .int .i64 0] ty)) w1) :
    w1.cell? ⟨w.heap.size, 0, none⟩ = some (.pointer t) ∧
    w1.cell? ⟨w.heap.size + 1, 0, none⟩ = some (.pointer none) ∧ w1.cell? ⟨w.heap.size + 1, 1, none⟩ = some (.int .i64 0) ∧ w1.cell? ⟨w.heap.size + 1, 2, none⟩ = some (.int .i64 0) ∧
    w1.frozen? ⟨w.heap.size + 1, 0, none⟩ = false ∧ w1.frozen? ⟨w.heap.size + 1, 1, none⟩ = false ∧ w1.frozen? ⟨w.heap.size + 1, 2, none⟩ = false ∧
    w1.cell? ⟨w.heap.size + 1 + 1, 0, none⟩ = some (.pointer none) ∧ w1.cell? ⟨w.heap.size + 1 + 1, 1, none⟩ = some (.int .i64 0) ∧ w1.cell? ⟨w.heap.size + 1 + 1, 2, none⟩ = some (.int .i64 0) ∧
    w1.frozen? ⟨w.heap.size + 1 + 1, 0, none⟩ = false ∧ w1.frozen? ⟨w.heap.size + 1 + 1, 1, none⟩ = false ∧ w1.frozen? ⟨w.heap.size + 1 + 1, 2, none⟩ = false ∧
    w.heap.size + 1 + 1 + 1 ≤ w1.heap.size ∧ Fr (fun _ => False) w w1 := by
  have hsz : w.heap.size + 1 + 1 + 1 ≤ w1.heap.size := by have := hF.size; simpa using this
  have hc : ∀ (b o : Nat), b < w.heap.size + 1 + 1 + 1 → w1.cell? ⟨b, o, none⟩ = (((w.alloc (.cells #[.pointer t, .int .i64 f, .int .i64 n] ty)).alloc (.cells #[.pointer none, .int .i64 0, .int .i64 0] ty)).alloc (.cells #[.pointer none, .int .i64 0, .int .i64 0] ty)).cell? ⟨b, o, none⟩ := fun b o hb => hF.cell (p := ⟨b, o, none⟩) (by simpa using hb) (fun h => h)
  have hz : ∀ (b o : Nat), b < w.heap.size + 1 + 1 + 1 → w1.frozen? ⟨b, o, none⟩ = (((w.alloc (.cells #[.pointer t, .int .i64 f, .int .i64 n] ty)).alloc (.cells #[.pointer none, .int .i64 0, .int .i64 0] ty)).alloc (.cells #[.pointer none, .int .i64 0, .int .i64 0] ty)).frozen? ⟨b, o, none⟩ := fun b o hb => hF.frozen (p := ⟨b, o, none⟩) (by simpa using hb) (fun h => h)
  have a2 : w.heap.size + 1 = (w.alloc (.cells #[.pointer t, .int .i64 f, .int .i64 n] ty)).heap.size := by simp
  have a3 : w.heap.size + 1 + 1 = ((w.alloc (.cells #[.pointer t, .int .i64 f, .int .i64 n] ty)).alloc (.cells #[.pointer none, .int .i64 0, .int .i64 0] ty)).heap.size := by simp
  refine ⟨?_, ?_, ?_, ?_, ?_, ?_, ?_, ?_, ?_, ?_, ?_, ?_, ?_, hsz, ((((Fr.refl _ _).alloc _).alloc _).alloc _).trans hF (fun _ _ h => h)⟩
  · rw [hc _ _ (by omega), World.cell?_alloc_past _ _ _ (by simp; omega), World.cell?_alloc_past _ _ _ (by simp), World.cell?_alloc_at _ _ _ _ rfl]; rfl
  iterate 3 (rw [hc _ _ (by omega), World.cell?_alloc_past _ _ _ (by simp), a2, World.cell?_alloc_at _ _ _ _ rfl]; rfl)
  iterate 3 (rw [hz _ _ (by omega), World.frozen?_alloc_past _ _ _ (by simp), a2, World.frozen?_alloc_at _ _ _ _ rfl] <;> rfl)
  iterate 3 (rw [hc _ _ (by omega), a3, World.cell?_alloc_at _ _ _ _ rfl]; rfl)
  iterate 3 (rw [hz _ _ (by omega), a3, World.frozen?_alloc_at _ _ _ _ rfl] <;> rfl)

/-- Six cells of two structs written. -/
theorem six_set (w : World) (a b : Nat) (hab : a ≠ b) (x0 x1 x2 y0 y1 y2 : Value)
    (a0 : (w.cell? ⟨a, 0, none⟩).isSome = true) (a1 : (w.cell? ⟨a, 1, none⟩).isSome = true) (a2 : (w.cell? ⟨a, 2, none⟩).isSome = true)
    (b0 : (w.cell? ⟨b, 0, none⟩).isSome = true) (b1 : (w.cell? ⟨b, 1, none⟩).isSome = true) (b2 : (w.cell? ⟨b, 2, none⟩).isSome = true) (W : World)
    (hW : (((((w.setCell ⟨a, 0, none⟩ x0).setCell ⟨a, 1, none⟩ x1).setCell ⟨a, 2, none⟩ x2).setCell ⟨b, 0, none⟩ y0).setCell ⟨b, 1, none⟩ y1).setCell ⟨b, 2, none⟩ y2 = W) :
    W.cell? ⟨a, 0, none⟩ = some x0 ∧ W.cell? ⟨a, 1, none⟩ = some x1 ∧ W.cell? ⟨a, 2, none⟩ = some x2 ∧ W.cell? ⟨b, 0, none⟩ = some y0 ∧ W.cell? ⟨b, 1, none⟩ = some y1 ∧ W.cell? ⟨b, 2, none⟩ = some y2 := by
  subst hW
  have o : ∀ (v : World) (c d i j : Nat) (u : Value), c ≠ d ∨ i ≠ j → (v.setCell ⟨c, i, none⟩ u).cell? ⟨d, j, none⟩ = v.cell? ⟨d, j, none⟩ := fun v c d i j u h => World.cell?_setCell_other _ _ _ _ (by intro e; injection e with e1 e2; omega)
  have hba : b ≠ a := fun h => hab h.symm
  refine ⟨?_, ?_, ?_, ?_, ?_, ?_⟩
  · rw [o _ _ _ _ _ _ (.inl hba), o _ _ _ _ _ _ (.inl hba), o _ _ _ _ _ _ (.inl hba), o _ _ _ _ _ _ (.inr (by decide)), o _ _ _ _ _ _ (.inr (by decide)), World.cell?_setCell_same' _ _ _ a0]
  · rw [o _ _ _ _ _ _ (.inl hba), o _ _ _ _ _ _ (.inl hba), o _ _ _ _ _ _ (.inl hba), o _ _ _ _ _ _ (.inr (by decide)), World.cell?_setCell_same' _ _ _ (by rw [o _ _ _ _ _ _ (.inr (by decide))]; exact a1)]
  · rw [o _ _ _ _ _ _ (.inl hba), o _ _ _ _ _ _ (.inl hba), o _ _ _ _ _ _ (.inl hba), World.cell?_setCell_same' _ _ _ (by rw [o _ _ _ _ _ _ (.inr (by decide)), o _ _ _ _ _ _ (.inr (by decide))]; exact a2)]
  · rw [o _ _ _ _ _ _ (.inr (by decide)), o _ _ _ _ _ _ (.inr (by decide)), World.cell?_setCell_same' _ _ _ (by rw [o _ _ _ _ _ _ (.inl hab), o _ _ _ _ _ _ (.inl hab), o _ _ _ _ _ _ (.inl hab)]; exact b0)]
  · rw [o _ _ _ _ _ _ (.inr (by decide)), World.cell?_setCell_same' _ _ _ (by rw [o _ _ _ _ _ _ (.inr (by decide)), o _ _ _ _ _ _ (.inl hab), o _ _ _ _ _ _ (.inl hab), o _ _ _ _ _ _ (.inl hab)]; exact b1)]
  · rw [World.cell?_setCell_same' _ _ _ (by rw [o _ _ _ _ _ _ (.inr (by decide)), o _ _ _ _ _ _ (.inr (by decide)), o _ _ _ _ _ _ (.inl hab), o _ _ _ _ _ _ (.inl hab), o _ _ _ _ _ _ (.inl hab)]; exact b2)]

/-- A part of a tree. -/
def pv (t : Value) (f n : Nat) : Value := .agg #[t, .int .i64 f, .int .i64 n]
set_option maxRecDepth 100000 in
set_option maxHeartbeats 1000000 in
theorem parts_any (t : Option Addr) (f n : Nat) (w : World) (hn : f + n < 9223372036854775808) (h2 : 2 ≤ n) :
    Calls Tryd.prog 82 #[pv (.pointer t) f n] w fun e w' => e = .returned (.tuple #[pv (.pointer t) f (hf n), pv (.pointer t) (f + hf n) (n - hf n)]) ∧ Fr (fun _ => False) w w' := by
  unfold pv
  go_enter Tryd.func82, Tryd.ntmps82
  go_wp2_with (go_at_call 59; refine (halves_any f n _ hn h2).mono ?_)
  rintro e w1 ⟨rfl, hF⟩
  obtain ⟨c0, z0, z1, z2, y0, y1, y2, x0, x1, x2, v0, v1, v2, hsz, hFw⟩ := parts_cells t f n 79 w w1 hF
  clear hF
  generalize hK : hf n = K at *
  unfold sv
  go_wp2_with fail
  obtain ⟨hp, u0, u1, u2, u3, hF2⟩ := two_past w1 (f : Int) (K : Int) ((f + K : Nat) : Int) ((n - K : Nat) : Int) 57
  have hFw2 := hFw.trans hF2 (fun _ _ h => h)
  have C0 := (hp ⟨w.heap.size, 0, none⟩ (by simp only; omega)).1.trans c0
  have Z0 := (hp ⟨w.heap.size + 1, 0, none⟩ (by simp only; omega)).1.trans z0
  have Z1 := (hp ⟨w.heap.size + 1, 1, none⟩ (by simp only; omega)).1.trans z1
  have Z2 := (hp ⟨w.heap.size + 1, 2, none⟩ (by simp only; omega)).1.trans z2
  have Y0 := (hp ⟨w.heap.size + 1, 0, none⟩ (by simp only; omega)).2.trans y0
  have Y1 := (hp ⟨w.heap.size + 1, 1, none⟩ (by simp only; omega)).2.trans y1
  have Y2 := (hp ⟨w.heap.size + 1, 2, none⟩ (by simp only; omega)).2.trans y2
  have X0 := (hp ⟨w.heap.size + 1 + 1, 0, none⟩ (by simp only; omega)).1.trans x0
  have X1 := (hp ⟨w.heap.size + 1 + 1, 1, none⟩ (by simp only; omega)).1.trans x1
  have X2 := (hp ⟨w.heap.size + 1 + 1, 2, none⟩ (by simp only; omega)).1.trans x2
  have V0 := (hp ⟨w.heap.size + 1 + 1, 0, none⟩ (by simp only; omega)).2.trans v0
  have V1 := (hp ⟨w.heap.size + 1 + 1, 1, none⟩ (by simp only; omega)).2.trans v1
  have V2 := (hp ⟨w.heap.size + 1 + 1, 2, none⟩ (by simp only; omega)).2.trans v2
  clear hp hF2 c0 z0 z1 z2 y0 y1 y2 x0 x1 x2 v0 v1 v2 hFw
  simp only [Int.natCast_add] at u0 u1 u2 u3 C0 Z0 Z1 Z2 Y0 Y1 Y2 X0 X1 X2 V0 V1 V2 hFw2 ⊢
  generalize ((w1.alloc (.cells #[.int .i64 (f : Int), .int .i64 (K : Int)] 57)).alloc (.cells #[.int .i64 ((f : Int) + (K : Int)), .int .i64 ((n - K : Nat) : Int)] 57)) = w2 at *
  have HF := hide hFw2
  clear hFw2
  go_region
  have hFz := (unhide HF).setCell (p := ⟨w.heap.size + 1, 0, none⟩) (Or.inr (Nat.le_add_right _ _)) (.pointer t) |>.setCell (p := ⟨w.heap.size + 1, 1, none⟩) (Or.inr (Nat.le_add_right _ _)) (.int .i64 f) |>.setCell (p := ⟨w.heap.size + 1, 2, none⟩) (Or.inr (Nat.le_add_right _ _)) (.int .i64 K) |>.setCell (p := ⟨w.heap.size + 1 + 1, 0, none⟩) (Or.inr (by simp only; omega)) (.pointer t) |>.setCell (p := ⟨w.heap.size + 1 + 1, 1, none⟩) (Or.inr (by simp only; omega)) (.int .i64 ((f : Int) + (K : Int))) |>.setCell (p := ⟨w.heap.size + 1 + 1, 2, none⟩) (Or.inr (by simp only; omega)) (.int .i64 ((n - K : Nat) : Int))
  clear HF
  obtain ⟨W, hW⟩ : ∃ W, (((((w2.setCell ⟨w.heap.size + 1, 0, none⟩ (.pointer t)).setCell ⟨w.heap.size + 1, 1, none⟩ (.int .i64 f)).setCell ⟨w.heap.size + 1, 2, none⟩ (.int .i64 K)).setCell ⟨w.heap.size + 1 + 1, 0, none⟩ (.pointer t)).setCell ⟨w.heap.size + 1 + 1, 1, none⟩ (.int .i64 ((f : Int) + (K : Int)))).setCell ⟨w.heap.size + 1 + 1, 2, none⟩ (.int .i64 ((n - K : Nat) : Int)) = W := ⟨_, rfl⟩
  obtain ⟨k0, k1, k2, k3, k4, k5⟩ := six_set w2 (w.heap.size + 1) (w.heap.size + 1 + 1) (by omega) _ _ _ _ _ _ (by rw [Z0]; rfl) (by rw [Z1]; rfl) (by rw [Z2]; rfl) (by rw [X0]; rfl) (by rw [X1]; rfl) (by rw [X2]; rfl) W hW
  rw [hW] at hFz
  rw [hW]
  have HZ := hide hFz.drew
  clear hFz hW
  go_wp2_with fail
  refine bodyPost_ret (by simp [results, Tryd.results82, go_sem, k0, k1, k2, k3, k4, k5]; try rfl) rfl ?_
  exact ⟨by rw [hK]; simp only [Int.natCast_add], unhide HZ⟩
end Go.Proofs.YthccbfgjekdiiaaDoor
