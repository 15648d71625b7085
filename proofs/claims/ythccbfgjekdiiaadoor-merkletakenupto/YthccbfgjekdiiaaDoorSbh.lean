import Derived.Test.YthccbfgjekdiiaaDoorSbc
namespace Go.Proofs.YthccbfgjekdiiaaDoor
open Go.RowKit

/-- The eight words. -/
structure S8 where
  (a b c d e f g h : Nat)
def S8.ok (s : S8) : Prop := s.a < 4294967296 ∧ s.b < 4294967296 ∧ s.c < 4294967296 ∧ s.d < 4294967296 ∧ s.e < 4294967296 ∧ s.f < 4294967296 ∧ s.g < 4294967296 ∧ s.h < 4294967296
def S8.vals (s : S8) : List Nat := [s.a, s.b, s.c, s.d, s.e, s.f, s.g, s.h]
def rx (e f g h k w : Nat) : Nat := (h + (rr e 6 ^^^ rr e 11 ^^^ rr e 25) + ((e &&& f) ^^^ ((e ^^^ 4294967295) &&& g)) + k + w) % 4294967296
def ry (a b c : Nat) : Nat := ((rr a 2 ^^^ rr a 13 ^^^ rr a 22) + ((a &&& b) ^^^ (a &&& c) ^^^ (b &&& c))) % 4294967296
/-- A round. -/
def rnd (s : S8) (k w : Nat) : S8 := ⟨(rx s.e s.f s.g s.h k w + ry s.a s.b s.c) % 4294967296, s.a, s.b, s.c, (s.d + rx s.e s.f s.g s.h k w) % 4294967296, s.e, s.f, s.g⟩
def rnds (ks ws : Nat → Nat) (s : S8) : Nat → S8
  | 0 => s
  | n + 1 => rnd (rnds ks ws s n) (ks n) (ws n)
theorem rnd_ok (s : S8) (k w : Nat) (h : s.ok) : (rnd s k w).ok := by
  obtain ⟨h1, h2, h3, h4, h5, h6, h7, h8⟩ := h
  exact ⟨Nat.mod_lt _ (by decide), h1, h2, h3, Nat.mod_lt _ (by decide), h5, h6, h7⟩
theorem rnds_ok (ks ws : Nat → Nat) (s : S8) (h : s.ok) (n : Nat) : (rnds ks ws s n).ok := by
  induction n with
  | zero => exact h
  | succ n ih => exact rnd_ok _ _ _ ih
def S8.add (s t : S8) : S8 := ⟨(s.a + t.a) % 4294967296, (s.b + t.b) % 4294967296, (s.c + t.c) % 4294967296, (s.d + t.d) % 4294967296, (s.e + t.e) % 4294967296, (s.f + t.f) % 4294967296, (s.g + t.g) % 4294967296, (s.h + t.h) % 4294967296⟩
theorem add_ok (s t : S8) : (s.add t).ok := ⟨Nat.mod_lt _ (by decide), Nat.mod_lt _ (by decide), Nat.mod_lt _ (by decide), Nat.mod_lt _ (by decide), Nat.mod_lt _ (by decide), Nat.mod_lt _ (by decide), Nat.mod_lt _ (by decide), Nat.mod_lt _ (by decide)⟩
/-- The words of the rounds. -/
def kt : List Nat := [
  0x428a2f98, 0x71374491, 0xb5c0fbcf, 0xe9b5dba5, 0x3956c25b, 0x59f111f1, 0x923f82a4, 0xab1c5ed5,
  0xd807aa98, 0x12835b01, 0x243185be, 0x550c7dc3, 0x72be5d74, 0x80deb1fe, 0x9bdc06a7, 0xc19bf174,
  0xe49b69c1, 0xefbe4786, 0x0fc19dc6, 0x240ca1cc, 0x2de92c6f, 0x4a7484aa, 0x5cb0a9dc, 0x76f988da,
  0x983e5152, 0xa831c66d, 0xb00327c8, 0xbf597fc7, 0xc6e00bf3, 0xd5a79147, 0x06ca6351, 0x14292967,
  0x27b70a85, 0x2e1b2138, 0x4d2c6dfc, 0x53380d13, 0x650a7354, 0x766a0abb, 0x81c2c92e, 0x92722c85,
  0xa2bfe8a1, 0xa81a664b, 0xc24b8b70, 0xc76c51a3, 0xd192e819, 0xd6990624, 0xf40e3585, 0x106aa070,
  0x19a4c116, 0x1e376c08, 0x2748774c, 0x34b0bcb5, 0x391c0cb3, 0x4ed8aa4a, 0x5b9cca4f, 0x682e6ff3,
  0x748f82ee, 0x78a5636f, 0x84c87814, 0x8cc70208, 0x90befffa, 0xa4506ceb, 0xbef9a3f7, 0xc67178f2]
def kf (j : Nat) : Nat := kt.getD j 0
theorem kf_lt : ∀ j, j < 64 → kf j < 4294967296 := by decide +kernel
/-- A block is folded in. -/
def fo (s : S8) (l : List Nat) : S8 := s.add (rnds kf (fun j => (wl l 48).getD j 0) s 64)
theorem fo_ok (s : S8) (l : List Nat) : (fo s l).ok := add_ok _ _
/-- The package's variable k. -/
def GK (w : World) : Prop := NumsAt w 1 .u32 64 kf ∧ 6 ≤ w.heap.size
theorem GK.fr {w w' : World} {S : Nat → Prop} (h : GK w) (hf : Fr S w w') (hS : ∀ k, k < 6 → ¬ S k) : GK w' :=
  ⟨fun j hj => (hf.cell (p := ⟨1, j, none⟩) (Nat.lt_of_lt_of_le (show 1 < 6 by decide) h.2) (hS _ (show 1 < 6 by decide))).trans (h.1 j hj), Nat.le_trans h.2 hf.size⟩
theorem GK.fr0 {w w' : World} (h : GK w) (hf : Fr (fun _ => False) w w') : GK w' := h.fr hf (fun _ _ h => h)
theorem and_lt32 (a b : Nat) (h : a < 4294967296) : a &&& b < 4294967296 := Nat.lt_of_le_of_lt Nat.and_le_left h
theorem xor_lt32 (a b : Nat) (ha : a < 4294967296) (hb : b < 4294967296) : a ^^^ b < 4294967296 := Nat.xor_lt_two_pow (n := 32) ha hb
theorem not_u32 (s : Nat) (h : s < 4294967296) : bits .xor .u32 IntKind.u32.max (s : Int) = ((s ^^^ 4294967295 : Nat) : Int) := by
  have e : bits .xor .u32 IntKind.u32.max (s : Int) = bits .xor .u32 ((4294967295 : Nat) : Int) (s : Int) := rfl
  rw [e, u32_xor_nat 4294967295 s (by decide) h, Nat.xor_comm]
theorem sum5 (a b c d e : Nat) : IntKind.u32.wrap (IntKind.u32.wrap (IntKind.u32.wrap (IntKind.u32.wrap ((a : Int) + (b : Int)) + (c : Int)) + (d : Int)) + (e : Int)) = (((a + b + c + d + e) % 4294967296 : Nat) : Int) := by
  rw [IntKind.wrap_u32, IntKind.wrap_u32, IntKind.wrap_u32, IntKind.wrap_u32]; omega
theorem sum2 (a b : Nat) : IntKind.u32.wrap ((a : Int) + (b : Int)) = (((a + b) % 4294967296 : Nat) : Int) := by
  rw [IntKind.wrap_u32]; omega
end Go.Proofs.YthccbfgjekdiiaaDoor
