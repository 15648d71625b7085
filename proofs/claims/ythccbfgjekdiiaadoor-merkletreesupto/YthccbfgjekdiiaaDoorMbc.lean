import Derived.Test.YthccbfgjekdiiaaDoorMbb
import Derived.Laws.Bits64b
import Derived.Laws.Bits128
namespace Go.Proofs.YthccbfgjekdiiaaDoor
open Go.RowKit

/-- bits.OnesCount64, byte by byte. -/
def rp (m : Nat) : Nat → Nat
  | 0 => 0
  | k + 1 => 256 * rp m k + m
def nb : List Nat → Nat
  | [] => 0
  | b :: bs => 256 * nb bs + b
def o1 (k x : Nat) : Nat := ((x / 2) &&& rp 85 k) + (x &&& rp 85 k)
def o2 (k x : Nat) : Nat := ((x / 4) &&& rp 51 k) + (x &&& rp 51 k)
def o3 (k x : Nat) : Nat := (x / 16 + x) &&& rp 15 k
def c1 (l : Nat) : Nat := ((l / 2) &&& 85) + (l &&& 85)
def c2 (l : Nat) : Nat := ((l / 4) &&& 51) + (l &&& 51)
def c3 (l : Nat) : Nat := (l / 16 + l) &&& 15
theorem and_split (h l h' l' : Nat) (hl : l < 256) (hl' : l' < 256) : (256 * h + l) &&& (256 * h' + l') = 256 * (h &&& h') + (l &&& l') := by
  have hb : l &&& l' < 2 ^ 8 := Nat.and_lt_two_pow l hl'
  apply Nat.eq_of_testBit_eq
  intro i
  have e : (256 : Nat) = 2 ^ 8 := rfl
  rw [Nat.testBit_and, e, Nat.testBit_two_pow_mul_add _ hl, Nat.testBit_two_pow_mul_add _ hl', Nat.testBit_two_pow_mul_add _ hb]
  split <;> simp [Nat.testBit_and]
theorem o1_nb (bs : List Nat) (hb : ∀ b ∈ bs, b < 256) : o1 bs.length (nb bs) = nb (bs.map c1) := by
  induction bs with
  | nil => simp [o1, nb, rp]
  | cons l bs ih =>
    have hl := hb l (List.mem_cons_self)
    have h := ih (fun b h => hb b (List.mem_cons_of_mem _ h))
    have k1 : ∀ r : Fin 2, ∀ l : Fin 256, (128 * r.val + l.val / 2) &&& 85 = (l.val / 2) &&& 85 := by decide +kernel
    have e1 : (256 * nb bs + l) / 2 = 256 * (nb bs / 2) + (128 * (nb bs % 2) + l / 2) := by omega
    have e2 := k1 ⟨nb bs % 2, Nat.mod_lt _ (by decide)⟩ ⟨l, hl⟩
    simp only at e2
    simp only [o1, List.length_cons, nb, rp, List.map_cons] at h ⊢
    rw [e1, and_split _ _ _ _ (by omega) (by decide), and_split _ _ _ _ hl (by decide), e2, ← h, c1]
    omega
theorem o2_nb (bs : List Nat) (hb : ∀ b ∈ bs, b < 256) : o2 bs.length (nb bs) = nb (bs.map c2) := by
  induction bs with
  | nil => simp [o2, nb, rp]
  | cons l bs ih =>
    have hl := hb l (List.mem_cons_self)
    have h := ih (fun b h => hb b (List.mem_cons_of_mem _ h))
    have k1 : ∀ r : Fin 4, ∀ l : Fin 256, (64 * r.val + l.val / 4) &&& 51 = (l.val / 4) &&& 51 := by decide +kernel
    have e1 : (256 * nb bs + l) / 4 = 256 * (nb bs / 4) + (64 * (nb bs % 4) + l / 4) := by omega
    have e2 := k1 ⟨nb bs % 4, Nat.mod_lt _ (by decide)⟩ ⟨l, hl⟩
    simp only at e2
    simp only [o2, List.length_cons, nb, rp, List.map_cons] at h ⊢
    rw [e1, and_split _ _ _ _ (by omega) (by decide), and_split _ _ _ _ hl (by decide), e2, ← h, c2]
    omega
theorem o3_nb (bs : List Nat) (hb : ∀ b ∈ bs, b / 16 ≤ 4 ∧ b % 16 ≤ 4) : o3 bs.length (nb bs) = nb (bs.map c3) := by
  induction bs with
  | nil => simp [o3, nb, rp]
  | cons l bs ih =>
    have hl := hb l (List.mem_cons_self)
    have h := ih (fun b h => hb b (List.mem_cons_of_mem _ h))
    have hr : nb bs % 16 ≤ 4 := by
      cases bs with
      | nil => simp [nb]
      | cons d ds =>
        have := (hb d (List.mem_cons_of_mem _ List.mem_cons_self)).2
        simp only [nb]
        omega
    have k1 : ∀ r : Fin 5, ∀ a : Fin 5, ∀ b : Fin 5, (16 * r.val + a.val + (16 * a.val + b.val)) &&& 15 = (a.val + (16 * a.val + b.val)) &&& 15 := by decide +kernel
    have e1 : (256 * nb bs + l) / 16 + (256 * nb bs + l) = 256 * (nb bs / 16 + nb bs) + (16 * (nb bs % 16) + l / 16 + (16 * (l / 16) + l % 16)) := by omega
    have e2 := k1 ⟨nb bs % 16, by omega⟩ ⟨l / 16, by omega⟩ ⟨l % 16, by omega⟩
    simp only at e2
    have e3 : 16 * (l / 16) + l % 16 = l := by omega
    simp only [o3, List.length_cons, nb, rp, List.map_cons] at h ⊢
    rw [e1, and_split _ _ _ _ (by omega) (by decide), e2, e3, ← h, c3]
def oc (x : Nat) : Nat :=
  let y := o3 8 (o2 8 (o1 8 x))
  let z := y + y / 256
  let u := z + z / 65536
  (u + u / 4294967296) % 128
def pc (b : Nat) : Nat := c3 (c2 (c1 b))
theorem oc_nb (a b c d e f g h : Nat) (ha : a < 256) (hb : b < 256) (hc : c < 256) (hd : d < 256) (he : e < 256) (hf : f < 256) (hg : g < 256) (hh : h < 256) :
    oc (nb [a, b, c, d, e, f, g, h]) = pc a + pc b + pc c + pc d + pc e + pc f + pc g + pc h := by
  have k1 : ∀ l : Fin 256, c1 l.val < 256 := by decide +kernel
  have k2 : ∀ l : Fin 256, c2 (c1 l.val) / 16 ≤ 4 ∧ c2 (c1 l.val) % 16 ≤ 4 := by decide +kernel
  have k3 : ∀ l : Fin 256, c3 (c2 (c1 l.val)) ≤ 8 := by decide +kernel
  have q1 : ∀ x, x < 256 → c1 x < 256 := fun x hx => k1 ⟨x, hx⟩
  have q2 : ∀ x, x < 256 → c2 (c1 x) / 16 ≤ 4 ∧ c2 (c1 x) % 16 ≤ 4 := fun x hx => k2 ⟨x, hx⟩
  have q3 : ∀ x, x < 256 → pc x ≤ 8 := fun x hx => k3 ⟨x, hx⟩
  have m1 : ∀ x ∈ [a, b, c, d, e, f, g, h], x < 256 := by simp [ha, hb, hc, hd, he, hf, hg, hh]
  have h1 := o1_nb [a, b, c, d, e, f, g, h] m1
  have h2 := o2_nb ([a, b, c, d, e, f, g, h].map c1) (fun x hx => by
    obtain ⟨y, hy, rfl⟩ := List.mem_map.1 hx
    exact q1 y (m1 y hy))
  have h3 := o3_nb (([a, b, c, d, e, f, g, h].map c1).map c2) (fun x hx => by
    obtain ⟨y, hy, rfl⟩ := List.mem_map.1 hx
    obtain ⟨v, hv, rfl⟩ := List.mem_map.1 hy
    exact q2 v (m1 v hv))
  simp only [List.length_map, List.length_cons, List.length_nil, Nat.zero_add, Nat.reduceAdd] at h1 h2 h3
  have pa := q3 a ha; have pb := q3 b hb; have pcc := q3 c hc; have pd := q3 d hd; have pe := q3 e he; have pf := q3 f hf; have pg := q3 g hg; have ph := q3 h hh
  have e3 : o3 8 (o2 8 (o1 8 (nb [a, b, c, d, e, f, g, h]))) = nb [pc a, pc b, pc c, pc d, pc e, pc f, pc g, pc h] := by
    rw [h1, h2, h3]; rfl
  simp only [oc, e3]
  generalize pc a = a' at *; generalize pc b = b' at *; generalize pc c = c' at *; generalize pc d = d' at *
  generalize pc e = e' at *; generalize pc f = f' at *; generalize pc g = g' at *; generalize pc h = h' at *
  clear e3 h1 h2 h3 m1 q1 q2 q3 k1 k2 k3
  have y1 : nb [a', b', c', d', e', f', g', h'] + nb [a', b', c', d', e', f', g', h'] / 256 = nb [a' + b', b' + c', c' + d', d' + e', e' + f', f' + g', g' + h', h'] := by
    have : nb [a', b', c', d', e', f', g', h'] / 256 = nb [b', c', d', e', f', g', h'] := by simp only [nb]; omega
    rw [this]; simp only [nb]; omega
  rw [y1]
  have y2 : nb [a' + b', b' + c', c' + d', d' + e', e' + f', f' + g', g' + h', h'] / 65536 = nb [c' + d', d' + e', e' + f', f' + g', g' + h', h'] := by
    have : nb [a' + b', b' + c', c' + d', d' + e', e' + f', f' + g', g' + h', h'] = 65536 * nb [c' + d', d' + e', e' + f', f' + g', g' + h', h'] + (256 * (b' + c') + (a' + b')) := by simp only [nb]; omega
    omega
  rw [y2]
  have y3 : nb [a' + b', b' + c', c' + d', d' + e', e' + f', f' + g', g' + h', h'] + nb [c' + d', d' + e', e' + f', f' + g', g' + h', h'] = nb [a' + b' + c' + d', b' + c' + d' + e', c' + d' + e' + f', d' + e' + f' + g', e' + f' + g' + h', f' + g' + h', g' + h', h'] := by simp only [nb]; omega
  rw [y3]
  have y4 : nb [a' + b' + c' + d', b' + c' + d' + e', c' + d' + e' + f', d' + e' + f' + g', e' + f' + g' + h', f' + g' + h', g' + h', h'] / 4294967296 = nb [e' + f' + g' + h', f' + g' + h', g' + h', h'] := by
    have : nb [a' + b' + c' + d', b' + c' + d' + e', c' + d' + e' + f', d' + e' + f' + g', e' + f' + g' + h', f' + g' + h', g' + h', h'] = 4294967296 * nb [e' + f' + g' + h', f' + g' + h', g' + h', h'] + nb [a' + b' + c' + d', b' + c' + d' + e', c' + d' + e' + f', d' + e' + f' + g'] := by simp only [nb]; omega
    have : nb [a' + b' + c' + d', b' + c' + d' + e', c' + d' + e' + f', d' + e' + f' + g'] < 4294967296 := by simp only [nb]; omega
    omega
  rw [y4]
  simp only [nb]
  omega
theorem bytes8 (x : Nat) (hx : x < 18446744073709551616) : ∃ a b c d e f g h, a < 256 ∧ b < 256 ∧ c < 256 ∧ d < 256 ∧ e < 256 ∧ f < 256 ∧ g < 256 ∧ h < 256 ∧ x = nb [a, b, c, d, e, f, g, h] := by
  refine ⟨x % 256, x / 256 % 256, x / 65536 % 256, x / 16777216 % 256, x / 4294967296 % 256, x / 1099511627776 % 256, x / 281474976710656 % 256, x / 72057594037927936, by omega, by omega, by omega, by omega, by omega, by omega, by omega, by omega, ?_⟩
  simp only [nb]
  omega
theorem nb_zero (bs : List Nat) (hb : ∀ b ∈ bs, b < 256) (h : (bs.map pc).sum = 0) : nb bs = 0 := by
  have k0 : ∀ l : Fin 256, pc l.val = 0 → l.val = 0 := by decide +kernel
  induction bs with
  | nil => rfl
  | cons l bs ih =>
    rw [List.map_cons, List.sum_cons] at h
    have h1 := k0 ⟨l, hb l List.mem_cons_self⟩ (show pc l = 0 by omega)
    have h2 := ih (fun b h => hb b (List.mem_cons_of_mem _ h)) (by omega)
    simp only at h1
    simp only [nb, h1, h2]
theorem nb_one (bs : List Nat) (hb : ∀ b ∈ bs, b < 256) (h : (bs.map pc).sum = 1) : ∃ k, nb bs = 2 ^ k := by
  have k0 : ∀ l : Fin 256, pc l.val = 0 → l.val = 0 := by decide +kernel
  have k1 : ∀ l : Fin 256, pc l.val = 1 → ∃ j : Fin 8, l.val = 2 ^ j.val := by decide +kernel
  induction bs with
  | nil => simp at h
  | cons l bs ih =>
    rw [List.map_cons, List.sum_cons] at h
    have hb' : ∀ b ∈ bs, b < 256 := fun b h => hb b (List.mem_cons_of_mem _ h)
    by_cases hl : pc l = 0
    · have h1 := k0 ⟨l, hb l List.mem_cons_self⟩ hl
      simp only at h1
      obtain ⟨k, hk⟩ := ih hb' (by omega)
      refine ⟨k + 8, ?_⟩
      rw [nb, h1, hk, Nat.pow_add]
      omega
    · obtain ⟨j, hj⟩ := k1 ⟨l, hb l List.mem_cons_self⟩ (show pc l = 1 by omega)
      simp only at hj
      refine ⟨j.val, ?_⟩
      rw [nb, nb_zero bs hb' (by omega), hj]
      omega
/-- One bit is set just in a power of two. -/
theorem oc_one (x : Nat) (hx : x < 18446744073709551616) (h1 : oc x = 1) : ∃ k, x = 2 ^ k := by
  obtain ⟨a, b, c, d, e, f, g, h, ha, hb, hc, hd, he, hf, hg, hh, rfl⟩ := bytes8 x hx
  rw [oc_nb a b c d e f g h ha hb hc hd he hf hg hh] at h1
  exact nb_one _ (by simp [ha, hb, hc, hd, he, hf, hg, hh]) (by simp only [List.map_cons, List.map_nil, List.sum_cons, List.sum_nil]; omega)
theorem oc_pow (k : Nat) (hk : k < 64) : oc (2 ^ k) = 1 := by
  have : ∀ k : Fin 64, oc (2 ^ k.val) = 1 := by decide +kernel
  exact this ⟨k, hk⟩
set_option maxRecDepth 100000 in
set_option maxHeartbeats 1000000 in
theorem ones_any (x : Nat) (hx : x < 18446744073709551616) (w : World) :
    Calls Tryd.prog 107 #[.int .u64 x] w fun e w' => e = .returned (.int .i64 (oc x : Nat)) ∧ w' = w := by
  have r1 : rp 85 8 = 6148914691236517205 := by decide
  have r2 : rp 51 8 = 3689348814741910323 := by decide
  have r3 : rp 15 8 = 1085102592571150095 := by decide
  have b1 : bits .and .u64 ((x : Int) / 2) 6148914691236517205 = ((x / 2 &&& 6148914691236517205 : Nat) : Int) := bits_and_u64_nat (x / 2) 6148914691236517205 (by omega) (by omega)
  have b2 : bits .and .u64 (x : Int) 6148914691236517205 = ((x &&& 6148914691236517205 : Nat) : Int) := bits_and_u64_nat x 6148914691236517205 (by omega) (by omega)
  have l1 : (x / 2 &&& 6148914691236517205) ≤ 6148914691236517205 := Nat.and_le_right
  have l2 : (x &&& 6148914691236517205) ≤ 6148914691236517205 := Nat.and_le_right
  have f1 : o1 8 x = (x / 2 &&& 6148914691236517205) + (x &&& 6148914691236517205) := by rw [o1, r1]
  unfold oc
  generalize o1 8 x = X1 at *
  generalize (x / 2 &&& 6148914691236517205) = P1 at *
  generalize (x &&& 6148914691236517205) = Q1 at *
  have w1 : IntKind.u64.wrap ((P1 : Int) + (Q1 : Int)) = (X1 : Int) := by rw [IntKind.wrap_u64]; omega
  have hX1 : X1 < 18446744073709551616 := by omega
  clear f1 l1 l2
  have b3 : bits .and .u64 ((X1 : Int) / 4) 3689348814741910323 = ((X1 / 4 &&& 3689348814741910323 : Nat) : Int) := bits_and_u64_nat (X1 / 4) 3689348814741910323 (by omega) (by omega)
  have b4 : bits .and .u64 (X1 : Int) 3689348814741910323 = ((X1 &&& 3689348814741910323 : Nat) : Int) := bits_and_u64_nat X1 3689348814741910323 (by omega) (by omega)
  have l1 : (X1 / 4 &&& 3689348814741910323) ≤ 3689348814741910323 := Nat.and_le_right
  have l2 : (X1 &&& 3689348814741910323) ≤ 3689348814741910323 := Nat.and_le_right
  have f1 : o2 8 X1 = (X1 / 4 &&& 3689348814741910323) + (X1 &&& 3689348814741910323) := by rw [o2, r2]
  generalize o2 8 X1 = X2 at *
  generalize (X1 / 4 &&& 3689348814741910323) = P2 at *
  generalize (X1 &&& 3689348814741910323) = Q2 at *
  have w2 : IntKind.u64.wrap ((P2 : Int) + (Q2 : Int)) = (X2 : Int) := by rw [IntKind.wrap_u64]; omega
  have hX2 : X2 ≤ 7378697629483820646 := by omega
  clear f1 l1 l2
  have w3 : IntKind.u64.wrap ((X2 : Int) / 16 + (X2 : Int)) = ((X2 / 16 + X2 : Nat) : Int) := by rw [IntKind.wrap_u64]; omega
  have b5 : bits .and .u64 ((X2 / 16 + X2 : Nat) : Int) 1085102592571150095 = (((X2 / 16 + X2) &&& 1085102592571150095 : Nat) : Int) := bits_and_u64_nat _ 1085102592571150095 (by omega) (by omega)
  have l1 : ((X2 / 16 + X2) &&& 1085102592571150095) ≤ 1085102592571150095 := Nat.and_le_right
  have f1 : o3 8 X2 = ((X2 / 16 + X2) &&& 1085102592571150095) := by rw [o3, r3]
  rw [← f1] at b5 l1
  clear f1
  generalize o3 8 X2 = Y at *
  generalize (X2 / 16 + X2) = Z2 at *
  have w4 : IntKind.u64.wrap ((Y : Int) + (Y : Int) / 256) = ((Y + Y / 256 : Nat) : Int) := by rw [IntKind.wrap_u64]; omega
  simp only
  have l2 : Y + Y / 256 ≤ 1100000000000000000 := by omega
  generalize Y + Y / 256 = Y1 at *
  have w5 : IntKind.u64.wrap ((Y1 : Int) + (Y1 : Int) / 65536) = ((Y1 + Y1 / 65536 : Nat) : Int) := by rw [IntKind.wrap_u64]; omega
  have l3 : Y1 + Y1 / 65536 ≤ 1200000000000000000 := by omega
  generalize Y1 + Y1 / 65536 = Y2 at *
  have w6 : IntKind.u64.wrap ((Y2 : Int) + (Y2 : Int) / 4294967296) = ((Y2 + Y2 / 4294967296 : Nat) : Int) := by rw [IntKind.wrap_u64]; omega
  have l4 : Y2 + Y2 / 4294967296 ≤ 1300000000000000000 := by omega
  generalize Y2 + Y2 / 4294967296 = Y3 at *
  have w7 : IntKind.i64.wrap (Y3 : Int) = (Y3 : Int) := by rw [IntKind.wrap_i64]; omega
  have b6 : bits .and .i64 (Y3 : Int) 127 = ((Y3 % 128 : Nat) : Int) := by rw [i64_and127]; omega
  clear l1 l2 l3 l4 hX1 hX2 r1 r2 r3
  go_enter Tryd.func107, Tryd.ntmps107
  go_wp2_with fail
  go_ret
  exact ⟨rfl, rfl⟩
set_option maxRecDepth 100000 in
theorem onesu_any (x : Nat) (hx : x < 18446744073709551616) (w : World) :
    Calls Tryd.prog 96 #[.int .u64 x] w fun e w' => e = .returned (.int .i64 (oc x : Nat)) ∧ w' = w := by
  have w1 : IntKind.u64.wrap (x : Int) = (x : Int) := by rw [IntKind.wrap_u64]; omega
  go_enter Tryd.func96, Tryd.ntmps96
  go_wp2_with (go_at_call 107; refine (ones_any x hx _).mono ?_; rintro e w' ⟨rfl, hw'⟩; rw [hw'])
  go_ret
  exact ⟨rfl, rfl⟩
set_option maxRecDepth 100000 in
/-- Is a part whole: has it a power of two of entries? -/
theorem whole_any (t : Option Addr) (f n : Nat) (w : World) (hn : n < 9223372036854775808) :
    Calls Tryd.prog 78 #[pv (.pointer t) f n] w fun e w' => e = .returned (.bool (decide (oc n = 1))) ∧ Fr (fun _ => False) w w' := by
  have w1 : IntKind.u64.wrap (n : Int) = (n : Int) := by rw [IntKind.wrap_u64]; omega
  unfold pv
  go_enter Tryd.func78, Tryd.ntmps78
  go_wp2_with (go_at_call 96; refine (onesu_any n (by omega) _).mono ?_; rintro e w' ⟨rfl, hw'⟩; rw [hw'])
  go_ret
  refine ⟨?_, (Fr.refl _ _).alloc _⟩
  have e : (((oc n : Nat) : Int) == 1) = decide (oc n = 1) := by
    by_cases h : oc n = 1
    · simp [h]
    · have : ((oc n : Nat) : Int) ≠ 1 := by omega
      simp [h, this]
  exact congrArg (fun b => Ending.returned (Value.bool b)) e
end Go.Proofs.YthccbfgjekdiiaaDoor
