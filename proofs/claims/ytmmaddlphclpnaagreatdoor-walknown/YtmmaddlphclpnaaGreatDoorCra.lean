namespace Go.Proofs.YtmmaddlphclpnaaGreatDoor

/-- One bit is taken in. -/
def X (c : Nat) : Nat := if c % 2 = 1 then c / 2 ^^^ 2197175160 else c / 2
/-- So many bits. -/
def Xn : Nat → Nat → Nat
  | 0, c => c
  | n + 1, c => Xn n (X c)

theorem X_lt (c : Nat) (h : c < 4294967296) : X c < 4294967296 := by
  unfold X
  split
  · exact Nat.xor_lt_two_pow (n := 32) (by omega) (by decide)
  · omega
theorem Xn_lt (n c : Nat) (h : c < 4294967296) : Xn n c < 4294967296 := by
  induction n generalizing c with
  | zero => exact h
  | succ n ih => exact ih _ (X_lt c h)
theorem xor_half (a b : Nat) : (a ^^^ b) / 2 = a / 2 ^^^ b / 2 := by
  have := Nat.shiftRight_xor_distrib (a := a) (b := b) (i := 1)
  simpa [Nat.shiftRight_eq_div_pow] using this
theorem xor_odd (a b : Nat) : (a ^^^ b) % 2 = (a + b) % 2 := by
  have h := Nat.xor_mod_two_pow (a := a) (b := b) (n := 1)
  rw [show (2 : Nat) ^ 1 = 2 from rfl] at h
  rcases Nat.mod_two_eq_zero_or_one a with ha | ha <;> rcases Nat.mod_two_eq_zero_or_one b with hb | hb <;> rw [ha, hb] at h <;> rw [h] <;> simp <;> omega
theorem x3 (a b c : Nat) : a ^^^ c ^^^ (b ^^^ c) = a ^^^ b := by
  rw [Nat.xor_assoc, Nat.xor_comm b c, ← Nat.xor_assoc c c b, Nat.xor_self, Nat.zero_xor]
theorem X_xor (a b : Nat) : X (a ^^^ b) = X a ^^^ X b := by
  unfold X
  rw [xor_half, xor_odd]
  rcases Nat.mod_two_eq_zero_or_one a with ha | ha <;> rcases Nat.mod_two_eq_zero_or_one b with hb | hb
  · rw [if_neg (by omega), if_neg (by omega), if_neg (by omega)]
  · rw [if_pos (by omega), if_neg (by omega), if_pos (by omega), Nat.xor_assoc]
  · rw [if_pos (by omega), if_pos (by omega), if_neg (by omega), Nat.xor_assoc, Nat.xor_assoc, Nat.xor_comm (b / 2)]
  · rw [if_neg (by omega), if_pos (by omega), if_pos (by omega), x3]
theorem Xn_xor (n a b : Nat) : Xn n (a ^^^ b) = Xn n a ^^^ Xn n b := by
  induction n generalizing a b with
  | zero => rfl
  | succ n ih => rw [Xn, X_xor, ih]; rfl
theorem Xn_add (m n c : Nat) : Xn (m + n) c = Xn n (Xn m c) := by
  induction m generalizing c with
  | zero => rw [Nat.zero_add]; rfl
  | succ m ih => rw [Nat.succ_add, Xn, ih]; rfl
theorem Xn_zero (n : Nat) : Xn n 0 = 0 := by
  induction n with
  | zero => rfl
  | succ n ih => rw [Xn]; exact ih
theorem Xn_X (n c : Nat) : Xn n (X c) = X (Xn n c) := by
  rw [← Xn, Xn_add n 1]; rfl
/-- A byte is taken in. -/
def By (c b : Nat) : Nat := Xn 8 (c ^^^ b)
theorem By_lt (c b : Nat) (h : c < 4294967296) (hb : b < 256) : By c b < 4294967296 := Xn_lt _ _ (Nat.xor_lt_two_pow (n := 32) h (by omega))
def Up (c : Nat) (l : List Nat) : Nat := l.foldl By c
theorem Up_lt (l : List Nat) (c : Nat) (h : c < 4294967296) (hl : ∀ x ∈ l, x < 256) : Up c l < 4294967296 := by
  induction l generalizing c with
  | nil => exact h
  | cons a l ih => exact ih _ (By_lt c a h (hl a (by simp))) (fun x hx => hl x (by simp [hx]))
/-- The table's number. -/
def Tb (i : Nat) : Nat := Xn 8 i
theorem X_double (q : Nat) : X (2 * q) = q := by
  unfold X
  rw [if_neg (by omega)]; omega
theorem Xn_256 (q : Nat) : Xn 8 (256 * q) = q := by
  rw [show 256 * q = 2 * (2 * (2 * (2 * (2 * (2 * (2 * (2 * q))))))) by omega]
  simp only [Xn, X_double]
theorem by_tab (c b : Nat) : By c b = c / 256 ^^^ Tb (c % 256 ^^^ b) := by
  have e : c ^^^ b = (256 * (c / 256)) ^^^ (c % 256 ^^^ b) := by
    rw [← Nat.xor_assoc]
    congr 1
    have h := Nat.two_pow_add_eq_or_of_lt (i := 8) (b := c % 256) (Nat.mod_lt _ (by decide)) (c / 256)
    have h2 : 2 ^ 8 * (c / 256) ||| c % 256 = 2 ^ 8 * (c / 256) ^^^ c % 256 := by
      apply Nat.eq_of_testBit_eq
      intro j
      rw [Nat.testBit_or, Nat.testBit_xor, Nat.testBit_two_pow_mul]
      by_cases hj : 8 ≤ j
      · have : (c % 256).testBit j = false := Nat.testBit_lt_two_pow (Nat.lt_of_lt_of_le (Nat.mod_lt _ (by decide)) (Nat.pow_le_pow_right (n := 2) (by decide) hj))
        simp [this]
      · simp [hj]
    rw [h2] at h
    rw [show (256 : Nat) = 2 ^ 8 from rfl, ← h]
    omega
  unfold By Tb
  rw [e, Xn_xor, Xn_256]

/-- The product, bit by bit. -/
def mulN : Nat → Nat → Nat → Nat → Nat
  | 0, _, _, p => p
  | n + 1, a, b, p => mulN n (a * 2 % 4294967296) (X b) (if a / 2147483648 = 1 then p ^^^ b else p)
def mul (a b : Nat) : Nat := mulN 32 a b 0
theorem mulN_acc (n a b p q : Nat) : mulN n a b (p ^^^ q) = p ^^^ mulN n a b q := by
  induction n generalizing a b p q with
  | zero => rfl
  | succ n ih =>
    rw [mulN, mulN]
    split
    · rw [Nat.xor_assoc, ih]
    · rw [ih]
theorem mulN_0 (n b p : Nat) : mulN n 0 b p = p := by
  induction n generalizing b p with
  | zero => rfl
  | succ n ih =>
    rw [mulN, if_neg (by decide)]
    exact ih _ _
theorem mulN_X (n a b p : Nat) : mulN n a (X b) (X p) = X (mulN n a b p) := by
  induction n generalizing a b p with
  | zero => rfl
  | succ n ih =>
    rw [mulN, mulN]
    split
    · rw [← X_xor, ih]
    · rw [ih]
theorem mul_X (a b : Nat) : mul a (X b) = X (mul a b) := mulN_X 32 a b 0
theorem mul_Xn (n a b : Nat) : mul a (Xn n b) = Xn n (mul a b) := by
  induction n generalizing b with
  | zero => rfl
  | succ n ih => rw [Xn, ih, mul_X]; rfl
theorem x4 (p q b : Nat) : p ^^^ b ^^^ q = p ^^^ q ^^^ b := by rw [Nat.xor_assoc, Nat.xor_comm b q, ← Nat.xor_assoc]
theorem top_xor (a a' : Nat) (h : a < 4294967296) (h' : a' < 4294967296) : (a ^^^ a') / 2147483648 = (a / 2147483648 + a' / 2147483648) % 2 := by
  have := Nat.shiftRight_xor_distrib (a := a) (b := a') (i := 31)
  rw [Nat.shiftRight_eq_div_pow, Nat.shiftRight_eq_div_pow, Nat.shiftRight_eq_div_pow] at this
  rw [show (2147483648 : Nat) = 2 ^ 31 from rfl, this]
  have h1 : a / 2 ^ 31 < 2 := by omega
  have h2 : a' / 2 ^ 31 < 2 := by omega
  generalize a / 2 ^ 31 = u at *
  generalize a' / 2 ^ 31 = v at *
  match u, v, h1, h2 with
  | 0, 0, _, _ => rfl
  | 0, 1, _, _ => rfl
  | 1, 0, _, _ => rfl
  | 1, 1, _, _ => rfl
theorem dbl_xor (a a' : Nat) : (a ^^^ a') * 2 % 4294967296 = (a * 2 % 4294967296) ^^^ (a' * 2 % 4294967296) := by
  have h := Nat.shiftLeft_xor_distrib (a := a) (b := a') (i := 1)
  rw [Nat.shiftLeft_eq, Nat.shiftLeft_eq, Nat.shiftLeft_eq] at h
  have h2 := Nat.xor_mod_two_pow (a := a * 2 ^ 1) (b := a' * 2 ^ 1) (n := 32)
  rw [← h] at h2
  exact h2
theorem mulN_xor (n a a' b p p' : Nat) (h : a < 4294967296) (h' : a' < 4294967296) : mulN n (a ^^^ a') b (p ^^^ p') = mulN n a b p ^^^ mulN n a' b p' := by
  induction n generalizing a a' b p p' with
  | zero => rfl
  | succ n ih =>
    rw [mulN, mulN, mulN, dbl_xor, ← ih _ _ _ _ _ (Nat.mod_lt _ (by decide)) (Nat.mod_lt _ (by decide)), top_xor a a' h h']
    congr 1
    have h1 : a / 2147483648 < 2 := by omega
    have h2 : a' / 2147483648 < 2 := by omega
    generalize a / 2147483648 = u at *
    generalize a' / 2147483648 = v at *
    match u, v, h1, h2 with
    | 0, 0, _, _ => rfl
    | 0, 1, _, _ => exact Nat.xor_assoc p p' b
    | 1, 0, _, _ => exact (x4 p p' b).symm
    | 1, 1, _, _ => exact (x3 p p' b).symm
theorem mul_xor (a a' b : Nat) (h : a < 4294967296) (h' : a' < 4294967296) : mul (a ^^^ a') b = mul a b ^^^ mul a' b := mulN_xor 32 a a' b 0 0 h h'
/-- What holds of 0 and of the powers of two, and of sums, holds of all. -/
theorem lin_ind (P : Nat → Prop) (h0 : P 0) (h1 : ∀ j, j < 32 → P (2 ^ j)) (h2 : ∀ a b, a < 4294967296 → b < 4294967296 → P a → P b → P (a ^^^ b)) : ∀ n, n ≤ 32 → ∀ a, a < 2 ^ n → P a := by
  intro n
  induction n with
  | zero => intro _ a ha; rw [show a = 0 by omega]; exact h0
  | succ n ih =>
    intro hn a ha
    have hp : 2 ^ (n + 1) = 2 * 2 ^ n := by rw [Nat.pow_succ]; omega
    have hle : 2 ^ (n + 1) ≤ 4294967296 := Nat.pow_le_pow_right (n := 2) (j := 32) (by decide) hn
    by_cases hb : a < 2 ^ n
    · exact ih (by omega) a hb
    · have hlt : a ^^^ 2 ^ n < 2 ^ n := by
        apply Nat.lt_pow_two_of_testBit
        intro i hi
        rw [Nat.testBit_xor, Nat.testBit_two_pow]
        by_cases e : n = i
        · subst e
          have : a.testBit n = true := by
            rw [Nat.testBit_eq_decide_div_mod_eq, show a / 2 ^ n = 1 from (Nat.div_eq_iff (by omega)).2 ⟨by omega, by omega⟩]; rfl
          simp [this]
        · have : a.testBit i = false := Nat.testBit_lt_two_pow (Nat.lt_of_lt_of_le ha (Nat.pow_le_pow_right (n := 2) (by decide) (by omega)))
          simp [this, e]
      have e : a = (a ^^^ 2 ^ n) ^^^ 2 ^ n := by rw [Nat.xor_assoc, Nat.xor_self, Nat.xor_zero]
      rw [e]
      exact h2 _ _ (by omega) (by omega) (ih (by omega) _ hlt) (h1 n (by omega))
theorem mul_one (a : Nat) (h : a < 4294967296) : mul a 2147483648 = a := by
  refine lin_ind (fun a => mul a 2147483648 = a) (mulN_0 32 _ _) (by decide +kernel) (fun a b ha hb pa pb => ?_) 32 (Nat.le_refl _) a h
  rw [mul_xor a b _ ha hb, pa, pb]
theorem one_mul (b : Nat) : mul 2147483648 b = b := by
  show mulN 32 2147483648 b 0 = b
  rw [mulN, if_pos (by decide), Nat.zero_xor]
  exact mulN_0 31 _ b
theorem bas_X : ∀ i, i < 32 → ∀ j, j < 32 → mul (X (2 ^ i)) (2 ^ j) = X (mul (2 ^ i) (2 ^ j)) := by decide +kernel
theorem mulN_rxor (n a b b' p p' : Nat) : mulN n a (b ^^^ b') (p ^^^ p') = mulN n a b p ^^^ mulN n a b' p' := by
  induction n generalizing a b b' p p' with
  | zero => rfl
  | succ n ih =>
    rw [mulN, mulN, mulN, X_xor, ← ih]
    congr 1
    split
    · rw [Nat.xor_assoc p p', ← Nat.xor_assoc p' b b', Nat.xor_comm p' b, Nat.xor_assoc b p' b', ← Nat.xor_assoc p b]
    · rfl
theorem mul_rxor (a b b' : Nat) : mul a (b ^^^ b') = mul a b ^^^ mul a b' := mulN_rxor 32 a b b' 0 0
theorem mulN_b0 (n a p : Nat) : mulN n a 0 p = p := by
  induction n generalizing a p with
  | zero => rfl
  | succ n ih =>
    rw [mulN, show X 0 = 0 from rfl, ih]
    split
    · exact Nat.xor_zero p
    · rfl
theorem X_mul (a b : Nat) (ha : a < 4294967296) (hb : b < 4294967296) : mul (X a) b = X (mul a b) := by
  refine lin_ind (fun a => mul (X a) b = X (mul a b)) ?_ ?_ ?_ 32 (Nat.le_refl _) a ha
  · show mul 0 b = X (mul 0 b)
    rw [mul, mulN_0]; rfl
  · intro j hj
    refine lin_ind (fun b => mul (X (2 ^ j)) b = X (mul (2 ^ j) b)) ?_ (fun i hi => bas_X j hj i hi) ?_ 32 (Nat.le_refl _) b hb
    · show mul _ 0 = X (mul _ 0)
      rw [mul, mul, mulN_b0, mulN_b0]; rfl
    · intro u v _ _ hu hv
      show mul _ (u ^^^ v) = X (mul _ (u ^^^ v))
      rw [mul_rxor, mul_rxor, X_xor, hu, hv]
  · intro u v h1 h2 hu hv
    show mul (X (u ^^^ v)) b = X (mul (u ^^^ v) b)
    rw [X_xor, mul_xor _ _ _ (X_lt u h1) (X_lt v h2), mul_xor _ _ _ h1 h2, X_xor, hu, hv]
theorem Xn_mul (n a b : Nat) (ha : a < 4294967296) (hb : b < 4294967296) : mul (Xn n a) b = Xn n (mul a b) := by
  induction n generalizing a with
  | zero => rfl
  | succ n ih => rw [Xn, ih _ (X_lt a ha), X_mul a b ha hb]; rfl
end Go.Proofs.YtmmaddlphclpnaaGreatDoor
