import Derived.Test.YthccbfgjekdiiaaDoorMac
namespace Go.Proofs.YthccbfgjekdiiaaDoor
open Go.RowKit

set_option maxRecDepth 100000 in
set_option maxHeartbeats 1000000 in
theorem joined_any (mk : Nat) (x y : Value) (a b : List Nat) (w : World) (hx : Src w x a) (hy : Src w y b) (hmk : mk < 256) (ha : a.length ≤ 4000000) (hb : b.length ≤ 4000000) :
    Calls Tryd.prog 92 #[.int .u8 mk, x, y] w fun e w' => ∃ ao cp, e = .returned (.slice ao (mk :: (a ++ b)).length cp) ∧ OB w w' ao cp (mk :: (a ++ b)) := by
  obtain ⟨xo, xc, rfl⟩ := hx.form
  obtain ⟨yo, yc, rfl⟩ := hy.form
  obtain ⟨w1, hr1, ho1, hF1⟩ := make0 (a.length + b.length + 1) w (by omega)
  have hO1 : OB w w1 (some ⟨w.heap.size, 0, none⟩) (a.length + b.length + 1) [] := ⟨ho1, hF1⟩
  obtain ⟨a2, c2, w2, hr2, hO2⟩ := hO1.app1 mk hmk (by simp)
  obtain ⟨a3, c3, w3, hr3, hO3⟩ := hO2.app _ a (hx.fr0 hO2.fr) (by simp; omega)
  obtain ⟨a4, c4, w4, hr4, hO4⟩ := hO3.app _ b (hy.fr0 hO3.fr) (by simp; omega)
  have e4 : [] ++ [mk] ++ a ++ b = mk :: (a ++ b) := by simp
  have l2 : (([] : List Nat) ++ [mk]).length = 1 := rfl
  have l3 : (([] : List Nat) ++ [mk] ++ a).length = 1 + a.length := by simp; omega
  have l4 : (([] : List Nat) ++ [mk] ++ a ++ b).length = 1 + a.length + b.length := by simp; omega
  rw [l2] at hr2 hr3
  rw [l3] at hr3 hr4
  rw [l4] at hr4
  rw [e4] at hO4
  obtain ⟨R, hR⟩ : ∃ R, mk :: (a ++ b) = R := ⟨_, rfl⟩
  rw [hR] at hO4 ⊢
  have HO := hide (And.intro hO4 (show R.length = 1 + a.length + b.length by rw [← hR, ← e4]; exact l4))
  clear hR
  have HR1 := hide (show (Instr.makeSlice 25 (.int .i64 0) (.int .i64 ((a.length : Int) + (b.length : Int) + 1))).run Tryd.prog w = .ok (.slice (some ⟨w.heap.size, 0, none⟩) 0 (a.length + b.length + 1)) w1 from hr1)
  have HR2 := hide hr2
  have HR3 := hide hr3
  have HR4 := hide hr4
  clear hr1 hr2 hr3 hr4 ho1 hF1 hO1 hO2 hO3 hO4 e4 l2 l3 l4 hx hy
  have r0 : IntKind.i64.wrap ((a.length : Int) + (b.length : Int)) = (a.length : Int) + (b.length : Int) := by rw [IntKind.wrap_i64]; omega
  have r1 : IntKind.i64.wrap ((a.length : Int) + (b.length : Int) + 1) = (a.length : Int) + (b.length : Int) + 1 := by rw [IntKind.wrap_i64]; omega
  clear ha hb
  generalize a.length = A at *
  generalize b.length = B1 at *
  have hr1 := unhide HR1
  go_enter Tryd.func92, Tryd.ntmps92
  go_wp2_with (first
    | (at_builtin; refine wpList_app rfl _ _ 25 25 rfl _ _ _ rfl rfl (unhide HR2) ?_)
    | (at_builtin; refine wpList_app rfl _ _ 25 25 rfl _ _ _ rfl rfl (unhide HR3) ?_)
    | (at_builtin; refine wpList_app rfl _ _ 25 25 rfl _ _ _ rfl rfl (unhide HR4) ?_))
  go_ret
  exact ⟨a4, c4, by rw [(unhide HO).2]; rfl, (unhide HO).1⟩
set_option maxRecDepth 100000 in
/-- The ref's Leaf. -/
theorem gleaf_any (i : Int) (x : Value) (e : List Nat) (w : World) (hr : GR w) (hx : Src w x e) (hb : ∀ v ∈ e, v < 256) (he : e.length ≤ 4000000) :
    Calls Tryd.prog 69 #[.int .i64 i, x] w fun e' w' => ∃ yo yc, e' = .returned (.slice yo (lf i e).length yc) ∧ OB w w' yo yc (lf i e) := by
  have HG := hide (And.intro hr (And.intro hx (And.intro hb he)))
  clear hr hx hb he
  obtain ⟨R, hR⟩ : ∃ R, lf i e = R := ⟨_, rfl⟩
  rw [hR]
  have hSum : ∀ (x : Value) (w : World), GR w → Src w x (0 :: e) → Calls Tryd.prog 89 #[.int .i64 i, x] w fun e' w' => ∃ yo yc, e' = .returned (.slice yo R.length yc) ∧ OB w w' yo yc R := fun x w h1 h2 => by
    rw [← hR]
    exact gsum_T i x (0 :: e) w h1 h2 (cons_lt (by decide) (unhide HG).2.2.1) (by have := (unhide HG).2.2.2; rw [List.length_cons]; omega)
  have HSum := hide hSum
  clear hSum hR
  go_enter Tryd.func69, Tryd.ntmps69
  go_wp2_with fail
  refine (joined_any 0 x (.slice none 0 0) e [] w (unhide HG).2.1 (.inl ⟨rfl, rfl⟩) (by decide) (unhide HG).2.2.2 (by simp)).mono ?_
  rintro e' w1 ⟨ao, cp, rfl, hO⟩
  rw [List.append_nil] at hO ⊢
  have hsrc := hO.src
  rw [List.length_cons] at hsrc ⊢
  have H1 := hide (And.intro hO hsrc)
  clear hO hsrc
  go_wp2_with fail
  refine ((unhide HSum) _ w1 ((unhide HG).1.fr0 (unhide H1).1.fr) (unhide H1).2).mono ?_
  rintro e' w2 ⟨yo, yc, rfl, hO⟩
  have H2 := hide (hO.base (unhide H1).1.fr)
  clear hO
  go_wp2_with fail
  go_ret
  exact ⟨yo, yc, rfl, unhide H2⟩
set_option maxRecDepth 100000 in
/-- The ref's Node. -/
theorem gnode_any (i : Int) (x y : Value) (a b : List Nat) (w : World) (hr : GR w) (hx : Src w x a) (hy : Src w y b) (ha : ∀ v ∈ a, v < 256) (hb : ∀ v ∈ b, v < 256) (hla : a.length ≤ 4000000) (hlb : b.length ≤ 4000000) :
    Calls Tryd.prog 91 #[.int .i64 i, x, y] w fun e' w' => ∃ yo yc, e' = .returned (.slice yo (nd i a b).length yc) ∧ OB w w' yo yc (nd i a b) := by
  have HG := hide (And.intro hr (And.intro hx (And.intro hy (And.intro ha (And.intro hb (And.intro hla hlb))))))
  clear hr hx hy ha hb hla hlb
  obtain ⟨R, hR⟩ : ∃ R, nd i a b = R := ⟨_, rfl⟩
  rw [hR]
  have hSum : ∀ (x : Value) (w : World), GR w → Src w x (1 :: (a ++ b)) → Calls Tryd.prog 89 #[.int .i64 i, x] w fun e' w' => ∃ yo yc, e' = .returned (.slice yo R.length yc) ∧ OB w w' yo yc R := fun x w h1 h2 => by
    rw [← hR]
    exact gsum_T i x (1 :: (a ++ b)) w h1 h2 (cons_lt (by decide) (app_lt (unhide HG).2.2.2.1 (unhide HG).2.2.2.2.1)) (by have h1 := (unhide HG).2.2.2.2.2.1; have h2 := (unhide HG).2.2.2.2.2.2; rw [List.length_cons, List.length_append]; omega)
  have HSum := hide hSum
  clear hSum hR
  go_enter Tryd.func91, Tryd.ntmps91
  go_wp2_with fail
  refine (joined_any 1 x y a b w (unhide HG).2.1 (unhide HG).2.2.1 (by decide) (unhide HG).2.2.2.2.2.1 (unhide HG).2.2.2.2.2.2).mono ?_
  rintro e' w1 ⟨ao, cp, rfl, hO⟩
  have hsrc := hO.src
  rw [List.length_cons, List.length_append] at hsrc ⊢
  have H1 := hide (And.intro hO hsrc)
  clear hO hsrc
  go_wp2_with fail
  refine ((unhide HSum) _ w1 ((unhide HG).1.fr0 (unhide H1).1.fr) (unhide H1).2).mono ?_
  rintro e' w2 ⟨yo, yc, rfl, hO⟩
  have H2 := hide (hO.base (unhide H1).1.fr)
  clear hO
  go_wp2_with fail
  go_ret
  exact ⟨yo, yc, rfl, unhide H2⟩
/-- k(n). -/
def hfk (n : Nat) : Nat → Nat
  | 0 => 1
  | t + 1 => 2 * hfk n t
theorem hfk_pow (n t : Nat) : hfk n t = 2 ^ t := by
  induction t with
  | zero => rfl
  | succ t ih => rw [hfk, ih, Nat.pow_succ, Nat.mul_comm]
/-- The greatest power of two below n; 1 where there is none. -/
def hf (n : Nat) : Nat := 2 ^ (Nat.log2 (n - 1))
theorem hf_pos (n : Nat) : 0 < hf n := Nat.pow_pos (by decide)
theorem hf_lt (n : Nat) (h : 2 ≤ n) : hf n < n := by
  have := Nat.log2_self_le (n := n - 1) (by omega)
  unfold hf
  omega
theorem hf_ge (n : Nat) (h : 2 ≤ n) : n ≤ 2 * hf n := by
  have := Nat.lt_log2_self (n := n - 1)
  rw [Nat.pow_succ] at this
  unfold hf
  omega
theorem hf_uniq (n t : Nat) (h1 : 2 ^ t < n) (h2 : n ≤ 2 * 2 ^ t) : hf n = 2 ^ t := by
  have hp : 0 < 2 ^ t := Nat.pow_pos (by decide)
  have hl : Nat.log2 (n - 1) = t := (Nat.log2_eq_iff (by omega)).2 ⟨by omega, by rw [Nat.pow_succ]; omega⟩
  unfold hf
  rw [hl]
set_option maxRecDepth 100000 in
theorem half_any (n : Nat) (w : World) (hn : n < 9223372036854775808) (h2 : 2 ≤ n) : Calls Tryd.prog 90 #[.int .i64 n] w fun e w' => e = .returned (.int .i64 (hf n : Nat)) ∧ w' = w := by
  go_enter Tryd.func90, Tryd.ntmps90
  go_wp2_with fail
  go_loopw [3] (fun kv wr => ∃ t : Nat, 2 ^ t < n ∧ kv = .int .i64 ((2 ^ t : Nat) : Int) ∧ wr = w) (fun kv _ => n - (intOf kv).toNat)
  case atStart => exact ⟨0, by simp; omega, rfl, rfl⟩
  case round =>
    obtain ⟨t, ht, rfl, rfl⟩ := hrel
    have hu := hf_uniq n t ht
    have hp : 0 < 2 ^ t := Nat.pow_pos (by decide)
    have hsucc : 2 ^ (t + 1) = 2 * 2 ^ t := by rw [Nat.pow_succ, Nat.mul_comm]
    have HU := hide (And.intro hu hsucc)
    clear hu hsucc
    generalize 2 ^ t = K at *
    have w1 : IntKind.i64.wrap ((n : Int) - (K : Int)) = (n : Int) - (K : Int) := by rw [IntKind.wrap_i64]; omega
    by_cases hlt : K < n - K
    · have hlt' : (K : Int) < (n : Int) - (K : Int) := by omega
      have w2 : IntKind.i64.wrap (2 * (K : Int)) = 2 * (K : Int) := by rw [IntKind.wrap_i64]; omega
      go_wp2_with fail
      exact ⟨⟨t + 1, by rw [(unhide HU).2]; omega, by rw [(unhide HU).2]; go_num, trivial⟩, by simp [intOf]; omega⟩
    · have hlt' : ¬ (K : Int) < (n : Int) - (K : Int) := by omega
      go_wp2_with fail
      go_ret
      exact ⟨by rw [(unhide HU).1 (by omega)]; rfl, rfl⟩
end Go.Proofs.YthccbfgjekdiiaaDoor
