import Derived.Test.YtedmhpplhbaglaaNtu
import Derived.Test.YtedmhpplhbaglaaNtv
namespace Go.Proofs.Ytedmhpplhbaglaa
open Go.RowKit Go.ChangeShapes Go.WideShapes Go.Maps

set_option maxHeartbeats 2000000 in
set_option maxRecDepth 100000 in
/-- played, Count. -/
theorem played_0 (w W : World) (d m : Nat) (pl ki a b : Int) (ao : Option Addr) (c : Nat) (Rs : List RK) (x : Value) (hN : NS w W d m pl (pks Rs)) (h : RfAt w W (.slice ao Rs.length c) Rs) (hl : Rs.length ≤ 1048575) (n1 : ¬ ki = 1) (n2 : ¬ ki = 2) (n3 : ¬ ki = 3) (n4 : ¬ ki = 4) (n5 : ¬ ki = 5) :
    Calls Try.prog 17 #[.pointer (some ⟨d, 0, none⟩), .agg #[.int .i64 pl, .slice ao Rs.length c], .agg #[.int .i64 ki, .int .i64 a, .int .i64 b, x]] W (PPost w W d m pl Rs.length) := by
  have HX := hide (And.intro hN h)
  have hf3 : Fr (fun _ => False) W (((W.alloc (.cells #[.int .i64 pl, .slice ao Rs.length c] 45)).alloc (.cells #[.int .i64 ki, .int .i64 a, .int .i64 b, x] 49)).alloc (.cells #[.int .i64 0, .slice none 0 0] 45)) := ((box2 _ _ _).alloc _)
  have HP := hide (PX.new W d m pl (.slice ao Rs.length c) ki a b x)
  have HF := hide hf3
  obtain ⟨c0, c1, k0, k1, k2, k3, _, _, _, _⟩ := (unhide HP).cells
  have hpl : (pks Rs).length ≤ 1048576 := by rw [pks_len]; omega
  have e1 : (ki == 1) = false := by simp [n1]
  have e2 : (ki == 2) = false := by simp [n2]
  have e3 : (ki == 3) = false := by simp [n3]
  have e4 : (ki == 4) = false := by simp [n4]
  have e5 : (ki == 5) = false := by simp [n5]
  clear hN h hf3
  go_enter Try.func17, Try.ntmps17
  go_wp2_with fail
  refine (ns_count d m pl (pks Rs) w _ ((unhide HX).1.go (unhide HF))).mono ?_
  rintro e w1 ⟨rfl, hN1, hf1⟩
  have H1 := hide (And.intro hN1 (And.intro ((unhide HP).fr0 hf1) (((unhide HX).2.fr0 (unhide HF)).fr0 hf1)))
  clear c0 c1 k0 k1 k2 k3
  obtain ⟨c0, c1, k0, k1, k2, k3, z0, z1, _, _⟩ := (unhide H1).2.1.cells
  clear hN1 hf1 HP HF
  go_wp2_with fail
  refine (gcounts_any w w1 pl ao c Rs (unhide H1).2.2 (by omega)).mono ?_
  rintro e w2 ⟨rfl, hf2⟩
  have H2 := hide (And.intro ((unhide H1).1.go hf2) (And.intro ((unhide H1).2.1.fr0 hf2) ((unhide H1).2.2.fr0 hf2)))
  clear c0 c1 k0 k1 k2 k3
  obtain ⟨c0, c1, k0, k1, k2, k3, _, _, _, _⟩ := (unhide H2).2.1.cells
  clear hf2 H1
  generalize cS (pks Rs) = A1 at *
  generalize cC (pks Rs) = A2 at *
  generalize cD (pks Rs) = A3 at *
  generalize cL (pks Rs) = A4 at *
  have s1 : ((A1 : Int) == (A1 : Int)) = true := beq_self_eq_true _
  have s2 : ((A2 : Int) == (A2 : Int)) = true := beq_self_eq_true _
  have s3 : ((A3 : Int) == (A3 : Int)) = true := beq_self_eq_true _
  have s4 : ((A4 : Int) == (A4 : Int)) = true := beq_self_eq_true _
  obtain ⟨V, hrV, hgV, hfV⟩ := (unhide H2).2.1.put pl ao Rs.length c
  have hfin := (unhide H2).2.1.done (unhide H2).1 (unhide H2).2.2 hfV (unhide HX).1.dl (unhide HX).1.ml (unhide HX).1.fr.size
  have HV := hide hrV
  have HE := hide (And.intro hgV hfin)
  clear hrV hgV hfV hfin H2
  go_wp2_with (refine wpList_stN rfl 45 (.tmp 6) (.tmp 258) rfl _ _ rfl rfl (unhide HV) ?_)
  (try simp only [Exit.inBlock, Exit.then])
  refine bodyPost_ret (results_cellt rfl _ _ (W.heap.size + 2) 0 [.int .i64 pl, .slice ao (Rs.length) c] _ _ rfl rfl (unhide HE).1 Try.underlying45 rfl (by kernel_rfl)) rfl ?_
  exact ⟨ao, c, Rs, by simp, (unhide HE).2.1, by simpa using (unhide HE).2.2.1, by simp, (unhide HE).2.2.2⟩
/-- played. -/
theorem played_any (w W : World) (d m : Nat) (pl ki a b : Int) (ao : Option Addr) (c : Nat) (Rs : List RK) (xo : Option Addr) (xc : Nat) (l : List Nat) (hN : NS w W d m pl (pks Rs)) (h : RfAt w W (.slice ao Rs.length c) Rs) (hl : Rs.length ≤ 1048575) (ha : (Lit.int .i64 a).wf = true) (hx : Src w (.slice xo l.length xc) l) (hll : l.length ≤ 1048576) (hxl : l = [] ∨ ∀ g o n c, Value.slice xo l.length xc = .slice (some ⟨g, o, none⟩) n c → g < w.heap.size) :
    Calls Try.prog 17 #[.pointer (some ⟨d, 0, none⟩), .agg #[.int .i64 pl, .slice ao Rs.length c], .agg #[.int .i64 ki, .int .i64 a, .int .i64 b, .slice xo l.length xc]] W (PPost w W d m pl Rs.length) := by
  have hyes : und (pks Rs) a = true → ∃ (k : Nat) (y : RK), a = (k : Int) + 1 ∧ Rs[k]? = some y ∧ y.1.gone = 0 := fun hu => by
    obtain ⟨k, p, hk, hp, h0⟩ := und_some hu
    obtain ⟨y, hy, rfl⟩ := pks_get hp
    exact ⟨k, y, hk, hy, h0⟩
  by_cases n1 : ki = 1
  · subst n1
    by_cases h1 : a < 0
    · exact played_1a w W d m pl a b ao c Rs _ hN h hl h1
    · by_cases h2 : a ≥ pl
      · exact played_1b w W d m pl a b ao c Rs _ hN h hl h1 h2
      · by_cases h3 : b < 0
        · exact played_1c w W d m pl a b ao c Rs _ hN h hl h1 h2 h3
        · by_cases h4 : b ≥ pl
          · exact played_1d w W d m pl a b ao c Rs _ hN h hl h1 h2 h3 h4
          · exact played_1y w W d m pl a b ao c Rs xo xc l hN h hl h1 h2 h3 h4 hx hll hxl
  · by_cases n2 : ki = 2
    · subst n2
      cases hu : und (pks Rs) a with
      | false => exact played_2n w W d m pl a b ao c Rs _ hN h hl ha hu
      | true =>
        obtain ⟨k, y, rfl, hk, h0⟩ := hyes hu
        exact played_2y w W d m pl b ao c Rs _ hN h hl k y hk h0
    · by_cases n3 : ki = 3
      · subst n3
        cases hu : und (pks Rs) a with
        | false => exact played_3n w W d m pl a b ao c Rs _ hN h hl ha hu
        | true =>
          obtain ⟨k, y, rfl, hk, h0⟩ := hyes hu
          exact played_3y w W d m pl b ao c Rs _ hN h hl k y hk h0
      · by_cases n4 : ki = 4
        · subst n4
          cases hu : und (pks Rs) a with
          | false => exact played_4n w W d m pl a b ao c Rs _ hN h (by omega) ha hu
          | true =>
            obtain ⟨k, y, rfl, hk, h0⟩ := hyes hu
            exact played_4y w W d m pl b ao c Rs _ hN h hl k y hk h0
        · by_cases n5 : ki = 5
          · subst n5
            exact played_5 w W d m pl a b ao c Rs _ hN h hl
          · exact played_0 w W d m pl ki a b ao c Rs _ hN h hl n1 n2 n3 n4 n5
end Go.Proofs.Ytedmhpplhbaglaa
