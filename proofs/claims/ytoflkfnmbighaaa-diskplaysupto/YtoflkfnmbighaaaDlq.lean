import Derived.Test.YtoflkfnmbighaaaDlp
import Derived.Test.YtoflkfnmbighaaaDlj
namespace Go.Proofs.Ytoflkfnmbighaaa
open Go.RowKit Go.ChangeShapes Go.WideShapes Go.Maps Go.Sort

/-- A disk in memory that was made since w. -/
structure DS (w W : World) (d m : Nat) (s : DM) (q : DW) (O : Nat → Prop) : Prop where
  D : DkAt W d m s q O
  fr : Fr (fun _ => False) w W
  o : ∀ k, O k → w.heap.size ≤ k
theorem DS.step {w W W' : World} {d m : Nat} {s s' : DM} {q q' : DW} {O O' : Nat → Prop} (h : DS w W d m s q O) (hD : DkAt W' d m s' q' O') (hf : Fr O W W') (hO : ∀ k, O' k → O k ∨ W.heap.size ≤ k) : DS w W' d m s' q' O' :=
  ⟨hD, h.fr.absorb hf h.o, fun k hk => (hO k hk).elim (h.o k) (Nat.le_trans h.fr.size)⟩
theorem DS.quiet {w W W' : World} {d m : Nat} {s : DM} {q : DW} {O : Nat → Prop} (h : DS w W d m s q O) (hf : Fr (fun _ => False) W W') : DS w W' d m s q O :=
  ⟨h.D.fr hf (fun _ _ h => h), h.fr.trans hf (fun _ _ h => h), h.o⟩
theorem DS.upd {w W W' : World} {d m : Nat} {s s' : DM} {q : DW} {O : Nat → Prop} (h : DS w W d m s q O) (hD : DkAt W' d m s' q O) (hf : Fr (fun k => k = d) W W') : DS w W' d m s' q O :=
  ⟨hD, h.fr.absorb hf (fun k e => by rw [e]; exact h.o _ h.D.od), h.o⟩
def Zr (n : Nat) : List Nat := List.replicate n 0
theorem made_cells (n : Nat) : (madeCells #[Value.int .u8 0] n).toList = cellsOf (Zr n) := by
  apply List.ext_getElem?
  intro i
  by_cases hi : i < n
  · simp [madeCells, cellsOf, Zr, B, hi, Nat.mod_one]
  · simp [madeCells, cellsOf, Zr, hi]
/-- Append of n zeros, just made. -/
theorem DS.zeros {w W : World} {d m : Nat} {s : DM} {q : DW} {O : Nat → Prop} (h : DS w W d m s q O) (name : ByteArray) (n : Nat) (ho : s.off = false) (hn : name.size ≤ maxLen) (hh : Maps.has s.D (.string (nm name)) = true) (hfu : s.full = false) (hroom : s.used + n ≤ s.limit) (hlim : s.limit ≤ 1048576) (hw : s.writes < 1000000000) (hl0 : 0 ≤ s.left) (hl : s.left < 9223372036854775808) (ht0 : 0 ≤ s.tear) (ht : s.tear < 9223372036854775808) (hb : (s.F (nm name)).b.length ≤ 1048576) (hp : (s.F (nm name)).ps.length ≤ 1000000000) :
    Calls Try.prog 10 #[.pointer (some ⟨d, 0, none⟩), .string name, .slice (some ⟨W.heap.size, 0, none⟩) n n] (W.alloc (.cells (madeCells #[.int .u8 0] n) 5)) fun e W' => e = .returned (.int .i64 (s.count n).1.code) ∧ ∃ q' O', DS w W' d m (s.app (nm name) (Zr n)) q' O' := by
  have hz : (Zr n).length = n := List.length_replicate
  have hbx := box1 W (.cells (madeCells #[.int .u8 0] n) 5)
  have h1 := h.quiet hbx
  have hsrc : Src (W.alloc (.cells (madeCells #[.int .u8 0] n) 5)) (.slice (some ⟨W.heap.size, 0, none⟩) n n) (Zr n) := by
    have := lit_srcW W (Zr n) (madeCells #[.int .u8 0] n) n (made_cells n)
    rw [hz] at this
    exact this
  have hc := append_ok d m s q O name _ (Zr n) _ h1.D ho hn hh hfu hsrc (fun g o k c e hO => by cases e; exact Nat.lt_irrefl _ (h.D.lt _ hO)) (fun xo k c e => by cases e; exact Nat.le_refl _) (by rw [hz]; exact hroom) hlim hw hl0 hl ht0 ht hb hp
  rw [hz] at hc
  refine hc.mono ?_
  rintro e W' ⟨rfl, q', O', hD, hf, hO⟩
  exact ⟨rfl, q', O', h1.step hD hf hO⟩
/-- DiskKnown's files. -/
def KF (A B : FM) : List UInt8 → FM := fun k => if k = [97] then A else if k = [98] then B else ⟨[], 0, []⟩
def K2 (u wr : Nat) (off full : Bool) (left tear : Int) (D : DataW Unit) (A B : FM) : DM := ⟨20, u, wr, off, full, left, tear, D, KF A B⟩
def f0 : FM := ⟨[], 0, []⟩
theorem KF_a (A B X : FM) : (fun k => if k = [97] then X else KF A B k) = KF X B := by
  funext k
  simp only [KF]
  split <;> rfl
theorem KF_b (A B X : FM) : (fun k => if k = [98] then X else KF A B k) = KF A X := by
  funext k
  simp only [KF]
  by_cases h : k = [97]
  · subst h; rfl
  · rw [if_neg h]
    by_cases h2 : k = [98]
    · rw [if_pos h2, if_neg h, if_pos h2]
    · rw [if_neg h2, if_neg h2, if_neg h, if_neg h2]
theorem KF_0 : (fun _ => f0) = KF f0 f0 := by
  funext k
  simp only [KF, f0]
  split
  · rfl
  · split <;> rfl
def Da (fa : Nat) : DataW Unit := .map [(.string [97], .lit (.int .i64 (fa : Nat)))]
def Db (fb : Nat) : DataW Unit := .map [(.string [98], .lit (.int .i64 (fb : Nat)))]
def Dab (fa fb : Nat) : DataW Unit := .map [(.string [97], .lit (.int .i64 (fa : Nat))), (.string [98], .lit (.int .i64 (fb : Nat)))]
theorem K_new : DM.new 20 = K2 0 0 false false 0 0 (.map []) f0 f0 := by
  simp only [DM.new, K2]
  congr 1
  exact KF_0
theorem K_made_a (fa : Nat) : (K2 0 0 false false 0 0 (.map []) f0 f0).made [97] fa = K2 0 0 false false 0 0 (Da fa) f0 f0 := by
  simp only [DM.made, K2]
  congr 1
  exact KF_a f0 f0 f0
theorem K_made_b (u wr fa fb : Nat) (A : FM) : (K2 u wr false false 0 0 (Da fa) A f0).made [98] fb = K2 u wr false false 0 0 (Dab fa fb) A f0 := by
  simp only [DM.made, K2]
  congr 1
  exact KF_b A f0 f0
theorem K_app_a (u wr : Nat) (full : Bool) (tear : Int) (D : DataW Unit) (A B : FM) (l : List Nat) : (K2 u wr false full 0 tear D A B).app [97] l = K2 (u + l.length) (wr + 1) false full 0 tear D (A.put (wr + 1) l) B := by
  simp only [DM.app, DM.count, K2, if_pos, List.take_length]
  congr 1
  exact KF_a A B _
theorem K_app_b (u wr : Nat) (full : Bool) (tear : Int) (D : DataW Unit) (A B : FM) (l : List Nat) : (K2 u wr false full 0 tear D A B).app [98] l = K2 (u + l.length) (wr + 1) false full 0 tear D A (B.put (wr + 1) l) := by
  simp only [DM.app, DM.count, K2, if_pos, List.take_length]
  congr 1
  exact KF_b A B _
theorem K_app_a2 (u wr : Nat) (D : DataW Unit) (A B : FM) (l : List Nat) : (K2 u wr false false 2 3 D A B).app [97] l = K2 (u + l.length) (wr + 1) false false 1 3 D (A.put (wr + 1) l) B := by
  have e : ∀ n, (K2 u wr false false 2 3 D A B).count n = (K2 u (wr + 1) false false 1 3 D A B, n) := fun n => rfl
  simp only [DM.app, e, List.take_length]
  simp only [K2]
  congr 1
  exact KF_a A B _
theorem K_app_b1 (u wr : Nat) (D : DataW Unit) (A B : FM) : (K2 u wr false false 1 3 D A B).app [98] (Zr 5) = K2 (u + 3) (wr + 1) true false 0 3 D A (B.put (wr + 1) (Zr 3)) := by
  have e : (K2 u wr false false 1 3 D A B).count 5 = (K2 u (wr + 1) true false 0 3 D A B, 3) := rfl
  simp only [DM.app, show (Zr 5).length = 5 from rfl, e]
  simp only [K2]
  congr 1
  exact KF_b A B _
theorem K_syn_a (u wr : Nat) (D : DataW Unit) (A B : FM) : { K2 u wr false false 0 0 D A B with F := fun k => if k = [97] then ((K2 u wr false false 0 0 D A B).F [97]).synced else (K2 u wr false false 0 0 D A B).F k } = K2 u wr false false 0 0 D A.synced B := by
  simp only [K2]
  congr 1
  exact KF_a A B _
theorem K_turn_b (u wr : Nat) (D : DataW Unit) (A B : FM) (a k : Nat) : (K2 u wr false false 0 0 D A B).turned [98] a k = K2 u wr false false 0 0 D A (B.turn a k) := by
  simp only [DM.turned, K2]
  congr 1
  exact KF_b A B _
theorem KF_len (A B : FM) (n : Nat) (hA : A.b.length ≤ n ∧ A.safe ≤ A.b.length) (hB : B.b.length ≤ n ∧ B.safe ≤ B.b.length) (k : List UInt8) : (KF A B k).b.length ≤ n ∧ (KF A B k).safe ≤ (KF A B k).b.length := by
  simp only [KF]
  split
  · exact hA
  · split
    · exact hB
    · exact ⟨Nat.zero_le _, Nat.le_refl _⟩
/-- Pending. -/
theorem DS.pend2 {w W : World} {d m u wr fa fb : Nat} {off full : Bool} {left tear : Int} {A B : FM} {q : DW} {O : Nat → Prop} (h : DS w W d m (K2 u wr off full left tear (Dab fa fb) A B) q O) (hA : A.b.length ≤ 1000 ∧ A.safe ≤ A.b.length) (hB : B.b.length ≤ 1000 ∧ B.safe ≤ B.b.length) :
    Calls Try.prog 11 #[.pointer (some ⟨d, 0, none⟩)] W fun e W' => e = .returned (.int .i64 (((A.b.length - A.safe) + (B.b.length - B.safe) : Nat) : Int)) ∧ DS w W' d m (K2 u wr off full left tear (Dab fa fb) A B) q O := by
  have hk := KF_len A B 1000 hA hB
  refine (pending_any d m _ q O W h.D (fun x => ?_) (show (2 : Nat) ≤ 256 by decide) (fun x => ?_)).mono ?_
  · have := hk x
    simp only [DM.pd, K2]
    exact ⟨by omega, by omega⟩
  · have := hk x
    simp only [K2]
    exact ⟨by omega, by omega⟩
  · rintro e W' ⟨rfl, hf⟩
    refine ⟨?_, h.quiet hf⟩
    have e : (K2 u wr off full left tear (Dab fa fb) A B).pend = ((A.b.length : Int) - (A.safe : Int)) + (((B.b.length : Int) - (B.safe : Int)) + 0) := rfl
    rw [e]
    congr 2
    omega
/-- A crash. -/
theorem DS.crash2 {w W : World} {d m u wr fa fb : Nat} {off full : Bool} {left tear : Int} {A B : FM} {q : DW} {O : Nat → Prop} (h : DS w W d m (K2 u wr off full left tear (Dab fa fb) A B) q O) (keep u' ga gb : Nat) (hk : keep ≤ 1000) (hA : A.b.length ≤ 1000) (hB : B.b.length ≤ 1000) (wA : A.safe + sumP A.ps = A.b.length) (wB : B.safe + sumP B.ps = B.b.length) (pA : A.ps.length ≤ 100) (pB : B.ps.length ≤ 100) (sA : ∀ p ∈ A.ps, p.2 ≤ 1000) (sB : ∀ p ∈ B.ps, p.2 ≤ 1000) (hu : u = A.b.length + B.b.length) (G : Nat → Nat → List Own3) (hG : ∀ x y : Nat, (A.ps.map (fun p => Own3.mk p.1 p.2 x) ++ B.ps.map (fun p => Own3.mk p.1 p.2 y)).Perm (G x y)) (hr : ∀ x y : Nat, (G x y).Pairwise (fun a b => a.wr < b.wr)) (hga : ∀ x y : Nat, x ≠ y → gain (G x y) keep x = ga ∧ gain (G x y) keep y = gb) (hga2 : A.safe + ga ≤ A.b.length) (hgb2 : B.safe + gb ≤ B.b.length) (hu' : u' = A.safe + ga + (B.safe + gb)) :
    Calls Try.prog 17 #[.pointer (some ⟨d, 0, none⟩), .int .i64 (keep : Nat)] W fun e W' => e = .returned (.tuple #[]) ∧ ∃ q', DS w W' d m (K2 u' wr true full 0 0 (Dab fa fb) ⟨A.b.take (A.safe + ga), A.safe + ga, []⟩ ⟨B.b.take (B.safe + gb), B.safe + gb, []⟩) q' O := by
  have hkeys : ∀ k, Maps.has (Dab fa fb) (.string k) = true → k = [97] ∨ k = [98] := fun k hk => by
    obtain ⟨p, hp, hs⟩ := List.any_eq_true.1 hk
    have ep : p.1 = .string k := Classical.byContradiction (fun e => by rw [Maps.sameKey_ne e] at hs; cases hs)
    rcases List.mem_cons.1 hp with rfl | hp
    · injection ep with ep; exact .inl ep.symm
    · rw [List.mem_singleton] at hp
      subst hp
      injection ep with ep; exact .inr ep.symm
  have hqa : q.fb [97] = fa := by
    have := (h.D.at_ [97] rfl).1
    have e : (Dab fa fb).atKey (.string [97]) .nil = .lit (.int .i64 (fa : Nat)) := rfl
    rw [show (K2 u wr off full left tear (Dab fa fb) A B).D = Dab fa fb from rfl, e] at this
    injection this with h1; injection h1 with _ h1; omega
  have hqb : q.fb [98] = fb := by
    have := (h.D.at_ [98] rfl).1
    have e : (Dab fa fb).atKey (.string [98]) .nil = .lit (.int .i64 (fb : Nat)) := rfl
    rw [show (K2 u wr off full left tear (Dab fa fb) A B).D = Dab fa fb from rfl, e] at this
    injection this with h1; injection h1 with _ h1; omega
  have hne : fa ≠ fb := by
    have := (h.D.ap [97] [98] rfl rfl (by decide)).1
    rw [hqa, hqb] at this
    exact this
  have hall : (K2 u wr off full left tear (Dab fa fb) A B).allp q = A.ps.map (fun p => Own3.mk p.1 p.2 fa) ++ B.ps.map (fun p => Own3.mk p.1 p.2 fb) := by
    have e : (K2 u wr off full left tear (Dab fa fb) A B).allp q = A.ps.map (fun p => Own3.mk p.1 p.2 (q.fb [97])) ++ (B.ps.map (fun p => Own3.mk p.1 p.2 (q.fb [98])) ++ []) := rfl
    rw [e, hqa, hqb, List.append_nil]
  have hsum : sumA (K2 u wr off full left tear (Dab fa fb) A B).ln (ents (Dab fa fb)) = (A.b.length : Int) + ((B.b.length : Int) + 0) := rfl
  refine (crash_any d m (keep : Nat) _ q O W h.D (by rw [hall]; simp; omega) (fun k hk => ?_) (by omega) (fun k hk => ?_) (fun k hk => ?_) ?_ ?_).mono ?_
  · rcases hkeys k hk with rfl | rfl
    · show A.ps.length ≤ 1000000; omega
    · show B.ps.length ≤ 1000000; omega
  · rcases hkeys k hk with rfl | rfl
    · exact ⟨show A.safe ≤ 1048576 by omega, fun p hp => Nat.le_trans (sA p hp) (by decide)⟩
    · exact ⟨show B.safe ≤ 1048576 by omega, fun p hp => Nat.le_trans (sB p hp) (by decide)⟩
  · rcases hkeys k hk with rfl | rfl
    · exact ⟨show A.safe + sumP A.ps ≤ A.b.length by omega, show A.b.length ≤ 1048576 by omega⟩
    · exact ⟨show B.safe + sumP B.ps ≤ B.b.length by omega, show B.b.length ≤ 1048576 by omega⟩
  · rw [show ((K2 u wr off full left tear (Dab fa fb) A B).used : Int) = (u : Int) from rfl, show (K2 u wr off full left tear (Dab fa fb) A B).D = Dab fa fb from rfl, hsum]
    omega
  · show u ≤ 1048576; omega
  · rintro e W' ⟨rfl, L, q', hp, hs, hD2, _, hf⟩
    rw [hall] at hp
    have hL : L = G fa fb := perm_rise _ _ (hp.trans (hG fa fb)) hs (hr fa fb)
    subst hL
    obtain ⟨g1, g2⟩ := hga fa fb hne
    have hDM : (((K2 u wr off full left tear (Dab fa fb) A B).offd).plus q (G fa fb) ((keep : Nat) : Int).toNat).crashT = K2 u' wr true full 0 0 (Dab fa fb) ⟨A.b.take (A.safe + ga), A.safe + ga, []⟩ ⟨B.b.take (B.safe + gb), B.safe + gb, []⟩ := by
      rw [Int.toNat_natCast]
      have hF : ∀ k, ((((K2 u wr off full left tear (Dab fa fb) A B).offd).plus q (G fa fb) keep).F k).crash = KF ⟨A.b.take (A.safe + ga), A.safe + ga, []⟩ ⟨B.b.take (B.safe + gb), B.safe + gb, []⟩ k := fun k => by
        simp only [DM.plus, DM.offd, K2, KF]
        by_cases h1 : k = [97]
        · subst h1
          simp only [if_pos, FM.crash, hqa, g1]
          rw [List.length_take, Nat.min_eq_left hga2]
        · rw [if_neg h1, if_neg h1]
          by_cases h2 : k = [98]
          · subst h2
            simp only [if_pos, FM.crash, hqb, g2]
            rw [List.length_take, Nat.min_eq_left hgb2]
          · rw [if_neg h2, if_neg h2]
            simp [FM.crash]
      have hpd : sumA (((K2 u wr off full left tear (Dab fa fb) A B).offd).plus q (G fa fb) keep).pd (ents (Dab fa fb)) = ((A.b.length : Int) - ((A.safe + gain (G fa fb) keep (q.fb [97]) : Nat) : Int)) + (((B.b.length : Int) - ((B.safe + gain (G fa fb) keep (q.fb [98]) : Nat) : Int)) + 0) := rfl
      rw [hqa, hqb, g1, g2] at hpd
      simp only [DM.crashT]
      rw [show (((K2 u wr off full left tear (Dab fa fb) A B).offd).plus q (G fa fb) keep).D = Dab fa fb from rfl, hpd]
      simp only [hF]
      simp only [DM.plus, DM.offd, K2]
      congr 1
      omega
    rw [hDM] at hD2
    exact ⟨rfl, q', h.step hD2 hf (fun k hk => .inl hk)⟩
end Go.Proofs.Ytoflkfnmbighaaa
