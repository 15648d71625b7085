import Derived.Test.YtebipmknlgcnaabCsa
namespace Go.Proofs.Ytebipmknlgcnaab
open Go.RowKit

/-- Bytes in a block, to be written. -/
def BtAt (w : World) (g n : Nat) (f : Nat → Nat) : Prop := ∀ j, j < n → w.cell? ⟨g, j, none⟩ = some (.int .u8 (f j : Nat)) ∧ w.frozen? ⟨g, j, none⟩ = false
theorem BtAt.congr {w : World} {b n : Nat} {f f' : Nat → Nat} (h : BtAt w b n f) (e : ∀ j, j < n → f j = f' j) : BtAt w b n f' := fun j hj => by rw [← e j hj]; exact h j hj
theorem BtAt.put {w : World} {b n : Nat} {f : Nat → Nat} (h : BtAt w b n f) (k v : Nat) : BtAt (w.setCell ⟨b, k, none⟩ (.int .u8 (v : Int))).drew b n (fun j => if j = k then v else f j) := by
  intro j hj
  refine ⟨?_, ?_⟩
  · rw [World.cell?_drew]
    by_cases e : j = k
    · subst e
      rw [World.cell?_setCell_same _ _ _ (h j hj).1]; simp
    · rw [World.cell?_setCell_other _ _ _ _ (by intro h; injection h with _ h2 _; exact e h2.symm), (h j hj).1]; simp [e]
  · rw [World.frozen?_drew, World.frozen?_setCell]; exact (h j hj).2
theorem BtAt.src {w : World} {b n c : Nat} {f : Nat → Nat} {l : List Nat} (h : BtAt w b n f) (hl : l.length = n) (e : ∀ j, j < n → f j = l.getD j 0 % 256) : Src w (.slice (some ⟨b, 0, none⟩) n c) l := by
  refine .inr (.inl ⟨b, 0, c, by rw [hl], fun j v hv => ?_⟩)
  have hj : j < l.length := by
    have := (List.getElem?_eq_some_iff.1 hv).1
    simpa [cellsOf] using this
  rw [Nat.zero_add, (h j (by omega)).1, e j (by omega), ← hv, cellsOf, List.getElem?_map, List.getD, List.getElem?_eq_getElem hj]
  rfl
theorem src_at' {w : World} {xo : Option Addr} {n xc : Nat} {a : List Nat} (h : Src w (.slice xo n xc) a) (k : Nat) (hk : k < a.length) : ∃ g o, xo = some ⟨g, o, none⟩ ∧ w.cell? ⟨g, o + k, none⟩ = some (.int .u8 ((a.getD k 0 % 256 : Nat) : Int)) := by
  obtain ⟨g, o, e, hc⟩ := src_at h k hk
  refine ⟨g, o, e, ?_⟩
  rw [hc, List.getD, List.getElem?_eq_getElem hk]; rfl
set_option maxRecDepth 100000 in
theorem cadds_any (x y z : Value) (a b c : List Nat) (w : World) (hx : Src w x a) (hy : Src w y b) (hz : Src w z c) (ha : a.length ≤ 140737488355328)
    (kx : ∀ ao n c, x = .slice ao n c → n ≤ c) (ky : ∀ ao n c, y = .slice ao n c → n ≤ c) (kz : ∀ ao n c, z = .slice ao n c → n ≤ c) :
    Calls Try.prog 3 #[x, y, z] w fun e w' => e = .returned (.bool true) ∧ Fr (fun _ => False) w w' := by
  obtain ⟨xo, xc, rfl⟩ := hx.form
  obtain ⟨yo, yc, rfl⟩ := hy.form
  obtain ⟨zo, zc, rfl⟩ := hz.form
  replace kx := kx _ _ _ rfl
  replace ky := ky _ _ _ rfl
  replace kz := kz _ _ _ rfl
  obtain ⟨n, hn, hna⟩ : ∃ n : Nat, (if (c.length : Int) < (if (b.length : Int) < (a.length : Int) then (b.length : Int) else (a.length : Int)) then (c.length : Int) else (if (b.length : Int) < (a.length : Int) then (b.length : Int) else (a.length : Int))) = (n : Int) ∧ n ≤ a.length ∧ n ≤ b.length ∧ n ≤ c.length := by
    by_cases h1 : (b.length : Int) < (a.length : Int)
    · rw [if_pos h1]
      by_cases h2 : (c.length : Int) < (b.length : Int)
      · rw [if_pos h2]
        exact ⟨_, rfl, by omega, by omega, by omega⟩
      · rw [if_neg h2]
        exact ⟨_, rfl, by omega, by omega, by omega⟩
    · rw [if_neg h1]
      by_cases h2 : (c.length : Int) < (a.length : Int)
      · rw [if_pos h2]
        exact ⟨_, rfl, by omega, by omega, by omega⟩
      · rw [if_neg h2]
        exact ⟨_, rfl, by omega, by omega, by omega⟩
  have hmn : (Builtin.min_ #[3, 3, 3] 3 #[.int .i64 (a.length : Int), .int .i64 (b.length : Int), .int .i64 (c.length : Int)]).run Try.prog w = .ok (.int .i64 (n : Int)) w := by
    rw [← hn]
    simp [Builtin.min_, Builtin.min2]
  clear hn
  obtain ⟨i0, hi, hz0, hz1, hz2⟩ := info_parts Try.infoU8
  have hmk := run_make (P := Try.prog) (w := w) 22 5 i0 (.int .u8 0) Try.underlying22 hi hz0 .i64 .i64 (n : Int) (n : Int) (by omega) (by omega) (by rw [hz2]; omega) (by omega)
  rw [hz1, Int.toNat_natCast, made_zeros] at hmk
  have hF0 : Fr (fun _ => False) w (w.alloc (.cells (cellsOf (List.replicate n 0)).toArray 5)) := (Fr.refl _ _).alloc _
  have hB0 : BtAt (w.alloc (.cells (cellsOf (List.replicate n 0)).toArray 5)) w.heap.size n (fun _ => 0) := fun j hj => ⟨by
    rw [World.cell?_alloc_at _ _ _ _ rfl, List.getElem?_toArray, cellsOf, List.getElem?_map, List.getElem?_replicate, if_pos hj]; rfl, by rw [World.frozen?_alloc_at _ _ _ _ rfl]⟩
  have HX := hide (And.intro hx (And.intro hy (And.intro hz (And.intro hF0 (And.intro hB0 hna)))))
  have hn1 := hna.1
  have hn2 := hna.2.1
  have hn3 := hna.2.2
  clear hx hy hz hF0 hB0 hi hz0 hz1 hz2 hna
  generalize (cellsOf (List.replicate n 0)).toArray = Z at *
  go_enter Try.func3, Try.ntmps3
  go_wp2_with fail
  clear hmk hmn
  go_loopw [9] (fun i wr => ∃ k : Nat, k ≤ n ∧ i = .int .i64 k ∧ BtAt wr w.heap.size n (fun j => if j < k then xf a b c j else 0) ∧ Fr (fun _ => False) w wr) (fun i _ => n - (intOf i).toNat)
  case atStart => exact ⟨0, Nat.zero_le _, rfl, (unhide HX).2.2.2.2.1.congr (fun j _ => by simp), (unhide HX).2.2.2.1⟩
  case round =>
    obtain ⟨k, hk, rfl, hB, hF⟩ := hrel
    rename World => wr
    by_cases hlt : k < n
    · obtain ⟨g0, o0, rfl, d0⟩ := src_at' (unhide HX).1 k (by omega)
      obtain ⟨g1, o1, rfl, d1⟩ := src_at' (unhide HX).2.1 k (by omega)
      obtain ⟨g2, o2, rfl, d2⟩ := src_at' (unhide HX).2.2.1 k (by omega)
      have l0 := lt_of_cell d0
      have l1 := lt_of_cell d1
      have l2 := lt_of_cell d2
      have c0 := (hF.cell l0 (fun h => h)).trans d0
      have c1 := (hF.cell l1 (fun h => h)).trans d1
      have c2 := (hF.cell l2 (fun h => h)).trans d2
      simp only at l0 l1 l2
      have hxf : xf a b c k = a.getD k 0 % 256 ^^^ b.getD k 0 % 256 ^^^ c.getD k 0 % 256 := rfl
      have u0 : a.getD k 0 % 256 < 256 := Nat.mod_lt _ (by decide)
      have u1 : b.getD k 0 % 256 < 256 := Nat.mod_lt _ (by decide)
      have u2 : c.getD k 0 % 256 < 256 := Nat.mod_lt _ (by decide)
      have c3 := (hB k hlt).1
      have z3 := (hB k hlt).2
      have HB := hide (And.intro hB (And.intro hF hxf))
      clear hB hF hxf d0 d1 d2
      generalize a.getD k 0 % 256 = A at *
      generalize b.getD k 0 % 256 = B1 at *
      generalize c.getD k 0 % 256 = C at *
      have u01 : A ^^^ B1 < 256 := Nat.xor_lt_two_pow (n := 8) u0 u1
      have x1 := u8_xor_nat A B1 u0 u1
      have x2 := u8_xor_nat (A ^^^ B1) C u01 u2
      have ka : (k : Int) < (a.length : Int) := by omega
      have kb : (k : Int) < (b.length : Int) := by omega
      have kc : (k : Int) < (c.length : Int) := by omega
      have kn : (k : Int) < (n : Int) := by omega
      go_wp2_with fail
      go_region_held3 (fun w' => w'.cell? ⟨g0, o0 + k, none⟩ = some (.int .u8 A) ∧ w'.cell? ⟨g1, o1 + k, none⟩ = some (.int .u8 B1) ∧ w'.cell? ⟨g2, o2 + k, none⟩ = some (.int .u8 C)) (first | assumption | exact ⟨c0, c1, c2⟩ | (refine ⟨?_, ?_, ?_⟩ <;> (rw [World.cell?_drew]; first | assumption | (rw [World.cell?_setCell_other _ _ _ _ (by intro h; injection h with h1 _ _; omega)]; assumption)))) (fail)
      go_wp2_with fail
      have hput := ((unhide HB).1.put k (A ^^^ B1 ^^^ C)).congr (f' := fun j => if j < k + 1 then xf a b c j else 0) (fun j _ => by
        by_cases e : j = k
        · subst e; simp [(unhide HB).2.2]
        · simp only [e, if_false]
          by_cases h : j < k
          · simp [h, show j < k + 1 by omega]
          · simp [h, show ¬ j < k + 1 by omega])
      exact ⟨⟨k + 1, by omega, by go_num, hput, (Fr.setCell (unhide HB).2.1 (p := ⟨w.heap.size, k, none⟩) (.inr (Nat.le_refl _)) _).drew⟩, by simp [intOf]; omega⟩
    · have e : k = n := by omega
      subst e
      have h1 := src_take ((unhide HX).1.fr0 hF) hn1
      have h2 := src_take ((unhide HX).2.1.fr0 hF) hn2
      have h3 := src_take ((unhide HX).2.2.1.fr0 hF) hn3
      have h4 : Src wr (.slice (some ⟨w.heap.size, 0, none⟩) k k) (xl a b c k) := hB.src (xl_len a b c k) (fun j hj => by
        simp only [hj, if_true]
        rw [xl, List.getD, List.getElem?_map, List.getElem?_range hj]
        exact (Nat.mod_eq_of_lt (xf_lt a b c j)).symm)
      have hsum := sum_three a b c k hn1 hn2 hn3
      have q1 := Sm_lt 0 (a.take k) (by decide)
      have q2 := Sm_lt 0 (b.take k) (by decide)
      have q3 := Sm_lt 0 (c.take k) (by decide)
      have L1 : (a.take k).length ≤ 140737488355328 := by rw [List.length_take]; omega
      have L2 : (b.take k).length ≤ 140737488355328 := by rw [List.length_take]; omega
      have L3 : (c.take k).length ≤ 140737488355328 := by rw [List.length_take]; omega
      have L4 : (xl a b c k).length ≤ 140737488355328 := by rw [xl_len]; omega
      generalize e1 : Sm 0 (a.take k) = A at *
      generalize e2 : Sm 0 (b.take k) = B1 at *
      generalize e3 : Sm 0 (c.take k) = C at *
      have x1 := u32_xor_nat A B1 q1 q2
      have x2 := u32_xor_nat (A ^^^ B1) C (Nat.xor_lt_two_pow (n := 32) q1 q2) q3
      have HH := hide (And.intro h1 (And.intro h2 (And.intro h3 (And.intro h4 (And.intro e1 (And.intro e2 (And.intro e3 (And.intro hsum.symm (And.intro L1 (And.intro L2 (And.intro L3 (And.intro L4 hF))))))))))))
      clear h1 h2 h3 h4 e1 e2 e3 hsum L1 L2 L3 L4 hF hB
      have t1 : k ≤ xc := by omega
      have t2 : k ≤ yc := by omega
      have t3 : k ≤ zc := by omega
      have hS0 : Fr (fun _ => False) wr wr := Fr.refl _ _
      go_wp2_with fail
      go_region_held3 (fun w' => Fr (fun _ => False) wr w') (first | assumption | exact Fr.drew (by assumption)) (first
        | (go_at_call 5; refine (awake_S (by assumption)).mono ?_; rintro e w' ⟨rfl, hS⟩)
        | (go_at_call 6; refine (sum_S (by assumption) (unhide HH).1 (unhide HH).2.2.2.2.2.2.2.2.1 (unhide HH).2.2.2.2.1).mono ?_; rintro e w' ⟨rfl, hS⟩)
        | (go_at_call 6; refine (sum_S (by assumption) (unhide HH).2.1 (unhide HH).2.2.2.2.2.2.2.2.2.1 (unhide HH).2.2.2.2.2.1).mono ?_; rintro e w' ⟨rfl, hS⟩)
        | (go_at_call 6; refine (sum_S (by assumption) (unhide HH).2.2.1 (unhide HH).2.2.2.2.2.2.2.2.2.2.1 (unhide HH).2.2.2.2.2.2.1).mono ?_; rintro e w' ⟨rfl, hS⟩)
        | (go_at_call 6; refine (sum_S (by assumption) (unhide HH).2.2.2.1 (unhide HH).2.2.2.2.2.2.2.2.2.2.2.1 (unhide HH).2.2.2.2.2.2.2.1).mono ?_; rintro e w' ⟨rfl, hS⟩))
      have HZ := hide ((unhide HH).2.2.2.2.2.2.2.2.2.2.2.2.trans hS (fun _ _ h => h))
      clear hS HH
      go_wp2_with fail
      go_ret
      exact ⟨rfl, unhide HZ⟩
end Go.Proofs.Ytebipmknlgcnaab
