import Derived.Test.YthccbfgjekdiiaaDoorSbg
namespace Go.Proofs.YthccbfgjekdiiaaDoor
open Go.RowKit

theorem zero_w64 (w : World) : (zeroValue 139).run Tryd.prog w = .ok (.agg (Array.replicate 64 (.int .u64 0))) w := by kernel_rfl
theorem info_w64 : (Tryd.prog.info? 139).map (·.size) = some 64 := by kernel_rfl
def V64 (l : List Nat) : List Value := l.map fun c : Nat => Value.int .u64 (c : Int)
theorem V64_len (l : List Nat) : (V64 l).length = l.length := by simp [V64]
theorem V64_one (l : List Nat) : ∀ v ∈ V64 l, v.oneCell' = true := by
  intro v hv
  simp only [V64, List.mem_map] at hv
  obtain ⟨c, _, rfl⟩ := hv
  rfl
theorem V64_at (l : List Nat) (j : Nat) (v : Value) (h : (V64 l)[j]? = some v) : j < l.length ∧ v = .int .u64 ((l.getD j 0 : Nat) : Int) := by
  have hj : j < l.length := by
    have := (List.getElem?_eq_some_iff.1 h).1
    rwa [V64_len] at this
  refine ⟨hj, ?_⟩
  rw [V64, List.getElem?_map, List.getElem?_eq_getElem hj, Option.map_some] at h
  rw [List.getD, List.getElem?_eq_getElem hj, Option.getD_some]
  exact (Option.some.inj h).symm
theorem wl_keep (l : List Nat) (n m j : Nat) (hj : j < 16 + n) (h : n ≤ m) : (wl l m).getD j 0 = (wl l n).getD j 0 := by
  induction m with
  | zero => rw [show n = 0 by omega]
  | succ m ih =>
    by_cases e : n = m + 1
    · rw [e]
    · rw [wl_succ, if_neg (by omega), ih (by omega)]
/-- The words of a block. -/
def ww (l : List Nat) (j : Nat) : Nat := (wl l 48).getD j 0
theorem ww_lo (l : List Nat) (k : Nat) (h : k < 16) : ww l k = wd l k := by
  rw [ww, wl_keep l 0 48 k (by omega) (by omega), wl_0, if_pos h]
theorem ww_hi (l : List Nat) (k : Nat) (h : 16 ≤ k) (h2 : k < 64) : ww l k = (s1 (ww l (k - 2)) + ww l (k - 7) + s0 (ww l (k - 15)) + ww l (k - 16)) % 4294967296 := by
  obtain ⟨n, rfl⟩ : ∃ n, k = 16 + n := ⟨k - 16, by omega⟩
  simp only [ww]
  rw [wl_keep l (n + 1) 48 (16 + n) (by omega) (by omega), wl_succ, if_pos rfl, nxt, wl_keep l n 48 (16 + n - 2) (by omega) (by omega), wl_keep l n 48 (16 + n - 7) (by omega) (by omega), wl_keep l n 48 (16 + n - 15) (by omega) (by omega), wl_keep l n 48 (16 + n - 16) (by omega) (by omega)]
theorem ww_lt (l : List Nat) (hb : ∀ j, l.getD j 0 < 256) (j : Nat) : ww l j < 4294967296 := wl_lt l hb 48 j
structure InvT (w wr : World) (g : Nat) (f : Nat → Nat) : Prop where
  to : NumsAt wr (g + 1) .u64 64 f
  fz : ∀ j, wr.frozen? ⟨g + 1, j, none⟩ = false
  fr : Fr (fun _ => False) w wr
  res : ∀ j, j < 64 → wr.cell? ⟨g, j, none⟩ = some (.int .u64 0) ∧ wr.frozen? ⟨g, j, none⟩ = false
theorem InvT.put {w wr : World} {f : Nat → Nat} (h : InvT w wr w.heap.size f) (k v : Nat) (hk : k < 64) (n : Nat) : InvT w ((wr.setCell ⟨w.heap.size + 1, k, none⟩ (.int .u64 (v : Int))).drewN n) w.heap.size (fun j => if j = k then v else f j) := by
  refine ⟨fun j hj => ?_, fun j => ?_, ?_, fun j hj => ⟨?_, ?_⟩⟩
  · rw [World.cell?_drewN]
    by_cases e : j = k
    · subst e
      rw [World.cell?_setCell_same _ _ _ (h.to j hj), if_pos rfl]
    · rw [World.cell?_setCell_other _ _ _ _ (by intro h; injection h with _ h2 _; exact e h2.symm), if_neg e]; exact h.to j hj
  · rw [World.frozen?_drewN, World.frozen?_setCell]; exact h.fz j
  · have := Fr.setCell (S := fun _ => False) h.fr (p := ⟨w.heap.size + 1, k, none⟩) (.inr (by show w.heap.size ≤ w.heap.size + 1; omega)) (.int .u64 (v : Int))
    exact ⟨this.os, this.tape, this.output, this.size, this.block⟩
  · rw [World.cell?_drewN, World.cell?_setCell_other _ _ _ _ (by intro h; injection h with h1 _ _; omega)]; exact (h.res j hj).1
  · rw [World.frozen?_drewN, World.frozen?_setCell]; exact (h.res j hj).2
theorem InvT.congr {w wr : World} {g : Nat} {f f' : Nat → Nat} (h : InvT w wr g f) (e : ∀ j, j < 64 → f j = f' j) : InvT w wr g f' :=
  ⟨fun j hj => by rw [← e j hj]; exact h.to j hj, h.fz, h.fr, h.res⟩
theorem InvT.drewN {w wr : World} {g : Nat} {f : Nat → Nat} (h : InvT w wr g f) (n : Nat) : InvT w (wr.drewN n) g f :=
  ⟨fun j hj => by rw [World.cell?_drewN]; exact h.to j hj, fun j => by rw [World.frozen?_drewN]; exact h.fz j, ⟨h.fr.os, h.fr.tape, h.fr.output, h.fr.size, h.fr.block⟩, fun j hj => by rw [World.cell?_drewN, World.frozen?_drewN]; exact h.res j hj⟩
theorem rep64u (j : Nat) (h : j < 64) : (Array.replicate 64 (Value.int .u64 0))[j]? = some (.int .u64 0) := by rw [Array.getElem?_replicate, if_pos h]
theorem start_T (w : World) (t1 t2 : TypeId) :
    InvT w ((w.alloc (.cells (Array.replicate 64 (.int .u64 0)) t1)).alloc (.cells (Array.replicate 64 (.int .u64 0)) t2)) w.heap.size (fun _ => 0) := by
  have hs1 : (w.alloc (.cells (Array.replicate 64 (.int .u64 0)) t1)).heap.size = w.heap.size + 1 := by simp
  refine ⟨fun j hj => ?_, fun j => ?_, ((Fr.refl _ _).alloc _).alloc _, fun j hj => ⟨?_, ?_⟩⟩
  · rw [← hs1, World.cell?_alloc_at _ _ _ _ rfl]
    exact rep64u j hj
  · rw [← hs1, World.frozen?_alloc_at _ _ _ _ rfl]
  · rw [World.cell?_alloc_past _ _ _ (by simp), World.cell?_alloc_at _ _ _ _ rfl]
    exact rep64u j hj
  · rw [((Fr.refl (fun _ => False) _).alloc _).frozen (p := ⟨w.heap.size, j, none⟩) (by simp) (fun h => h), World.frozen?_alloc_at _ _ _ _ rfl]
/-- The way out: what is loaded, what is stored, what lies there then. -/
theorem gsched_end (l : List Nat) (w wq : World) (hI : InvT w wq w.heap.size (fun j => ww l j)) :
    ∃ cs : List Value, V64 (wl l 48) = cs ∧ cs.length = 64 ∧
      wq.rangeAt (w.heap.size + 1) 0 cs ∧ wq.there w.heap.size 0 cs.toArray.size ∧ cs.toArray.all (·.oneCell') = true ∧
      (wq.setCells w.heap.size 0 cs).rangeAt w.heap.size 0 cs ∧ Fr (fun _ => False) w (wq.setCells w.heap.size 0 cs) := by
  obtain ⟨cs, hcs⟩ : ∃ cs, V64 (wl l 48) = cs := ⟨_, rfl⟩
  have hlen : cs.length = 64 := by rw [← hcs, V64_len, wl_len]
  have hone : ∀ v ∈ cs, v.oneCell' = true := by rw [← hcs]; exact V64_one _
  have hrg : wq.rangeAt (w.heap.size + 1) 0 cs := fun j v hv => by
    rw [← hcs] at hv
    obtain ⟨hj, rfl⟩ := V64_at _ j v hv
    rw [wl_len] at hj
    rw [Nat.zero_add]
    exact hI.to j hj
  have hth : wq.there w.heap.size 0 cs.length := fun j hj => by
    have hj' : j < 64 := by omega
    rw [Nat.zero_add]
    exact ⟨by rw [(hI.res j hj').1]; rfl, (hI.res j hj').2⟩
  refine ⟨cs, hcs, hlen, hrg, by rw [List.size_toArray]; exact hth, all_oneCell_toArray hone, World.rangeAt_setCells_same wq w.heap.size 0 cs hth, ?_⟩
  exact Fr.setCells hI.fr (.inr (Nat.le_refl _)) _
theorem gword_eq (x0 x1 x2 x3 : Nat) (h0 : x0 < 256) (h1 : x1 < 256) (h2 : x2 < 256) (h3 : x3 < 256) :
    bits .or .u64 (bits .or .u64 (bits .or .u64 (IntKind.u64.wrap (IntKind.u64.wrap (x0 : Int) * 16777216)) (IntKind.u64.wrap (IntKind.u64.wrap (x1 : Int) * 65536))) (IntKind.u64.wrap (IntKind.u64.wrap (x2 : Int) * 256))) (IntKind.u64.wrap (x3 : Int)) = ((x0 * 16777216 ||| x1 * 65536 ||| x2 * 256 ||| x3 : Nat) : Int) := by
  have e0 : IntKind.u64.wrap (IntKind.u64.wrap (x0 : Int) * 16777216) = ((x0 * 16777216 : Nat) : Int) := by rw [IntKind.wrap_u64, IntKind.wrap_u64]; omega
  have e1 : IntKind.u64.wrap (IntKind.u64.wrap (x1 : Int) * 65536) = ((x1 * 65536 : Nat) : Int) := by rw [IntKind.wrap_u64, IntKind.wrap_u64]; omega
  have e2 : IntKind.u64.wrap (IntKind.u64.wrap (x2 : Int) * 256) = ((x2 * 256 : Nat) : Int) := by rw [IntKind.wrap_u64, IntKind.wrap_u64]; omega
  have e3 : IntKind.u64.wrap (x3 : Int) = ((x3 : Nat) : Int) := by rw [IntKind.wrap_u64]; omega
  have a0 : x0 * 16777216 < 2 ^ 64 := Nat.lt_of_lt_of_le (Nat.mul_lt_mul_of_pos_right h0 (by decide)) (by decide)
  have a1 : x1 * 65536 < 2 ^ 64 := Nat.lt_of_lt_of_le (Nat.mul_lt_mul_of_pos_right h1 (by decide)) (by decide)
  have a2 : x2 * 256 < 2 ^ 64 := Nat.lt_of_lt_of_le (Nat.mul_lt_mul_of_pos_right h2 (by decide)) (by decide)
  have o1 := Nat.or_lt_two_pow a0 a1
  have o2 := Nat.or_lt_two_pow o1 a2
  rw [e0, e1, e2, e3, u64_or_nat _ _ a0 a1, u64_or_nat _ _ o1 a2, u64_or_nat _ _ o2 (by omega)]
theorem and_all (a : Nat) (h : a < 18446744073709551616) : bits .and .u64 (a : Int) 4294967295 = ((a % 4294967296 : Nat) : Int) := by
  rw [show (4294967295 : Int) = ((4294967295 : Nat) : Int) from rfl, u64_and_nat _ _ h (by decide)]
  rw [show (4294967295 : Nat) = 2 ^ 32 - 1 from rfl, Nat.and_two_pow_sub_one_eq_mod]
theorem x3_eq (a b c : Nat) (ha : a < 4294967296) (hb : b < 4294967296) (hc : c < 4294967296) : bits .xor .u64 (bits .xor .u64 (a : Int) (b : Int)) (c : Int) = ((a ^^^ b ^^^ c : Nat) : Int) := by
  have x1 : a ^^^ b < 4294967296 := Nat.xor_lt_two_pow (n := 32) ha hb
  rw [u64_xor_nat _ _ (by omega) (by omega), u64_xor_nat _ _ (by omega) (by omega)]
set_option maxRecDepth 100000 in
set_option maxHeartbeats 2000000 in
theorem gsched_any (l : List Nat) (g o xc : Nat) (w : World) (hl : l.length = 64) (hb : ∀ j, l.getD j 0 < 256) (hs : w.rangeAt g o (V8 l)) :
    Calls Tryd.prog 109 #[.slice (some ⟨g, o, none⟩) 64 xc] w fun e w' => e = .returned (.agg (V64 (wl l 48)).toArray) ∧ Fr (fun _ => False) w w' := by
  have hz1 := zero_w64
  have hsrc : ∀ j, j < 64 → w.cell? ⟨g, o + j, none⟩ = some (.int .u8 ((l.getD j 0 : Nat) : Int)) := fun j hj => hs j _ (by
    rw [V8, List.getElem?_map, List.getElem?_eq_getElem (by omega), Option.map_some, List.getD, List.getElem?_eq_getElem (by omega), Option.getD_some])
  have hgl : g < w.heap.size := lt_of_cell (hsrc 0 (by decide))
  have HS := hide (And.intro hsrc (And.intro hb hgl))
  clear hs hsrc hb hgl
  go_enter Tryd.func109, Tryd.ntmps109
  go_wp2_with fail
  go_loopw [4] (fun i wr => ∃ k : Nat, k ≤ 64 ∧ i = .int .i64 k ∧ InvT w wr w.heap.size (fun j => if j < k then ww l j else 0)) (fun i _ => 64 - (intOf i).toNat)
  case atStart => exact ⟨0, Nat.zero_le _, rfl, InvT.congr (start_T w _ _) (fun j _ => by simp)⟩
  case round =>
    obtain ⟨k, hk, rfl, hI⟩ := hrel
    rename World => wr
    by_cases hlt : k < 64
    · have hlt' : (k : Int) < 64 := by omega
      by_cases h16 : k < 16
      · have h16' : (k : Int) < 16 := by omega
        have hc : ∀ j, j < 64 → wr.cell? ⟨g, o + j, none⟩ = some (.int .u8 ((l.getD j 0 : Nat) : Int)) := fun j hj => (hI.fr.cell (p := ⟨g, o + j, none⟩) (unhide HS).2.2 (fun h => h)).trans ((unhide HS).1 j hj)
        have c0 := hc (4 * k) (by omega)
        have c1 := hc (4 * k + 1) (by omega)
        have c2 := hc (4 * k + 2) (by omega)
        have c3 := hc (4 * k + 3) (by omega)
        have d0 : wr.cell? ⟨w.heap.size + 1, k, none⟩ = some (.int .u64 (((if k < k then ww l k else 0) : Nat) : Int)) := hI.to k (by omega)
        have z0 := hI.fz k
        have hne : ¬ g = w.heap.size + 1 := by have := (unhide HS).2.2; omega
        have b0 := (unhide HS).2.1 (4 * k)
        have b1 := (unhide HS).2.1 (4 * k + 1)
        have b2 := (unhide HS).2.1 (4 * k + 2)
        have b3 := (unhide HS).2.1 (4 * k + 3)
        have hwe := gword_eq _ _ _ _ b0 b1 b2 b3
        have HI := hide (And.intro hI (show ww l k = (l.getD (4 * k) 0 * 16777216 ||| l.getD (4 * k + 1) 0 * 65536 ||| l.getD (4 * k + 2) 0 * 256 ||| l.getD (4 * k + 3) 0) from ww_lo l k h16))
        clear hI hc
        generalize l.getD (4 * k) 0 = x0 at *
        generalize l.getD (4 * k + 1) 0 = x1 at *
        generalize l.getD (4 * k + 2) 0 = x2 at *
        generalize l.getD (4 * k + 3) 0 = x3 at *
        have HE := hide hwe
        clear hwe
        have i0 : (0 : Int) ≤ (k : Int) := by omega
        have j0 : (0 : Int) ≤ 4 * (k : Int) := by omega
        have m0 : 4 * (k : Int) < 64 := by omega
        have n0 : (4 * (k : Int)).toNat = 4 * k := by omega
        have r0 : IntKind.i64.wrap (4 * (k : Int)) = 4 * (k : Int) := by rw [IntKind.wrap_i64]; omega
        have j1 : (0 : Int) ≤ 4 * (k : Int) + 1 := by omega
        have m1 : 4 * (k : Int) + 1 < 64 := by omega
        have n1 : (4 * (k : Int) + 1).toNat = 4 * k + 1 := by omega
        have r1 : IntKind.i64.wrap (4 * (k : Int) + 1) = 4 * (k : Int) + 1 := by rw [IntKind.wrap_i64]; omega
        have j2 : (0 : Int) ≤ 4 * (k : Int) + 2 := by omega
        have m2 : 4 * (k : Int) + 2 < 64 := by omega
        have n2 : (4 * (k : Int) + 2).toNat = 4 * k + 2 := by omega
        have r2 : IntKind.i64.wrap (4 * (k : Int) + 2) = 4 * (k : Int) + 2 := by rw [IntKind.wrap_i64]; omega
        have j3 : (0 : Int) ≤ 4 * (k : Int) + 3 := by omega
        have m3 : 4 * (k : Int) + 3 < 64 := by omega
        have n3 : (4 * (k : Int) + 3).toNat = 4 * k + 3 := by omega
        have r3 : IntKind.i64.wrap (4 * (k : Int) + 3) = 4 * (k : Int) + 3 := by rw [IntKind.wrap_i64]; omega
        go_wp2_with fail
        go_region_held3 (fun w' => w'.cell? ⟨g, o + (4 * k), none⟩ = some (.int .u8 x0) ∧ w'.cell? ⟨g, o + (4 * k + 1), none⟩ = some (.int .u8 x1) ∧ w'.cell? ⟨g, o + (4 * k + 2), none⟩ = some (.int .u8 x2) ∧ w'.cell? ⟨g, o + (4 * k + 3), none⟩ = some (.int .u8 x3)) (first | (refine ⟨?_, ?_, ?_, ?_⟩ <;> (rw [World.cell?_drew, World.cell?_setCell_other _ _ _ _ (by intro h; injection h with h1 _ _; omega)]; assumption)) | go_keep) (fail)
        rw [unhide HE]
        go_wp2_with fail
        refine ⟨⟨k + 1, by omega, by go_num, InvT.congr (InvT.put (unhide HI).1 k _ (by omega) 1) (fun j hj => ?_)⟩, by simp [intOf]; omega⟩
        by_cases e : j = k
        · subst e
          rw [if_pos rfl, if_pos (by omega)]
          exact (unhide HI).2.symm
        · rw [if_neg e]
          by_cases h : j < k
          · rw [if_pos h, if_pos (by omega)]
          · rw [if_neg h, if_neg (by omega)]
      · have h16' : ¬ (k : Int) < 16 := by omega
        have hto : ∀ j, j < k → wr.cell? ⟨w.heap.size + 1, j, none⟩ = some (.int .u64 ((ww l j : Nat) : Int)) := fun j hj => by
          have := hI.to j (by omega)
          simp only [if_pos hj] at this
          exact this
        have e2 := hto (k - 2) (by omega)
        have e15 := hto (k - 15) (by omega)
        have e7 := hto (k - 7) (by omega)
        have e16 := hto (k - 16) (by omega)
        have e0 : wr.cell? ⟨w.heap.size + 1, k, none⟩ = some (.int .u64 (((if k < k then ww l k else 0) : Nat) : Int)) := hI.to k (by omega)
        have z0 := hI.fz k
        have b2 := ww_lt l (unhide HS).2.1 (k - 2)
        have b15 := ww_lt l (unhide HS).2.1 (k - 15)
        have b7 := ww_lt l (unhide HS).2.1 (k - 7)
        have b16 := ww_lt l (unhide HS).2.1 (k - 16)
        have HQ := hide (And.intro hI (ww_hi l k (by omega) hlt))
        clear hI hto
        generalize ww l (k - 2) = y2 at *
        generalize ww l (k - 15) = y15 at *
        generalize ww l (k - 7) = y7 at *
        generalize ww l (k - 16) = y16 at *
        have i0 : (0 : Int) ≤ (k : Int) := by omega
        have j2 : (0 : Int) ≤ (k : Int) - 2 := by omega
        have m2 : (k : Int) - 2 < 64 := by omega
        have n2 : ((k : Int) - 2).toNat = k - 2 := by omega
        have r2 : IntKind.i64.wrap ((k : Int) - 2) = (k : Int) - 2 := by rw [IntKind.wrap_i64]; omega
        have j15 : (0 : Int) ≤ (k : Int) - 15 := by omega
        have m15 : (k : Int) - 15 < 64 := by omega
        have n15 : ((k : Int) - 15).toNat = k - 15 := by omega
        have r15 : IntKind.i64.wrap ((k : Int) - 15) = (k : Int) - 15 := by rw [IntKind.wrap_i64]; omega
        have j7 : (0 : Int) ≤ (k : Int) - 7 := by omega
        have m7 : (k : Int) - 7 < 64 := by omega
        have n7 : ((k : Int) - 7).toNat = k - 7 := by omega
        have r7 : IntKind.i64.wrap ((k : Int) - 7) = (k : Int) - 7 := by rw [IntKind.wrap_i64]; omega
        have j16 : (0 : Int) ≤ (k : Int) - 16 := by omega
        have m16 : (k : Int) - 16 < 64 := by omega
        have n16 : ((k : Int) - 16).toNat = k - 16 := by omega
        have r16 : IntKind.i64.wrap ((k : Int) - 16) = (k : Int) - 16 := by rw [IntKind.wrap_i64]; omega
        go_wp2_with fail
        refine (tur_17 y2 _ b2).mono ?_
        rintro e w' ⟨rfl, rfl⟩
        go_wp2_with fail
        refine (tur_19 y2 _ b2).mono ?_
        rintro e w' ⟨rfl, rfl⟩
        have q2 : (y2 : Int) / 1024 = ((y2 / 1024 : Nat) : Int) := by omega
        have p2 := x3_eq (rr y2 17) (rr y2 19) (y2 / 1024) (rr_lt _ _ b2) (rr_lt _ _ b2) (by omega)
        rw [← s1, ← q2] at p2
        clear q2
        go_wp2_with fail
        refine (tur_7 y15 _ b15).mono ?_
        rintro e w' ⟨rfl, rfl⟩
        go_wp2_with fail
        refine (tur_18 y15 _ b15).mono ?_
        rintro e w' ⟨rfl, rfl⟩
        have q15 : (y15 : Int) / 8 = ((y15 / 8 : Nat) : Int) := by omega
        have p15 := x3_eq (rr y15 7) (rr y15 18) (y15 / 8) (rr_lt _ _ b15) (rr_lt _ _ b15) (by omega)
        rw [← s0, ← q15] at p15
        clear q15
        have hs1 : s1 y2 < 4294967296 := s_lt _ _ _ (rr_lt _ _ b2) (rr_lt _ _ b2) (by omega)
        have hs0 : s0 y15 < 4294967296 := s_lt _ _ _ (rr_lt _ _ b15) (rr_lt _ _ b15) (by omega)
        generalize s1 y2 = S1 at *
        generalize s0 y15 = S0 at *
        have a1 : IntKind.u64.wrap ((S1 : Int) + (y7 : Int)) = (S1 : Int) + (y7 : Int) := by rw [IntKind.wrap_u64]; omega
        have a2 : IntKind.u64.wrap ((S1 : Int) + (y7 : Int) + (S0 : Int)) = (S1 : Int) + (y7 : Int) + (S0 : Int) := by rw [IntKind.wrap_u64]; omega
        have a3 : IntKind.u64.wrap ((S1 : Int) + (y7 : Int) + (S0 : Int) + (y16 : Int)) = (S1 : Int) + (y7 : Int) + (S0 : Int) + (y16 : Int) := by rw [IntKind.wrap_u64]; omega
        have HA := hide (show bits .and .u64 ((S1 : Int) + (y7 : Int) + (S0 : Int) + (y16 : Int)) 4294967295 = (((S1 + y7 + S0 + y16) % 4294967296 : Nat) : Int) from and_all (S1 + y7 + S0 + y16) (by omega))
        have l7 : (7 : Int) ≤ (k : Int) := by omega
        have l16 : (16 : Int) ≤ (k : Int) := by omega
        go_wp2_with fail
        go_region_held3 (fun w' => w'.cell? ⟨w.heap.size + 1, k - 7, none⟩ = some (.int .u64 y7) ∧ w'.cell? ⟨w.heap.size + 1, k - 16, none⟩ = some (.int .u64 y16)) (refine ⟨?_, ?_⟩ <;> first | (simp only [World.cell?_drew]; assumption) | (exact keep_far (by omega) (by simpa using e7)) | (exact keep_far (by omega) (by simpa using e16))) (fail)
        rw [unhide HA]
        have hput := InvT.congr (InvT.put (unhide HQ).1 k ((S1 + y7 + S0 + y16) % 4294967296) (by omega) 1) (f' := fun j => if j < k + 1 then ww l j else 0) (fun j hj => by
          by_cases e : j = k
          · subst e
            rw [if_pos rfl, if_pos (by omega)]
            exact (unhide HQ).2.symm
          · rw [if_neg e]
            by_cases h : j < k
            · rw [if_pos h, if_pos (by omega)]
            · rw [if_neg h, if_neg (by omega)])
        have HP := hide hput
        clear hput
        go_wp2_with fail
        exact ⟨⟨k + 1, by omega, by go_num, unhide HP⟩, by simp [intOf]; omega⟩
    · obtain rfl : k = 64 := by omega
      obtain ⟨cs, hcs, hlen, hrg, hth, hone, hend, hFr⟩ := gsched_end l w wr (hI.congr (fun j hj => by rw [if_pos hj]))
      have hi : (Tryd.prog.info? 139).map (·.size) = some cs.length := by rw [hlen]; exact info_w64
      have hi2 : (Tryd.prog.info? 139).map (·.size) = some cs.toArray.size := by rw [List.size_toArray, hlen]; exact info_w64
      have HE := hide (And.intro hend (And.intro hFr (And.intro hcs (And.intro hi (And.intro hi2 (And.intro hrg (And.intro hth hone)))))))
      clear hend hFr hI hcs hlen hi hi2 hrg hth hone
      go_wp2_with (first
        | (refine wpList_load_mid rfl 139 (.tmp 3) rfl (w.heap.size + 1) 0 rfl cs _ (unhide HE).2.2.2.2.2.1 Tryd.underlying139 rfl (unhide HE).2.2.2.1 ?_)
        | (refine wpList_store_mid rfl 139 (.tmp 2) (.tmp 90) rfl w.heap.size 0 cs.toArray rfl rfl (unhide HE).2.2.2.2.2.2.1 (unhide HE).2.2.2.2.1 (unhide HE).2.2.2.2.2.2.2 ?_))
      refine bodyPost_ret (results_cell_mid rfl _ _ w.heap.size 0 cs _ rfl (unhide HE).1 Tryd.underlying139 rfl (unhide HE).2.2.2.1) rfl ?_
      exact ⟨by rw [(unhide HE).2.2.1], (unhide HE).2.1⟩
end Go.Proofs.YthccbfgjekdiiaaDoor
