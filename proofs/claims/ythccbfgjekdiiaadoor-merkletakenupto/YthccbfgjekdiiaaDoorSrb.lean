import Derived.Test.YthccbfgjekdiiaaDoorSra
import Derived.Test.YthccbfgjekdiiaaDoorSbn
namespace Go.Proofs.YthccbfgjekdiiaaDoor
open Go.RowKit

theorem zero_h64 (w : World) : (zeroValue 137).run Tryd.prog w = .ok (.agg (Array.replicate 8 (.int .u64 0))) w := by kernel_rfl
theorem info_h64 : (Tryd.prog.info? 137).map (·.size) = some 8 := by kernel_rfl
/-- The package's variables of the document's own hash. -/
def GR (w : World) : Prop := NumsAt w 5 .u64 64 kf ∧ NumsAt w 2 .u64 8 (fun j => st0.vals.getD j 0) ∧ 6 ≤ w.heap.size
theorem GR.fr {w w' : World} {S : Nat → Prop} (h : GR w) (hf : Fr S w w') (hS : ∀ k, k < 6 → ¬ S k) : GR w' :=
  ⟨fun j hj => (hf.cell (p := ⟨5, j, none⟩) (Nat.lt_of_lt_of_le (show 5 < 6 by decide) h.2.2) (hS _ (show 5 < 6 by decide))).trans (h.1 j hj),
   fun j hj => (hf.cell (p := ⟨2, j, none⟩) (Nat.lt_of_lt_of_le (show 2 < 6 by decide) h.2.2) (hS _ (show 2 < 6 by decide))).trans (h.2.1 j hj), Nat.le_trans h.2.2 hf.size⟩
theorem GR.fr0 {w w' : World} (h : GR w) (hf : Fr (fun _ => False) w w') : GR w' := h.fr hf (fun _ _ h => h)
theorem size_setC (b : Nat) : ∀ (vs : List Value) (o : Nat) (w : World), (w.setCells b o vs).heap.size = w.heap.size
  | [], _, _ => rfl
  | v :: r, o, w => by rw [World.setCells, size_setC b r]; simp
theorem V64_get (l : List Nat) (j : Nat) (hj : j < l.length) : (V64 l)[j]? = some (.int .u64 ((l.getD j 0 : Nat) : Int)) := by
  rw [V64, List.getElem?_map, List.getElem?_eq_getElem hj, Option.map_some, List.getD, List.getElem?_eq_getElem hj, Option.getD_some]
/-- Eight words in a block that may be written. -/
structure Et8 (w : World) (g : Nat) (r : S8) : Prop where
  at_ : ∀ j, j < 8 → w.cell? ⟨g, j, none⟩ = some (.int .u64 ((r.vals.getD j 0 : Nat) : Int))
  fz : ∀ j, j < 8 → w.frozen? ⟨g, j, none⟩ = false
theorem Et8.fr {w w' : World} {g : Nat} {r : S8} {S : Nat → Prop} (h : Et8 w g r) (hf : Fr S w w') (hS : ¬ S g) : Et8 w' g r :=
  ⟨fun j hj => (hf.cell (p := ⟨g, j, none⟩) (lt_of_cell (h.at_ j hj)) hS).trans (h.at_ j hj), fun j hj => (hf.frozen (p := ⟨g, j, none⟩) (lt_of_cell (h.at_ j hj)) hS).trans (h.fz j hj)⟩
theorem Et8.there {w : World} {g : Nat} {r : S8} (h : Et8 w g r) : w.there g 0 8 := fun j hj => by
  rw [Nat.zero_add, h.at_ j hj, h.fz j hj]; exact ⟨rfl, rfl⟩
theorem Et8.range {w : World} {g : Nat} {r : S8} (h : Et8 w g r) : w.rangeAt g 0 (V64 r.vals) := fun j v hv => by
  obtain ⟨hj, rfl⟩ := V64_at _ j v hv
  rw [Nat.zero_add]; exact h.at_ j hj
theorem Et8.put {w : World} {g : Nat} (ht : w.there g 0 8) (s : S8) : Et8 (w.setCells g 0 (V64 s.vals)) g s := by
  refine ⟨fun j hj => ?_, fun j hj => ?_⟩
  · have := World.rangeAt_setCells_same w g 0 (V64 s.vals) (by rw [V64_len]; exact ht) j _ (V64_get s.vals j hj)
    rwa [Nat.zero_add] at this
  · rw [World.frozen?_setCells]
    have := (ht j hj).2
    rwa [Nat.zero_add] at this
theorem Et8.lt {w : World} {g : Nat} {r : S8} (h : Et8 w g r) : g < w.heap.size := lt_of_cell (h.at_ 0 (by decide))
theorem rep8u (j : Nat) (h : j < 8) : (Array.replicate 8 (Value.int .u64 0))[j]? = some (.int .u64 0) := by rw [Array.getElem?_replicate, if_pos h]
theorem et8_new (w : World) (t : TypeId) (s : S8) : Et8 (w.alloc (.cells (V64 s.vals).toArray t)) w.heap.size s := by
  refine ⟨fun j hj => ?_, fun j hj => ?_⟩
  · rw [World.cell?_alloc_at _ _ _ _ rfl, List.getElem?_toArray, V64_get s.vals j hj]
  · rw [World.frozen?_alloc_at _ _ _ _ rfl]
theorem et8_zero (w : World) (t : TypeId) : Et8 (w.alloc (.cells (Array.replicate 8 (.int .u64 0)) t)) w.heap.size ⟨0, 0, 0, 0, 0, 0, 0, 0⟩ := et8_new w t ⟨0, 0, 0, 0, 0, 0, 0, 0⟩
/-- The words are laid into a block of their own. -/
theorem lay_words64 (l : List Nat) (w1 : World) : ∃ (cs : List Value) (w3 : World), V64 (wl l 48) = cs ∧ (w1.alloc (.cells (Array.replicate 64 (.int .u64 0)) 139)).there w1.heap.size 0 cs.toArray.size ∧
    (Tryd.prog.info? 139).map (·.size) = some cs.toArray.size ∧ cs.toArray.all (·.oneCell') = true ∧
    (w1.alloc (.cells (Array.replicate 64 (.int .u64 0)) 139)).setCells w1.heap.size 0 cs = w3 ∧ NumsAt w3 w1.heap.size .u64 64 (ww l) ∧ Fr (fun _ => False) w1 w3 ∧ w3.heap.size = w1.heap.size + 1 := by
  obtain ⟨cs, hcs⟩ : ∃ cs, V64 (wl l 48) = cs := ⟨_, rfl⟩
  have hlen : cs.length = 64 := by rw [← hcs, V64_len, wl_len]
  have hone : ∀ v ∈ cs, v.oneCell' = true := by rw [← hcs]; exact V64_one _
  have hth : (w1.alloc (.cells (Array.replicate 64 (.int .u64 0)) 139)).there w1.heap.size 0 cs.length := fun j hj => by
    rw [Nat.zero_add, World.cell?_alloc_at _ _ _ _ rfl, World.frozen?_alloc_at _ _ _ _ rfl, rep64u j (by omega)]
    exact ⟨rfl, rfl⟩
  refine ⟨cs, _, hcs, by rw [List.size_toArray]; exact hth, by rw [List.size_toArray, hlen]; exact info_w64, all_oneCell_toArray hone, rfl, fun j hj => ?_, Fr.setCells ((Fr.refl _ _).alloc _) (.inr (Nat.le_refl _)) _, by rw [size_setC]; simp⟩
  have := World.rangeAt_setCells_same (w1.alloc (.cells (Array.replicate 64 (.int .u64 0)) 139)) w1.heap.size 0 cs hth j (.int .u64 ((ww l j : Nat) : Int)) (by
    rw [← hcs]; exact V64_get _ j (by rw [wl_len]; exact hj))
  rw [Nat.zero_add] at this
  exact this
/-- Within folded's first loop. -/
structure FI (w3 wr : World) (gv : Nat) (r : S8) : Prop where
  e : Et8 wr gv r
  fr : Fr (fun k => k = gv) w3 wr
theorem FI.put {w3 wr : World} {gv : Nat} {r s : S8} (h : FI w3 wr gv r) (n : Nat) : FI w3 ((wr.drewN n).setCells gv 0 (V64 s.vals)) gv s := by
  have hd : Fr (fun k => k = gv) w3 (wr.drewN n) := ⟨h.fr.os, h.fr.tape, h.fr.output, h.fr.size, h.fr.block⟩
  refine ⟨Et8.put (fun j hj => ?_) s, Fr.setCells hd (.inl rfl) _⟩
  rw [World.cell?_drewN, World.frozen?_drewN]; exact h.e.there j hj
theorem FI.put2 {w3 wr : World} {gv : Nat} {r : S8} (h : FI w3 wr gv r) (s : S8) : FI w3 (wr.drew.drew.setCells gv 0 (V64 s.vals)) gv s := by
  have hd : Fr (fun k => k = gv) w3 wr.drew.drew := ⟨h.fr.os, h.fr.tape, h.fr.output, h.fr.size, h.fr.block⟩
  have ht : wr.drew.drew.there gv 0 8 := fun j hj => h.e.there j hj
  exact ⟨Et8.put ht s, Fr.setCells hd (.inl rfl) _⟩
/-- Within folded's second loop. -/
structure FJ (w4 wr : World) (g gv : Nat) (f : Nat → Nat) (r : S8) : Prop where
  e : Et8 wr gv r
  h : NumsAt wr g .u64 8 f
  fz : ∀ j, j < 8 → wr.frozen? ⟨g, j, none⟩ = false
  fr : Fr (fun k => k = gv ∨ k = g) w4 wr
theorem FJ.put {w4 wr : World} {g gv : Nat} {f : Nat → Nat} {r : S8} (h : FJ w4 wr g gv f r) (hne : ¬ g = gv) (k v : Nat) : FJ w4 (wr.setCell ⟨g, k, none⟩ (.int .u64 (v : Int))).drew g gv (fun j => if j = k then v else f j) r := by
  have h0 : Fr (fun k => k = g) wr (wr.setCell ⟨g, k, none⟩ (.int .u64 (v : Int))) := Fr.setCell (S := fun k => k = g) (Fr.refl _ _) (p := ⟨g, k, none⟩) (.inl rfl) _
  have h1 : Fr (fun k => k = g) wr (wr.setCell ⟨g, k, none⟩ (.int .u64 (v : Int))).drew := ⟨h0.os, h0.tape, h0.output, h0.size, h0.block⟩
  refine ⟨h.e.fr h1 (fun e => hne e.symm), fun j hj => ?_, fun j hj => ?_, h.fr.trans (h1.mono (T := fun k => k = gv ∨ k = g) (fun _ _ h => .inr h)) (fun _ _ h => h)⟩
  · rw [World.cell?_drew]
    by_cases e : j = k
    · subst e
      rw [World.cell?_setCell_same _ _ _ (h.h j hj), if_pos rfl]
    · rw [World.cell?_setCell_other _ _ _ _ (by intro h; injection h with _ h2 _; exact e h2.symm), if_neg e]; exact h.h j hj
  · rw [World.frozen?_drew, World.frozen?_setCell]; exact h.fz j hj
theorem FJ.congr {w4 wr : World} {g gv : Nat} {f f' : Nat → Nat} {r : S8} (h : FJ w4 wr g gv f r) (e : ∀ j, j < 8 → f j = f' j) : FJ w4 wr g gv f' r :=
  ⟨h.e, fun j hj => by rw [← e j hj]; exact h.h j hj, h.fz, h.fr⟩
theorem add_vals (s r : S8) (j : Nat) (hj : j < 8) : (s.add r).vals.getD j 0 = (s.vals.getD j 0 + r.vals.getD j 0) % 4294967296 := by
  match j, hj with
  | 0, _ | 1, _ | 2, _ | 3, _ | 4, _ | 5, _ | 6, _ | 7, _ => rfl
theorem vals_lt (s : S8) (h : s.ok) (j : Nat) (hj : j < 8) : s.vals.getD j 0 < 4294967296 := by
  obtain ⟨h0, h1, h2, h3, h4, h5, h6, h7⟩ := h
  match j, hj with
  | 0, _ => exact h0
  | 1, _ => exact h1
  | 2, _ => exact h2
  | 3, _ => exact h3
  | 4, _ => exact h4
  | 5, _ => exact h5
  | 6, _ => exact h6
  | 7, _ => exact h7
set_option maxRecDepth 100000 in
set_option maxHeartbeats 16000000 in
theorem gfold_any (s : S8) (l : List Nat) (g o xc : Nat) (w : World) (hs : s.ok) (hl : l.length = 64) (hb : ∀ j, l.getD j 0 < 256) (hx : w.rangeAt g o (V8 l)) (hk : GR w) :
    Calls Tryd.prog 105 #[.agg (V64 s.vals).toArray, .slice (some ⟨g, o, none⟩) 64 xc] w fun e w' => e = .returned (.agg (V64 (fo s l).vals).toArray) ∧ Fr (fun _ => False) w w' := by
  have hz1 := zero_h64
  have hz2 := zero_w64
  have HK := hide (And.intro hk (And.intro hs (And.intro hl (And.intro hb hx))))
  clear hk hs hl hb hx
  obtain ⟨w0, hw0⟩ : ∃ w0, (w.alloc (.cells (V64 s.vals).toArray 137)).alloc (.cells (Array.replicate 8 (.int .u64 0)) 137) = w0 := ⟨_, rfl⟩
  have hF0 : Fr (fun _ => False) w w0 := by rw [← hw0]; exact ((Fr.refl _ _).alloc _).alloc _
  have hsz0 : w0.heap.size = w.heap.size + 1 + 1 := by rw [← hw0]; simp
  have h0 : Et8 w0 w.heap.size s := by rw [← hw0]; exact (et8_new w _ s).fr (S := fun _ => False) ((Fr.refl _ _).alloc _) (fun h => h)
  have h1 : Et8 w0 (w.heap.size + 1) ⟨0, 0, 0, 0, 0, 0, 0, 0⟩ := by
    have := et8_zero (w.alloc (.cells (V64 s.vals).toArray 137)) 137
    rw [hw0] at this
    simpa using this
  have hl0 : 0 < (V8 l).length := by rw [V8_len, (unhide HK).2.2.1]; decide
  have hgl : g < w.heap.size := lt_of_cell ((unhide HK).2.2.2.2 0 _ (List.getElem?_eq_getElem hl0))
  have hx0 : w0.rangeAt g o (V8 l) := fun j v hv => (hF0.cell (p := ⟨g, o + j, none⟩) hgl (fun h => h)).trans ((unhide HK).2.2.2.2 j v hv)
  have HW := hide (And.intro hF0 (And.intro hsz0 (And.intro h0 (And.intro h1 hx0))))
  clear hF0 hsz0 h0 h1 hx0 hgl hl0
  have hva : (V64 s.vals).toArray.size = 8 := rfl
  generalize hVV : (V64 s.vals).toArray = VV at *
  go_enter Tryd.func105, Tryd.ntmps105
  go_wp2_with fail
  clear hw0
  refine (gsched_any l g o xc w0 (unhide HK).2.2.1 (unhide HK).2.2.2.1 (unhide HW).2.2.2.2).mono ?_
  rintro e w1 ⟨rfl, hF1⟩
  obtain ⟨cs, w3, hcs, hth, hi, hone, hw3, hn3, hF3, hs3⟩ := lay_words64 l w1
  rw [hcs]
  have hF13 := hF1.trans hF3 (fun _ _ h => h)
  have he3 := (unhide HW).2.2.1.fr hF13 (fun h => h)
  have hr3 := (unhide HW).2.2.2.1.fr hF13 (fun h => h)
  have hi8 : (Tryd.prog.info? 137).map (·.size) = some (V64 s.vals).length := info_h64
  obtain ⟨w4, hw4⟩ : ∃ w4, (w3.alloc (.cells (Array.replicate 8 (.int .u64 0)) 137)).setCells w3.heap.size 0 (V64 s.vals) = w4 := ⟨_, rfl⟩
  have h4a := et8_zero w3 137
  have h4 : Et8 w4 w3.heap.size s := by rw [← hw4]; exact Et8.put h4a.there s
  have hF34 : Fr (fun _ => False) w3 w4 := by rw [← hw4]; exact Fr.setCells ((Fr.refl _ _).alloc _) (.inr (Nat.le_refl _)) _
  have hs4 : w4.heap.size = w3.heap.size + 1 := by rw [← hw4, size_setC]; simp
  have H3 := hide (And.intro hth (And.intro hi (And.intro hone (And.intro he3.range (And.intro hi8 (And.intro h4a.there (And.intro (all_oneCell_toArray (V64_one s.vals)) hw4)))))))
  have hgr : GR w4 := (((unhide HK).1.fr0 (unhide HW).1).fr0 hF13).fr0 hF34
  have hn4 : NumsAt w4 w1.heap.size .u64 64 (ww l) := fun j hj => (hF34.cell (p := ⟨w1.heap.size, j, none⟩) (lt_of_cell (hn3 j hj)) (fun h => h)).trans (hn3 j hj)
  have hz := hF1.size
  have H4 := hide (And.intro h4 (And.intro hgr (And.intro hn4 (And.intro (he3.fr hF34 (fun h => h)) (And.intro (hr3.fr hF34 (fun h => h)) (And.intro (((unhide HW).1.trans hF13 (fun _ _ h => h)).trans hF34 (fun _ _ h => h)) (And.intro hs4 (And.intro hs3 (And.intro hz (unhide HW).2.1)))))))))
  clear hcs hth hi hone hn3 hF1 hF3 hF13 he3 hr3 hi8 hw4 h4a h4 hF34 hs4 hgr hn4 hs3 HW hz
  subst hVV
  go_wp2_with (first
    | (refine wpList_store_mid rfl 139 (.tmp 5) (.tmp 14) rfl w1.heap.size 0 cs.toArray rfl rfl (unhide H3).1 (unhide H3).2.1 (unhide H3).2.2.1 ?_; rw [show cs.toArray.toList = cs from rfl, hw3])
    | (refine wpList_load_mid rfl 137 (.tmp 2) rfl w.heap.size 0 rfl (V64 s.vals) _ (unhide H3).2.2.2.1 Tryd.underlying137 rfl (unhide H3).2.2.2.2.1 ?_)
    | (refine wpList_store_mid rfl 137 (.tmp 6) (.tmp 15) rfl w3.heap.size 0 (V64 s.vals).toArray rfl rfl (unhide H3).2.2.2.2.2.1 (unhide H3).2.2.2.2.1 (unhide H3).2.2.2.2.2.2.1 ?_; rw [show (V64 s.vals).toArray.toList = V64 s.vals from rfl, (unhide H3).2.2.2.2.2.2.2]))
  clear hw3 H3
  go_loopw [7] (fun i wr => ∃ (n : Nat) (r : S8), n ≤ 64 ∧ i = .int .i64 n ∧ r = rnds kf (ww l) s n ∧ FI w4 wr w3.heap.size r) (fun i _ => 64 - (intOf i).toNat)
  case atStart => exact ⟨0, s, Nat.zero_le _, rfl, rfl, (unhide H4).1, Fr.refl _ _⟩
  case round =>
    obtain ⟨n, r, hn, rfl, hr, hI⟩ := hrel
    rename World => wr
    by_cases hlt : n < 64
    · have hok : r.ok := by rw [hr]; exact rnds_ok _ _ _ (unhide HK).2.1 n
      have hrn : rnds kf (ww l) s (n + 1) = rnd r (kf n) (ww l n) := by rw [hr]; rfl
      have hg4 : 6 ≤ w3.heap.size := by have h1 := (unhide H4).2.2.2.2.2.2.2.2.1; have h2 := (unhide H4).2.2.2.2.2.2.2.1; have h3 := (unhide HK).1.2.2; have h4 := (unhide H4).2.2.2.2.2.2.2.2.2; omega
      have ck : wr.cell? ⟨5, n, none⟩ = some (.int .u64 (kf n : Nat)) := ((unhide H4).2.1.fr hI.fr (fun k hk => by omega)).1 n hlt
      have cw : wr.cell? ⟨w1.heap.size, n, none⟩ = some (.int .u64 (ww l n : Nat)) := (hI.fr.cell (p := ⟨w1.heap.size, n, none⟩) (lt_of_cell ((unhide H4).2.2.1 n hlt)) (by have h2 := (unhide H4).2.2.2.2.2.2.2.1; show ¬ w1.heap.size = w3.heap.size; omega)).trans ((unhide H4).2.2.1 n hlt)
      have bk := kf_lt n hlt
      have bw := ww_lt l (unhide HK).2.2.2.1 n
      have HR := hide hrn
      clear hr hrn hg4
      generalize kf n = K at *
      generalize ww l n = W at *
      obtain ⟨A, B1, C, D, E, F1, G, H⟩ := r
      obtain ⟨bA, bB, bC, bD, bE, bF, bG, bH⟩ := hok
      simp only at bA bB bC bD bE bF bG bH
      have c0 : wr.cell? ⟨w3.heap.size, 0, none⟩ = some (.int .u64 (A : Nat)) := hI.e.at_ 0 (by decide)
      have c1 : wr.cell? ⟨w3.heap.size, 1, none⟩ = some (.int .u64 (B1 : Nat)) := hI.e.at_ 1 (by decide)
      have c2 : wr.cell? ⟨w3.heap.size, 2, none⟩ = some (.int .u64 (C : Nat)) := hI.e.at_ 2 (by decide)
      have c3 : wr.cell? ⟨w3.heap.size, 3, none⟩ = some (.int .u64 (D : Nat)) := hI.e.at_ 3 (by decide)
      have c4 : wr.cell? ⟨w3.heap.size, 4, none⟩ = some (.int .u64 (E : Nat)) := hI.e.at_ 4 (by decide)
      have c5 : wr.cell? ⟨w3.heap.size, 5, none⟩ = some (.int .u64 (F1 : Nat)) := hI.e.at_ 5 (by decide)
      have c6 : wr.cell? ⟨w3.heap.size, 6, none⟩ = some (.int .u64 (G : Nat)) := hI.e.at_ 6 (by decide)
      have c7 : wr.cell? ⟨w3.heap.size, 7, none⟩ = some (.int .u64 (H : Nat)) := hI.e.at_ 7 (by decide)
      have r6 := rr_lt E 6 bE
      have r11 := rr_lt E 11 bE
      have r25 := rr_lt E 25 bE
      have r2 := rr_lt A 2 bA
      have r13 := rr_lt A 13 bA
      have r22 := rr_lt A 22 bA
      have f2 := x3_eq _ _ _ r6 r11 r25
      have f3 := u64_and_nat E F1 (by omega) (by omega)
      have f4 : bits .xor .u64 4294967295 (E : Int) = ((E ^^^ 4294967295 : Nat) : Int) := by
        rw [show (4294967295 : Int) = ((4294967295 : Nat) : Int) from rfl, u64_xor_nat _ _ (by decide) (by omega), Nat.xor_comm]
      have bN := xor_lt32 E 4294967295 bE (by decide)
      have f5 := u64_and_nat (E ^^^ 4294967295) G (by omega) (by omega)
      have a2 := and_lt32 E F1 bE
      have a3 := and_lt32 (E ^^^ 4294967295) G bN
      have f6 := u64_xor_nat (E &&& F1) ((E ^^^ 4294967295) &&& G) (by omega) (by omega)
      have a4 := xor_lt32 _ _ a2 a3
      have a1 := s_lt _ _ _ r6 r11 r25
      have hx : rx E F1 G H K W = (H + (rr E 6 ^^^ rr E 11 ^^^ rr E 25) + ((E &&& F1) ^^^ ((E ^^^ 4294967295) &&& G)) + K + W) % 4294967296 := rfl
      have g2 := x3_eq _ _ _ r2 r13 r22
      have g3 := u64_and_nat A B1 (by omega) (by omega)
      have g4 := u64_and_nat A C (by omega) (by omega)
      have g5 := u64_and_nat B1 C (by omega) (by omega)
      have g6 := x3_eq (A &&& B1) (A &&& C) (B1 &&& C) (and_lt32 _ _ bA) (and_lt32 _ _ bA) (and_lt32 _ _ bB)
      have d1 := s_lt _ _ _ r2 r13 r22
      have d2 := s_lt (A &&& B1) (A &&& C) (B1 &&& C) (and_lt32 _ _ bA) (and_lt32 _ _ bA) (and_lt32 _ _ bB)
      have hy : ry A B1 C = ((rr A 2 ^^^ rr A 13 ^^^ rr A 22) + ((A &&& B1) ^^^ (A &&& C) ^^^ (B1 &&& C))) % 4294967296 := rfl
      clear r6 r11 r25 r2 r13 r22 bN a2 a3
      generalize rr E 6 ^^^ rr E 11 ^^^ rr E 25 = X1 at *
      generalize (E &&& F1) ^^^ ((E ^^^ 4294967295) &&& G) = X4 at *
      generalize (A &&& B1) ^^^ (A &&& C) ^^^ (B1 &&& C) = Y6 at *
      generalize rr A 2 ^^^ rr A 13 ^^^ rr A 22 = Y1 at *
      obtain ⟨XX, hXX⟩ : ∃ XX, XX = H + X1 + X4 + K + W := ⟨_, rfl⟩
      obtain ⟨YY, hYY⟩ : ∃ YY, YY = Y1 + Y6 := ⟨_, rfl⟩
      obtain ⟨Z1, hZ1⟩ : ∃ Z1, Z1 = XX + YY := ⟨_, rfl⟩
      obtain ⟨Z2, hZ2⟩ : ∃ Z2, Z2 = D + XX := ⟨_, rfl⟩
      have k1 : IntKind.u64.wrap ((H : Int) + (X1 : Int)) = (H : Int) + (X1 : Int) := by rw [IntKind.wrap_u64]; omega
      have k2 : IntKind.u64.wrap ((H : Int) + (X1 : Int) + (X4 : Int)) = (H : Int) + (X1 : Int) + (X4 : Int) := by rw [IntKind.wrap_u64]; omega
      have k3 : IntKind.u64.wrap ((H : Int) + (X1 : Int) + (X4 : Int) + (K : Int)) = (H : Int) + (X1 : Int) + (X4 : Int) + (K : Int) := by rw [IntKind.wrap_u64]; omega
      have k4 : IntKind.u64.wrap ((H : Int) + (X1 : Int) + (X4 : Int) + (K : Int) + (W : Int)) = (XX : Int) := by rw [IntKind.wrap_u64]; omega
      have k5 : IntKind.u64.wrap ((Y1 : Int) + (Y6 : Int)) = (YY : Int) := by rw [IntKind.wrap_u64]; omega
      have k6 : IntKind.u64.wrap ((XX : Int) + (YY : Int)) = (Z1 : Int) := by rw [IntKind.wrap_u64]; omega
      have k7 : IntKind.u64.wrap ((D : Int) + (XX : Int)) = (Z2 : Int) := by rw [IntKind.wrap_u64]; omega
      have k8 := and_all Z1 (by omega)
      have k9 := and_all Z2 (by omega)
      have hrnd : rnd ⟨A, B1, C, D, E, F1, G, H⟩ K W = ⟨Z1 % 4294967296, A, B1, C, Z2 % 4294967296, E, F1, G⟩ := by
        have e1 : (rx E F1 G H K W + ry A B1 C) % 4294967296 = Z1 % 4294967296 := by rw [hx, hy]; omega
        have e2 : (D + rx E F1 G H K W) % 4294967296 = Z2 % 4294967296 := by rw [hx]; omega
        unfold rnd
        simp only [e1, e2]
      generalize Z1 % 4294967296 = T1 at *
      generalize Z2 % 4294967296 = T2 at *
      have HX := hide (And.intro hrnd (And.intro hI bA))
      clear hrnd hI hx hy hXX hYY hZ1 hZ2 bA bB bC bD bF bG bH bk bw a4 a1 d1 d2
      have n64 : (n : Int) < 64 := by omega
      go_wp2_with fail
      have HL := hide (And.intro k5 (And.intro k6 (And.intro k7 (And.intro k8 (And.intro k9 (And.intro g2 (And.intro g3 (And.intro g4 (And.intro g5 g6)))))))))
      clear k5 k6 k7 k8 k9 g2 g3 g4 g5 g6
      have hT : ∀ (m : Int) (w : World), (m = 6 ∨ m = 11 ∨ m = 25) → Calls Tryd.prog 110 #[.int .u64 E, .int .i64 m] w fun e w' => e = .returned (.int .u64 (rr E m.toNat)) ∧ w' = w := fun m w hm => by
        rcases hm with rfl | rfl | rfl
        · exact tur_6 E w bE
        · exact tur_11 E w bE
        · exact tur_25 E w bE
      have HT := hide hT
      clear hT
      go_region_held3 (fun w' => w'.cell? ⟨w3.heap.size, 7, none⟩ = some (.int .u64 H) ∧ w'.cell? ⟨w3.heap.size, 5, none⟩ = some (.int .u64 F1) ∧ w'.cell? ⟨w3.heap.size, 6, none⟩ = some (.int .u64 G) ∧ w'.cell? ⟨5, n, none⟩ = some (.int .u64 K) ∧ w'.cell? ⟨w1.heap.size, n, none⟩ = some (.int .u64 W)) (first | assumption | (refine ⟨?_, ?_, ?_, ?_, ?_⟩ <;> first | assumption | (simp only [World.cell?_drew, World.cell?_drewN]; assumption) | (trace_state; fail)))
        ((go_at_call 110; refine ((unhide HT) _ _ (by decide)).mono ?_; rintro e w' ⟨rfl, rfl⟩))
      clear HT k1 k2 k3 k4 f2 f3 f4 f5 f6 ck cw bE
      obtain ⟨k5, k6, k7, k8, k9, g2, g3, g4, g5, g6⟩ := unhide HL
      have bA := (unhide HX).2.2
      have hT : ∀ (m : Int) (w : World), (m = 2 ∨ m = 13 ∨ m = 22) → Calls Tryd.prog 110 #[.int .u64 A, .int .i64 m] w fun e w' => e = .returned (.int .u64 (rr A m.toNat)) ∧ w' = w := fun m w hm => by
        rcases hm with rfl | rfl | rfl
        · exact tur_2 A w bA
        · exact tur_13 A w bA
        · exact tur_22 A w bA
      have HT := hide hT
      clear hT bA
      have q0 : wr.drew.cell? ⟨w3.heap.size, 0, none⟩ = some (.int .u64 (A : Nat)) := c0
      have q1 : wr.drew.cell? ⟨w3.heap.size, 1, none⟩ = some (.int .u64 (B1 : Nat)) := c1
      have q2 : wr.drew.cell? ⟨w3.heap.size, 2, none⟩ = some (.int .u64 (C : Nat)) := c2
      have q3 : wr.drew.cell? ⟨w3.heap.size, 3, none⟩ = some (.int .u64 (D : Nat)) := c3
      have q4 : wr.drew.cell? ⟨w3.heap.size, 4, none⟩ = some (.int .u64 (E : Nat)) := c4
      have q5 : wr.drew.cell? ⟨w3.heap.size, 5, none⟩ = some (.int .u64 (F1 : Nat)) := c5
      have q6 : wr.drew.cell? ⟨w3.heap.size, 6, none⟩ = some (.int .u64 (G : Nat)) := c6
      have q7 : wr.drew.cell? ⟨w3.heap.size, 7, none⟩ = some (.int .u64 (H : Nat)) := c7
      clear c0 c1 c2 c3 c4 c5 c6 c7
      go_wp2_with fail
      go_region_held3 (fun w' => w'.cell? ⟨w3.heap.size, 1, none⟩ = some (.int .u64 B1) ∧ w'.cell? ⟨w3.heap.size, 2, none⟩ = some (.int .u64 C)) (first | assumption | (refine ⟨?_, ?_⟩ <;> first | assumption | (simp only [World.cell?_drew, World.cell?_drewN]; assumption) | (simp only [World.cell?_drew, World.cell?_drewN] at *; assumption)))
        ((go_at_call 110; refine ((unhide HT) _ _ (by decide)).mono ?_; rintro e w' ⟨rfl, rfl⟩))
      clear HT g2 g3 g4 g5 g6 k5
      have z0 : wr.drew.drew.cell? ⟨w3.heap.size, 0, none⟩ = some (.int .u64 (A : Nat)) := q0
      have z1 : wr.drew.drew.cell? ⟨w3.heap.size, 1, none⟩ = some (.int .u64 (B1 : Nat)) := q1
      have z2 : wr.drew.drew.cell? ⟨w3.heap.size, 2, none⟩ = some (.int .u64 (C : Nat)) := q2
      have z3 : wr.drew.drew.cell? ⟨w3.heap.size, 3, none⟩ = some (.int .u64 (D : Nat)) := q3
      have z4 : wr.drew.drew.cell? ⟨w3.heap.size, 4, none⟩ = some (.int .u64 (E : Nat)) := q4
      have z5 : wr.drew.drew.cell? ⟨w3.heap.size, 5, none⟩ = some (.int .u64 (F1 : Nat)) := q5
      have z6 : wr.drew.drew.cell? ⟨w3.heap.size, 6, none⟩ = some (.int .u64 (G : Nat)) := q6
      have z7 : wr.drew.drew.cell? ⟨w3.heap.size, 7, none⟩ = some (.int .u64 (H : Nat)) := q7
      clear q0 q1 q2 q3 q4 q5 q6 q7
      obtain ⟨W5, hW5⟩ : ∃ W5, wr.drew.drew.setCells w3.heap.size 0 (V64 (S8.mk T1 A B1 C T2 E F1 G).vals) = W5 := ⟨_, rfl⟩
      have hF5 := (unhide HX).2.1.put2 ⟨T1, A, B1, C, T2, E, F1, G⟩
      rw [hW5] at hF5
      have ht5 : wr.drew.drew.there w3.heap.size 0 8 := fun j hj => (unhide HX).2.1.e.there j hj
      have hi5 : (Tryd.prog.info? 137).map (·.size) = some (#[.int .u64 (T1 : Int), .int .u64 (A : Int), .int .u64 (B1 : Int), .int .u64 (C : Int), .int .u64 (T2 : Int), .int .u64 (E : Int), .int .u64 (F1 : Int), .int .u64 (G : Int)] : Array Value).size := info_h64
      have H5 := hide (And.intro hF5 (And.intro ht5 (And.intro hi5 hW5)))
      clear hF5 ht5 hi5 hW5
      go_wp2_with (refine wpList_store_to rfl 137 (.tmp 6) (.tmp 99) rfl w3.heap.size 0 #[.int .u64 (T1 : Int), .int .u64 (A : Int), .int .u64 (B1 : Int), .int .u64 (C : Int), .int .u64 (T2 : Int), .int .u64 (E : Int), .int .u64 (F1 : Int), .int .u64 (G : Int)] rfl rfl (unhide H5).2.1 (unhide H5).2.2.1 (all_oneCell_toArray (V64_one [T1, A, B1, C, T2, E, F1, G])) W5 (unhide H5).2.2.2 ?_)
      exact ⟨⟨n + 1, _, by omega, by go_num, by rw [unhide HR, (unhide HX).1], (unhide H5).1⟩, by simp [intOf]; omega⟩
    · have hn64 : n = 64 := by omega
      have hge : ¬ (n : Int) < 64 := by omega
      rw [hn64] at hr
      clear hn64 hn hlt
      have hok : r.ok := by rw [hr]; exact rnds_ok _ _ _ (unhide HK).2.1 64
      have hne : ¬ w.heap.size = w3.heap.size := by have h1 := (unhide H4).2.2.2.2.2.2.2.2.1; have h2 := (unhide H4).2.2.2.2.2.2.2.1; have h4 := (unhide H4).2.2.2.2.2.2.2.2.2; omega
      have hne1 : ¬ w.heap.size + 1 = w3.heap.size := by have h1 := (unhide H4).2.2.2.2.2.2.2.2.1; have h2 := (unhide H4).2.2.2.2.2.2.2.1; have h4 := (unhide H4).2.2.2.2.2.2.2.2.2; omega
      have hJ : FJ w4 wr w.heap.size w3.heap.size (fun j => s.vals.getD j 0) r :=
        ⟨hI.e, ((unhide H4).2.2.2.1.fr hI.fr (fun e => hne e)).at_, ((unhide H4).2.2.2.1.fr hI.fr (fun e => hne e)).fz, hI.fr.mono (T := fun k => k = w3.heap.size ∨ k = w.heap.size) (fun _ _ h => .inl h)⟩
      have hfo : fo s l = s.add r := by rw [hr]; rfl
      have HJ := hide (And.intro hJ (And.intro hfo (And.intro hne (And.intro hne1 hok))))
      clear hJ hfo hne hne1 hok hI hr
      go_wp2_with fail
      go_loopw [12] (fun i wq => ∃ k : Nat, k ≤ 8 ∧ i = .int .i64 k ∧ FJ w4 wq w.heap.size w3.heap.size (fun j => if j < k then (s.vals.getD j 0 + r.vals.getD j 0) % 4294967296 else s.vals.getD j 0) r) (fun i _ => 8 - (intOf i).toNat)
      case atStart => exact ⟨0, Nat.zero_le _, rfl, (unhide HJ).1.congr (fun j _ => by simp)⟩
      case round =>
        obtain ⟨k, hk, rfl, hI⟩ := hrel
        rename World => wq
        by_cases hlt : k < 8
        · have hlt' : (k : Int) < 8 := by omega
          have h0 : wq.cell? ⟨w.heap.size, k, none⟩ = some (.int .u64 ((s.vals.getD k 0 : Nat) : Int)) := by
            have := hI.h k hlt
            simp only [if_neg (Nat.lt_irrefl k)] at this
            exact this
          have h1 : wq.cell? ⟨w3.heap.size, k, none⟩ = some (.int .u64 ((r.vals.getD k 0 : Nat) : Int)) := hI.e.at_ k hlt
          have hz := hI.fz k hlt
          have b1 := vals_lt s (unhide HK).2.1 k hlt
          have b2 := vals_lt r (unhide HJ).2.2.2.2 k hlt
          have hP := (hI.put (unhide HJ).2.2.1 k ((s.vals.getD k 0 + r.vals.getD k 0) % 4294967296)).congr (f' := fun j => if j < k + 1 then (s.vals.getD j 0 + r.vals.getD j 0) % 4294967296 else s.vals.getD j 0) (fun j hj => by
            by_cases e : j = k
            · subst e
              rw [if_pos rfl, if_pos (by omega)]
            · rw [if_neg e]
              by_cases h : j < k
              · rw [if_pos h, if_pos (by omega)]
              · rw [if_neg h, if_neg (by omega)])
          have HI := hide hP
          clear hI hP
          generalize s.vals.getD k 0 = a at *
          generalize r.vals.getD k 0 = b at *
          have k1 : IntKind.u64.wrap ((a : Int) + (b : Int)) = ((a : Int) + (b : Int)) := by rw [IntKind.wrap_u64]; omega
          have k2 : bits .and .u64 ((a : Int) + (b : Int)) 4294967295 = (((a + b) % 4294967296 : Nat) : Int) := and_all (a + b) (by omega)
          generalize (a + b) % 4294967296 = c at *
          have i0 : (0 : Int) ≤ (k : Int) := by omega
          go_wp2_with fail
          go_region_with (fail)
          all_goals (go_wp2_with fail; exact ⟨⟨k + 1, by omega, by go_num, unhide HI⟩, by simp [intOf]; omega⟩)
        · obtain rfl : k = 8 := by omega
          have hh : wq.rangeAt w.heap.size 0 (V64 (fo s l).vals) := fun j v hv => by
            obtain ⟨hj, rfl⟩ := V64_at _ j v hv
            have hj8 : j < 8 := hj
            have := hI.h j hj8
            simp only [if_pos hj8] at this
            rw [Nat.zero_add, this, (unhide HJ).2.1, add_vals s r j hj8]
          have hre := (unhide H4).2.2.2.2.1.fr hI.fr (by have h1 := (unhide HJ).2.2.2.1; rintro (e | e) <;> omega)
          have hF : Fr (fun _ => False) w wq := (unhide H4).2.2.2.2.2.1.trans (hI.fr.mono (T := fun k => w.heap.size ≤ k) (fun i _ h => by have h1 := (unhide H4).2.2.2.2.2.2.2.2.1; have h2 := (unhide H4).2.2.2.2.2.2.2.1; have h4 := (unhide H4).2.2.2.2.2.2.2.2.2; rcases h with h | h <;> omega)) (fun i hi h => by omega)
          obtain ⟨cs', hcs'⟩ : ∃ cs', V64 (fo s l).vals = cs' := ⟨_, rfl⟩
          have hi' : (Tryd.prog.info? 137).map (·.size) = some cs'.length := by rw [← hcs']; exact info_h64
          have hi2 : (Tryd.prog.info? 137).map (·.size) = some cs'.toArray.size := by rw [List.size_toArray]; exact hi'
          have hon : cs'.toArray.all (·.oneCell') = true := by rw [← hcs']; exact all_oneCell_toArray (V64_one _)
          have hl' : cs'.toArray.size = 8 := by rw [← hcs']; rfl
          have hend := World.rangeAt_setCells_same wq (w.heap.size + 1) 0 cs' (by rw [show cs'.length = 8 from hl']; exact hre.there)
          have HE := hide (And.intro hend (And.intro (Fr.setCells (o := 0) hF (.inr (show w.heap.size ≤ w.heap.size + 1 by omega)) cs') (And.intro hcs' (And.intro hi' (And.intro hi2 (And.intro (hcs' ▸ hh) (And.intro (show wq.there (w.heap.size + 1) 0 cs'.toArray.size by rw [hl']; exact hre.there) hon)))))))
          clear hend hF hcs' hi' hi2 hh hre hl' hI hon
          go_wp2_with (first
            | (refine wpList_load_mid rfl 137 (.tmp 2) rfl w.heap.size 0 rfl cs' _ (unhide HE).2.2.2.2.2.1 Tryd.underlying137 rfl (unhide HE).2.2.2.1 ?_)
            | (refine wpList_store_mid rfl 137 (.tmp 4) (.tmp 114) rfl (w.heap.size + 1) 0 cs'.toArray rfl rfl (unhide HE).2.2.2.2.2.2.1 (unhide HE).2.2.2.2.1 (unhide HE).2.2.2.2.2.2.2 ?_))
          refine bodyPost_ret (results_cell_mid rfl _ _ (w.heap.size + 1) 0 cs' _ rfl (unhide HE).1 Tryd.underlying137 rfl (unhide HE).2.2.2.1) rfl ?_
          exact ⟨by rw [(unhide HE).2.2.1], (unhide HE).2.1⟩
end Go.Proofs.YthccbfgjekdiiaaDoor
