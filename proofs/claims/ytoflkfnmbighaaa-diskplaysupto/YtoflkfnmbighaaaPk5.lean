import Derived.Test.YtoflkfnmbighaaaPk1
import Derived.Test.YtoflkfnmbighaaaPk3
namespace Go.Proofs.Ytoflkfnmbighaaa
open Go.RowKit Go.ChangeShapes Go.WideShapes Go.Maps

/-- The files without one, as far as so many. -/
def rmv (Fs : List GF) (K j : Nat) : List GF := (Fs.take j).eraseIdx K
theorem rmv_skip (Fs : List GF) (K : Nat) (hK : K < Fs.length) : rmv Fs K (K + 1) = rmv Fs K K := by
  unfold rmv
  rw [List.eraseIdx_of_length_le (l := Fs.take K) (by simp; omega), List.eraseIdx_eq_take_drop_succ, List.take_take, Nat.min_eq_left (by omega), List.drop_of_length_le (by simp; omega), List.append_nil]
theorem rmv_more (Fs : List GF) (K j : Nat) (hj : j < Fs.length) (hne : j ≠ K) : rmv Fs K (j + 1) = rmv Fs K j ++ [Fs[j]] := by
  unfold rmv
  rw [List.take_succ_eq_append_getElem hj]
  rcases Nat.lt_or_gt_of_ne hne with h | h
  · rw [List.eraseIdx_of_length_le (by simp; omega), List.eraseIdx_of_length_le (by simp; omega)]
  · rw [List.eraseIdx_append_of_lt_length (by simp; omega)]
theorem rmv_len (Fs : List GF) (K j : Nat) : (rmv Fs K j).length ≤ Fs.length := by
  unfold rmv
  have := List.length_eraseIdx_le (Fs.take j) K
  simp at this
  omega
set_option maxHeartbeats 1000000 in
set_option maxRecDepth 100000 in
/-- Remove. -/
theorem gRemove_ok (r : RD) (ao : Option Addr) (c : Nat) (Fs : List GF) (T : Nat → Prop) (n : ByteArray)  (K : Nat) (x : GF) (W : World) (h : GAt W (.slice ao Fs.length c) Fs T) (hfs : Fs.map Prod.fst = r.fs) (hl : Fs.length ≤ 256) (hF : r.found n = ((K : Int), 0)) (hx : Fs[K]? = some x)  :
    Calls Try.prog 43 #[r.agg (.slice ao Fs.length c), .string n] W fun e w' => ∃ ao' c', e = .returned (.tuple #[r.agg (.slice ao' (Fs.eraseIdx K).length c'), .int .i64 0]) ∧ (∃ T', GAt w' (.slice ao' (Fs.eraseIdx K).length c') (Fs.eraseIdx K) T' ∧ ∀ k, T' k → T k ∨ W.heap.size ≤ k) ∧ Fr (fun _ => False) W w' := by
  obtain ⟨⟨xn, rb⟩, bv⟩ := x
  (try dsimp only at *)
  obtain ⟨bo', bc, hbv⟩ := h.form hx
  dsimp only at hbv
  subst hbv
  obtain ⟨w, hw⟩ : ∃ w, w = (W.alloc (.cells (r.cells (.slice ao Fs.length c)) 30)).alloc (.cells zero8 30) := ⟨_, rfl⟩
  have hB : B2 W w (r.cells (.slice ao Fs.length c)) := by rw [hw]; exact B2.new _ _
  have HC := hide (gfound_any r ao c Fs T n w (h.fr0 hB.f) hfs hl)
  rw [hF] at HC
  have HB := hide (And.intro hB h)
  have hKl : (K : Int) < (Fs.length : Int) := by have := (List.getElem?_eq_some_iff.1 hx).1; omega
  clear hB h hfs hF
  obtain ⟨li, bo, wt, fs, ar, te, off, fu⟩ := r
  dsimp only at HC ⊢
  unfold RD.agg at HC ⊢
  unfold RD.cells zero8 at hw
  go_enter Try.func43, Try.ntmps43
  go_wp2_with fail
  rw [← hw]
  refine (unhide HC).mono ?_
  rintro e' w2 ⟨rfl, hf2⟩
  have hB2 := (unhide HB).1.fr0 hf2
  have hG2 := (unhide HB).2.fr0 hB2.f
  have hWl : W.heap.size ≤ w2.heap.size := hB2.f.size
  have HW := hide (unhide HB).2
  clear hf2 HB HC hw
  obtain ⟨c0, c1, c2, c3, c4, c5, c6, c7, _⟩ := cells_of8 hB2.d
  obtain ⟨g, rfl, hTg, d0, d1, hfz⟩ := hG2.at_ hx
  dsimp only at d0 d1
  have hKn : K < Fs.length := by omega
  have HX := hide (And.intro hB2 hG2)
  have HC := hide c3
  clear hB2 hG2 c0 c1 c2 c3 c4 c5 c6 c7 d0 d1 hx
  go_wp2_with fail
  go_loopw [8, 9] (fun lv iv wr => ∃ (j : Nat) (lo : Option Addr) (lc : Nat), j ≤ Fs.length ∧ iv = .int .i64 (j : Nat) ∧ lv = .slice lo (rmv Fs K j).length lc ∧ wr.ownsRow w2.heap.size 60 2 (.slice lo (rmv Fs K j).length lc) (rmv Fs K j).length (gcells (rmv Fs K j)) ∧ Fr (fun _ => False) w2 wr) (fun _ iv _ => Fs.length - (intOf iv).toNat)
  case atStart => exact ⟨0, none, 0, Nat.zero_le _, rfl, by simp [rmv], by simpa [rmv, gcells] using World.ownsRow_nil w2 w2.heap.size _ _, Fr.refl _ _⟩
  case round =>
    obtain ⟨j, lo, lc, hj, rfl, rfl, hrow, hfr⟩ := hrel
    have c3 : wr.cell? ⟨W.heap.size, 3, none⟩ = some (.slice (some ⟨g, 0, none⟩) Fs.length c) := (hfr.cell (p := ⟨W.heap.size, 3, none⟩) (lt_of_cell (unhide HC)) (fun e => e)).trans (unhide HC)
    have hGr := (unhide HX).2.fr0 hfr
    by_cases hlt : j < Fs.length
    · have hkl : (j : Int) < (Fs.length : Int) := by omega
      by_cases hjK : j = K
      · subst hjK
        have HS := hide (And.intro (rmv_skip Fs j hlt) (And.intro hrow hfr))
        clear hrow hfr hGr
        go_wp2_with fail
        exact ⟨⟨j + 1, lo, lc, hlt, by go_num, by rw [(unhide HS).1], by rw [(unhide HS).1]; exact (unhide HS).2.1, (unhide HS).2.2⟩, by simp [intOf]; omega⟩
      · have hxj := List.getElem?_eq_getElem hlt
        obtain ⟨g', e', hT', d0, d1, _⟩ := hGr.at_ hxj
        cases e'
        obtain ⟨bo2, bc2, hb2⟩ := hGr.form hxj
        have hle := rmv_len Fs K j
        obtain ⟨a3, k3, w3, hr3, ho3, hf3, hn3⟩ := app_fi wr w2.heap.size _ (rmv Fs K j) Fs[j] hrow (by rw [hb2]; rfl) (by omega) hfr.size
        have hmo := rmv_more Fs K j hlt hjK
        rw [← hmo] at ho3
        have hml : (rmv Fs K (j + 1)).length = (rmv Fs K j).length + 1 := by rw [hmo]; simp
        rw [← hml] at ho3
        have hjK' : ¬ (j : Int) = (K : Int) := by omega
        have HS := hide (And.intro hml (And.intro ho3 (hfr.absorb hf3 (fun g hg => (hrow.lt g hg).1))))
        rw [hb2] at hr3 d1
        generalize Fs[j].1.name = nj at *
        generalize Fs[j].1.rb.length = lj at *
        have HR3 := hide hr3
        clear hrow hfr hGr hb2 hmo hml ho3 hf3 hr3 hn3 hxj
        go_wp2_with (first | (at_builtin; refine wpList_app rfl _ _ 28 28 rfl _ _ _ rfl rfl (unhide HR3) ?_))
        exact ⟨⟨j + 1, a3, k3, hlt, by go_num, by rw [(unhide HS).1], (unhide HS).2.1, (unhide HS).2.2⟩, by simp [intOf]; omega⟩
    · have hkl : ¬ (j : Int) < (Fs.length : Int) := by omega
      obtain rfl : j = Fs.length := by omega
      have hrm : rmv Fs K Fs.length = Fs.eraseIdx K := by simp [rmv]
      rw [hrm] at hrow
      obtain ⟨hB2, hG2⟩ := unhide HX
      have hd3 : wr.heap[W.heap.size]? = _ := (hfr.block _ (lt_of_block hB2.d) (fun e => e)).trans hB2.d
      have hz3 : wr.heap[W.heap.size + 1]? = _ := (hfr.block _ (lt_of_block hB2.z) (fun e => e)).trans hB2.z
      obtain ⟨w4, hw4⟩ : ∃ w4, w4 = wr.setCell ⟨W.heap.size, 3, none⟩ (.slice lo (Fs.eraseIdx K).length lc) := ⟨_, rfl⟩
      have hf4 : Fr (fun k => k = W.heap.size) wr w4 := by rw [hw4]; exact (Fr.refl (fun k => k = W.heap.size) wr).setCell (p := ⟨W.heap.size, 3, none⟩) (.inl rfl) _
      have hz4 : w4.heap[W.heap.size + 1]? = _ := (hf4.block _ (lt_of_block hz3) (by show ¬ W.heap.size + 1 = W.heap.size; omega)).trans hz3
      obtain ⟨V, hrV, hgV, hfV⟩ := gbox hz4 ⟨li, bo, wt, fs, ar, te, off, fu⟩ lo (Fs.eraseIdx K).length lc
      have hsz : W.heap.size + 1 < w2.heap.size := lt_of_block hB2.z
      have hVk : ∀ k, k < wr.heap.size → k ≠ W.heap.size → k ≠ W.heap.size + 1 → V.heap[k]? = wr.heap[k]? := fun k hk h1 h2 => (hfV.block k (Nat.lt_of_lt_of_le hk hf4.size) h2).trans (hf4.block k hk h1)
      have hfin : GAt V (.slice lo (Fs.eraseIdx K).length lc) (Fs.eraseIdx K) (fun k => T k ∨ (Value.slice lo (Fs.eraseIdx K).length lc).ownBlock = some k) := by
        refine ⟨ownsRow_base (ownsRow_of_block hrow (fun k hk => hVk k (hrow.lt k hk).2 (by have := (hrow.lt k hk).1; omega) (by have := (hrow.lt k hk).1; omega))) (Nat.zero_le _), fun x hx => ?_, fun i j x y hx hy hij g hg hg' => ?_, fun g hg => .inr hg, fun x hx g hg => .inl (hG2.tb x (List.mem_of_mem_eraseIdx hx) g hg), fun g hg => ?_⟩
        · have hxm := List.mem_of_mem_eraseIdx hx
          refine ownsRow_of_block (hG2.b x hxm) (fun k hk => ?_)
          have h1 := (unhide HW).lt k ((unhide HW).tb x hxm k hk)
          exact (hVk k (Nat.lt_of_lt_of_le ((hG2.b x hxm).lt k hk).2 hfr.size) (by omega) (by omega)).trans (hfr.block k ((hG2.b x hxm).lt k hk).2 (fun e => e))
        · rw [List.getElem?_eraseIdx] at hx hy
          by_cases hi : i < K
          · rw [if_pos hi] at hx
            by_cases hj : j < K
            · rw [if_pos hj] at hy
              exact hG2.ap i j x y hx hy hij g hg hg'
            · rw [if_neg hj] at hy
              exact hG2.ap i (j + 1) x y hx hy (by omega) g hg hg'
          · rw [if_neg hi] at hx
            by_cases hj : j < K
            · rw [if_pos hj] at hy
              exact hG2.ap (i + 1) j x y hx hy (by omega) g hg hg'
            · rw [if_neg hj] at hy
              exact hG2.ap (i + 1) (j + 1) x y hx hy (by omega) g hg hg'
        · have hs : wr.heap.size ≤ V.heap.size := Nat.le_trans hf4.size hfV.size
          rcases hg with hg | hg
          · exact Nat.lt_of_lt_of_le (hG2.lt g hg) (Nat.le_trans hfr.size hs)
          · exact Nat.lt_of_lt_of_le (hrow.lt g hg).2 hs
      have hTT : Fr (fun _ => False) W V := ((hB2.f.trans hfr (fun _ _ h => h)).trans hf4 (fun i hi e => by have e' : i = W.heap.size := e; omega)).trans hfV (fun i hi e => by have e' : i = W.heap.size + 1 := e; omega)
      have hT2 : ∀ k, (T k ∨ (Value.slice lo (Fs.eraseIdx K).length lc).ownBlock = some k) → T k ∨ W.heap.size ≤ k := fun k hk => hk.elim .inl (fun e => .inr (by have := (hrow.lt k e).1; omega))
      unfold RD.agg at hrV
      dsimp only at hrV
      rw [hw4] at hrV
      have HV := hide hrV
      have HE := hide (And.intro hgV (And.intro hfin (And.intro hT2 hTT)))
      rw [hrm]
      clear hrV hgV hfV hfin hTT hT2 hf4 hw4 hz4 hz3 hrow hfr hG2 hB2 HW hsz hVk hGr HX HC c3
      obtain ⟨k0, k1, k2, k3', k4, k5, k6, k7, z3⟩ := cells_of8 hd3
      clear hd3
      go_wp2_with (refine wpList_stN rfl 30 _ _ rfl _ _ rfl rfl (unhide HV) ?_)
      (try simp only [Exit.inBlock, Exit.then])
      refine bodyPost_ret (results_cellt rfl _ _ (W.heap.size + 1) 0 _ _ _ rfl rfl (unhide HE).1 Try.underlying30 rfl (by kernel_rfl)) rfl ?_
      exact ⟨lo, lc, rfl, ⟨_, (unhide HE).2.1, (unhide HE).2.2.1⟩, (unhide HE).2.2.2⟩
end Go.Proofs.Ytoflkfnmbighaaa

namespace Go.Proofs.Ytoflkfnmbighaaa
open Go.RowKit Go.ChangeShapes Go.WideShapes Go.Maps

set_option maxHeartbeats 1000000 in
set_option maxRecDepth 100000 in
/-- Append, a later write is armed. -/
theorem gAppend_b (r : RD) (ao : Option Addr) (c : Nat) (Fs : List GF) (T : Nat → Prop) (n : ByteArray) (xo : Option Addr) (xc : Nat) (l : List Nat)  (K : Nat) (x : GF) (W : World) (h : GAt W (.slice ao Fs.length c) Fs T) (hfs : Fs.map Prod.fst = r.fs) (hl : Fs.length ≤ 256) (hF : r.found n = ((K : Int), 0)) (hx : Fs[K]? = some x) (hfu : r.full = false) (hoff : r.off = false) (hbs : ∀ y ∈ Fs, y.1.rb.length ≤ 1048576) (hno : ¬ (r.limit : Int) < (lenN Fs Fs.length : Int) + (l.length : Int)) (hll : l.length ≤ 1048576) (hbn : r.born ≤ 4611686018427387904) (hwn : r.writes ≤ 4611686018427387904) (hsx : Src W (.slice xo l.length xc) l) (har : 1 < r.armed) (har2 : r.armed < 9223372036854775808) :
    Calls Try.prog 37 #[r.agg (.slice ao Fs.length c), .string n, .slice xo l.length xc] W fun e w' => e = .returned (.tuple #[({ r with born := r.born + l.length, writes := r.writes + 1, armed := r.armed - 1, off := false } : RD).agg (.slice ao Fs.length c), .int .i64 0]) ∧ (∃ bv T', GAt w' (.slice ao Fs.length c) (Fs.set K (⟨x.1.name, x.1.rb ++ nB l r.born l.length⟩, bv)) T' ∧ ∀ k, T' k → T k ∨ W.heap.size ≤ k) ∧ Fr T W w' := by
  obtain ⟨⟨xn, rb⟩, bv⟩ := x
  (try dsimp only at *)
  obtain ⟨bo', bc, hbv⟩ := h.form hx
  dsimp only at hbv
  subst hbv
  obtain ⟨w, hw⟩ : ∃ w, w = (W.alloc (.cells (r.cells (.slice ao Fs.length c)) 30)).alloc (.cells zero8 30) := ⟨_, rfl⟩
  have hB : B2 W w (r.cells (.slice ao Fs.length c)) := by rw [hw]; exact B2.new _ _
  have HC := hide (gfound_any r ao c Fs T n w (h.fr0 hB.f) hfs hl)
  rw [hF] at HC
  have HB := hide (And.intro hB h)
  have hKl : (K : Int) < (Fs.length : Int) := by have := (List.getElem?_eq_some_iff.1 hx).1; omega
  clear hB h hfs hF
  obtain ⟨li, bo, wt, fs, ar, te, off, fu⟩ := r
  dsimp only at *
  subst hfu hoff
  have har1 : ¬ ar = 1 := by omega
  have har0 : ar > 0 := by omega
  (try dsimp only at HC ⊢)
  unfold RD.agg at HC ⊢
  unfold RD.cells zero8 at hw
  go_enter Try.func37, Try.ntmps37
  go_wp2_with fail
  rw [← hw]
  refine (unhide HC).mono ?_
  rintro e' w2 ⟨rfl, hf2⟩
  have hB2 := (unhide HB).1.fr0 hf2
  have hG2 := (unhide HB).2.fr0 hB2.f
  have hWl : W.heap.size ≤ w2.heap.size := hB2.f.size
  have HW := hide (unhide HB).2
  clear hf2 HB HC hw
  obtain ⟨c0, c1, c2, c3, c4, c5, c6, c7, _⟩ := cells_of8 hB2.d
  obtain ⟨g, rfl, hTg, d0, d1, hfz⟩ := hG2.at_ hx
  dsimp only at d0 d1
  have hbl : ∀ y ∈ Fs, y.1.rb.length ≤ 1048576 := hbs
  have HU := hide (fun (W' : World) (hf : Fr (fun _ => False) w2 W') => (gused_any ⟨li, bo, wt, fs, ar, te, false, false⟩ (some ⟨g, 0, none⟩) c Fs T W' (hG2.fr0 hf) hl hbl).mono fun e w3 ⟨he, h3⟩ => (show e = _ ∧ Fr (fun _ => False) w2 w3 from ⟨he, hf.trans h3 (fun _ _ h => h)⟩))
  unfold RD.agg at HU
  dsimp only at HU
  generalize hus : lenN Fs Fs.length = us at *
  have HK := hide (fun (W' : World) (hf : Fr (fun _ => False) w2 W') => by
    have h1 := cells_of8 (hB2.fr0 hf).d
    exact And.intro h1.1 (And.intro h1.2.1 (And.intro h1.2.2.1 (And.intro h1.2.2.2.1 (And.intro h1.2.2.2.2.1 (And.intro h1.2.2.2.2.2.1 (And.intro h1.2.2.2.2.2.2.1 h1.2.2.2.2.2.2.2.1)))))))
  have hrbl := hbl _ (List.mem_of_getElem? hx)
  dsimp only at hrbl
  go_wp2_with fail
  go_region_held3 (fun W' => W'.cell? ⟨W.heap.size, 0, none⟩ = some (.int .i64 (li : Nat)) ∧ W'.cell? ⟨W.heap.size, 1, none⟩ = some (.int .i64 (bo : Nat)) ∧ W'.cell? ⟨W.heap.size, 2, none⟩ = some (.int .i64 (wt : Nat)) ∧ W'.cell? ⟨W.heap.size, 3, none⟩ = some (.slice (some ⟨g, 0, none⟩) Fs.length c) ∧ W'.cell? ⟨W.heap.size, 4, none⟩ = some (.int .i64 ar) ∧ W'.cell? ⟨W.heap.size, 5, none⟩ = some (.int .i64 te) ∧ W'.cell? ⟨W.heap.size, 6, none⟩ = some (.bool false) ∧ W'.cell? ⟨W.heap.size, 7, none⟩ = some (.bool false))
    (first | exact (unhide HK) _ ((Fr.refl _ _).drew) | exact (unhide HK) _ hf3 | exact ⟨c0, c1, c2, c3, c4, c5, c6, c7⟩)
    (first | (go_at_call 27; refine ((unhide HU) _ ((Fr.refl _ _).drew)).mono ?_; rintro e w3 ⟨rfl, hf3⟩))
  have hB3 := hB2.fr0 hf3
  have hG3 := hG2.fr0 hf3
  have hus2 : us ≤ 1048576 * 256 := by
    rw [← hus]
    exact Nat.le_trans (lenN_le Fs Fs.length 1048576 hbl) (by omega)
  rw [wrapI ((us : Int) + (l.length : Int)) (by omega) (by omega)]
  clear c0 c1 c2 c3 c4 c5 c6 c7
  obtain ⟨c0, c1, c2, c3, c4, c5, c6, c7, z7⟩ := cells_of8 hB3.d
  have d1' : w3.cell? ⟨g, K * 2 + 1, none⟩ = some (.slice bo' rb.length bc) := (hf3.cell (p := ⟨g, K * 2 + 1, none⟩) (lt_of_cell d1) (fun h => h)).trans d1
  clear hB2 hG2 hf3 HU HK d0 d1
  have HN := hide (And.intro hbn hll)
  have hwI : (wt : Int) + 1 = ((wt + 1 : Nat) : Int) := by omega
  obtain ⟨w4, hw4⟩ : ∃ w4, w4 = (w3.setCell ⟨W.heap.size, 2, none⟩ (.int .i64 ((wt : Int) + 1))).setCell ⟨W.heap.size, 4, none⟩ (.int .i64 (ar - 1)) := ⟨_, rfl⟩
  have hf4 : Fr (fun k => k = W.heap.size) w3 w4 := by rw [hw4]; exact ((Fr.refl (fun k => k = W.heap.size) w3).setCell (p := ⟨W.heap.size, 2, none⟩) (.inl rfl) _).setCell (p := ⟨W.heap.size, 4, none⟩) (.inl rfl) _
  have hd4 : w4.heap[W.heap.size]? = some (.cells #[.int .i64 (li : Nat), .int .i64 ((bo + 0 : Nat) : Int), .int .i64 ((wt : Int) + 1), .slice (some ⟨g, 0, none⟩) Fs.length c, .int .i64 (ar - 1), .int .i64 te, .bool false, .bool false] 30) := by
    rw [hw4, blkset (blkset hB3.d _ _)]
    rfl
  have hz4 : w4.heap[W.heap.size + 1]? = some (.cells zero8 30) := (hf4.block _ (lt_of_block hB3.z) (by show ¬ W.heap.size + 1 = W.heap.size; omega)).trans hB3.z
  obtain ⟨w5, hr5, ho5, hf5⟩ := make_by (rb.length + l.length) w4 (by omega)
  have hr5' : (Instr.makeSlice 58 (.int .i64 0) (.int .i64 ((rb.length : Int) + (l.length : Int)))).run Try.prog w4 = .ok (.slice (some ⟨w4.heap.size, 0, none⟩) 0 (rb.length + l.length)) w5 := hr5
  have hsz3 : W.heap.size + 1 < w3.heap.size := lt_of_block hB3.z
  have hsz4 := hf4.size
  have hx3 := hG3.b _ (List.mem_of_getElem? hx)
  dsimp only at hx3
  have hxW : ∀ k, (Value.slice bo' rb.length bc).ownBlock = some k → k < W.heap.size := fun k hk => (unhide HW).lt k ((unhide HW).tb _ (List.mem_of_getElem? hx) k hk)
  have hx5 : w5.ownsRow 0 89 3 (.slice bo' rb.length bc) rb.length (bcells rb) := ownsRow_of_block hx3 (fun k hk => (hf5.block k (by have := hxW k hk; omega) (fun h => h)).trans (hf4.block k (hx3.lt k hk).2 (fun e => by have := hxW k hk; have e' : k = W.heap.size := e; omega)))
  obtain ⟨a6, k6, w6, hr6, ho6, hf6, hn6⟩ := app_by w5 w4.heap.size 0 _ _ [] rb ho5 hx5 (by simp; omega) hf5.size
  simp only [List.length_nil, Nat.zero_add, List.nil_append] at hr6 ho6
  have hf46 : Fr (fun k => k = W.heap.size) w4 w6 := (hf5.mono (fun _ _ h => h.elim)).trans hf6 (fun i hi e => by have e' : w4.heap.size = i := (by simpa [Value.ownBlock] using e); omega)
  have d14 : w4.cell? ⟨g, K * 2 + 1, none⟩ = some (.slice bo' rb.length bc) := (hf4.cell (p := ⟨g, K * 2 + 1, none⟩) (lt_of_cell d1') (fun e => by have e' : g = W.heap.size := e; have := (unhide HW).lt g hTg; omega)).trans d1'
  have d15 : w5.cell? ⟨g, K * 2 + 1, none⟩ = some (.slice bo' rb.length bc) := (hf5.cell (p := ⟨g, K * 2 + 1, none⟩) (lt_of_cell d14) (fun h => h)).trans d14
  have c34 : w4.cell? ⟨W.heap.size, 3, none⟩ = some (.slice (some ⟨g, 0, none⟩) Fs.length c) := cell_of_blk hd4 rfl
  have c35 : w5.cell? ⟨W.heap.size, 3, none⟩ = some (.slice (some ⟨g, 0, none⟩) Fs.length c) := (hf5.cell (p := ⟨W.heap.size, 3, none⟩) (lt_of_cell c34) (fun h => h)).trans c34
  have hFW : Fr (fun _ => False) W w4 := hB3.f.trans hf4 (fun i hi e => by have e' : i = W.heap.size := e; omega)
  have hd6 : w6.heap[W.heap.size]? = _ := (hf6.block _ (Nat.lt_of_lt_of_le (lt_of_block hd4) hf5.size) (fun e => by have e' : w4.heap.size = W.heap.size := (by simpa [Value.ownBlock] using e); omega)).trans ((hf5.block _ (lt_of_block hd4) (fun h => h)).trans hd4)
  have HX := hide (And.intro hFW (And.intro hx (And.intro hz4 (And.intro (And.intro ho6 (And.intro hf46 hd6)) (And.intro hsx (And.intro hsz3 (And.intro hsz4 (And.intro hxW d14))))))))
  have hs4 : w4.heap.size = w3.heap.size := by rw [hw4]; simp
  rw [hs4] at hr5' hr6
  have HR6 := hide hr6
  rw [hw4] at hr5' c34 d14
  clear hr5 hr6 ho5 ho6 hf5 hf6 hn6 hx5 hx3 hf46 hFW hd6 hz4 hd4 hf4 hw4 hB3 hG3 hsx hsz3 hsz4 hxW hx hwI hbs hbl hs4 hus2 hbn hus
  go_wp2_with (first | (at_builtin; refine wpList_app rfl _ _ 58 58 rfl _ _ _ rfl rfl (unhide HR6) ?_))
  clear hr5' HR6 c0 c1 c2 c3 c4 c5 c6 c7 z7 d1' c34 c35 d14 d15
  go_loopw [11, 12] (fun lv iv wr => ∃ (j : Nat) (lo : Option Addr) (lc : Nat), j ≤ l.length ∧ iv = .int .i64 (j : Nat) ∧ lv = .slice lo (rb.length + j) lc ∧ wr.ownsRow w4.heap.size 89 3 (.slice lo (rb.length + j) lc) (rb.length + j) (bcells (rb ++ nB l bo j)) ∧ wr.heap[W.heap.size]? = some (.cells #[.int .i64 (li : Nat), .int .i64 ((bo + j : Nat) : Int), .int .i64 ((wt : Int) + 1), .slice (some ⟨g, 0, none⟩) Fs.length c, .int .i64 (ar - 1), .int .i64 te, .bool false, .bool false] 30) ∧ Fr (fun k => k = W.heap.size) w4 wr) (fun _ iv _ => l.length - (intOf iv).toNat)
  case atStart => exact ⟨0, a6, k6, Nat.zero_le _, rfl, rfl, by have := (unhide HX).2.2.2.1.1; simpa [nB] using this, (unhide HX).2.2.2.1.2.2, (unhide HX).2.2.2.1.2.1⟩
  case round =>
    obtain ⟨j, lo, lc, hj, rfl, rfl, hrow, hbx, hfr⟩ := hrel
    obtain ⟨hFW, hx, hz4, _, hsx, hsz3, hsz4, hxW, d14⟩ := unhide HX
    have hFr : Fr (fun _ => False) W wr := hFW.trans hfr (fun i hi e => by have e' : i = W.heap.size := e; omega)
    by_cases hlt : j < l.length
    · have hjl : j < l.length := by omega
      obtain ⟨gx, ox, rfl, cx⟩ := src_at (hsx.fr hFr (fun _ _ _ _ _ h => h)) j hjl
      obtain ⟨c0, c1, c2, c3, c4, c5, c6, c7, z7⟩ := cells_of8 hbx
      have hlen : (rb ++ nB l bo j).length = rb.length + j := by rw [List.length_append, nB_len l bo j (by omega)]
      obtain ⟨B, hB⟩ : ∃ B, B = bo + j := ⟨_, rfl⟩
      rw [← hB] at c1 hbx
      have hBm : (B : Int) + 1 < 9223372036854775808 := by have := (unhide HN); omega
      have hrow2 : (wr.alloc (.cells #[.int .u8 ((l[j] % 256 : Nat) : Int), .int .i64 (B : Nat), .bool false] 89)).drew.ownsRow w4.heap.size 89 3 (.slice lo (rb.length + j) lc) (rb ++ nB l bo j).length (bcells (rb ++ nB l bo j)) := by
        rw [hlen]
        exact ownsRow_of_block hrow (fun k hk => (show (wr.alloc (.cells #[.int .u8 ((l[j] % 256 : Nat) : Int), .int .i64 (B : Nat), .bool false] 89)).heap[k]? = _ from Below.heap_alloc _ _ _ (hrow.lt k hk).2))
      obtain ⟨a7, k7, w7, hr7, ho7, hf7, hn7⟩ := app_by _ w4.heap.size 0 _ _ _ [⟨l[j], B, false⟩] hrow2 (ownsRow_of_block (lit_by wr ⟨l[j], B, false⟩) (fun k _ => rfl)) (by rw [hlen]; simp; omega) (by show w4.heap.size ≤ (wr.alloc _).heap.size; simp; have := hfr.size; omega)
      rw [hlen] at hr7 ho7
      simp only [List.length_cons, List.length_nil, Nat.zero_add] at hr7 ho7
      rw [List.append_assoc, hB, ← nB_succ l bo j hjl] at ho7
      have hlo : ∀ k, (Value.slice lo (rb.length + j) lc).ownBlock = some k → w4.heap.size ≤ k := fun k hk => (hrow.lt k hk).1
      have hal : Fr (fun _ => False) wr (wr.alloc (.cells #[.int .u8 ((l[j] % 256 : Nat) : Int), .int .i64 (B : Nat), .bool false] 89)).drew := ((Fr.refl _ _).alloc _).drew
      have hf07 : Fr (fun k => (Value.slice lo (rb.length + j) lc).ownBlock = some k) wr w7 := (hal.mono (fun _ _ h => h.elim)).trans hf7 (fun _ _ h => h)
      have hf17 : Fr (fun k => k = W.heap.size) w4 w7 := hfr.trans hf07 (fun i hi e => by have := hlo i e; omega)
      have hgx : gx < wr.heap.size := lt_of_cell cx
      have hgW : gx < W.heap.size := by
        obtain ⟨gy, oy, ey, cy⟩ := src_at hsx j hjl
        cases ey
        exact lt_of_cell cy
      have hbx7 : w7.heap[W.heap.size]? = _ := (hf07.block _ (lt_of_block hbx) (fun e => by have := hlo _ e; omega)).trans hbx
      obtain ⟨_, e1, _, _, _, _, _, _, e8⟩ := cells_of8 hbx7
      have HS1 := hide (And.intro cx c1)
      have HS2 := hide (And.intro ((hal.cell (p := ⟨gx, ox + j, none⟩) hgx (fun h => h)).trans cx) ((hal.cell (p := ⟨W.heap.size, 1, none⟩) (lt_of_cell c1) (fun h => h)).trans c1))
      have HS3 := hide (And.intro ((hf07.cell (p := ⟨gx, ox + j, none⟩) hgx (fun e => by have := hlo gx e; omega)).trans cx) e1)
      have hbx8 := blkset hbx7 1 (.int .i64 ((B : Int) + 1))
      have ho8 := ownsRow_of_block (w' := w7.setCell ⟨W.heap.size, 1, none⟩ (.int .i64 ((B : Int) + 1))) ho7 (fun k hk => by
        refine ((Fr.refl (fun k => k = W.heap.size) w7).setCell (p := ⟨W.heap.size, 1, none⟩) (.inl rfl) (.int .i64 ((B : Int) + 1))).block k (ho7.lt k hk).2 (fun e => ?_)
        have e' : k = W.heap.size := e
        have := (ho7.lt k hk).1
        omega)
      have hf18 : Fr (fun k => k = W.heap.size) w4 (w7.setCell ⟨W.heap.size, 1, none⟩ (.int .i64 ((B : Int) + 1))) := hf17.setCell (p := ⟨W.heap.size, 1, none⟩) (.inl rfl) _
      have hbI : (B : Int) + 1 = ((bo + (j + 1) : Nat) : Int) := by omega
      rw [show (#[Value.int .i64 (li : Nat), .int .i64 (B : Nat), .int .i64 ((wt : Int) + 1), .slice (some ⟨g, 0, none⟩) Fs.length c, .int .i64 (ar - 1), .int .i64 te, .bool false, .bool false].setIfInBounds 1 (.int .i64 ((B : Int) + 1))) = #[.int .i64 (li : Nat), .int .i64 ((bo + (j + 1) : Nat) : Int), .int .i64 ((wt : Int) + 1), .slice (some ⟨g, 0, none⟩) Fs.length c, .int .i64 (ar - 1), .int .i64 te, .bool false, .bool false] by rw [← hbI]; rfl] at hbx8
      have HS := hide (And.intro ho8 (And.intro hbx8 hf18))
      have HR7 := hide hr7
      clear hr7 ho7 ho8 hbx8 hf18 hf17 hbx7 hf7 hf07 hal hn7 hrow hrow2 hbx hfr hFr hFW hx hz4 hsx hxW hlo hlen hbI d14 hgx hgW hB
      have hkl : (j : Int) < (l.length : Int) := by omega
      generalize hv : l[j] % 256 = vv at *
      go_wp2_with fail
      go_region_held3 (fun w' => w'.cell? ⟨gx, ox + j, none⟩ = some (.int .u8 (vv : Nat)) ∧ w'.cell? ⟨W.heap.size, 1, none⟩ = some (.int .i64 (B : Nat)))
        (first | with_reducible exact unhide HS3 | with_reducible exact unhide HS2 | exact unhide HS1)
        (refine step_app rfl (.tmp 82) (.tmp 90) 58 58 rfl _ _ _ (by simp [Act.eval]) (by simp [Act.eval]) (unhide HR7) ?_)
      all_goals
        go_wp2_with fail
        exact ⟨⟨j + 1, a7, k7, hlt, by go_num, rfl, (unhide HS).1, (unhide HS).2.1, (unhide HS).2.2⟩, by simp [intOf]; omega⟩
    · have hkl : ¬ (j : Int) < (l.length : Int) := by omega
      obtain rfl : j = l.length := by omega
      obtain ⟨c0, c1, c2, c3, c4, c5, c6, c7, z7⟩ := cells_of8 hbx
      have hgW := (unhide HW).lt g hTg
      have d1r : wr.cell? ⟨g, K * 2 + 1, none⟩ = some (.slice bo' rb.length bc) := (hfr.cell (p := ⟨g, K * 2 + 1, none⟩) (lt_of_cell d14) (fun e => by have e' : g = W.heap.size := e; omega)).trans d14
      have hGr : GAt wr (.slice (some ⟨g, 0, none⟩) Fs.length c) Fs T := (unhide HW).fr hFr (fun _ _ h => h)
      have hfzr : wr.frozen? ⟨g, K * 2 + 1, none⟩ = false := by
        obtain ⟨cur, hb⟩ := own_blk hGr.row rfl
        simp [World.frozen?, hb]
      obtain ⟨w8, hw8⟩ : ∃ w8, w8 = wr.setCell ⟨g, K * 2 + 1, none⟩ (.slice lo (rb.length + l.length) lc) := ⟨_, rfl⟩
      have hf8 : Fr (fun k => k = g) wr w8 := by rw [hw8]; exact (Fr.refl (fun k => k = g) wr).setCell (p := ⟨g, K * 2 + 1, none⟩) (.inl rfl) _
      have hv8 : w8.ownsRow 0 60 2 (.slice (some ⟨g, 0, none⟩) Fs.length c) Fs.length (gcells (Fs.set K (⟨xn, rb ++ nB l bo l.length⟩, .slice lo (rb.length + l.length) lc))) := by
        have h1 := (hGr.row.stored (K * 2 + 1) (.slice lo (rb.length + l.length) lc)).1
        rw [gcells_set Fs K _ hx _ (⟨xn, rb ++ nB l bo l.length⟩, .slice lo (rb.length + l.length) lc) (by simp [fc2])] at h1
        rw [hw8]
        exact h1
      have hlo : ∀ k, (Value.slice lo (rb.length + l.length) lc).ownBlock = some k → w4.heap.size ≤ k := fun k hk => (hrow.lt k hk).1
      have hb8 : w8.ownsRow 0 89 3 (.slice lo (rb.length + l.length) lc) (rb ++ nB l bo l.length).length (bcells (rb ++ nB l bo l.length)) := by
        rw [List.length_append, nB_len l bo l.length (by omega)]
        exact ownsRow_base (ownsRow_of_block hrow (fun k hk => hf8.block k (hrow.lt k hk).2 (fun e => by have e' : k = g := e; have := hlo k hk; omega))) (Nat.zero_le _)
      have hf08 : Fr (fun k => (Value.slice (some ⟨g, 0, none⟩) Fs.length c).ownBlock = some k ∨ (Value.slice bo' rb.length bc).ownBlock = some k) W w8 := (hFr.mono (fun _ _ h => h.elim)).trans hf8 (fun i hi e => .inl (by have e' : i = g := e; rw [e']; rfl))
      have hG8 := (unhide HW).file (y := (⟨xn, rb ++ nB l bo l.length⟩, .slice lo (rb.length + l.length) lc)) hx hf08 hv8 hb8 (fun k hk => .inr (by have := hlo k hk; omega))
      have hz8 : w8.heap[W.heap.size + 1]? = some (.cells zero8 30) := (hf8.block _ (by have := lt_of_block hz4; have := hfr.size; omega) (fun e => by have e' : W.heap.size + 1 = g := e; omega)).trans ((hfr.block _ (lt_of_block hz4) (by show ¬ W.heap.size + 1 = W.heap.size; omega)).trans hz4)
      obtain ⟨V, hrV, hgV, hfV⟩ := gbox hz8 ⟨li, bo + l.length, wt + 1, fs, ar - 1, te, false, false⟩ (some ⟨g, 0, none⟩) Fs.length c
      have hfin := hG8.fr hfV (fun k hk e => by
        have e' : k = W.heap.size + 1 := e
        rcases hk with hk | hk
        · have := (unhide HW).lt k hk; omega
        · have := hlo k hk; omega)
      have hTT : Fr T W V := (hf08.mono (fun k _ h => h.elim (fun e => (unhide HW).tr k e) (fun e => (unhide HW).tb _ (List.mem_of_getElem? hx) k e))).trans hfV (fun i hi e => by have e' : i = W.heap.size + 1 := e; omega)
      have hT2 : ∀ k, (T k ∨ (Value.slice lo (rb.length + l.length) lc).ownBlock = some k) → T k ∨ W.heap.size ≤ k := fun k hk => hk.elim .inl (fun e => .inr (by have := hlo k e; omega))
      have hlen8 : lt_of_block hbx = lt_of_block hbx := rfl
      unfold RD.agg at hrV
      dsimp only at hrV
      rw [hw8] at hrV
      push_cast at hrV
      have HV := hide hrV
      have HE := hide (And.intro hgV (And.intro hfin (And.intro hT2 hTT)))
      have hgne : ¬ g = W.heap.size := by omega
      have hgne' : ¬ W.heap.size = g := by omega
      clear hrV hgV hfV hfin hTT hT2 hG8 hf08 hb8 hv8 hf8 hw8 hz8 hGr hlo hlen8 hrow hbx hfr hFr hFW hx hz4 hsx hxW d14 HX hsz3 hsz4 hgW
      go_wp2_with (refine wpList_stN rfl 30 (.tmp 6) _ rfl _ _ rfl rfl (unhide HV) ?_)
      (try simp only [Exit.inBlock, Exit.then])
      refine bodyPost_ret (results_cellt rfl _ _ (W.heap.size + 1) 0 _ _ _ rfl rfl (unhide HE).1 Try.underlying30 rfl (by kernel_rfl)) rfl ?_
      exact ⟨rfl, ⟨_, _, (unhide HE).2.1, (unhide HE).2.2.1⟩, (unhide HE).2.2.2⟩
end Go.Proofs.Ytoflkfnmbighaaa

namespace Go.Proofs.Ytoflkfnmbighaaa
open Go.RowKit Go.ChangeShapes Go.WideShapes Go.Maps

set_option maxHeartbeats 1000000 in
set_option maxRecDepth 100000 in
/-- Append, this write is torn. -/
theorem gAppend_c (r : RD) (ao : Option Addr) (c : Nat) (Fs : List GF) (T : Nat → Prop) (n : ByteArray) (xo : Option Addr) (xc : Nat) (l : List Nat) (N : Nat)  (K : Nat) (x : GF) (W : World) (h : GAt W (.slice ao Fs.length c) Fs T) (hfs : Fs.map Prod.fst = r.fs) (hl : Fs.length ≤ 256) (hF : r.found n = ((K : Int), 0)) (hx : Fs[K]? = some x) (hfu : r.full = false) (hoff : r.off = false) (hbs : ∀ y ∈ Fs, y.1.rb.length ≤ 1048576) (hno : ¬ (r.limit : Int) < (lenN Fs Fs.length : Int) + (l.length : Int)) (hll : l.length ≤ 1048576) (hbn : r.born ≤ 4611686018427387904) (hwn : r.writes ≤ 4611686018427387904) (hsx : Src W (.slice xo l.length xc) l) (har : r.armed = 1) (hte : r.tear = (N : Int)) (hN : N < l.length) :
    Calls Try.prog 37 #[r.agg (.slice ao Fs.length c), .string n, .slice xo l.length xc] W fun e w' => e = .returned (.tuple #[({ r with born := r.born + N, writes := r.writes + 1, armed := 0, off := true } : RD).agg (.slice ao Fs.length c), .int .i64 6]) ∧ (∃ bv T', GAt w' (.slice ao Fs.length c) (Fs.set K (⟨x.1.name, x.1.rb ++ nB l r.born N⟩, bv)) T' ∧ ∀ k, T' k → T k ∨ W.heap.size ≤ k) ∧ Fr T W w' := by
  obtain ⟨⟨xn, rb⟩, bv⟩ := x
  (try dsimp only at *)
  obtain ⟨bo', bc, hbv⟩ := h.form hx
  dsimp only at hbv
  subst hbv
  obtain ⟨w, hw⟩ : ∃ w, w = (W.alloc (.cells (r.cells (.slice ao Fs.length c)) 30)).alloc (.cells zero8 30) := ⟨_, rfl⟩
  have hB : B2 W w (r.cells (.slice ao Fs.length c)) := by rw [hw]; exact B2.new _ _
  have HC := hide (gfound_any r ao c Fs T n w (h.fr0 hB.f) hfs hl)
  rw [hF] at HC
  have HB := hide (And.intro hB h)
  have hKl : (K : Int) < (Fs.length : Int) := by have := (List.getElem?_eq_some_iff.1 hx).1; omega
  clear hB h hfs hF
  obtain ⟨li, bo, wt, fs, ar, te, off, fu⟩ := r
  dsimp only at *
  subst hfu hoff
  subst har hte
  have hteN : (N : Int) < (l.length : Int) := by omega
  (try dsimp only at HC ⊢)
  unfold RD.agg at HC ⊢
  unfold RD.cells zero8 at hw
  go_enter Try.func37, Try.ntmps37
  go_wp2_with fail
  rw [← hw]
  refine (unhide HC).mono ?_
  rintro e' w2 ⟨rfl, hf2⟩
  have hB2 := (unhide HB).1.fr0 hf2
  have hG2 := (unhide HB).2.fr0 hB2.f
  have hWl : W.heap.size ≤ w2.heap.size := hB2.f.size
  have HW := hide (unhide HB).2
  clear hf2 HB HC hw
  obtain ⟨c0, c1, c2, c3, c4, c5, c6, c7, _⟩ := cells_of8 hB2.d
  obtain ⟨g, rfl, hTg, d0, d1, hfz⟩ := hG2.at_ hx
  dsimp only at d0 d1
  have hbl : ∀ y ∈ Fs, y.1.rb.length ≤ 1048576 := hbs
  have HU := hide (fun (W' : World) (hf : Fr (fun _ => False) w2 W') => (gused_any ⟨li, bo, wt, fs, 1, (N : Nat), false, false⟩ (some ⟨g, 0, none⟩) c Fs T W' (hG2.fr0 hf) hl hbl).mono fun e w3 ⟨he, h3⟩ => (show e = _ ∧ Fr (fun _ => False) w2 w3 from ⟨he, hf.trans h3 (fun _ _ h => h)⟩))
  unfold RD.agg at HU
  dsimp only at HU
  generalize hus : lenN Fs Fs.length = us at *
  have HK := hide (fun (W' : World) (hf : Fr (fun _ => False) w2 W') => by
    have h1 := cells_of8 (hB2.fr0 hf).d
    exact And.intro h1.1 (And.intro h1.2.1 (And.intro h1.2.2.1 (And.intro h1.2.2.2.1 (And.intro h1.2.2.2.2.1 (And.intro h1.2.2.2.2.2.1 (And.intro h1.2.2.2.2.2.2.1 h1.2.2.2.2.2.2.2.1)))))))
  have hrbl := hbl _ (List.mem_of_getElem? hx)
  dsimp only at hrbl
  go_wp2_with fail
  go_region_held3 (fun W' => W'.cell? ⟨W.heap.size, 0, none⟩ = some (.int .i64 (li : Nat)) ∧ W'.cell? ⟨W.heap.size, 1, none⟩ = some (.int .i64 (bo : Nat)) ∧ W'.cell? ⟨W.heap.size, 2, none⟩ = some (.int .i64 (wt : Nat)) ∧ W'.cell? ⟨W.heap.size, 3, none⟩ = some (.slice (some ⟨g, 0, none⟩) Fs.length c) ∧ W'.cell? ⟨W.heap.size, 4, none⟩ = some (.int .i64 1) ∧ W'.cell? ⟨W.heap.size, 5, none⟩ = some (.int .i64 (N : Nat)) ∧ W'.cell? ⟨W.heap.size, 6, none⟩ = some (.bool false) ∧ W'.cell? ⟨W.heap.size, 7, none⟩ = some (.bool false))
    (first | exact (unhide HK) _ ((Fr.refl _ _).drew) | exact (unhide HK) _ hf3 | exact ⟨c0, c1, c2, c3, c4, c5, c6, c7⟩)
    (first | (go_at_call 27; refine ((unhide HU) _ ((Fr.refl _ _).drew)).mono ?_; rintro e w3 ⟨rfl, hf3⟩))
  have hB3 := hB2.fr0 hf3
  have hG3 := hG2.fr0 hf3
  have hus2 : us ≤ 1048576 * 256 := by
    rw [← hus]
    exact Nat.le_trans (lenN_le Fs Fs.length 1048576 hbl) (by omega)
  rw [wrapI ((us : Int) + (l.length : Int)) (by omega) (by omega)]
  clear c0 c1 c2 c3 c4 c5 c6 c7
  obtain ⟨c0, c1, c2, c3, c4, c5, c6, c7, z7⟩ := cells_of8 hB3.d
  have d1' : w3.cell? ⟨g, K * 2 + 1, none⟩ = some (.slice bo' rb.length bc) := (hf3.cell (p := ⟨g, K * 2 + 1, none⟩) (lt_of_cell d1) (fun h => h)).trans d1
  clear hB2 hG2 hf3 HU HK d0 d1
  have HN := hide (And.intro hbn hll)
  have hwI : (wt : Int) + 1 = ((wt + 1 : Nat) : Int) := by omega
  obtain ⟨w4, hw4⟩ : ∃ w4, w4 = ((w3.setCell ⟨W.heap.size, 2, none⟩ (.int .i64 ((wt : Int) + 1))).setCell ⟨W.heap.size, 6, none⟩ (.bool true)).setCell ⟨W.heap.size, 4, none⟩ (.int .i64 0) := ⟨_, rfl⟩
  have hf4 : Fr (fun k => k = W.heap.size) w3 w4 := by rw [hw4]; exact (((Fr.refl (fun k => k = W.heap.size) w3).setCell (p := ⟨W.heap.size, 2, none⟩) (.inl rfl) _).setCell (p := ⟨W.heap.size, 6, none⟩) (.inl rfl) _).setCell (p := ⟨W.heap.size, 4, none⟩) (.inl rfl) _
  have hd4 : w4.heap[W.heap.size]? = some (.cells #[.int .i64 (li : Nat), .int .i64 ((bo + 0 : Nat) : Int), .int .i64 ((wt : Int) + 1), .slice (some ⟨g, 0, none⟩) Fs.length c, .int .i64 (0), .int .i64 (N : Nat), .bool true, .bool false] 30) := by
    rw [hw4, blkset (blkset (blkset hB3.d _ _) _ _)]
    rfl
  have hz4 : w4.heap[W.heap.size + 1]? = some (.cells zero8 30) := (hf4.block _ (lt_of_block hB3.z) (by show ¬ W.heap.size + 1 = W.heap.size; omega)).trans hB3.z
  obtain ⟨w5, hr5, ho5, hf5⟩ := make_by (rb.length + N) w4 (by omega)
  have hr5' : (Instr.makeSlice 58 (.int .i64 0) (.int .i64 ((rb.length : Int) + (N : Int)))).run Try.prog w4 = .ok (.slice (some ⟨w4.heap.size, 0, none⟩) 0 (rb.length + N)) w5 := hr5
  have hsz3 : W.heap.size + 1 < w3.heap.size := lt_of_block hB3.z
  have hsz4 := hf4.size
  have hx3 := hG3.b _ (List.mem_of_getElem? hx)
  dsimp only at hx3
  have hxW : ∀ k, (Value.slice bo' rb.length bc).ownBlock = some k → k < W.heap.size := fun k hk => (unhide HW).lt k ((unhide HW).tb _ (List.mem_of_getElem? hx) k hk)
  have hx5 : w5.ownsRow 0 89 3 (.slice bo' rb.length bc) rb.length (bcells rb) := ownsRow_of_block hx3 (fun k hk => (hf5.block k (by have := hxW k hk; omega) (fun h => h)).trans (hf4.block k (hx3.lt k hk).2 (fun e => by have := hxW k hk; have e' : k = W.heap.size := e; omega)))
  obtain ⟨a6, k6, w6, hr6, ho6, hf6, hn6⟩ := app_by w5 w4.heap.size 0 _ _ [] rb ho5 hx5 (by simp; omega) hf5.size
  simp only [List.length_nil, Nat.zero_add, List.nil_append] at hr6 ho6
  have hf46 : Fr (fun k => k = W.heap.size) w4 w6 := (hf5.mono (fun _ _ h => h.elim)).trans hf6 (fun i hi e => by have e' : w4.heap.size = i := (by simpa [Value.ownBlock] using e); omega)
  have d14 : w4.cell? ⟨g, K * 2 + 1, none⟩ = some (.slice bo' rb.length bc) := (hf4.cell (p := ⟨g, K * 2 + 1, none⟩) (lt_of_cell d1') (fun e => by have e' : g = W.heap.size := e; have := (unhide HW).lt g hTg; omega)).trans d1'
  have d15 : w5.cell? ⟨g, K * 2 + 1, none⟩ = some (.slice bo' rb.length bc) := (hf5.cell (p := ⟨g, K * 2 + 1, none⟩) (lt_of_cell d14) (fun h => h)).trans d14
  have c34 : w4.cell? ⟨W.heap.size, 3, none⟩ = some (.slice (some ⟨g, 0, none⟩) Fs.length c) := cell_of_blk hd4 rfl
  have c35 : w5.cell? ⟨W.heap.size, 3, none⟩ = some (.slice (some ⟨g, 0, none⟩) Fs.length c) := (hf5.cell (p := ⟨W.heap.size, 3, none⟩) (lt_of_cell c34) (fun h => h)).trans c34
  have hFW : Fr (fun _ => False) W w4 := hB3.f.trans hf4 (fun i hi e => by have e' : i = W.heap.size := e; omega)
  have hd6 : w6.heap[W.heap.size]? = _ := (hf6.block _ (Nat.lt_of_lt_of_le (lt_of_block hd4) hf5.size) (fun e => by have e' : w4.heap.size = W.heap.size := (by simpa [Value.ownBlock] using e); omega)).trans ((hf5.block _ (lt_of_block hd4) (fun h => h)).trans hd4)
  have HX := hide (And.intro hFW (And.intro hx (And.intro hz4 (And.intro (And.intro ho6 (And.intro hf46 hd6)) (And.intro hsx (And.intro hsz3 (And.intro hsz4 (And.intro hxW d14))))))))
  have hs4 : w4.heap.size = w3.heap.size := by rw [hw4]; simp
  rw [hs4] at hr5' hr6
  have HR6 := hide hr6
  rw [hw4] at hr5' c34 d14
  clear hr5 hr6 ho5 ho6 hf5 hf6 hn6 hx5 hx3 hf46 hFW hd6 hz4 hd4 hf4 hw4 hB3 hG3 hsx hsz3 hsz4 hxW hx hwI hbs hbl hs4 hus2 hbn hus
  go_wp2_with (first | (at_builtin; refine wpList_app rfl _ _ 58 58 rfl _ _ _ rfl rfl (unhide HR6) ?_))
  clear hr5' HR6 c0 c1 c2 c3 c4 c5 c6 c7 z7 d1' c34 c35 d14 d15
  go_loopw [11, 12] (fun lv iv wr => ∃ (j : Nat) (lo : Option Addr) (lc : Nat), j ≤ N ∧ iv = .int .i64 (j : Nat) ∧ lv = .slice lo (rb.length + j) lc ∧ wr.ownsRow w4.heap.size 89 3 (.slice lo (rb.length + j) lc) (rb.length + j) (bcells (rb ++ nB l bo j)) ∧ wr.heap[W.heap.size]? = some (.cells #[.int .i64 (li : Nat), .int .i64 ((bo + j : Nat) : Int), .int .i64 ((wt : Int) + 1), .slice (some ⟨g, 0, none⟩) Fs.length c, .int .i64 (0), .int .i64 (N : Nat), .bool true, .bool false] 30) ∧ Fr (fun k => k = W.heap.size) w4 wr) (fun _ iv _ => N - (intOf iv).toNat)
  case atStart => exact ⟨0, a6, k6, Nat.zero_le _, rfl, rfl, by have := (unhide HX).2.2.2.1.1; simpa [nB] using this, (unhide HX).2.2.2.1.2.2, (unhide HX).2.2.2.1.2.1⟩
  case round =>
    obtain ⟨j, lo, lc, hj, rfl, rfl, hrow, hbx, hfr⟩ := hrel
    obtain ⟨hFW, hx, hz4, _, hsx, hsz3, hsz4, hxW, d14⟩ := unhide HX
    have hFr : Fr (fun _ => False) W wr := hFW.trans hfr (fun i hi e => by have e' : i = W.heap.size := e; omega)
    by_cases hlt : j < N
    · have hjl : j < l.length := by omega
      obtain ⟨gx, ox, rfl, cx⟩ := src_at (hsx.fr hFr (fun _ _ _ _ _ h => h)) j hjl
      obtain ⟨c0, c1, c2, c3, c4, c5, c6, c7, z7⟩ := cells_of8 hbx
      have hlen : (rb ++ nB l bo j).length = rb.length + j := by rw [List.length_append, nB_len l bo j (by omega)]
      obtain ⟨B, hB⟩ : ∃ B, B = bo + j := ⟨_, rfl⟩
      rw [← hB] at c1 hbx
      have hBm : (B : Int) + 1 < 9223372036854775808 := by have := (unhide HN); omega
      have hrow2 : (wr.alloc (.cells #[.int .u8 ((l[j] % 256 : Nat) : Int), .int .i64 (B : Nat), .bool false] 89)).drew.ownsRow w4.heap.size 89 3 (.slice lo (rb.length + j) lc) (rb ++ nB l bo j).length (bcells (rb ++ nB l bo j)) := by
        rw [hlen]
        exact ownsRow_of_block hrow (fun k hk => (show (wr.alloc (.cells #[.int .u8 ((l[j] % 256 : Nat) : Int), .int .i64 (B : Nat), .bool false] 89)).heap[k]? = _ from Below.heap_alloc _ _ _ (hrow.lt k hk).2))
      obtain ⟨a7, k7, w7, hr7, ho7, hf7, hn7⟩ := app_by _ w4.heap.size 0 _ _ _ [⟨l[j], B, false⟩] hrow2 (ownsRow_of_block (lit_by wr ⟨l[j], B, false⟩) (fun k _ => rfl)) (by rw [hlen]; simp; omega) (by show w4.heap.size ≤ (wr.alloc _).heap.size; simp; have := hfr.size; omega)
      rw [hlen] at hr7 ho7
      simp only [List.length_cons, List.length_nil, Nat.zero_add] at hr7 ho7
      rw [List.append_assoc, hB, ← nB_succ l bo j hjl] at ho7
      have hlo : ∀ k, (Value.slice lo (rb.length + j) lc).ownBlock = some k → w4.heap.size ≤ k := fun k hk => (hrow.lt k hk).1
      have hal : Fr (fun _ => False) wr (wr.alloc (.cells #[.int .u8 ((l[j] % 256 : Nat) : Int), .int .i64 (B : Nat), .bool false] 89)).drew := ((Fr.refl _ _).alloc _).drew
      have hf07 : Fr (fun k => (Value.slice lo (rb.length + j) lc).ownBlock = some k) wr w7 := (hal.mono (fun _ _ h => h.elim)).trans hf7 (fun _ _ h => h)
      have hf17 : Fr (fun k => k = W.heap.size) w4 w7 := hfr.trans hf07 (fun i hi e => by have := hlo i e; omega)
      have hgx : gx < wr.heap.size := lt_of_cell cx
      have hgW : gx < W.heap.size := by
        obtain ⟨gy, oy, ey, cy⟩ := src_at hsx j hjl
        cases ey
        exact lt_of_cell cy
      have hbx7 : w7.heap[W.heap.size]? = _ := (hf07.block _ (lt_of_block hbx) (fun e => by have := hlo _ e; omega)).trans hbx
      obtain ⟨_, e1, _, _, _, _, _, _, e8⟩ := cells_of8 hbx7
      have HS1 := hide (And.intro cx c1)
      have HS2 := hide (And.intro ((hal.cell (p := ⟨gx, ox + j, none⟩) hgx (fun h => h)).trans cx) ((hal.cell (p := ⟨W.heap.size, 1, none⟩) (lt_of_cell c1) (fun h => h)).trans c1))
      have HS3 := hide (And.intro ((hf07.cell (p := ⟨gx, ox + j, none⟩) hgx (fun e => by have := hlo gx e; omega)).trans cx) e1)
      have hbx8 := blkset hbx7 1 (.int .i64 ((B : Int) + 1))
      have ho8 := ownsRow_of_block (w' := w7.setCell ⟨W.heap.size, 1, none⟩ (.int .i64 ((B : Int) + 1))) ho7 (fun k hk => by
        refine ((Fr.refl (fun k => k = W.heap.size) w7).setCell (p := ⟨W.heap.size, 1, none⟩) (.inl rfl) (.int .i64 ((B : Int) + 1))).block k (ho7.lt k hk).2 (fun e => ?_)
        have e' : k = W.heap.size := e
        have := (ho7.lt k hk).1
        omega)
      have hf18 : Fr (fun k => k = W.heap.size) w4 (w7.setCell ⟨W.heap.size, 1, none⟩ (.int .i64 ((B : Int) + 1))) := hf17.setCell (p := ⟨W.heap.size, 1, none⟩) (.inl rfl) _
      have hbI : (B : Int) + 1 = ((bo + (j + 1) : Nat) : Int) := by omega
      rw [show (#[Value.int .i64 (li : Nat), .int .i64 (B : Nat), .int .i64 ((wt : Int) + 1), .slice (some ⟨g, 0, none⟩) Fs.length c, .int .i64 (0), .int .i64 (N : Nat), .bool true, .bool false].setIfInBounds 1 (.int .i64 ((B : Int) + 1))) = #[.int .i64 (li : Nat), .int .i64 ((bo + (j + 1) : Nat) : Int), .int .i64 ((wt : Int) + 1), .slice (some ⟨g, 0, none⟩) Fs.length c, .int .i64 (0), .int .i64 (N : Nat), .bool true, .bool false] by rw [← hbI]; rfl] at hbx8
      have HS := hide (And.intro ho8 (And.intro hbx8 hf18))
      have HR7 := hide hr7
      clear hr7 ho7 ho8 hbx8 hf18 hf17 hbx7 hf7 hf07 hal hn7 hrow hrow2 hbx hfr hFr hFW hx hz4 hsx hxW hlo hlen hbI d14 hgx hgW hB
      have hkl : (j : Int) < (N : Int) := by omega
      generalize hv : l[j] % 256 = vv at *
      go_wp2_with fail
      go_region_held3 (fun w' => w'.cell? ⟨gx, ox + j, none⟩ = some (.int .u8 (vv : Nat)) ∧ w'.cell? ⟨W.heap.size, 1, none⟩ = some (.int .i64 (B : Nat)))
        (first | with_reducible exact unhide HS3 | with_reducible exact unhide HS2 | exact unhide HS1)
        (refine step_app rfl (.tmp 82) (.tmp 90) 58 58 rfl _ _ _ (by simp [Act.eval]) (by simp [Act.eval]) (unhide HR7) ?_)
      all_goals
        go_wp2_with fail
        exact ⟨⟨j + 1, a7, k7, hlt, by go_num, rfl, (unhide HS).1, (unhide HS).2.1, (unhide HS).2.2⟩, by simp [intOf]; omega⟩
    · have hkl : ¬ (j : Int) < (N : Int) := by omega
      obtain rfl : N = j := by omega
      obtain ⟨c0, c1, c2, c3, c4, c5, c6, c7, z7⟩ := cells_of8 hbx
      have hgW := (unhide HW).lt g hTg
      have d1r : wr.cell? ⟨g, K * 2 + 1, none⟩ = some (.slice bo' rb.length bc) := (hfr.cell (p := ⟨g, K * 2 + 1, none⟩) (lt_of_cell d14) (fun e => by have e' : g = W.heap.size := e; omega)).trans d14
      have hGr : GAt wr (.slice (some ⟨g, 0, none⟩) Fs.length c) Fs T := (unhide HW).fr hFr (fun _ _ h => h)
      have hfzr : wr.frozen? ⟨g, K * 2 + 1, none⟩ = false := by
        obtain ⟨cur, hb⟩ := own_blk hGr.row rfl
        simp [World.frozen?, hb]
      obtain ⟨w8, hw8⟩ : ∃ w8, w8 = wr.setCell ⟨g, K * 2 + 1, none⟩ (.slice lo (rb.length + N) lc) := ⟨_, rfl⟩
      have hf8 : Fr (fun k => k = g) wr w8 := by rw [hw8]; exact (Fr.refl (fun k => k = g) wr).setCell (p := ⟨g, K * 2 + 1, none⟩) (.inl rfl) _
      have hv8 : w8.ownsRow 0 60 2 (.slice (some ⟨g, 0, none⟩) Fs.length c) Fs.length (gcells (Fs.set K (⟨xn, rb ++ nB l bo N⟩, .slice lo (rb.length + N) lc))) := by
        have h1 := (hGr.row.stored (K * 2 + 1) (.slice lo (rb.length + N) lc)).1
        rw [gcells_set Fs K _ hx _ (⟨xn, rb ++ nB l bo N⟩, .slice lo (rb.length + N) lc) (by simp [fc2])] at h1
        rw [hw8]
        exact h1
      have hlo : ∀ k, (Value.slice lo (rb.length + N) lc).ownBlock = some k → w4.heap.size ≤ k := fun k hk => (hrow.lt k hk).1
      have hb8 : w8.ownsRow 0 89 3 (.slice lo (rb.length + N) lc) (rb ++ nB l bo N).length (bcells (rb ++ nB l bo N)) := by
        rw [List.length_append, nB_len l bo N (by omega)]
        exact ownsRow_base (ownsRow_of_block hrow (fun k hk => hf8.block k (hrow.lt k hk).2 (fun e => by have e' : k = g := e; have := hlo k hk; omega))) (Nat.zero_le _)
      have hf08 : Fr (fun k => (Value.slice (some ⟨g, 0, none⟩) Fs.length c).ownBlock = some k ∨ (Value.slice bo' rb.length bc).ownBlock = some k) W w8 := (hFr.mono (fun _ _ h => h.elim)).trans hf8 (fun i hi e => .inl (by have e' : i = g := e; rw [e']; rfl))
      have hG8 := (unhide HW).file (y := (⟨xn, rb ++ nB l bo N⟩, .slice lo (rb.length + N) lc)) hx hf08 hv8 hb8 (fun k hk => .inr (by have := hlo k hk; omega))
      have hz8 : w8.heap[W.heap.size + 1]? = some (.cells zero8 30) := (hf8.block _ (by have := lt_of_block hz4; have := hfr.size; omega) (fun e => by have e' : W.heap.size + 1 = g := e; omega)).trans ((hfr.block _ (lt_of_block hz4) (by show ¬ W.heap.size + 1 = W.heap.size; omega)).trans hz4)
      obtain ⟨V, hrV, hgV, hfV⟩ := gbox hz8 ⟨li, bo + N, wt + 1, fs, 0, (N : Nat), true, false⟩ (some ⟨g, 0, none⟩) Fs.length c
      have hfin := hG8.fr hfV (fun k hk e => by
        have e' : k = W.heap.size + 1 := e
        rcases hk with hk | hk
        · have := (unhide HW).lt k hk; omega
        · have := hlo k hk; omega)
      have hTT : Fr T W V := (hf08.mono (fun k _ h => h.elim (fun e => (unhide HW).tr k e) (fun e => (unhide HW).tb _ (List.mem_of_getElem? hx) k e))).trans hfV (fun i hi e => by have e' : i = W.heap.size + 1 := e; omega)
      have hT2 : ∀ k, (T k ∨ (Value.slice lo (rb.length + N) lc).ownBlock = some k) → T k ∨ W.heap.size ≤ k := fun k hk => hk.elim .inl (fun e => .inr (by have := hlo k e; omega))
      have hlen8 : lt_of_block hbx = lt_of_block hbx := rfl
      unfold RD.agg at hrV
      dsimp only at hrV
      rw [hw8] at hrV
      push_cast at hrV
      have HV := hide hrV
      have HE := hide (And.intro hgV (And.intro hfin (And.intro hT2 hTT)))
      have hgne : ¬ g = W.heap.size := by omega
      have hgne' : ¬ W.heap.size = g := by omega
      clear hrV hgV hfV hfin hTT hT2 hG8 hf08 hb8 hv8 hf8 hw8 hz8 hGr hlo hlen8 hrow hbx hfr hFr hFW hx hz4 hsx hxW d14 HX hsz3 hsz4 hgW
      go_wp2_with (refine wpList_stN rfl 30 (.tmp 6) _ rfl _ _ rfl rfl (unhide HV) ?_)
      (try simp only [Exit.inBlock, Exit.then])
      refine bodyPost_ret (results_cellt rfl _ _ (W.heap.size + 1) 0 _ _ _ rfl rfl (unhide HE).1 Try.underlying30 rfl (by kernel_rfl)) rfl ?_
      exact ⟨rfl, ⟨_, _, (unhide HE).2.1, (unhide HE).2.2.1⟩, (unhide HE).2.2.2⟩
end Go.Proofs.Ytoflkfnmbighaaa

