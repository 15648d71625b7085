import Derived.Test.YtoflkfnmbighaaaPk3
import Derived.Test.YtoflkfnmbighaaaPk4
import Derived.Test.YtoflkfnmbighaaaPk5
namespace Go.Proofs.Ytoflkfnmbighaaa
open Go.RowKit Go.ChangeShapes Go.WideShapes Go.Maps

set_option maxHeartbeats 1000000 in
set_option maxRecDepth 100000 in
/-- Append, this write is armed, and comes through. -/
theorem gAppend_d (r : RD) (ao : Option Addr) (c : Nat) (Fs : List GF) (T : Nat → Prop) (n : ByteArray) (xo : Option Addr) (xc : Nat) (l : List Nat)  (K : Nat) (x : GF) (W : World) (h : GAt W (.slice ao Fs.length c) Fs T) (hfs : Fs.map Prod.fst = r.fs) (hl : Fs.length ≤ 256) (hF : r.found n = ((K : Int), 0)) (hx : Fs[K]? = some x) (hfu : r.full = false) (hoff : r.off = false) (hbs : ∀ y ∈ Fs, y.1.rb.length ≤ 1048576) (hno : ¬ (r.limit : Int) < (lenN Fs Fs.length : Int) + (l.length : Int)) (hll : l.length ≤ 1048576) (hbn : r.born ≤ 4611686018427387904) (hwn : r.writes ≤ 4611686018427387904) (hsx : Src W (.slice xo l.length xc) l) (har : r.armed = 1) (hte : ¬ r.tear < (l.length : Int)) :
    Calls Try.prog 37 #[r.agg (.slice ao Fs.length c), .string n, .slice xo l.length xc] W fun e w' => e = .returned (.tuple #[({ r with born := r.born + l.length, writes := r.writes + 1, armed := 0, off := true } : RD).agg (.slice ao Fs.length c), .int .i64 6]) ∧ (∃ bv T', GAt w' (.slice ao Fs.length c) (Fs.set K (⟨x.1.name, x.1.rb ++ nB l r.born l.length⟩, bv)) T' ∧ ∀ k, T' k → T k ∨ W.heap.size ≤ k) ∧ Fr T W w' := by
  obtain ⟨⟨xn, rb⟩, bv⟩ := x
  (try dsimp only at *)
  obtain ⟨bo', bc, hbv⟩ := h.form hx
  dsimp only at hbv
  subst hbv
  obtain ⟨w, hw⟩ : ∃ w, w = (W.alloc (.cells (r.cells (.slice ao Fs.length c)) 30)).alloc (.cells zero8 30) := ⟨_, rfl⟩
  have hB : B2 W w (r.cells (.slice ao Fs.length c)) := by rw [hw]; exact B2.new _ _
  have HC := hide (gfound_any r ao c Fs T n w (h.fr0 hB.f) hfs hl)
  rw [hF] at HC
  have HB := hide (And.intro hB h)
  have hKl : (K : Int) < (Fs.length : Int) := by have := (List.getElem?_eq_some_iff.1 hx).1; omega
  clear hB h hfs hF
  obtain ⟨li, bo, wt, fs, ar, te, off, fu⟩ := r
  dsimp only at *
  subst hfu hoff
  subst har
  (try dsimp only at HC ⊢)
  unfold RD.agg at HC ⊢
  unfold RD.cells zero8 at hw
  go_enter Try.func37, Try.ntmps37
  go_wp2_with fail
  rw [← hw]
  refine (unhide HC).mono ?_
  rintro e' w2 ⟨rfl, hf2⟩
  have hB2 := (unhide HB).1.fr0 hf2
  have hG2 := (unhide HB).2.fr0 hB2.f
  have hWl : W.heap.size ≤ w2.heap.size := hB2.f.size
  have HW := hide (unhide HB).2
  clear hf2 HB HC hw
  obtain ⟨c0, c1, c2, c3, c4, c5, c6, c7, _⟩ := cells_of8 hB2.d
  obtain ⟨g, rfl, hTg, d0, d1, hfz⟩ := hG2.at_ hx
  dsimp only at d0 d1
  have hbl : ∀ y ∈ Fs, y.1.rb.length ≤ 1048576 := hbs
  have HU := hide (fun (W' : World) (hf : Fr (fun _ => False) w2 W') => (gused_any ⟨li, bo, wt, fs, 1, te, false, false⟩ (some ⟨g, 0, none⟩) c Fs T W' (hG2.fr0 hf) hl hbl).mono fun e w3 ⟨he, h3⟩ => (show e = _ ∧ Fr (fun _ => False) w2 w3 from ⟨he, hf.trans h3 (fun _ _ h => h)⟩))
  unfold RD.agg at HU
  dsimp only at HU
  generalize hus : lenN Fs Fs.length = us at *
  have HK := hide (fun (W' : World) (hf : Fr (fun _ => False) w2 W') => by
    have h1 := cells_of8 (hB2.fr0 hf).d
    exact And.intro h1.1 (And.intro h1.2.1 (And.intro h1.2.2.1 (And.intro h1.2.2.2.1 (And.intro h1.2.2.2.2.1 (And.intro h1.2.2.2.2.2.1 (And.intro h1.2.2.2.2.2.2.1 h1.2.2.2.2.2.2.2.1)))))))
  have hrbl := hbl _ (List.mem_of_getElem? hx)
  dsimp only at hrbl
  go_wp2_with fail
  go_region_held3 (fun W' => W'.cell? ⟨W.heap.size, 0, none⟩ = some (.int .i64 (li : Nat)) ∧ W'.cell? ⟨W.heap.size, 1, none⟩ = some (.int .i64 (bo : Nat)) ∧ W'.cell? ⟨W.heap.size, 2, none⟩ = some (.int .i64 (wt : Nat)) ∧ W'.cell? ⟨W.heap.size, 3, none⟩ = some (.slice (some ⟨g, 0, none⟩) Fs.length c) ∧ W'.cell? ⟨W.heap.size, 4, none⟩ = some (.int .i64 1) ∧ W'.cell? ⟨W.heap.size, 5, none⟩ = some (.int .i64 te) ∧ W'.cell? ⟨W.heap.size, 6, none⟩ = some (.bool false) ∧ W'.cell? ⟨W.heap.size, 7, none⟩ = some (.bool false))
    (first | exact (unhide HK) _ ((Fr.refl _ _).drew) | exact (unhide HK) _ hf3 | exact ⟨c0, c1, c2, c3, c4, c5, c6, c7⟩)
    (first | (go_at_call 27; refine ((unhide HU) _ ((Fr.refl _ _).drew)).mono ?_; rintro e w3 ⟨rfl, hf3⟩))
  have hB3 := hB2.fr0 hf3
  have hG3 := hG2.fr0 hf3
  have hus2 : us ≤ 1048576 * 256 := by
    rw [← hus]
    exact Nat.le_trans (lenN_le Fs Fs.length 1048576 hbl) (by omega)
  rw [wrapI ((us : Int) + (l.length : Int)) (by omega) (by omega)]
  clear c0 c1 c2 c3 c4 c5 c6 c7
  obtain ⟨c0, c1, c2, c3, c4, c5, c6, c7, z7⟩ := cells_of8 hB3.d
  have d1' : w3.cell? ⟨g, K * 2 + 1, none⟩ = some (.slice bo' rb.length bc) := (hf3.cell (p := ⟨g, K * 2 + 1, none⟩) (lt_of_cell d1) (fun h => h)).trans d1
  clear hB2 hG2 hf3 HU HK d0 d1
  have HN := hide (And.intro hbn hll)
  have hwI : (wt : Int) + 1 = ((wt + 1 : Nat) : Int) := by omega
  obtain ⟨w4, hw4⟩ : ∃ w4, w4 = ((w3.setCell ⟨W.heap.size, 2, none⟩ (.int .i64 ((wt : Int) + 1))).setCell ⟨W.heap.size, 6, none⟩ (.bool true)).setCell ⟨W.heap.size, 4, none⟩ (.int .i64 0) := ⟨_, rfl⟩
  have hf4 : Fr (fun k => k = W.heap.size) w3 w4 := by rw [hw4]; exact (((Fr.refl (fun k => k = W.heap.size) w3).setCell (p := ⟨W.heap.size, 2, none⟩) (.inl rfl) _).setCell (p := ⟨W.heap.size, 6, none⟩) (.inl rfl) _).setCell (p := ⟨W.heap.size, 4, none⟩) (.inl rfl) _
  have hd4 : w4.heap[W.heap.size]? = some (.cells #[.int .i64 (li : Nat), .int .i64 ((bo + 0 : Nat) : Int), .int .i64 ((wt : Int) + 1), .slice (some ⟨g, 0, none⟩) Fs.length c, .int .i64 (0), .int .i64 te, .bool true, .bool false] 30) := by
    rw [hw4, blkset (blkset (blkset hB3.d _ _) _ _)]
    rfl
  have hz4 : w4.heap[W.heap.size + 1]? = some (.cells zero8 30) := (hf4.block _ (lt_of_block hB3.z) (by show ¬ W.heap.size + 1 = W.heap.size; omega)).trans hB3.z
  obtain ⟨w5, hr5, ho5, hf5⟩ := make_by (rb.length + l.length) w4 (by omega)
  have hr5' : (Instr.makeSlice 58 (.int .i64 0) (.int .i64 ((rb.length : Int) + (l.length : Int)))).run Try.prog w4 = .ok (.slice (some ⟨w4.heap.size, 0, none⟩) 0 (rb.length + l.length)) w5 := hr5
  have hsz3 : W.heap.size + 1 < w3.heap.size := lt_of_block hB3.z
  have hsz4 := hf4.size
  have hx3 := hG3.b _ (List.mem_of_getElem? hx)
  dsimp only at hx3
  have hxW : ∀ k, (Value.slice bo' rb.length bc).ownBlock = some k → k < W.heap.size := fun k hk => (unhide HW).lt k ((unhide HW).tb _ (List.mem_of_getElem? hx) k hk)
  have hx5 : w5.ownsRow 0 89 3 (.slice bo' rb.length bc) rb.length (bcells rb) := ownsRow_of_block hx3 (fun k hk => (hf5.block k (by have := hxW k hk; omega) (fun h => h)).trans (hf4.block k (hx3.lt k hk).2 (fun e => by have := hxW k hk; have e' : k = W.heap.size := e; omega)))
  obtain ⟨a6, k6, w6, hr6, ho6, hf6, hn6⟩ := app_by w5 w4.heap.size 0 _ _ [] rb ho5 hx5 (by simp; omega) hf5.size
  simp only [List.length_nil, Nat.zero_add, List.nil_append] at hr6 ho6
  have hf46 : Fr (fun k => k = W.heap.size) w4 w6 := (hf5.mono (fun _ _ h => h.elim)).trans hf6 (fun i hi e => by have e' : w4.heap.size = i := (by simpa [Value.ownBlock] using e); omega)
  have d14 : w4.cell? ⟨g, K * 2 + 1, none⟩ = some (.slice bo' rb.length bc) := (hf4.cell (p := ⟨g, K * 2 + 1, none⟩) (lt_of_cell d1') (fun e => by have e' : g = W.heap.size := e; have := (unhide HW).lt g hTg; omega)).trans d1'
  have d15 : w5.cell? ⟨g, K * 2 + 1, none⟩ = some (.slice bo' rb.length bc) := (hf5.cell (p := ⟨g, K * 2 + 1, none⟩) (lt_of_cell d14) (fun h => h)).trans d14
  have c34 : w4.cell? ⟨W.heap.size, 3, none⟩ = some (.slice (some ⟨g, 0, none⟩) Fs.length c) := cell_of_blk hd4 rfl
  have c35 : w5.cell? ⟨W.heap.size, 3, none⟩ = some (.slice (some ⟨g, 0, none⟩) Fs.length c) := (hf5.cell (p := ⟨W.heap.size, 3, none⟩) (lt_of_cell c34) (fun h => h)).trans c34
  have hFW : Fr (fun _ => False) W w4 := hB3.f.trans hf4 (fun i hi e => by have e' : i = W.heap.size := e; omega)
  have hd6 : w6.heap[W.heap.size]? = _ := (hf6.block _ (Nat.lt_of_lt_of_le (lt_of_block hd4) hf5.size) (fun e => by have e' : w4.heap.size = W.heap.size := (by simpa [Value.ownBlock] using e); omega)).trans ((hf5.block _ (lt_of_block hd4) (fun h => h)).trans hd4)
  have HX := hide (And.intro hFW (And.intro hx (And.intro hz4 (And.intro (And.intro ho6 (And.intro hf46 hd6)) (And.intro hsx (And.intro hsz3 (And.intro hsz4 (And.intro hxW d14))))))))
  have hs4 : w4.heap.size = w3.heap.size := by rw [hw4]; simp
  rw [hs4] at hr5' hr6
  have HR6 := hide hr6
  rw [hw4] at hr5' c34 d14
  clear hr5 hr6 ho5 ho6 hf5 hf6 hn6 hx5 hx3 hf46 hFW hd6 hz4 hd4 hf4 hw4 hB3 hG3 hsx hsz3 hsz4 hxW hx hwI hbs hbl hs4 hus2 hbn hus
  go_wp2_with (first | (at_builtin; refine wpList_app rfl _ _ 58 58 rfl _ _ _ rfl rfl (unhide HR6) ?_))
  clear hr5' HR6 c0 c1 c2 c3 c4 c5 c6 c7 z7 d1' c34 c35 d14 d15
  go_loopw [11, 12] (fun lv iv wr => ∃ (j : Nat) (lo : Option Addr) (lc : Nat), j ≤ l.length ∧ iv = .int .i64 (j : Nat) ∧ lv = .slice lo (rb.length + j) lc ∧ wr.ownsRow w4.heap.size 89 3 (.slice lo (rb.length + j) lc) (rb.length + j) (bcells (rb ++ nB l bo j)) ∧ wr.heap[W.heap.size]? = some (.cells #[.int .i64 (li : Nat), .int .i64 ((bo + j : Nat) : Int), .int .i64 ((wt : Int) + 1), .slice (some ⟨g, 0, none⟩) Fs.length c, .int .i64 (0), .int .i64 te, .bool true, .bool false] 30) ∧ Fr (fun k => k = W.heap.size) w4 wr) (fun _ iv _ => l.length - (intOf iv).toNat)
  case atStart => exact ⟨0, a6, k6, Nat.zero_le _, rfl, rfl, by have := (unhide HX).2.2.2.1.1; simpa [nB] using this, (unhide HX).2.2.2.1.2.2, (unhide HX).2.2.2.1.2.1⟩
  case round =>
    obtain ⟨j, lo, lc, hj, rfl, rfl, hrow, hbx, hfr⟩ := hrel
    obtain ⟨hFW, hx, hz4, _, hsx, hsz3, hsz4, hxW, d14⟩ := unhide HX
    have hFr : Fr (fun _ => False) W wr := hFW.trans hfr (fun i hi e => by have e' : i = W.heap.size := e; omega)
    by_cases hlt : j < l.length
    · have hjl : j < l.length := by omega
      obtain ⟨gx, ox, rfl, cx⟩ := src_at (hsx.fr hFr (fun _ _ _ _ _ h => h)) j hjl
      obtain ⟨c0, c1, c2, c3, c4, c5, c6, c7, z7⟩ := cells_of8 hbx
      have hlen : (rb ++ nB l bo j).length = rb.length + j := by rw [List.length_append, nB_len l bo j (by omega)]
      obtain ⟨B, hB⟩ : ∃ B, B = bo + j := ⟨_, rfl⟩
      rw [← hB] at c1 hbx
      have hBm : (B : Int) + 1 < 9223372036854775808 := by have := (unhide HN); omega
      have hrow2 : (wr.alloc (.cells #[.int .u8 ((l[j] % 256 : Nat) : Int), .int .i64 (B : Nat), .bool false] 89)).drew.ownsRow w4.heap.size 89 3 (.slice lo (rb.length + j) lc) (rb ++ nB l bo j).length (bcells (rb ++ nB l bo j)) := by
        rw [hlen]
        exact ownsRow_of_block hrow (fun k hk => (show (wr.alloc (.cells #[.int .u8 ((l[j] % 256 : Nat) : Int), .int .i64 (B : Nat), .bool false] 89)).heap[k]? = _ from Below.heap_alloc _ _ _ (hrow.lt k hk).2))
      obtain ⟨a7, k7, w7, hr7, ho7, hf7, hn7⟩ := app_by _ w4.heap.size 0 _ _ _ [⟨l[j], B, false⟩] hrow2 (ownsRow_of_block (lit_by wr ⟨l[j], B, false⟩) (fun k _ => rfl)) (by rw [hlen]; simp; omega) (by show w4.heap.size ≤ (wr.alloc _).heap.size; simp; have := hfr.size; omega)
      rw [hlen] at hr7 ho7
      simp only [List.length_cons, List.length_nil, Nat.zero_add] at hr7 ho7
      rw [List.append_assoc, hB, ← nB_succ l bo j hjl] at ho7
      have hlo : ∀ k, (Value.slice lo (rb.length + j) lc).ownBlock = some k → w4.heap.size ≤ k := fun k hk => (hrow.lt k hk).1
      have hal : Fr (fun _ => False) wr (wr.alloc (.cells #[.int .u8 ((l[j] % 256 : Nat) : Int), .int .i64 (B : Nat), .bool false] 89)).drew := ((Fr.refl _ _).alloc _).drew
      have hf07 : Fr (fun k => (Value.slice lo (rb.length + j) lc).ownBlock = some k) wr w7 := (hal.mono (fun _ _ h => h.elim)).trans hf7 (fun _ _ h => h)
      have hf17 : Fr (fun k => k = W.heap.size) w4 w7 := hfr.trans hf07 (fun i hi e => by have := hlo i e; omega)
      have hgx : gx < wr.heap.size := lt_of_cell cx
      have hgW : gx < W.heap.size := by
        obtain ⟨gy, oy, ey, cy⟩ := src_at hsx j hjl
        cases ey
        exact lt_of_cell cy
      have hbx7 : w7.heap[W.heap.size]? = _ := (hf07.block _ (lt_of_block hbx) (fun e => by have := hlo _ e; omega)).trans hbx
      obtain ⟨_, e1, _, _, _, _, _, _, e8⟩ := cells_of8 hbx7
      have HS1 := hide (And.intro cx c1)
      have HS2 := hide (And.intro ((hal.cell (p := ⟨gx, ox + j, none⟩) hgx (fun h => h)).trans cx) ((hal.cell (p := ⟨W.heap.size, 1, none⟩) (lt_of_cell c1) (fun h => h)).trans c1))
      have HS3 := hide (And.intro ((hf07.cell (p := ⟨gx, ox + j, none⟩) hgx (fun e => by have := hlo gx e; omega)).trans cx) e1)
      have hbx8 := blkset hbx7 1 (.int .i64 ((B : Int) + 1))
      have ho8 := ownsRow_of_block (w' := w7.setCell ⟨W.heap.size, 1, none⟩ (.int .i64 ((B : Int) + 1))) ho7 (fun k hk => by
        refine ((Fr.refl (fun k => k = W.heap.size) w7).setCell (p := ⟨W.heap.size, 1, none⟩) (.inl rfl) (.int .i64 ((B : Int) + 1))).block k (ho7.lt k hk).2 (fun e => ?_)
        have e' : k = W.heap.size := e
        have := (ho7.lt k hk).1
        omega)
      have hf18 : Fr (fun k => k = W.heap.size) w4 (w7.setCell ⟨W.heap.size, 1, none⟩ (.int .i64 ((B : Int) + 1))) := hf17.setCell (p := ⟨W.heap.size, 1, none⟩) (.inl rfl) _
      have hbI : (B : Int) + 1 = ((bo + (j + 1) : Nat) : Int) := by omega
      rw [show (#[Value.int .i64 (li : Nat), .int .i64 (B : Nat), .int .i64 ((wt : Int) + 1), .slice (some ⟨g, 0, none⟩) Fs.length c, .int .i64 (0), .int .i64 te, .bool true, .bool false].setIfInBounds 1 (.int .i64 ((B : Int) + 1))) = #[.int .i64 (li : Nat), .int .i64 ((bo + (j + 1) : Nat) : Int), .int .i64 ((wt : Int) + 1), .slice (some ⟨g, 0, none⟩) Fs.length c, .int .i64 (0), .int .i64 te, .bool true, .bool false] by rw [← hbI]; rfl] at hbx8
      have HS := hide (And.intro ho8 (And.intro hbx8 hf18))
      have HR7 := hide hr7
      clear hr7 ho7 ho8 hbx8 hf18 hf17 hbx7 hf7 hf07 hal hn7 hrow hrow2 hbx hfr hFr hFW hx hz4 hsx hxW hlo hlen hbI d14 hgx hgW hB
      have hkl : (j : Int) < (l.length : Int) := by omega
      generalize hv : l[j] % 256 = vv at *
      go_wp2_with fail
      go_region_held3 (fun w' => w'.cell? ⟨gx, ox + j, none⟩ = some (.int .u8 (vv : Nat)) ∧ w'.cell? ⟨W.heap.size, 1, none⟩ = some (.int .i64 (B : Nat)))
        (first | with_reducible exact unhide HS3 | with_reducible exact unhide HS2 | exact unhide HS1)
        (refine step_app rfl (.tmp 82) (.tmp 90) 58 58 rfl _ _ _ (by simp [Act.eval]) (by simp [Act.eval]) (unhide HR7) ?_)
      all_goals
        go_wp2_with fail
        exact ⟨⟨j + 1, a7, k7, hlt, by go_num, rfl, (unhide HS).1, (unhide HS).2.1, (unhide HS).2.2⟩, by simp [intOf]; omega⟩
    · have hkl : ¬ (j : Int) < (l.length : Int) := by omega
      obtain rfl : j = l.length := by omega
      obtain ⟨c0, c1, c2, c3, c4, c5, c6, c7, z7⟩ := cells_of8 hbx
      have hgW := (unhide HW).lt g hTg
      have d1r : wr.cell? ⟨g, K * 2 + 1, none⟩ = some (.slice bo' rb.length bc) := (hfr.cell (p := ⟨g, K * 2 + 1, none⟩) (lt_of_cell d14) (fun e => by have e' : g = W.heap.size := e; omega)).trans d14
      have hGr : GAt wr (.slice (some ⟨g, 0, none⟩) Fs.length c) Fs T := (unhide HW).fr hFr (fun _ _ h => h)
      have hfzr : wr.frozen? ⟨g, K * 2 + 1, none⟩ = false := by
        obtain ⟨cur, hb⟩ := own_blk hGr.row rfl
        simp [World.frozen?, hb]
      obtain ⟨w8, hw8⟩ : ∃ w8, w8 = wr.setCell ⟨g, K * 2 + 1, none⟩ (.slice lo (rb.length + l.length) lc) := ⟨_, rfl⟩
      have hf8 : Fr (fun k => k = g) wr w8 := by rw [hw8]; exact (Fr.refl (fun k => k = g) wr).setCell (p := ⟨g, K * 2 + 1, none⟩) (.inl rfl) _
      have hv8 : w8.ownsRow 0 60 2 (.slice (some ⟨g, 0, none⟩) Fs.length c) Fs.length (gcells (Fs.set K (⟨xn, rb ++ nB l bo l.length⟩, .slice lo (rb.length + l.length) lc))) := by
        have h1 := (hGr.row.stored (K * 2 + 1) (.slice lo (rb.length + l.length) lc)).1
        rw [gcells_set Fs K _ hx _ (⟨xn, rb ++ nB l bo l.length⟩, .slice lo (rb.length + l.length) lc) (by simp [fc2])] at h1
        rw [hw8]
        exact h1
      have hlo : ∀ k, (Value.slice lo (rb.length + l.length) lc).ownBlock = some k → w4.heap.size ≤ k := fun k hk => (hrow.lt k hk).1
      have hb8 : w8.ownsRow 0 89 3 (.slice lo (rb.length + l.length) lc) (rb ++ nB l bo l.length).length (bcells (rb ++ nB l bo l.length)) := by
        rw [List.length_append, nB_len l bo l.length (by omega)]
        exact ownsRow_base (ownsRow_of_block hrow (fun k hk => hf8.block k (hrow.lt k hk).2 (fun e => by have e' : k = g := e; have := hlo k hk; omega))) (Nat.zero_le _)
      have hf08 : Fr (fun k => (Value.slice (some ⟨g, 0, none⟩) Fs.length c).ownBlock = some k ∨ (Value.slice bo' rb.length bc).ownBlock = some k) W w8 := (hFr.mono (fun _ _ h => h.elim)).trans hf8 (fun i hi e => .inl (by have e' : i = g := e; rw [e']; rfl))
      have hG8 := (unhide HW).file (y := (⟨xn, rb ++ nB l bo l.length⟩, .slice lo (rb.length + l.length) lc)) hx hf08 hv8 hb8 (fun k hk => .inr (by have := hlo k hk; omega))
      have hz8 : w8.heap[W.heap.size + 1]? = some (.cells zero8 30) := (hf8.block _ (by have := lt_of_block hz4; have := hfr.size; omega) (fun e => by have e' : W.heap.size + 1 = g := e; omega)).trans ((hfr.block _ (lt_of_block hz4) (by show ¬ W.heap.size + 1 = W.heap.size; omega)).trans hz4)
      obtain ⟨V, hrV, hgV, hfV⟩ := gbox hz8 ⟨li, bo + l.length, wt + 1, fs, 0, te, true, false⟩ (some ⟨g, 0, none⟩) Fs.length c
      have hfin := hG8.fr hfV (fun k hk e => by
        have e' : k = W.heap.size + 1 := e
        rcases hk with hk | hk
        · have := (unhide HW).lt k hk; omega
        · have := hlo k hk; omega)
      have hTT : Fr T W V := (hf08.mono (fun k _ h => h.elim (fun e => (unhide HW).tr k e) (fun e => (unhide HW).tb _ (List.mem_of_getElem? hx) k e))).trans hfV (fun i hi e => by have e' : i = W.heap.size + 1 := e; omega)
      have hT2 : ∀ k, (T k ∨ (Value.slice lo (rb.length + l.length) lc).ownBlock = some k) → T k ∨ W.heap.size ≤ k := fun k hk => hk.elim .inl (fun e => .inr (by have := hlo k e; omega))
      have hlen8 : lt_of_block hbx = lt_of_block hbx := rfl
      unfold RD.agg at hrV
      dsimp only at hrV
      rw [hw8] at hrV
      push_cast at hrV
      have HV := hide hrV
      have HE := hide (And.intro hgV (And.intro hfin (And.intro hT2 hTT)))
      have hgne : ¬ g = W.heap.size := by omega
      have hgne' : ¬ W.heap.size = g := by omega
      clear hrV hgV hfV hfin hTT hT2 hG8 hf08 hb8 hv8 hf8 hw8 hz8 hGr hlo hlen8 hrow hbx hfr hFr hFW hx hz4 hsx hxW d14 HX hsz3 hsz4 hgW
      go_wp2_with (refine wpList_stN rfl 30 (.tmp 6) _ rfl _ _ rfl rfl (unhide HV) ?_)
      (try simp only [Exit.inBlock, Exit.then])
      refine bodyPost_ret (results_cellt rfl _ _ (W.heap.size + 1) 0 _ _ _ rfl rfl (unhide HE).1 Try.underlying30 rfl (by kernel_rfl)) rfl ?_
      exact ⟨rfl, ⟨_, _, (unhide HE).2.1, (unhide HE).2.2.1⟩, (unhide HE).2.2.2⟩
end Go.Proofs.Ytoflkfnmbighaaa

namespace Go.Proofs.Ytoflkfnmbighaaa
open Go.RowKit Go.ChangeShapes Go.WideShapes Go.Maps

/-- The document's disk in memory. -/
structure GD (W : World) (r : RD) (v : Value) (T : Nat → Prop) : Prop where
  at_ : ∃ ao c Fs, v = .slice ao r.fs.length c ∧ Fs.map Prod.fst = r.fs ∧ GAt W v Fs T
/-- What a call of the document's leaves. -/
def GR (W : World) (T : Nat → Prop) (x : RD × Int) (e : Ending) (W' : World) : Prop := ∃ v' T', e = .returned (.tuple #[x.1.agg v', .int .i64 x.2]) ∧ GD W' x.1 v' T' ∧ (∀ k, T' k → T k ∨ W.heap.size ≤ k) ∧ Fr T W W'
theorem GD.fr0 {W W' : World} {r : RD} {v : Value} {T : Nat → Prop} (h : GD W r v T) (hf : Fr (fun _ => False) W W') : GD W' r v T := by
  obtain ⟨ao, c, Fs, h1, h2, h3⟩ := h.at_
  exact ⟨ao, c, Fs, h1, h2, h3.fr0 hf⟩
theorem GR.same {W W' : World} {r : RD} {v : Value} {T : Nat → Prop} {c : Int} (h : GD W r v T) (hf : Fr (fun _ => False) W W') : GR W T (r, c) (.returned (.tuple #[r.agg v, .int .i64 c])) W' :=
  ⟨v, T, rfl, h.fr0 hf, fun _ hk => .inl hk, hf.mono (fun _ _ h => h.elim)⟩
variable {W : World} {r : RD} {v : Value} {T : Nat → Prop} {s : DM}
theorem len_map {Fs : List GF} {fs : List RFl} (h : Fs.map Prod.fst = fs) : Fs.length = fs.length := by rw [← h]; simp
theorem get_map {Fs : List GF} {fs : List RFl} (h : Fs.map Prod.fst = fs) {k : Nat} {f : RFl} (hk : fs[k]? = some f) : ∃ x, Fs[k]? = some x ∧ x.1 = f := by
  rw [← h, List.getElem?_map] at hk
  cases hx : Fs[k]? with
  | none => rw [hx] at hk; cases hk
  | some x => rw [hx] at hk; simp at hk; exact ⟨x, rfl, hk⟩
theorem set_map {Fs : List GF} {fs : List RFl} (h : Fs.map Prod.fst = fs) (k : Nat) (y : GF) : (Fs.set k y).map Prod.fst = fs.set k y.1 := by rw [List.map_set, h]
theorem gcreate (h : GD W r v T) (hR : Rel s r) (n : ByteArray) : Calls Try.prog 36 #[r.agg v, .string n] W (GR W T (r.createR n)) := by
  obtain ⟨ao, c, Fs, rfl, hfs, hG⟩ := h.at_
  have hl := len_map hfs
  have h256 := hR.n256
  rw [← hl] at h256 hG h ⊢
  obtain ⟨li, bo, wt, fs, ar, te, off, fu⟩ := r
  dsimp only at hfs hl
  unfold RD.createR
  cases off with
  | true =>
    refine (gCreate_off li bo wt fs ar te fu ao Fs.length c n W).mono ?_
    rintro e w' ⟨rfl, hf⟩
    exact GR.same h hf
  | false =>
    simp only [Bool.false_eq_true, if_false]
    by_cases h1 : n.size < 1
    · rw [if_pos (.inl h1)]
      refine (gCreate_bad1 li bo wt fs ar te fu ao Fs.length c n (by omega) W).mono ?_
      rintro e w' ⟨rfl, hf⟩
      exact GR.same h hf
    · by_cases h2 : 64 < n.size
      · rw [if_pos (.inr h2)]
        refine (gCreate_bad2 li bo wt fs ar te fu ao Fs.length c n (by omega) (by omega) W).mono ?_
        rintro e w' ⟨rfl, hf⟩
        exact GR.same h hf
      · rw [if_neg (by omega)]
        cases hk : nix fs n with
        | some k =>
          refine (gCreate_has li bo wt fs ar te fu ao c Fs T n W hG hfs h256 (by omega) (by omega) k hk).mono ?_
          rintro e w' ⟨rfl, hf⟩
          exact GR.same h hf
        | none =>
          dsimp only
          by_cases h3 : 256 ≤ fs.length
          · rw [if_pos h3]
            refine (gCreate_full li bo wt fs ar te fu ao c Fs T n W hG hfs h256 (by omega) (by omega) hk (by omega)).mono ?_
            rintro e w' ⟨rfl, hf⟩
            exact GR.same h hf
          · rw [if_neg h3]
            refine (gCreate_ok li bo wt fs ar te fu ao c Fs T n W hG hfs h256 (by omega) (by omega) hk (by omega)).mono ?_
            rintro e w' ⟨ao', c', rfl, ⟨T', hG', hT'⟩, hf⟩
            refine ⟨_, T', rfl, ⟨ao', c', _, by simp [hl], by simp [hfs], hG'⟩, hT', hf⟩
theorem gsync (h : GD W r v T) (hR : Rel s r) (n : ByteArray) : Calls Try.prog 39 #[r.agg v, .string n] W (GR W T (r.syncR n)) := by
  obtain ⟨ao, c, Fs, rfl, hfs, hG⟩ := h.at_
  have hl := len_map hfs
  have h256 := hR.n256
  rw [← hl] at h256 hG h ⊢
  unfold RD.syncR
  by_cases hne : (r.found n).2 = 0
  · obtain ⟨k, f, ho, hk, hF, hf, en⟩ := found_ok hne
    obtain ⟨x, hx, ex⟩ := get_map hfs hf
    have hb := rel_len hR f (List.mem_of_getElem? hf)
    have h2 := hR.ul
    have h3 := hR.lim1
    rw [withF_ok ho hk hf]
    refine (gSync_ok r ao c Fs T n k x W hG hfs h256 hF hx (by rw [ex]; omega)).mono ?_
    rintro e w' ⟨rfl, hG', hfr⟩
    rw [ex] at hG'
    exact ⟨_, T, rfl, ⟨ao, c, _, by simp [hl], set_map hfs k _, hG'⟩, fun _ hk => .inl hk, hfr⟩
  · rw [withF_no n hne]
    refine (gSync_no r ao c Fs T n W hG hfs h256 hne).mono ?_
    rintro e w' ⟨rfl, hf⟩
    exact GR.same h hf
theorem gcut (h : GD W r v T) (hR : Rel s r) (n : ByteArray) (z : Int) : Calls Try.prog 41 #[r.agg v, .string n, .int .i64 z] W (GR W T (r.cutR n z)) := by
  obtain ⟨ao, c, Fs, rfl, hfs, hG⟩ := h.at_
  have hl := len_map hfs
  have h256 := hR.n256
  rw [← hl] at h256 hG h ⊢
  unfold RD.cutR
  by_cases hne : (r.found n).2 = 0
  · obtain ⟨k, f, ho, hk, hF, hf, en⟩ := found_ok hne
    obtain ⟨x, hx, ex⟩ := get_map hfs hf
    rw [withF_ok ho hk hf]
    by_cases h1 : z < 0
    · rw [if_pos (.inl h1)]
      refine (gCut_bad1 r ao c Fs T n z k x W hG hfs h256 hF hx h1).mono ?_
      rintro e w' ⟨rfl, hfr⟩
      exact GR.same h hfr
    · by_cases h2 : (f.rb.length : Int) < z
      · rw [if_pos (.inr h2)]
        refine (gCut_bad2 r ao c Fs T n z k x W hG hfs h256 hF hx h1 (by rw [ex]; exact h2)).mono ?_
        rintro e w' ⟨rfl, hfr⟩
        exact GR.same h hfr
      · rw [if_neg (by omega)]
        obtain ⟨z', rfl⟩ : ∃ z' : Nat, z = z' := ⟨z.toNat, by omega⟩
        refine (gCut_ok r ao c Fs T n z' k x W hG hfs h256 hF hx (by rw [ex]; omega)).mono ?_
        rintro e w' ⟨rfl, ⟨bv, hG'⟩, hfr⟩
        rw [ex] at hG'
        exact ⟨_, T, rfl, ⟨ao, c, _, by simp [hl], set_map hfs k _, hG'⟩, fun _ hk => .inl hk, hfr⟩
  · rw [withF_no n hne]
    refine (gCut_no r ao c Fs T n z W hG hfs h256 hne).mono ?_
    rintro e w' ⟨rfl, hf⟩
    exact GR.same h hf
theorem gremove (h : GD W r v T) (hR : Rel s r) (n : ByteArray) : Calls Try.prog 43 #[r.agg v, .string n] W (GR W T (r.removeR n)) := by
  obtain ⟨ao, c, Fs, rfl, hfs, hG⟩ := h.at_
  have hl := len_map hfs
  have h256 := hR.n256
  rw [← hl] at h256 hG h ⊢
  unfold RD.removeR
  by_cases hne : (r.found n).2 = 0
  · obtain ⟨k, f, ho, hk, hF, hf, en⟩ := found_ok hne
    obtain ⟨x, hx, ex⟩ := get_map hfs hf
    rw [withF_ok ho hk hf]
    refine (gRemove_ok r ao c Fs T n k x W hG hfs h256 hF hx).mono ?_
    rintro e w' ⟨ao', c', rfl, ⟨T', hG', hT'⟩, hfr⟩
    have hm : (Fs.eraseIdx k).map Prod.fst = r.fs.eraseIdx k := by rw [← hfs, List.eraseIdx_eq_take_drop_succ, List.eraseIdx_eq_take_drop_succ, List.map_append, List.map_take, List.map_drop]
    exact ⟨_, T', rfl, ⟨ao', c', _, by rw [len_map hm], hm, hG'⟩, hT', hfr.mono (fun _ _ h => h.elim)⟩
  · rw [withF_no n hne]
    refine (gRemove_no r ao c Fs T n W hG hfs h256 hne).mono ?_
    rintro e w' ⟨rfl, hf⟩
    exact GR.same h hf
theorem gturn (h : GD W r v T) (hR : Rel s r) (n : ByteArray) (z b : Int) (hb0 : 0 ≤ b) : Calls Try.prog 47 #[r.agg v, .string n, .int .i64 z, .int .u64 b] W (GR W T (r.turnR n z b)) := by
  obtain ⟨ao, c, Fs, rfl, hfs, hG⟩ := h.at_
  have hl := len_map hfs
  have h256 := hR.n256
  rw [← hl] at h256 hG h ⊢
  unfold RD.turnR
  by_cases hne : (r.found n).2 = 0
  · obtain ⟨k, f, ho, hk, hF, hf, en⟩ := found_ok hne
    obtain ⟨x, hx, ex⟩ := get_map hfs hf
    rw [withF_ok ho hk hf]
    by_cases h1 : z < 0
    · rw [if_pos (.inl h1)]
      refine (gTurn_bad1 r ao c Fs T n z b k x W hG hfs h256 hF hx h1).mono ?_
      rintro e w' ⟨rfl, hfr⟩
      exact GR.same h hfr
    · by_cases h2 : (f.rb.length : Int) ≤ z
      · rw [if_pos (.inr (.inl h2))]
        refine (gTurn_bad2 r ao c Fs T n z b k x W hG hfs h256 hF hx h1 (by rw [ex]; exact h2)).mono ?_
        rintro e w' ⟨rfl, hfr⟩
        exact GR.same h hfr
      · by_cases h3 : 7 < b
        · rw [if_pos (.inr (.inr h3))]
          refine (gTurn_bad3 r ao c Fs T n z b k x W hG hfs h256 hF hx h1 (by rw [ex]; exact h2) h3).mono ?_
          rintro e w' ⟨rfl, hfr⟩
          exact GR.same h hfr
        · rw [if_neg (by omega)]
          obtain ⟨z', rfl⟩ : ∃ z' : Nat, z = z' := ⟨z.toNat, by omega⟩
          obtain ⟨b', rfl⟩ : ∃ b' : Nat, b = b' := ⟨b.toNat, by omega⟩
          have hlt : z' < f.rb.length := by omega
          simp only [Int.toNat_natCast, List.getElem?_eq_getElem hlt]
          subst ex
          refine (gTurn_ok r ao c Fs T n z' b' k x W hG hfs h256 hF hx _ (List.getElem?_eq_getElem hlt) (by omega)).mono ?_
          rintro e w' ⟨rfl, hG', hfr⟩
          exact ⟨_, T, rfl, ⟨ao, c, _, by simp [hl], set_map hfs k _, hG'⟩, fun _ hk => .inl hk, hfr⟩
  · rw [withF_no n hne]
    refine (gTurn_no r ao c Fs T n z b W hG hfs h256 hne).mono ?_
    rintro e w' ⟨rfl, hf⟩
    exact GR.same h hf
theorem garm (h : GD W r v T) (n b : Int) : Calls Try.prog 45 #[r.agg v, .int .i64 n, .int .i64 b] W (GR W T (r.armR n b)) := by
  obtain ⟨ao, c, Fs, rfl, hfs, hG⟩ := h.at_
  refine (garm_any r ao r.fs.length c n b W).mono ?_
  rintro e w' ⟨rfl, hf⟩
  have hfs2 : (r.armR n b).1.fs = r.fs := by
    unfold RD.armR
    split
    · rfl
    · split <;> rfl
  exact ⟨_, T, rfl, ⟨ao, c, Fs, by rw [hfs2], by rw [hfs2]; exact hfs, hG.fr0 hf⟩, fun _ hk => .inl hk, hf.mono (fun _ _ h => h.elim)⟩
theorem lenN_used {Fs : List GF} (hfs : Fs.map Prod.fst = r.fs) : lenN Fs Fs.length = r.used := by
  unfold lenN RD.used
  rw [List.take_length, ← hfs, List.map_map]
  rfl
theorem gappend (h : GD W r v T) (hR : Rel s r) (n : ByteArray) (xo : Option Addr) (xc : Nat) (l : List Nat) (hll : l.length ≤ 1048576) (hbn : r.born ≤ 4611686018427387904) (hwn : r.writes ≤ 4611686018427387904) (hsx : Src W (.slice xo l.length xc) l) : Calls Try.prog 37 #[r.agg v, .string n, .slice xo l.length xc] W (GR W T (r.appendR n l)) := by
  obtain ⟨ao, c, Fs, rfl, hfs, hG⟩ := h.at_
  have hl := len_map hfs
  have h256 := hR.n256
  rw [← hl] at h256 hG h ⊢
  unfold RD.appendR
  by_cases hne : (r.found n).2 = 0
  · obtain ⟨k, f, ho, hk, hF, hf, en⟩ := found_ok hne
    obtain ⟨x, hx, ex⟩ := get_map hfs hf
    rw [withF_ok ho hk hf]
    have hus := lenN_used hfs
    have hu2 : r.used = s.used := hR.used.symm
    have hul := hR.ul
    have hlm := hR.lim1
    have hli := hR.lim
    have hbs : ∀ y ∈ Fs, y.1.rb.length ≤ 1048576 := fun y hy => by
      have := rel_len hR y.1 (by rw [← hfs]; exact List.mem_map.mpr ⟨y, hy, rfl⟩)
      omega
    by_cases h1 : r.full = true
    · rw [if_pos (.inl h1)]
      refine (gAppend_full1 r ao c Fs T n xo xc l k x W hG hfs h256 hF hx h1).mono ?_
      rintro e w' ⟨rfl, hfr⟩
      exact GR.same h hfr
    · have h1' : r.full = false := by simpa using h1
      by_cases h2 : r.limit < r.used + l.length
      · rw [if_pos (.inr h2)]
        refine (gAppend_full2 r ao c Fs T n xo xc l k x W hG hfs h256 hF hx h1' hbs (by rw [hus]; omega) (by rw [hus]; omega)).mono ?_
        rintro e w' ⟨rfl, hfr⟩
        exact GR.same h hfr
      · rw [if_neg (by intro h9; rcases h9 with h9 | h9; exact h1 h9; exact h2 h9)]
        have hno : ¬ (r.limit : Int) < (lenN Fs Fs.length : Int) + (l.length : Int) := by rw [hus]; omega
        have har0 := hR.l0
        rw [← hR.arm] at har0
        subst ex
        by_cases ha : r.armed = 0
        · have e1 : r.come l.length = l.length := by simp [RD.come, ha]
          have e2 : (if 0 < r.armed then r.armed - 1 else r.armed) = r.armed := by rw [if_neg (by omega)]
          have e3 : decide (r.armed = 1) = false := by simp [ha]
          have e4 : (if r.armed = 1 then (6 : Int) else 0) = 0 := by rw [if_neg (by omega)]
          rw [e1, e2, e3, e4]
          refine (gAppend_a r ao c Fs T n xo xc l k x W hG hfs h256 hF hx h1' ho hbs hno hll hbn hwn hsx ha).mono ?_
          rintro e w' ⟨rfl, ⟨bv, T', hG', hT'⟩, hfr⟩
          exact ⟨_, T', rfl, ⟨ao, c, _, by simp [hl], set_map hfs k _, hG'⟩, hT', hfr⟩
        · by_cases hb : 1 < r.armed
          · have e1 : r.come l.length = l.length := by unfold RD.come; rw [if_neg (by omega)]
            have e2 : (if 0 < r.armed then r.armed - 1 else r.armed) = r.armed - 1 := by rw [if_pos (by omega)]
            have e3 : decide (r.armed = 1) = false := by simp; omega
            have e4 : (if r.armed = 1 then (6 : Int) else 0) = 0 := by rw [if_neg (by omega)]
            rw [e1, e2, e3, e4]
            refine (gAppend_b r ao c Fs T n xo xc l k x W hG hfs h256 hF hx h1' ho hbs hno hll hbn hwn hsx hb har0.2).mono ?_
            rintro e w' ⟨rfl, ⟨bv, T', hG', hT'⟩, hfr⟩
            exact ⟨_, T', rfl, ⟨ao, c, _, by simp [hl], set_map hfs k _, hG'⟩, hT', hfr⟩
          · have hc : r.armed = 1 := by omega
            have e2 : (if 0 < r.armed then r.armed - 1 else r.armed) = 0 := by rw [if_pos (by omega)]; omega
            have e3 : decide (r.armed = 1) = true := by simp [hc]
            have e4 : (if r.armed = 1 then (6 : Int) else 0) = 6 := by rw [if_pos hc]
            have htr : 0 ≤ r.tear := by
              have h8 := hR.tear (by rw [← hR.arm]; omega)
              have h9 := hR.t0.1
              omega
            by_cases hte : r.tear < (l.length : Int)
            · have e1 : r.come l.length = r.tear.toNat := by unfold RD.come; rw [if_pos ⟨hc, hte⟩]
              rw [e1, e2, e3, e4]
              refine (gAppend_c r ao c Fs T n xo xc l r.tear.toNat k x W hG hfs h256 hF hx h1' ho hbs hno hll hbn hwn hsx hc (by omega) (by omega)).mono ?_
              rintro e w' ⟨rfl, ⟨bv, T', hG', hT'⟩, hfr⟩
              exact ⟨_, T', rfl, ⟨ao, c, _, by simp [hl], set_map hfs k _, hG'⟩, hT', hfr⟩
            · have e1 : r.come l.length = l.length := by unfold RD.come; rw [if_neg (fun h9 => hte h9.2)]
              rw [e1, e2, e3, e4]
              refine (gAppend_d r ao c Fs T n xo xc l k x W hG hfs h256 hF hx h1' ho hbs hno hll hbn hwn hsx hc hte).mono ?_
              rintro e w' ⟨rfl, ⟨bv, T', hG', hT'⟩, hfr⟩
              exact ⟨_, T', rfl, ⟨ao, c, _, by simp [hl], set_map hfs k _, hG'⟩, hT', hfr⟩
  · rw [withF_no n hne]
    refine (gAppend_no r ao c Fs T n _ W hG hfs h256 hne).mono ?_
    rintro e w' ⟨rfl, hf⟩
    exact GR.same h hf
end Go.Proofs.Ytoflkfnmbighaaa

namespace Go.Proofs.Ytoflkfnmbighaaa
open Go.RowKit Go.ChangeShapes Go.WideShapes Go.Maps

theorem results_celltt {P : Program} {fn : Func} {p u u' : Tmp} {ty : TypeId} (h : fn.results = #[.cell p ty, .tmp u, .tmp u']) (tmps : Array Value) (w : World) (b o : Nat) (cs : List Value) (d : TypeDesc) (x x' : Value)
    (hp : tmps.getD p undef = .pointer (some ⟨b, o, none⟩)) (hx : tmps.getD u undef = x) (hx2 : tmps.getD u' undef = x') (hc : w.rangeAt b o cs)
    (hu : P.underlying ty = some d) (hd : d.isRow = true) (hi : (P.info? ty).map (·.size) = some cs.length) :
    (results fn tmps).run P w = .ok (.tuple #[.agg cs.toArray, x, x']) w := by
  have hp' : tmps[p]?.getD undef = .pointer (some ⟨b, o, none⟩) := by simpa using hp
  have hx' : tmps[u]?.getD undef = x := by simpa using hx
  have hx'' : tmps[u']?.getD undef = x' := by simpa using hx2
  simp [results, h, hp', hx', hx'', asAddr, run_loadVar_mid w b o ty cs d hc hu hd hi]
/-- changed's boxes: the document's disk, the call, the answer, u. -/
structure B4 (W V : World) (tc oc : Array Value) : Prop where
  t : V.heap[W.heap.size]? = some (.cells tc 30)
  o : V.heap[W.heap.size + 1]? = some (.cells oc 38)
  z : V.heap[W.heap.size + 2]? = some (.cells zero8 30)
  u : V.heap[W.heap.size + 3]? = some (.cells zero8 30)
theorem B4.new (W : World) (tc oc : Array Value) : B4 W ((((W.alloc (.cells tc 30)).alloc (.cells oc 38)).alloc (.cells zero8 30)).alloc (.cells zero8 30)) tc oc := by
  refine ⟨?_, ?_, ?_, ?_⟩
  · rw [Below.heap_alloc _ _ _ (by simp; omega), Below.heap_alloc _ _ _ (by simp; omega), Below.heap_alloc _ _ _ (by simp)]
    exact heap_alloc_new W _
  · rw [Below.heap_alloc _ _ _ (by simp), Below.heap_alloc _ _ _ (by simp)]
    have := heap_alloc_new (W.alloc (.cells tc 30)) (.cells oc 38)
    simpa using this
  · rw [Below.heap_alloc _ _ _ (by simp)]
    have := heap_alloc_new ((W.alloc (.cells tc 30)).alloc (.cells oc 38)) (.cells zero8 30)
    simpa using this
  · have := heap_alloc_new (((W.alloc (.cells tc 30)).alloc (.cells oc 38)).alloc (.cells zero8 30)) (.cells zero8 30)
    simpa using this
theorem B4.fr {W V V' : World} {tc oc : Array Value} {S : Nat → Prop} (h : B4 W V tc oc) (hf : Fr S V V') (hS : ∀ k, S k → k < W.heap.size) : B4 W V' tc oc :=
  ⟨(hf.block _ (lt_of_block h.t) (fun e => absurd (hS _ e) (by omega))).trans h.t, (hf.block _ (lt_of_block h.o) (fun e => absurd (hS _ e) (by omega))).trans h.o, (hf.block _ (lt_of_block h.z) (fun e => absurd (hS _ e) (by omega))).trans h.z, (hf.block _ (lt_of_block h.u) (fun e => absurd (hS _ e) (by omega))).trans h.u⟩
theorem range_cells {V : World} {b : Nat} {r : RD} {ao : Option Addr} {n c : Nat} (h : V.rangeAt b 0 (r.cells (.slice ao n c)).toList) : V.cell? ⟨b, 0, none⟩ = some (.int .i64 (r.limit : Nat)) ∧ V.cell? ⟨b, 1, none⟩ = some (.int .i64 (r.born : Nat)) ∧ V.cell? ⟨b, 2, none⟩ = some (.int .i64 (r.writes : Nat)) ∧ V.cell? ⟨b, 3, none⟩ = some (.slice ao n c) ∧ V.cell? ⟨b, 4, none⟩ = some (.int .i64 r.armed) ∧ V.cell? ⟨b, 5, none⟩ = some (.int .i64 r.tear) ∧ V.cell? ⟨b, 6, none⟩ = some (.bool r.off) ∧ V.cell? ⟨b, 7, none⟩ = some (.bool r.full) := by
  have e : ∀ j x, (r.cells (.slice ao n c)).toList[j]? = some x → V.cell? ⟨b, j, none⟩ = some x := fun j x hx => by
    have := h j x hx
    simpa using this
  exact ⟨e 0 _ rfl, e 1 _ rfl, e 2 _ rfl, e 3 _ rfl, e 4 _ rfl, e 5 _ rfl, e 6 _ rfl, e 7 _ rfl⟩
/-- Both disks. -/
structure PS (W : World) (d m : Nat) (r : RD) (v : Value) (O T : Nat → Prop) : Prop where
  D : ∃ s q, DkAt W d m s q O ∧ Rel s r
  G : GD W r v T
  dis : ∀ k, O k → ¬ T k
theorem GD.lt {W : World} {r : RD} {v : Value} {T : Nat → Prop} (h : GD W r v T) : ∀ k, T k → k < W.heap.size := by
  obtain ⟨ao, c, Fs, _, _, h3⟩ := h.at_
  exact h3.lt
theorem GD.fr {W W' : World} {r : RD} {v : Value} {T S : Nat → Prop} (h : GD W r v T) (hf : Fr S W W') (hS : ∀ k, T k → ¬ S k) : GD W' r v T := by
  obtain ⟨ao, c, Fs, h1, h2, h3⟩ := h.at_
  exact ⟨ao, c, Fs, h1, h2, h3.fr hf hS⟩
theorem GD.form {W : World} {r : RD} {v : Value} {T : Nat → Prop} (h : GD W r v T) : ∃ ao c, v = .slice ao r.fs.length c := by
  obtain ⟨ao, c, Fs, h1, h2, h3⟩ := h.at_
  exact ⟨ao, c, h1⟩
/-- What changed leaves. -/
def CH (W : World) (d m : Nat) (O T : Nat → Prop) (x : RD) (e : Ending) (W' : World) : Prop := ∃ v' O' T', e = .returned (.tuple #[x.agg v', .bool true, .bool true]) ∧ PS W' d m x v' O' T' ∧ (∀ k, O' k → O k ∨ W.heap.size ≤ k) ∧ (∀ k, T' k → T k ∨ W.heap.size ≤ k) ∧ Fr (fun k => O k ∨ T k) W W'
set_option maxRecDepth 100000 in
theorem arm_off (d m : Nat) (s : DM) (q : DW) (O : Nat → Prop) (n b : Int) (w : World) (h : DkAt w d m s q O) (ho : s.off = true) :
    Calls Try.prog 44 #[.pointer (some ⟨d, 0, none⟩), .int .i64 n, .int .i64 b] w fun e w' => e = .returned (.int .i64 6) ∧ Fr (fun _ => False) w w' := by
  obtain ⟨c0, c1, c2, c3, c4, c5, c6, c7, fz⟩ := h.cells
  rw [ho] at c4
  clear h ho
  go_enter Try.func44, Try.ntmps44
  go_wp2_with fail
  go_ret
  exact ⟨rfl, Fr.refl _ _⟩
set_option maxRecDepth 100000 in
theorem arm_bad (d m : Nat) (s : DM) (q : DW) (O : Nat → Prop) (n b : Int) (w : World) (h : DkAt w d m s q O) (ho : s.off = false) (hb : n < 1 ∨ b < 0) :
    Calls Try.prog 44 #[.pointer (some ⟨d, 0, none⟩), .int .i64 n, .int .i64 b] w fun e w' => e = .returned (.int .i64 1) ∧ Fr (fun _ => False) w w' := by
  obtain ⟨c0, c1, c2, c3, c4, c5, c6, c7, fz⟩ := h.cells
  rw [ho] at c4
  clear h ho
  by_cases h1 : n < 1
  · go_enter Try.func44, Try.ntmps44
    go_wp2_with fail
    go_ret
    exact ⟨rfl, Fr.refl _ _⟩
  · have h2 : b < 0 := by omega
    clear hb
    go_enter Try.func44, Try.ntmps44
    go_wp2_with fail
    go_ret
    exact ⟨rfl, Fr.refl _ _⟩
theorem parm {W : World} {d m : Nat} {s : DM} {q : DW} {O : Nat → Prop} {r : RD} (h : DkAt W d m s q O) (hR : Rel s r) (n b : Int) (hn : n < 9223372036854775808) (hb : b < 9223372036854775808) : Calls Try.prog 44 #[.pointer (some ⟨d, 0, none⟩), .int .i64 n, .int .i64 b] W (PR W d m O (r.armR n b)) := by
  unfold RD.armR
  by_cases ho : r.off = true
  · rw [if_pos ho]
    refine (arm_off d m s q O n b W h (hR.off ▸ ho)).mono ?_
    rintro e w' ⟨rfl, hf⟩
    exact PR.same h hR hf
  · rw [if_neg ho]
    have ho' : s.off = false := by rw [← hR.off]; simpa using ho
    by_cases h1 : n < 1 ∨ b < 0
    · rw [if_pos h1]
      refine (arm_bad d m s q O n b W h ho' h1).mono ?_
      rintro e w' ⟨rfl, hf⟩
      exact PR.same h hR hf
    · rw [if_neg h1]
      refine (arm_ok d m s q O n b W h ho' (by omega) (by omega)).mono ?_
      rintro e w' ⟨rfl, hD, hf⟩
      exact ⟨rfl, _, q, O, hD, hR.nums _ _ rfl rfl rfl rfl rfl ⟨by show 0 ≤ n; omega, hn⟩ ⟨by show 0 ≤ b; omega, hb⟩ rfl rfl rfl rfl (fun _ => rfl) hR.off hR.full rfl, hf.mono (fun k _ e => e ▸ h.od), fun _ hk => .inl hk⟩
end Go.Proofs.Ytoflkfnmbighaaa

