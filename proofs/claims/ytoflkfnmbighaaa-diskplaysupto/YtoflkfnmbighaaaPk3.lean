import Derived.Test.YtoflkfnmbighaaaPk1
import Derived.Test.YtoflkfnmbighaaaPk2
namespace Go.Proofs.Ytoflkfnmbighaaa
open Go.RowKit Go.ChangeShapes Go.WideShapes Go.Maps

set_option maxHeartbeats 1000000 in
set_option maxRecDepth 100000 in
/-- Append, the disk is full. -/
theorem gAppend_full1 (r : RD) (ao : Option Addr) (c : Nat) (Fs : List GF) (T : Nat → Prop) (n : ByteArray) (xo : Option Addr) (xc : Nat) (l : List Nat) (K : Nat) (x : GF) (W : World) (h : GAt W (.slice ao Fs.length c) Fs T) (hfs : Fs.map Prod.fst = r.fs) (hl : Fs.length ≤ 256) (hF : r.found n = ((K : Int), 0)) (hx : Fs[K]? = some x) (hfu : r.full = true) :
    Calls Try.prog 37 #[r.agg (.slice ao Fs.length c), .string n, .slice xo l.length xc] W fun e w' => e = .returned (.tuple #[r.agg (.slice ao Fs.length c), .int .i64 5]) ∧ Fr (fun _ => False) W w' := by
  obtain ⟨⟨xn, rb⟩, bv⟩ := x
  (try dsimp only at *)
  obtain ⟨bo', bc, hbv⟩ := h.form hx
  dsimp only at hbv
  subst hbv
  obtain ⟨w, hw⟩ : ∃ w, w = (W.alloc (.cells (r.cells (.slice ao Fs.length c)) 30)).alloc (.cells zero8 30) := ⟨_, rfl⟩
  have hB : B2 W w (r.cells (.slice ao Fs.length c)) := by rw [hw]; exact B2.new _ _
  have HC := hide (gfound_any r ao c Fs T n w (h.fr0 hB.f) hfs hl)
  rw [hF] at HC
  have HB := hide (And.intro hB h)
  have hKl : (K : Int) < (Fs.length : Int) := by have := (List.getElem?_eq_some_iff.1 hx).1; omega
  clear hB h hfs hF
  obtain ⟨li, bo, wt, fs, ar, te, off, fu⟩ := r
  dsimp only at hfu
  subst hfu
  dsimp only at HC ⊢
  unfold RD.agg at HC ⊢
  unfold RD.cells zero8 at hw
  go_enter Try.func37, Try.ntmps37
  go_wp2_with fail
  rw [← hw]
  refine (unhide HC).mono ?_
  rintro e' w2 ⟨rfl, hf2⟩
  have hB2 := (unhide HB).1.fr0 hf2
  have hG2 := (unhide HB).2.fr0 hB2.f
  have hWl : W.heap.size ≤ w2.heap.size := hB2.f.size
  have HW := hide (unhide HB).2
  clear hf2 HB HC hw
  obtain ⟨c0, c1, c2, c3, c4, c5, c6, c7, _⟩ := cells_of8 hB2.d
  obtain ⟨g, rfl, hTg, d0, d1, hfz⟩ := hG2.at_ hx
  dsimp only at d0 d1
  go_wp2_with fail
  go_region
  have hf3 : Fr (fun _ => False) w2 w2.drew := (Fr.refl _ _).drew
  have hB3 := hB2.fr0 hf3
  obtain ⟨V, hrV, hgV, hfV⟩ := gbox hB3.z ⟨li, bo, wt, fs, ar, te, off, true⟩ (some ⟨g, 0, none⟩) Fs.length c
  unfold RD.agg at hrV
  have HV := hide hrV
  have HE := hide (And.intro hgV (hB3.f.trans hfV (fun i hi e => by have e' : i = W.heap.size + 1 := e; omega)))
  clear c0 c1 c2 c3 c4 c5 c6 c7
  obtain ⟨c0, c1, c2, c3, c4, c5, c6, c7, _⟩ := cells_of8 hB3.d
  clear hrV hgV hfV hB2 hG2 HW hx hB3 hf3
  go_wp2_with (refine wpList_stN rfl 30 _ _ rfl _ _ rfl rfl (unhide HV) ?_)
  (try simp only [Exit.inBlock, Exit.then])
  refine bodyPost_ret (results_cellt rfl _ _ (W.heap.size + 1) 0 _ _ _ rfl rfl (unhide HE).1 Try.underlying30 rfl (by kernel_rfl)) rfl ?_
  exact ⟨rfl, (unhide HE).2⟩
set_option maxHeartbeats 1000000 in
set_option maxRecDepth 100000 in
/-- Append, no room. -/
theorem gAppend_full2 (r : RD) (ao : Option Addr) (c : Nat) (Fs : List GF) (T : Nat → Prop) (n : ByteArray) (xo : Option Addr) (xc : Nat) (l : List Nat) (K : Nat) (x : GF) (W : World) (h : GAt W (.slice ao Fs.length c) Fs T) (hfs : Fs.map Prod.fst = r.fs) (hl : Fs.length ≤ 256) (hF : r.found n = ((K : Int), 0)) (hx : Fs[K]? = some x) (hfu : r.full = false) (hbs : ∀ y ∈ Fs, y.1.rb.length ≤ 1048576) (hno : (r.limit : Int) < (lenN Fs Fs.length : Int) + (l.length : Int)) (hll : (lenN Fs Fs.length : Int) + (l.length : Int) < 9223372036854775808) :
    Calls Try.prog 37 #[r.agg (.slice ao Fs.length c), .string n, .slice xo l.length xc] W fun e w' => e = .returned (.tuple #[r.agg (.slice ao Fs.length c), .int .i64 5]) ∧ Fr (fun _ => False) W w' := by
  obtain ⟨⟨xn, rb⟩, bv⟩ := x
  (try dsimp only at *)
  obtain ⟨bo', bc, hbv⟩ := h.form hx
  dsimp only at hbv
  subst hbv
  obtain ⟨w, hw⟩ : ∃ w, w = (W.alloc (.cells (r.cells (.slice ao Fs.length c)) 30)).alloc (.cells zero8 30) := ⟨_, rfl⟩
  have hB : B2 W w (r.cells (.slice ao Fs.length c)) := by rw [hw]; exact B2.new _ _
  have HC := hide (gfound_any r ao c Fs T n w (h.fr0 hB.f) hfs hl)
  rw [hF] at HC
  have HB := hide (And.intro hB h)
  have hKl : (K : Int) < (Fs.length : Int) := by have := (List.getElem?_eq_some_iff.1 hx).1; omega
  clear hB h hfs hF
  obtain ⟨li, bo, wt, fs, ar, te, off, fu⟩ := r
  dsimp only at hfu hno
  subst hfu
  dsimp only at HC ⊢
  unfold RD.agg at HC ⊢
  unfold RD.cells zero8 at hw
  go_enter Try.func37, Try.ntmps37
  go_wp2_with fail
  rw [← hw]
  refine (unhide HC).mono ?_
  rintro e' w2 ⟨rfl, hf2⟩
  have hB2 := (unhide HB).1.fr0 hf2
  have hG2 := (unhide HB).2.fr0 hB2.f
  have hWl : W.heap.size ≤ w2.heap.size := hB2.f.size
  have HW := hide (unhide HB).2
  clear hf2 HB HC hw
  obtain ⟨c0, c1, c2, c3, c4, c5, c6, c7, _⟩ := cells_of8 hB2.d
  obtain ⟨g, rfl, hTg, d0, d1, hfz⟩ := hG2.at_ hx
  dsimp only at d0 d1
  have hbl : ∀ y ∈ Fs, y.1.rb.length ≤ 1048576 := hbs
  have HU := hide (fun (W' : World) (hf : Fr (fun _ => False) w2 W') => (gused_any ⟨li, bo, wt, fs, ar, te, off, false⟩ (some ⟨g, 0, none⟩) c Fs T W' (hG2.fr0 hf) hl hbl).mono fun e w3 ⟨he, h3⟩ => (show e = _ ∧ Fr (fun _ => False) w2 w3 from ⟨he, hf.trans h3 (fun _ _ h => h)⟩))
  unfold RD.agg at HU
  dsimp only at HU
  generalize hus : lenN Fs Fs.length = us at *
  have HK := hide (fun (W' : World) (hf : Fr (fun _ => False) w2 W') => by
    have h1 := cells_of8 (hB2.fr0 hf).d
    exact And.intro h1.1 (And.intro h1.2.1 (And.intro h1.2.2.1 (And.intro h1.2.2.2.1 (And.intro h1.2.2.2.2.1 (And.intro h1.2.2.2.2.2.1 (And.intro h1.2.2.2.2.2.2.1 h1.2.2.2.2.2.2.2.1)))))))
  go_wp2_with fail
  go_region_held3 (fun W' => W'.cell? ⟨W.heap.size, 0, none⟩ = some (.int .i64 (li : Nat)) ∧ W'.cell? ⟨W.heap.size, 1, none⟩ = some (.int .i64 (bo : Nat)) ∧ W'.cell? ⟨W.heap.size, 2, none⟩ = some (.int .i64 (wt : Nat)) ∧ W'.cell? ⟨W.heap.size, 3, none⟩ = some (.slice (some ⟨g, 0, none⟩) Fs.length c) ∧ W'.cell? ⟨W.heap.size, 4, none⟩ = some (.int .i64 ar) ∧ W'.cell? ⟨W.heap.size, 5, none⟩ = some (.int .i64 te) ∧ W'.cell? ⟨W.heap.size, 6, none⟩ = some (.bool off) ∧ W'.cell? ⟨W.heap.size, 7, none⟩ = some (.bool false))
    (first | exact (unhide HK) _ ((Fr.refl _ _).drew) | exact (unhide HK) _ hf3 | exact ⟨c0, c1, c2, c3, c4, c5, c6, c7⟩)
    (first | (go_at_call 27; refine ((unhide HU) _ ((Fr.refl _ _).drew)).mono ?_; rintro e w3 ⟨rfl, hf3⟩))
  have hB3 := hB2.fr0 hf3
  rw [wrapI ((us : Int) + (l.length : Int)) (by omega) (by omega)]
  obtain ⟨V, hrV, hgV, hfV⟩ := gbox hB3.z ⟨li, bo, wt, fs, ar, te, off, false⟩ (some ⟨g, 0, none⟩) Fs.length c
  unfold RD.agg at hrV
  have HV := hide hrV
  have HE := hide (And.intro hgV (hB3.f.trans hfV (fun i hi e => by have e' : i = W.heap.size + 1 := e; omega)))
  clear c0 c1 c2 c3 c4 c5 c6 c7
  obtain ⟨c0, c1, c2, c3, c4, c5, c6, c7, _⟩ := cells_of8 hB3.d
  clear hrV hgV hfV hB2 hG2 HW hx hB3 hf3 HK HU hbs hbl hus hll
  go_wp2_with (refine wpList_stN rfl 30 _ _ rfl _ _ rfl rfl (unhide HV) ?_)
  (try simp only [Exit.inBlock, Exit.then])
  refine bodyPost_ret (results_cellt rfl _ _ (W.heap.size + 1) 0 _ _ _ rfl rfl (unhide HE).1 Try.underlying30 rfl (by kernel_rfl)) rfl ?_
  exact ⟨rfl, (unhide HE).2⟩
end Go.Proofs.Ytoflkfnmbighaaa

namespace Go.Proofs.Ytoflkfnmbighaaa
open Go.RowKit Go.ChangeShapes Go.WideShapes Go.Maps

/-- New bytes, from a number on. -/
def nB (l : List Nat) (b j : Nat) : List RB := (l.take j).mapIdx fun i v => ⟨v, b + i, false⟩
theorem nB_len (l : List Nat) (b j : Nat) (hj : j ≤ l.length) : (nB l b j).length = j := by simp [nB, Nat.min_eq_left hj]
theorem nB_succ (l : List Nat) (b j : Nat) (hj : j < l.length) : nB l b (j + 1) = nB l b j ++ [⟨l[j], b + j, false⟩] := by
  unfold nB
  rw [List.take_succ_eq_append_getElem hj, List.mapIdx_append]
  simp [Nat.min_eq_left (Nat.le_of_lt hj)]
set_option maxHeartbeats 1000000 in
set_option maxRecDepth 100000 in
/-- Append, no write is armed. -/
theorem gAppend_a (r : RD) (ao : Option Addr) (c : Nat) (Fs : List GF) (T : Nat → Prop) (n : ByteArray) (xo : Option Addr) (xc : Nat) (l : List Nat)  (K : Nat) (x : GF) (W : World) (h : GAt W (.slice ao Fs.length c) Fs T) (hfs : Fs.map Prod.fst = r.fs) (hl : Fs.length ≤ 256) (hF : r.found n = ((K : Int), 0)) (hx : Fs[K]? = some x) (hfu : r.full = false) (hoff : r.off = false) (hbs : ∀ y ∈ Fs, y.1.rb.length ≤ 1048576) (hno : ¬ (r.limit : Int) < (lenN Fs Fs.length : Int) + (l.length : Int)) (hll : l.length ≤ 1048576) (hbn : r.born ≤ 4611686018427387904) (hwn : r.writes ≤ 4611686018427387904) (hsx : Src W (.slice xo l.length xc) l) (har : r.armed = 0) :
    Calls Try.prog 37 #[r.agg (.slice ao Fs.length c), .string n, .slice xo l.length xc] W fun e w' => e = .returned (.tuple #[({ r with born := r.born + l.length, writes := r.writes + 1, armed := r.armed, off := false } : RD).agg (.slice ao Fs.length c), .int .i64 0]) ∧ (∃ bv T', GAt w' (.slice ao Fs.length c) (Fs.set K (⟨x.1.name, x.1.rb ++ nB l r.born l.length⟩, bv)) T' ∧ ∀ k, T' k → T k ∨ W.heap.size ≤ k) ∧ Fr T W w' := by
  obtain ⟨⟨xn, rb⟩, bv⟩ := x
  (try dsimp only at *)
  obtain ⟨bo', bc, hbv⟩ := h.form hx
  dsimp only at hbv
  subst hbv
  obtain ⟨w, hw⟩ : ∃ w, w = (W.alloc (.cells (r.cells (.slice ao Fs.length c)) 30)).alloc (.cells zero8 30) := ⟨_, rfl⟩
  have hB : B2 W w (r.cells (.slice ao Fs.length c)) := by rw [hw]; exact B2.new _ _
  have HC := hide (gfound_any r ao c Fs T n w (h.fr0 hB.f) hfs hl)
  rw [hF] at HC
  have HB := hide (And.intro hB h)
  have hKl : (K : Int) < (Fs.length : Int) := by have := (List.getElem?_eq_some_iff.1 hx).1; omega
  clear hB h hfs hF
  obtain ⟨li, bo, wt, fs, ar, te, off, fu⟩ := r
  dsimp only at *
  subst hfu hoff
  have har1 : ¬ ar = 1 := by omega
  have har0 : ¬ ar > 0 := by omega
  clear har
  (try dsimp only at HC ⊢)
  unfold RD.agg at HC ⊢
  unfold RD.cells zero8 at hw
  go_enter Try.func37, Try.ntmps37
  go_wp2_with fail
  rw [← hw]
  refine (unhide HC).mono ?_
  rintro e' w2 ⟨rfl, hf2⟩
  have hB2 := (unhide HB).1.fr0 hf2
  have hG2 := (unhide HB).2.fr0 hB2.f
  have hWl : W.heap.size ≤ w2.heap.size := hB2.f.size
  have HW := hide (unhide HB).2
  clear hf2 HB HC hw
  obtain ⟨c0, c1, c2, c3, c4, c5, c6, c7, _⟩ := cells_of8 hB2.d
  obtain ⟨g, rfl, hTg, d0, d1, hfz⟩ := hG2.at_ hx
  dsimp only at d0 d1
  have hbl : ∀ y ∈ Fs, y.1.rb.length ≤ 1048576 := hbs
  have HU := hide (fun (W' : World) (hf : Fr (fun _ => False) w2 W') => (gused_any ⟨li, bo, wt, fs, ar, te, false, false⟩ (some ⟨g, 0, none⟩) c Fs T W' (hG2.fr0 hf) hl hbl).mono fun e w3 ⟨he, h3⟩ => (show e = _ ∧ Fr (fun _ => False) w2 w3 from ⟨he, hf.trans h3 (fun _ _ h => h)⟩))
  unfold RD.agg at HU
  dsimp only at HU
  generalize hus : lenN Fs Fs.length = us at *
  have HK := hide (fun (W' : World) (hf : Fr (fun _ => False) w2 W') => by
    have h1 := cells_of8 (hB2.fr0 hf).d
    exact And.intro h1.1 (And.intro h1.2.1 (And.intro h1.2.2.1 (And.intro h1.2.2.2.1 (And.intro h1.2.2.2.2.1 (And.intro h1.2.2.2.2.2.1 (And.intro h1.2.2.2.2.2.2.1 h1.2.2.2.2.2.2.2.1)))))))
  have hrbl := hbl _ (List.mem_of_getElem? hx)
  dsimp only at hrbl
  go_wp2_with fail
  go_region_held3 (fun W' => W'.cell? ⟨W.heap.size, 0, none⟩ = some (.int .i64 (li : Nat)) ∧ W'.cell? ⟨W.heap.size, 1, none⟩ = some (.int .i64 (bo : Nat)) ∧ W'.cell? ⟨W.heap.size, 2, none⟩ = some (.int .i64 (wt : Nat)) ∧ W'.cell? ⟨W.heap.size, 3, none⟩ = some (.slice (some ⟨g, 0, none⟩) Fs.length c) ∧ W'.cell? ⟨W.heap.size, 4, none⟩ = some (.int .i64 ar) ∧ W'.cell? ⟨W.heap.size, 5, none⟩ = some (.int .i64 te) ∧ W'.cell? ⟨W.heap.size, 6, none⟩ = some (.bool false) ∧ W'.cell? ⟨W.heap.size, 7, none⟩ = some (.bool false))
    (first | exact (unhide HK) _ ((Fr.refl _ _).drew) | exact (unhide HK) _ hf3 | exact ⟨c0, c1, c2, c3, c4, c5, c6, c7⟩)
    (first | (go_at_call 27; refine ((unhide HU) _ ((Fr.refl _ _).drew)).mono ?_; rintro e w3 ⟨rfl, hf3⟩))
  have hB3 := hB2.fr0 hf3
  have hG3 := hG2.fr0 hf3
  have hus2 : us ≤ 1048576 * 256 := by
    rw [← hus]
    exact Nat.le_trans (lenN_le Fs Fs.length 1048576 hbl) (by omega)
  rw [wrapI ((us : Int) + (l.length : Int)) (by omega) (by omega)]
  clear c0 c1 c2 c3 c4 c5 c6 c7
  obtain ⟨c0, c1, c2, c3, c4, c5, c6, c7, z7⟩ := cells_of8 hB3.d
  have d1' : w3.cell? ⟨g, K * 2 + 1, none⟩ = some (.slice bo' rb.length bc) := (hf3.cell (p := ⟨g, K * 2 + 1, none⟩) (lt_of_cell d1) (fun h => h)).trans d1
  clear hB2 hG2 hf3 HU HK d0 d1
  have HN := hide (And.intro hbn hll)
  have hwI : (wt : Int) + 1 = ((wt + 1 : Nat) : Int) := by omega
  obtain ⟨w4, hw4⟩ : ∃ w4, w4 = w3.setCell ⟨W.heap.size, 2, none⟩ (.int .i64 ((wt : Int) + 1)) := ⟨_, rfl⟩
  have hf4 : Fr (fun k => k = W.heap.size) w3 w4 := by rw [hw4]; exact (Fr.refl (fun k => k = W.heap.size) w3).setCell (p := ⟨W.heap.size, 2, none⟩) (.inl rfl) _
  have hd4 : w4.heap[W.heap.size]? = some (.cells #[.int .i64 (li : Nat), .int .i64 ((bo + 0 : Nat) : Int), .int .i64 ((wt : Int) + 1), .slice (some ⟨g, 0, none⟩) Fs.length c, .int .i64 (ar), .int .i64 te, .bool false, .bool false] 30) := by
    rw [hw4, blkset hB3.d]
    rfl
  have hz4 : w4.heap[W.heap.size + 1]? = some (.cells zero8 30) := (hf4.block _ (lt_of_block hB3.z) (by show ¬ W.heap.size + 1 = W.heap.size; omega)).trans hB3.z
  obtain ⟨w5, hr5, ho5, hf5⟩ := make_by (rb.length + l.length) w4 (by omega)
  have hr5' : (Instr.makeSlice 58 (.int .i64 0) (.int .i64 ((rb.length : Int) + (l.length : Int)))).run Try.prog w4 = .ok (.slice (some ⟨w4.heap.size, 0, none⟩) 0 (rb.length + l.length)) w5 := hr5
  have hsz3 : W.heap.size + 1 < w3.heap.size := lt_of_block hB3.z
  have hsz4 := hf4.size
  have hx3 := hG3.b _ (List.mem_of_getElem? hx)
  dsimp only at hx3
  have hxW : ∀ k, (Value.slice bo' rb.length bc).ownBlock = some k → k < W.heap.size := fun k hk => (unhide HW).lt k ((unhide HW).tb _ (List.mem_of_getElem? hx) k hk)
  have hx5 : w5.ownsRow 0 89 3 (.slice bo' rb.length bc) rb.length (bcells rb) := ownsRow_of_block hx3 (fun k hk => (hf5.block k (by have := hxW k hk; omega) (fun h => h)).trans (hf4.block k (hx3.lt k hk).2 (fun e => by have := hxW k hk; have e' : k = W.heap.size := e; omega)))
  obtain ⟨a6, k6, w6, hr6, ho6, hf6, hn6⟩ := app_by w5 w4.heap.size 0 _ _ [] rb ho5 hx5 (by simp; omega) hf5.size
  simp only [List.length_nil, Nat.zero_add, List.nil_append] at hr6 ho6
  have hf46 : Fr (fun k => k = W.heap.size) w4 w6 := (hf5.mono (fun _ _ h => h.elim)).trans hf6 (fun i hi e => by have e' : w4.heap.size = i := (by simpa [Value.ownBlock] using e); omega)
  have d14 : w4.cell? ⟨g, K * 2 + 1, none⟩ = some (.slice bo' rb.length bc) := (hf4.cell (p := ⟨g, K * 2 + 1, none⟩) (lt_of_cell d1') (fun e => by have e' : g = W.heap.size := e; have := (unhide HW).lt g hTg; omega)).trans d1'
  have d15 : w5.cell? ⟨g, K * 2 + 1, none⟩ = some (.slice bo' rb.length bc) := (hf5.cell (p := ⟨g, K * 2 + 1, none⟩) (lt_of_cell d14) (fun h => h)).trans d14
  have c34 : w4.cell? ⟨W.heap.size, 3, none⟩ = some (.slice (some ⟨g, 0, none⟩) Fs.length c) := cell_of_blk hd4 rfl
  have c35 : w5.cell? ⟨W.heap.size, 3, none⟩ = some (.slice (some ⟨g, 0, none⟩) Fs.length c) := (hf5.cell (p := ⟨W.heap.size, 3, none⟩) (lt_of_cell c34) (fun h => h)).trans c34
  have hFW : Fr (fun _ => False) W w4 := hB3.f.trans hf4 (fun i hi e => by have e' : i = W.heap.size := e; omega)
  have hd6 : w6.heap[W.heap.size]? = _ := (hf6.block _ (Nat.lt_of_lt_of_le (lt_of_block hd4) hf5.size) (fun e => by have e' : w4.heap.size = W.heap.size := (by simpa [Value.ownBlock] using e); omega)).trans ((hf5.block _ (lt_of_block hd4) (fun h => h)).trans hd4)
  have HX := hide (And.intro hFW (And.intro hx (And.intro hz4 (And.intro (And.intro ho6 (And.intro hf46 hd6)) (And.intro hsx (And.intro hsz3 (And.intro hsz4 (And.intro hxW d14))))))))
  have hs4 : w4.heap.size = w3.heap.size := by rw [hw4]; simp
  rw [hs4] at hr5' hr6
  have HR6 := hide hr6
  rw [hw4] at hr5' c34 d14
  clear hr5 hr6 ho5 ho6 hf5 hf6 hn6 hx5 hx3 hf46 hFW hd6 hz4 hd4 hf4 hw4 hB3 hG3 hsx hsz3 hsz4 hxW hx hwI hbs hbl hs4 hus2 hbn hus
  go_wp2_with (first | (at_builtin; refine wpList_app rfl _ _ 58 58 rfl _ _ _ rfl rfl (unhide HR6) ?_))
  clear hr5' HR6 c0 c1 c2 c3 c4 c5 c6 c7 z7 d1' c34 c35 d14 d15
  go_loopw [11, 12] (fun lv iv wr => ∃ (j : Nat) (lo : Option Addr) (lc : Nat), j ≤ l.length ∧ iv = .int .i64 (j : Nat) ∧ lv = .slice lo (rb.length + j) lc ∧ wr.ownsRow w4.heap.size 89 3 (.slice lo (rb.length + j) lc) (rb.length + j) (bcells (rb ++ nB l bo j)) ∧ wr.heap[W.heap.size]? = some (.cells #[.int .i64 (li : Nat), .int .i64 ((bo + j : Nat) : Int), .int .i64 ((wt : Int) + 1), .slice (some ⟨g, 0, none⟩) Fs.length c, .int .i64 (ar), .int .i64 te, .bool false, .bool false] 30) ∧ Fr (fun k => k = W.heap.size) w4 wr) (fun _ iv _ => l.length - (intOf iv).toNat)
  case atStart => exact ⟨0, a6, k6, Nat.zero_le _, rfl, rfl, by have := (unhide HX).2.2.2.1.1; simpa [nB] using this, (unhide HX).2.2.2.1.2.2, (unhide HX).2.2.2.1.2.1⟩
  case round =>
    obtain ⟨j, lo, lc, hj, rfl, rfl, hrow, hbx, hfr⟩ := hrel
    obtain ⟨hFW, hx, hz4, _, hsx, hsz3, hsz4, hxW, d14⟩ := unhide HX
    have hFr : Fr (fun _ => False) W wr := hFW.trans hfr (fun i hi e => by have e' : i = W.heap.size := e; omega)
    by_cases hlt : j < l.length
    · have hjl : j < l.length := by omega
      obtain ⟨gx, ox, rfl, cx⟩ := src_at (hsx.fr hFr (fun _ _ _ _ _ h => h)) j hjl
      obtain ⟨c0, c1, c2, c3, c4, c5, c6, c7, z7⟩ := cells_of8 hbx
      have hlen : (rb ++ nB l bo j).length = rb.length + j := by rw [List.length_append, nB_len l bo j (by omega)]
      obtain ⟨B, hB⟩ : ∃ B, B = bo + j := ⟨_, rfl⟩
      rw [← hB] at c1 hbx
      have hBm : (B : Int) + 1 < 9223372036854775808 := by have := (unhide HN); omega
      have hrow2 : (wr.alloc (.cells #[.int .u8 ((l[j] % 256 : Nat) : Int), .int .i64 (B : Nat), .bool false] 89)).drew.ownsRow w4.heap.size 89 3 (.slice lo (rb.length + j) lc) (rb ++ nB l bo j).length (bcells (rb ++ nB l bo j)) := by
        rw [hlen]
        exact ownsRow_of_block hrow (fun k hk => (show (wr.alloc (.cells #[.int .u8 ((l[j] % 256 : Nat) : Int), .int .i64 (B : Nat), .bool false] 89)).heap[k]? = _ from Below.heap_alloc _ _ _ (hrow.lt k hk).2))
      obtain ⟨a7, k7, w7, hr7, ho7, hf7, hn7⟩ := app_by _ w4.heap.size 0 _ _ _ [⟨l[j], B, false⟩] hrow2 (ownsRow_of_block (lit_by wr ⟨l[j], B, false⟩) (fun k _ => rfl)) (by rw [hlen]; simp; omega) (by show w4.heap.size ≤ (wr.alloc _).heap.size; simp; have := hfr.size; omega)
      rw [hlen] at hr7 ho7
      simp only [List.length_cons, List.length_nil, Nat.zero_add] at hr7 ho7
      rw [List.append_assoc, hB, ← nB_succ l bo j hjl] at ho7
      have hlo : ∀ k, (Value.slice lo (rb.length + j) lc).ownBlock = some k → w4.heap.size ≤ k := fun k hk => (hrow.lt k hk).1
      have hal : Fr (fun _ => False) wr (wr.alloc (.cells #[.int .u8 ((l[j] % 256 : Nat) : Int), .int .i64 (B : Nat), .bool false] 89)).drew := ((Fr.refl _ _).alloc _).drew
      have hf07 : Fr (fun k => (Value.slice lo (rb.length + j) lc).ownBlock = some k) wr w7 := (hal.mono (fun _ _ h => h.elim)).trans hf7 (fun _ _ h => h)
      have hf17 : Fr (fun k => k = W.heap.size) w4 w7 := hfr.trans hf07 (fun i hi e => by have := hlo i e; omega)
      have hgx : gx < wr.heap.size := lt_of_cell cx
      have hgW : gx < W.heap.size := by
        obtain ⟨gy, oy, ey, cy⟩ := src_at hsx j hjl
        cases ey
        exact lt_of_cell cy
      have hbx7 : w7.heap[W.heap.size]? = _ := (hf07.block _ (lt_of_block hbx) (fun e => by have := hlo _ e; omega)).trans hbx
      obtain ⟨_, e1, _, _, _, _, _, _, e8⟩ := cells_of8 hbx7
      have HS1 := hide (And.intro cx c1)
      have HS2 := hide (And.intro ((hal.cell (p := ⟨gx, ox + j, none⟩) hgx (fun h => h)).trans cx) ((hal.cell (p := ⟨W.heap.size, 1, none⟩) (lt_of_cell c1) (fun h => h)).trans c1))
      have HS3 := hide (And.intro ((hf07.cell (p := ⟨gx, ox + j, none⟩) hgx (fun e => by have := hlo gx e; omega)).trans cx) e1)
      have hbx8 := blkset hbx7 1 (.int .i64 ((B : Int) + 1))
      have ho8 := ownsRow_of_block (w' := w7.setCell ⟨W.heap.size, 1, none⟩ (.int .i64 ((B : Int) + 1))) ho7 (fun k hk => by
        refine ((Fr.refl (fun k => k = W.heap.size) w7).setCell (p := ⟨W.heap.size, 1, none⟩) (.inl rfl) (.int .i64 ((B : Int) + 1))).block k (ho7.lt k hk).2 (fun e => ?_)
        have e' : k = W.heap.size := e
        have := (ho7.lt k hk).1
        omega)
      have hf18 : Fr (fun k => k = W.heap.size) w4 (w7.setCell ⟨W.heap.size, 1, none⟩ (.int .i64 ((B : Int) + 1))) := hf17.setCell (p := ⟨W.heap.size, 1, none⟩) (.inl rfl) _
      have hbI : (B : Int) + 1 = ((bo + (j + 1) : Nat) : Int) := by omega
      rw [show (#[Value.int .i64 (li : Nat), .int .i64 (B : Nat), .int .i64 ((wt : Int) + 1), .slice (some ⟨g, 0, none⟩) Fs.length c, .int .i64 (ar), .int .i64 te, .bool false, .bool false].setIfInBounds 1 (.int .i64 ((B : Int) + 1))) = #[.int .i64 (li : Nat), .int .i64 ((bo + (j + 1) : Nat) : Int), .int .i64 ((wt : Int) + 1), .slice (some ⟨g, 0, none⟩) Fs.length c, .int .i64 (ar), .int .i64 te, .bool false, .bool false] by rw [← hbI]; rfl] at hbx8
      have HS := hide (And.intro ho8 (And.intro hbx8 hf18))
      have HR7 := hide hr7
      clear hr7 ho7 ho8 hbx8 hf18 hf17 hbx7 hf7 hf07 hal hn7 hrow hrow2 hbx hfr hFr hFW hx hz4 hsx hxW hlo hlen hbI d14 hgx hgW hB
      have hkl : (j : Int) < (l.length : Int) := by omega
      generalize hv : l[j] % 256 = vv at *
      go_wp2_with fail
      go_region_held3 (fun w' => w'.cell? ⟨gx, ox + j, none⟩ = some (.int .u8 (vv : Nat)) ∧ w'.cell? ⟨W.heap.size, 1, none⟩ = some (.int .i64 (B : Nat)))
        (first | with_reducible exact unhide HS3 | with_reducible exact unhide HS2 | exact unhide HS1)
        (refine step_app rfl (.tmp 82) (.tmp 90) 58 58 rfl _ _ _ (by simp [Act.eval]) (by simp [Act.eval]) (unhide HR7) ?_)
      all_goals
        go_wp2_with fail
        exact ⟨⟨j + 1, a7, k7, hlt, by go_num, rfl, (unhide HS).1, (unhide HS).2.1, (unhide HS).2.2⟩, by simp [intOf]; omega⟩
    · have hkl : ¬ (j : Int) < (l.length : Int) := by omega
      obtain rfl : j = l.length := by omega
      obtain ⟨c0, c1, c2, c3, c4, c5, c6, c7, z7⟩ := cells_of8 hbx
      have hgW := (unhide HW).lt g hTg
      have d1r : wr.cell? ⟨g, K * 2 + 1, none⟩ = some (.slice bo' rb.length bc) := (hfr.cell (p := ⟨g, K * 2 + 1, none⟩) (lt_of_cell d14) (fun e => by have e' : g = W.heap.size := e; omega)).trans d14
      have hGr : GAt wr (.slice (some ⟨g, 0, none⟩) Fs.length c) Fs T := (unhide HW).fr hFr (fun _ _ h => h)
      have hfzr : wr.frozen? ⟨g, K * 2 + 1, none⟩ = false := by
        obtain ⟨cur, hb⟩ := own_blk hGr.row rfl
        simp [World.frozen?, hb]
      obtain ⟨w8, hw8⟩ : ∃ w8, w8 = wr.setCell ⟨g, K * 2 + 1, none⟩ (.slice lo (rb.length + l.length) lc) := ⟨_, rfl⟩
      have hf8 : Fr (fun k => k = g) wr w8 := by rw [hw8]; exact (Fr.refl (fun k => k = g) wr).setCell (p := ⟨g, K * 2 + 1, none⟩) (.inl rfl) _
      have hv8 : w8.ownsRow 0 60 2 (.slice (some ⟨g, 0, none⟩) Fs.length c) Fs.length (gcells (Fs.set K (⟨xn, rb ++ nB l bo l.length⟩, .slice lo (rb.length + l.length) lc))) := by
        have h1 := (hGr.row.stored (K * 2 + 1) (.slice lo (rb.length + l.length) lc)).1
        rw [gcells_set Fs K _ hx _ (⟨xn, rb ++ nB l bo l.length⟩, .slice lo (rb.length + l.length) lc) (by simp [fc2])] at h1
        rw [hw8]
        exact h1
      have hlo : ∀ k, (Value.slice lo (rb.length + l.length) lc).ownBlock = some k → w4.heap.size ≤ k := fun k hk => (hrow.lt k hk).1
      have hb8 : w8.ownsRow 0 89 3 (.slice lo (rb.length + l.length) lc) (rb ++ nB l bo l.length).length (bcells (rb ++ nB l bo l.length)) := by
        rw [List.length_append, nB_len l bo l.length (by omega)]
        exact ownsRow_base (ownsRow_of_block hrow (fun k hk => hf8.block k (hrow.lt k hk).2 (fun e => by have e' : k = g := e; have := hlo k hk; omega))) (Nat.zero_le _)
      have hf08 : Fr (fun k => (Value.slice (some ⟨g, 0, none⟩) Fs.length c).ownBlock = some k ∨ (Value.slice bo' rb.length bc).ownBlock = some k) W w8 := (hFr.mono (fun _ _ h => h.elim)).trans hf8 (fun i hi e => .inl (by have e' : i = g := e; rw [e']; rfl))
      have hG8 := (unhide HW).file (y := (⟨xn, rb ++ nB l bo l.length⟩, .slice lo (rb.length + l.length) lc)) hx hf08 hv8 hb8 (fun k hk => .inr (by have := hlo k hk; omega))
      have hz8 : w8.heap[W.heap.size + 1]? = some (.cells zero8 30) := (hf8.block _ (by have := lt_of_block hz4; have := hfr.size; omega) (fun e => by have e' : W.heap.size + 1 = g := e; omega)).trans ((hfr.block _ (lt_of_block hz4) (by show ¬ W.heap.size + 1 = W.heap.size; omega)).trans hz4)
      obtain ⟨V, hrV, hgV, hfV⟩ := gbox hz8 ⟨li, bo + l.length, wt + 1, fs, ar, te, false, false⟩ (some ⟨g, 0, none⟩) Fs.length c
      have hfin := hG8.fr hfV (fun k hk e => by
        have e' : k = W.heap.size + 1 := e
        rcases hk with hk | hk
        · have := (unhide HW).lt k hk; omega
        · have := hlo k hk; omega)
      have hTT : Fr T W V := (hf08.mono (fun k _ h => h.elim (fun e => (unhide HW).tr k e) (fun e => (unhide HW).tb _ (List.mem_of_getElem? hx) k e))).trans hfV (fun i hi e => by have e' : i = W.heap.size + 1 := e; omega)
      have hT2 : ∀ k, (T k ∨ (Value.slice lo (rb.length + l.length) lc).ownBlock = some k) → T k ∨ W.heap.size ≤ k := fun k hk => hk.elim .inl (fun e => .inr (by have := hlo k e; omega))
      have hlen8 : lt_of_block hbx = lt_of_block hbx := rfl
      unfold RD.agg at hrV
      dsimp only at hrV
      rw [hw8] at hrV
      push_cast at hrV
      have HV := hide hrV
      have HE := hide (And.intro hgV (And.intro hfin (And.intro hT2 hTT)))
      have hgne : ¬ g = W.heap.size := by omega
      have hgne' : ¬ W.heap.size = g := by omega
      clear hrV hgV hfV hfin hTT hT2 hG8 hf08 hb8 hv8 hf8 hw8 hz8 hGr hlo hlen8 hrow hbx hfr hFr hFW hx hz4 hsx hxW d14 HX hsz3 hsz4 hgW
      go_wp2_with (refine wpList_stN rfl 30 (.tmp 6) _ rfl _ _ rfl rfl (unhide HV) ?_)
      (try simp only [Exit.inBlock, Exit.then])
      refine bodyPost_ret (results_cellt rfl _ _ (W.heap.size + 1) 0 _ _ _ rfl rfl (unhide HE).1 Try.underlying30 rfl (by kernel_rfl)) rfl ?_
      exact ⟨rfl, ⟨_, _, (unhide HE).2.1, (unhide HE).2.2.1⟩, (unhide HE).2.2.2⟩
end Go.Proofs.Ytoflkfnmbighaaa

namespace Go.Proofs.Ytoflkfnmbighaaa
open Go.RowKit Go.ChangeShapes Go.WideShapes Go.Maps

/-- So many bytes made safe. -/
def syB (rb : List RB) (j : Nat) : List RB := (rb.take j).map (fun b => { b with s := true }) ++ rb.drop j
theorem syB_len (rb : List RB) (j : Nat) : (syB rb j).length = rb.length := by simp [syB]; omega
theorem syB_at (rb : List RB) (j : Nat) (b : RB) (h : rb[j]? = some b) : (syB rb j)[j]? = some b := by
  have hlt := (List.getElem?_eq_some_iff.1 h).1
  unfold syB
  rw [List.getElem?_append_right (by simp; omega), List.getElem?_drop]
  have e : j + (j - ((rb.take j).map (fun b : RB => ({ b with s := true } : RB))).length) = j := by simp; omega
  rw [e]
  exact h
theorem syB_set (rb : List RB) (j : Nat) (b : RB) (h : rb[j]? = some b) : (syB rb j).set j { b with s := true } = syB rb (j + 1) := by
  have hlt := (List.getElem?_eq_some_iff.1 h).1
  unfold syB
  rw [List.set_append_right _ _ (by simp; omega)]
  have e : j - ((rb.take j).map (fun b : RB => ({ b with s := true } : RB))).length = 0 := by simp; omega
  rw [e, List.take_add_one, h]
  have e2 : rb.drop j = b :: rb.drop (j + 1) := by
    rw [List.drop_eq_getElem_cons hlt]
    congr 1
    exact (List.getElem?_eq_some_iff.1 h).2
  rw [e2]
  simp
set_option maxHeartbeats 1000000 in
set_option maxRecDepth 100000 in
/-- Sync. -/
theorem gSync_ok (r : RD) (ao : Option Addr) (c : Nat) (Fs : List GF) (T : Nat → Prop) (n : ByteArray)  (K : Nat) (x : GF) (W : World) (h : GAt W (.slice ao Fs.length c) Fs T) (hfs : Fs.map Prod.fst = r.fs) (hl : Fs.length ≤ 256) (hF : r.found n = ((K : Int), 0)) (hx : Fs[K]? = some x) (hb : x.1.rb.length ≤ 1048576) :
    Calls Try.prog 39 #[r.agg (.slice ao Fs.length c), .string n] W fun e w' => e = .returned (.tuple #[r.agg (.slice ao Fs.length c), .int .i64 0]) ∧ GAt w' (.slice ao Fs.length c) (Fs.set K (⟨x.1.name, x.1.rb.map fun b => { b with s := true }⟩, x.2)) T ∧ Fr T W w' := by
  obtain ⟨⟨xn, rb⟩, bv⟩ := x
  (try dsimp only at *)
  obtain ⟨bo', bc, hbv⟩ := h.form hx
  dsimp only at hbv
  subst hbv
  obtain ⟨w, hw⟩ : ∃ w, w = (W.alloc (.cells (r.cells (.slice ao Fs.length c)) 30)).alloc (.cells zero8 30) := ⟨_, rfl⟩
  have hB : B2 W w (r.cells (.slice ao Fs.length c)) := by rw [hw]; exact B2.new _ _
  have HC := hide (gfound_any r ao c Fs T n w (h.fr0 hB.f) hfs hl)
  rw [hF] at HC
  have HB := hide (And.intro hB h)
  have hKl : (K : Int) < (Fs.length : Int) := by have := (List.getElem?_eq_some_iff.1 hx).1; omega
  clear hB h hfs hF
  obtain ⟨li, bo, wt, fs, ar, te, off, fu⟩ := r
  dsimp only at HC ⊢
  unfold RD.agg at HC ⊢
  unfold RD.cells zero8 at hw
  go_enter Try.func39, Try.ntmps39
  go_wp2_with fail
  rw [← hw]
  refine (unhide HC).mono ?_
  rintro e' w2 ⟨rfl, hf2⟩
  have hB2 := (unhide HB).1.fr0 hf2
  have hG2 := (unhide HB).2.fr0 hB2.f
  have hWl : W.heap.size ≤ w2.heap.size := hB2.f.size
  have HW := hide (unhide HB).2
  clear hf2 HB HC hw
  obtain ⟨c0, c1, c2, c3, c4, c5, c6, c7, _⟩ := cells_of8 hB2.d
  obtain ⟨g, rfl, hTg, d0, d1, hfz⟩ := hG2.at_ hx
  dsimp only at d0 d1
  have hr2 := hG2.b _ (List.mem_of_getElem? hx)
  dsimp only at hr2
  have hbW : ∀ k, (Value.slice bo' rb.length bc).ownBlock = some k → k < W.heap.size := fun k hk => (unhide HW).lt k ((unhide HW).tb _ (List.mem_of_getElem? hx) k hk)
  have hbg : ∀ k, (Value.slice bo' rb.length bc).ownBlock = some k → k ≠ g := fun k hk e => row_blk hG2.row (show (Value.slice (some ⟨g, 0, none⟩) Fs.length c).ownBlock = some g from rfl) hr2 (by decide) (e ▸ hk)
  have HX := hide (And.intro hB2 (And.intro hG2 (And.intro hx (And.intro hr2 (And.intro hbW hbg)))))
  clear hB2 hG2 hr2 hbW hbg hx
  have HC := hide (And.intro c3 d1)
  clear c0 c1 c2 c3 c4 c5 c6 c7 d0 d1
  go_wp2_with fail
  go_loopw [8] (fun iv wr => ∃ j : Nat, j ≤ rb.length ∧ iv = .int .i64 (j : Nat) ∧ wr.ownsRow 0 89 3 (.slice bo' rb.length bc) rb.length (bcells (syB rb j)) ∧ Fr (fun k => (Value.slice bo' rb.length bc).ownBlock = some k) w2 wr) (fun iv _ => rb.length - (intOf iv).toNat)
  case atStart => exact ⟨0, Nat.zero_le _, rfl, by simpa [syB] using (unhide HX).2.2.2.1, Fr.refl _ _⟩
  case round =>
    obtain ⟨j, hj, rfl, hrow, hfr⟩ := hrel
    have c3 : wr.cell? ⟨W.heap.size, 3, none⟩ = some (.slice (some ⟨g, 0, none⟩) Fs.length c) := (hfr.cell (p := ⟨W.heap.size, 3, none⟩) (lt_of_cell (unhide HC).1) (fun e => by have := (unhide HX).2.2.2.2.1 _ e; exact absurd this (Nat.lt_irrefl _))).trans (unhide HC).1
    have d1 : wr.cell? ⟨g, K * 2 + 1, none⟩ = some (.slice bo' rb.length bc) := (hfr.cell (p := ⟨g, K * 2 + 1, none⟩) (lt_of_cell (unhide HC).2) (fun e => (unhide HX).2.2.2.2.2 _ e rfl)).trans (unhide HC).2
    by_cases hlt : j < rb.length
    · have hx := List.getElem?_eq_getElem hlt
      have hx2 := syB_at rb j _ hx
      have hrow2 : wr.ownsRow 0 89 3 (.slice bo' rb.length bc) (syB rb j).length (bcells (syB rb j)) := by rw [syB_len]; exact hrow
      obtain ⟨g2, rfl, _, hcap, hg2, _, _, e2, e3⟩ := row_at hrow2 hx2
      have hst := (hrow.stored (j * 3 + 2) (.bool true)).1
      rw [bcells_set (syB rb j) j _ hx2 2 _ { rb[j] with s := true } (by decide) (by simp [bc3]), syB_set rb j _ hx] at hst
      have HS := hide (And.intro hst (hfr.trans ((Fr.refl (fun k => k = g2) wr).setCell (p := ⟨g2, j * 3 + 2, none⟩) (.inl rfl) (.bool true)) (fun i hi e => by cases e; rfl)))
      have hkl : (j : Int) < (rb.length : Int) := by omega
      clear hst hrow hrow2 hfr
      go_wp2_with fail
      go_roundw
      case rel => exact ⟨j + 1, hlt, by go_num, (unhide HS).1, (unhide HS).2⟩
      case measure => simp [intOf]; omega
    · have hkl : ¬ (j : Int) < (rb.length : Int) := by omega
      obtain rfl : j = rb.length := by omega
      have hsy : syB rb rb.length = rb.map fun b => { b with s := true } := by simp [syB]
      rw [hsy] at hrow
      obtain ⟨hB2, hG2, hx, hr2, hbW, hbg⟩ := unhide HX
      have hd : wr.heap[W.heap.size]? = _ := (hfr.block _ (lt_of_block hB2.d) (fun e => by have := hbW _ e; exact absurd this (Nat.lt_irrefl _))).trans hB2.d
      have hz : wr.heap[W.heap.size + 1]? = _ := (hfr.block _ (lt_of_block hB2.z) (fun e => by have := hbW _ e; omega)).trans hB2.z
      obtain ⟨c0, c1, c2, c3, c4, c5, c6, c7, _⟩ := cells_of8 hd
      obtain ⟨V, hrV, hgV, hfV⟩ := gbox hz ⟨li, bo, wt, fs, ar, te, off, fu⟩ (some ⟨g, 0, none⟩) Fs.length c
      have hG3 := hG2.bytes hx (rb.map fun b => { b with s := true }) hfr (by rw [List.length_map]; exact hrow)
      have hfin := hG3.fr hfV (fun k hk e => by have e' : k = W.heap.size + 1 := e; have := (unhide HW).lt k hk; omega)
      have hTT : Fr T W V := ((hB2.f.mono (fun _ _ h => h.elim)).trans hfr (fun i hi e => (unhide HW).tb _ (List.mem_of_getElem? hx) i e)).trans hfV (fun i hi e => by have e' : i = W.heap.size + 1 := e; omega)
      unfold RD.agg at hrV
      have HV := hide hrV
      have HE := hide (And.intro hgV (And.intro hfin hTT))
      clear hrV hgV hfV hfin hTT hG3 hG2 hB2 hx hr2 hbW hbg hd hz hrow hfr HX HC HW
      go_wp2_with (refine wpList_stN rfl 30 _ _ rfl _ _ rfl rfl (unhide HV) ?_)
      (try simp only [Exit.inBlock, Exit.then])
      refine bodyPost_ret (results_cellt rfl _ _ (W.heap.size + 1) 0 _ _ _ rfl rfl (unhide HE).1 Try.underlying30 rfl (by kernel_rfl)) rfl ?_
      exact ⟨rfl, (unhide HE).2⟩
end Go.Proofs.Ytoflkfnmbighaaa

namespace Go.Proofs.Ytoflkfnmbighaaa
open Go.RowKit Go.ChangeShapes Go.WideShapes Go.Maps

/-- The document's file of a name. -/
theorem nix_some {fs : List RFl} {n : ByteArray} {k : Nat} (h : nix fs n = some k) : ∃ f, fs[k]? = some f ∧ nm f.name = nm n := by
  unfold nix at h
  rw [List.findIdx?_eq_some_iff_getElem] at h
  obtain ⟨hk, e, _⟩ := h
  exact ⟨fs[k], List.getElem?_eq_getElem hk, by simpa using e⟩
theorem nix_none {fs : List RFl} {n : ByteArray} (h : nix fs n = none) : ∀ f ∈ fs, nm f.name ≠ nm n := by
  unfold nix at h
  rw [List.findIdx?_eq_none_iff] at h
  intro f hf e
  have := h f hf
  simp [e] at this
theorem rel_has {s : DM} {r : RD} (h : Rel s r) {n : ByteArray} {k : Nat} (hk : nix r.fs n = some k) : Maps.has s.D (.string (nm n)) = true := by
  obtain ⟨f, hf, e⟩ := nix_some hk
  exact (has_keys h _).mpr ⟨f, List.mem_of_getElem? hf, e⟩
theorem rel_hasnt {s : DM} {r : RD} (h : Rel s r) {n : ByteArray} (hk : nix r.fs n = none) : Maps.has s.D (.string (nm n)) = false := by
  cases hh : Maps.has s.D (.string (nm n)) with
  | false => rfl
  | true =>
    obtain ⟨f, hf, e⟩ := (has_keys h _).mp hh
    exact absurd e (nix_none hk f hf)
/-- The refusal of a call that names a file. -/
theorem rel_no {s : DM} {r : RD} (h : Rel s r) {n : ByteArray} (hne : ¬ (r.found n).2 = 0) : s.no (nm n) (r.found n).2 := by
  unfold RD.found at hne ⊢
  rw [h.off] at hne ⊢
  cases ho : s.off with
  | true => exact .inl ⟨ho, by simp⟩
  | false =>
    rw [ho] at hne
    simp only [Bool.false_eq_true, if_false] at hne ⊢
    cases hk : nix r.fs n with
    | none => exact .inr ⟨ho, rel_hasnt h hk, rfl⟩
    | some k => rw [hk] at hne; exact absurd rfl hne
theorem found_ok {r : RD} {n : ByteArray} (h : (r.found n).2 = 0) : ∃ k f, r.off = false ∧ nix r.fs n = some k ∧ r.found n = ((k : Int), 0) ∧ r.fs[k]? = some f ∧ nm f.name = nm n := by
  unfold RD.found at h ⊢
  cases ho : r.off with
  | true => rw [ho] at h; simp at h
  | false =>
    rw [ho] at h
    simp only [Bool.false_eq_true, if_false] at h ⊢
    cases hk : nix r.fs n with
    | none => rw [hk] at h; simp at h
    | some k =>
      obtain ⟨f, hf, e⟩ := nix_some hk
      exact ⟨k, f, trivial, rfl, rfl, hf, e⟩
/-- Sync. -/
theorem Rel.sync {s : DM} {r : RD} (h : Rel s r) {k : Nat} {f : RFl} (hk : r.fs[k]? = some f) : Rel { s with F := fun j => if j = nm f.name then (s.F (nm f.name)).synced else s.F j } { r with fs := r.fs.set k ⟨f.name, f.rb.map fun b => { b with s := true }⟩ } := by
  have hfm := List.mem_of_getElem? hk
  have hb := (h.F f hfm).b
  refine h.file hk (s.F (nm f.name)).synced (f.rb.map fun b => { b with s := true }) _ _ rfl rfl rfl (Nat.le_refl _) h.l0 h.t0 (by simp) h.ul (Nat.le_refl _) ?_ (by simp [FM.synced]) ⟨0, [], ?_, fun p hp => by cases hp⟩ rfl h.wr rfl h.arm h.tear h.off h.full
  · have hl : (s.F (nm f.name)).b.length = f.rb.length := rel_blen h f hfm
    refine ⟨?_, ?_, ?_, ?_, ?_, ?_, ?_⟩
    · show (s.F (nm f.name)).b = _
      rw [hb, List.map_map]
      rfl
    · show (s.F (nm f.name)).b.length ≤ _
      rw [hl, List.length_map]
      exact Nat.le_refl _
    · intro i hi
      have hi' : i < f.rb.length := by simpa using hi
      show _ = decide (i < (s.F (nm f.name)).b.length)
      rw [hl]
      simp [hi']
    · show _ = _ - (s.F (nm f.name)).b.length
      rw [hl]
      simp [FM.synced, exps]
    · show (List.map RB.b (List.drop (s.F (nm f.name)).b.length _)).Pairwise _
      rw [hl, List.drop_of_length_le (by simp)]
      simp
    · show ∀ x ∈ List.drop (s.F (nm f.name)).b.length _, _
      rw [hl, List.drop_of_length_le (by simp)]
      simp
    · simp [FM.synced, exps]
  · simp [pdl, FM.synced, exps]
/-- Cut. -/
theorem Rel.cut {s : DM} {r : RD} (h : Rel s r) {k : Nat} {f : RFl} (hk : r.fs[k]? = some f) (n : Nat) (hn : n ≤ f.rb.length) : Rel (s.short (nm f.name) n) { r with fs := r.fs.set k ⟨f.name, f.rb.take n⟩ } := by
  have hfm := List.mem_of_getElem? hk
  have hb := (h.F f hfm).b
  have hl : (s.F (nm f.name)).b.length = f.rb.length := rel_blen h f hfm
  have hsl := (h.F f hfm).sl
  have hpl := (h.F f hfm).pl
  have hu := rel_len h f hfm
  have hex : exps (dropP (s.F (nm f.name)).ps ((s.F (nm f.name)).b.length - n)) = (exps (s.F (nm f.name)).ps).take (n - (s.F (nm f.name)).safe) := by
    rw [exps_drop, hl, hpl]
    rcases Nat.le_total n (s.F (nm f.name)).safe with h1 | h1
    · rw [show f.rb.length - (s.F (nm f.name)).safe - (f.rb.length - n) = 0 by omega, show n - (s.F (nm f.name)).safe = 0 by omega]
    · rw [show f.rb.length - (s.F (nm f.name)).safe - (f.rb.length - n) = n - (s.F (nm f.name)).safe by omega]
  have hdr : (f.rb.take n).drop (min (s.F (nm f.name)).safe n) = (f.rb.drop (s.F (nm f.name)).safe).take (n - (s.F (nm f.name)).safe) := by
    rcases Nat.le_total n (s.F (nm f.name)).safe with h1 | h1
    · rw [Nat.min_eq_right h1, List.drop_of_length_le (by simp; omega), show n - (s.F (nm f.name)).safe = 0 by omega]
      simp
    · rw [Nat.min_eq_left h1, List.drop_take]
  refine h.file hk ((s.F (nm f.name)).cut n) (f.rb.take n) _ _ rfl rfl rfl (Nat.le_refl _) h.l0 h.t0 ?_ ?_ (Nat.le_refl _) ?_ ?_ ⟨n - (s.F (nm f.name)).safe, [], ?_, fun p hp => by cases hp⟩ rfl h.wr rfl h.arm h.tear h.off h.full
  · show s.used - ((s.F (nm f.name)).b.length - n) + f.rb.length = s.used + (f.rb.take n).length
    rw [hl, List.length_take, Nat.min_eq_left hn]
    omega
  · show s.used - ((s.F (nm f.name)).b.length - n) ≤ s.limit
    have := h.ul
    omega
  · refine ⟨?_, ?_, ?_, ?_, ?_, ?_, ?_⟩
    · show (s.F (nm f.name)).b.take n = _
      rw [hb, ← List.map_take]
    · show min _ n ≤ _
      rw [List.length_take]
      omega
    · intro i hi
      have hi' : i < f.rb.length := by simp at hi; omega
      have hin : i < n := by simp at hi; omega
      show _ = decide (i < min (s.F (nm f.name)).safe n)
      rw [List.getElem_take, (h.F f hfm).s i hi']
      rw [Bool.eq_iff_iff]
      simp
      omega
    · show (exps (dropP _ _)).length = _ - min _ n
      rw [hex, List.length_take, hpl, List.length_take]
      omega
    · show (List.map RB.b (List.drop (min (s.F (nm f.name)).safe n) _)).Pairwise _
      rw [hdr, List.map_take]
      exact (h.F f hfm).rise.sublist (List.take_sublist _ _)
    · show ∀ x ∈ List.drop (min (s.F (nm f.name)).safe n) _, _
      rw [hdr]
      exact fun x hx => (h.F f hfm).bb x (List.mem_of_mem_take hx)
    · show ∀ x ∈ exps (dropP _ _), _
      rw [hex]
      exact fun x hx => (h.F f hfm).wb x (List.mem_of_mem_take hx)
  · show (dropP _ _).length + s.writes ≤ _ + s.writes
    have := dropP_len (s.F (nm f.name)).ps ((s.F (nm f.name)).b.length - n)
    omega
  · show (List.map RB.b (List.drop (min (s.F (nm f.name)).safe n) _)).zip (exps (dropP _ _)) = _
    rw [hdr, hex, List.append_nil]
    unfold pdl
    simp only [List.zip, List.map_take, List.take_zipWith]
/-- Turn. -/
theorem Rel.turn {s : DM} {r : RD} (h : Rel s r) {k : Nat} {f : RFl} (hk : r.fs[k]? = some f) (a b : Nat) (y : RB) (hy : f.rb[a]? = some y) : Rel (s.turned (nm f.name) a b) { r with fs := r.fs.set k ⟨f.name, f.rb.set a { y with v := (y.v % 256) ^^^ 2 ^ b }⟩ } := by
  have hfm := List.mem_of_getElem? hk
  have hb := (h.F f hfm).b
  have hlt := (List.getElem?_eq_some_iff.1 hy).1
  have hmb : (f.rb.set a { y with v := (y.v % 256) ^^^ 2 ^ b }).map RB.b = f.rb.map RB.b := by
    rw [List.map_set]
    exact set_self _ _ _ (by rw [List.getElem?_map, hy]; rfl)
  have hms : (f.rb.set a { y with v := (y.v % 256) ^^^ 2 ^ b }).map RB.s = f.rb.map RB.s := by
    rw [List.map_set]
    exact set_self _ _ _ (by rw [List.getElem?_map, hy]; rfl)
  have hdb : ((f.rb.set a { y with v := (y.v % 256) ^^^ 2 ^ b }).drop (s.F (nm f.name)).safe).map RB.b = (f.rb.drop (s.F (nm f.name)).safe).map RB.b := by rw [List.map_drop, List.map_drop, hmb]
  refine h.file hk ((s.F (nm f.name)).turn a b) _ _ _ rfl rfl rfl (Nat.le_refl _) h.l0 h.t0 (by simp [DM.turned]) h.ul (Nat.le_refl _) ?_ (Nat.le_refl _) ⟨(pdl (s.F (nm f.name)) f.rb).length, [], ?_, fun p hp => by cases hp⟩ rfl h.wr rfl h.arm h.tear h.off h.full
  · refine ⟨?_, ?_, ?_, ?_, ?_, ?_, (h.F f hfm).wb⟩
    · show (s.F (nm f.name)).b.set a _ = _
      rw [List.map_set, hb]
      congr 2
      rw [List.getD_eq_getElem?_getD, List.getElem?_map, hy]
      rfl
    · rw [List.length_set]; exact (h.F f hfm).sl
    · intro i hi
      have hi' : i < f.rb.length := by simpa using hi
      have h1 : ((f.rb.set a { y with v := (y.v % 256) ^^^ 2 ^ b }).map RB.s)[i]? = (f.rb.map RB.s)[i]? := by rw [hms]
      rw [List.getElem?_map, List.getElem?_map, List.getElem?_eq_getElem hi, List.getElem?_eq_getElem hi'] at h1
      simp only [Option.map_some, Option.some.injEq] at h1
      rw [h1]
      exact (h.F f hfm).s i hi'
    · rw [List.length_set]; exact (h.F f hfm).pl
    · show (List.map RB.b (List.drop (s.F (nm f.name)).safe _)).Pairwise _
      rw [hdb]; exact (h.F f hfm).rise
    · intro x hx
      have h1 : x.b ∈ (f.rb.drop (s.F (nm f.name)).safe).map RB.b := by rw [← hdb]; exact List.mem_map.mpr ⟨x, hx, rfl⟩
      obtain ⟨z, hz, e⟩ := List.mem_map.mp h1
      rw [← e]
      exact (h.F f hfm).bb z hz
  · show (List.map RB.b (List.drop (s.F (nm f.name)).safe _)).zip (exps (s.F (nm f.name)).ps) = _
    rw [hdb, List.append_nil, List.take_length]
    rfl
theorem nB_v (l : List Nat) (b n : Nat) : (nB l b n).map RB.v = l.take n := by
  unfold nB
  apply List.ext_getElem?
  intro i
  simp only [List.getElem?_map, List.getElem?_mapIdx]
  cases (l.take n)[i]? <;> rfl
theorem nB_b (l : List Nat) (b n : Nat) (hn : n ≤ l.length) : (nB l b n).map RB.b = List.range' b n := by
  apply List.ext_getElem?
  intro i
  unfold nB
  simp only [List.getElem?_map, List.getElem?_mapIdx]
  rcases Nat.lt_or_ge i n with h | h
  · rw [List.getElem?_eq_getElem (by simp; omega), List.getElem?_range' h]
    simp
  · rw [List.getElem?_eq_none (by simp; omega), List.getElem?_eq_none (by simp; omega)]
    rfl
theorem nB_s (l : List Nat) (b n : Nat) : ∀ x ∈ nB l b n, x.s = false := by
  intro x hx
  unfold nB at hx
  obtain ⟨i, hi, rfl⟩ := List.getElem_of_mem hx
  simp
/-- Append. -/
theorem Rel.app {s : DM} {r : RD} (h : Rel s r) {k : Nat} {f : RFl} (hk : r.fs[k]? = some f) (l : List Nat) (hroom : s.used + l.length ≤ s.limit) (r' : RD)
    (r1 : r'.limit = r.limit) (r2 : r'.writes = r.writes + 1) (r3 : r'.fs = r.fs.set k ⟨f.name, f.rb ++ nB l r.born (s.count l.length).2⟩) (r4 : r'.armed = (s.count l.length).1.left) (r5 : (s.count l.length).1.left ≠ 0 → r'.tear = s.tear) (r6 : r'.off = (s.count l.length).1.off) (r7 : r'.full = s.full) (r8 : r'.born = r.born + (s.count l.length).2) : Rel (s.app (nm f.name) l) r' := by
  have hfm := List.mem_of_getElem? hk
  have hF := h.F f hfm
  obtain ⟨e1, e2, e3, e4, e5, e6⟩ := s.count_D l.length
  have hle := s.count_le l.length
  have htl : (s.count l.length).1.left = 0 ∨ (s.count l.length).1.tear = s.tear := by
    unfold DM.count
    split
    · exact .inr rfl
    · split <;> exact .inr rfl
  have htr : (s.count l.length).1.tear = s.tear := by
    unfold DM.count
    split
    · rfl
    · split <;> rfl
  have hlf : 0 ≤ (s.count l.length).1.left ∧ (s.count l.length).1.left < 9223372036854775808 := by
    have := h.l0
    unfold DM.count
    split
    · exact this
    · split <;> (dsimp only; omega)
  generalize hn : (s.count l.length).2 = n at *
  have hlen : (nB l r.born n).length = n := nB_len l r.born n hle
  have hput : (s.app (nm f.name) l).F = fun j => if j = nm f.name then (s.F (nm f.name)).put (s.writes + 1) (l.take n) else s.F j := by
    simp only [DM.app, hn]
  have hsl := hF.sl
  have hdr : (f.rb ++ nB l r.born n).drop (s.F (nm f.name)).safe = f.rb.drop (s.F (nm f.name)).safe ++ nB l r.born n := List.drop_append_of_le_length hsl
  have hsafe : ((s.F (nm f.name)).put (s.writes + 1) (l.take n)).safe = (s.F (nm f.name)).safe := by unfold FM.put; split <;> rfl
  have hpb : ((s.F (nm f.name)).put (s.writes + 1) (l.take n)).b = (s.F (nm f.name)).b ++ l.take n := by
    unfold FM.put
    split
    · rename_i h0
      rw [List.eq_nil_of_length_eq_zero h0, List.append_nil]
    · rfl
  have hpe : exps ((s.F (nm f.name)).put (s.writes + 1) (l.take n)).ps = exps (s.F (nm f.name)).ps ++ List.replicate n (s.writes + 1) := by
    unfold FM.put
    split
    · rename_i h0
      have : n = 0 := by simp at h0; rcases h0 with h0 | h0; exact h0; subst h0; simpa using hle
      rw [this]
      simp
    · rw [exps_app, exps_one]
      congr 2
      simp
      omega
  have hpl2 : ((s.F (nm f.name)).put (s.writes + 1) (l.take n)).ps.length ≤ (s.F (nm f.name)).ps.length + 1 := by
    unfold FM.put
    split
    · omega
    · simp
  refine h.file hk ((s.F (nm f.name)).put (s.writes + 1) (l.take n)) (f.rb ++ nB l r.born n) (s.app (nm f.name) l) r' (by simp [DM.app, e1]) hput (by simp [DM.app, e4]) ?_ (by simpa [DM.app] using hlf) ?_ ?_ ?_ (by rw [r8]; omega) ?_ ?_ ⟨(pdl (s.F (nm f.name)) f.rb).length, (List.range' r.born n).zip (List.replicate n (s.writes + 1)), ?_, ?_⟩ r1 ?_ r3 (by rw [r4]; rfl) (fun hne => by rw [r5 hne]; exact htr.symm) (by rw [r6]; rfl) (by rw [r7]; simp [DM.app, e6])
  · show s.writes ≤ (s.count l.length).1.writes
    rw [e5]; omega
  · show 0 ≤ (s.count l.length).1.tear ∧ (s.count l.length).1.tear < _
    rw [htr]; exact h.t0
  · show s.used + (s.count l.length).2 + f.rb.length = s.used + (f.rb ++ nB l r.born n).length
    rw [hn, List.length_append, hlen]
    omega
  · show s.used + (s.count l.length).2 ≤ (s.count l.length).1.limit
    rw [hn, e4]
    omega
  · have hw : (s.app (nm f.name) l).writes = s.writes + 1 := e5
    rw [hw, r8]
    refine ⟨?_, ?_, ?_, ?_, ?_, ?_, ?_⟩
    · rw [hpb, hF.b, List.map_append, nB_v]
    · rw [hsafe, List.length_append]; omega
    · intro i hi
      rw [hsafe]
      rcases Nat.lt_or_ge i f.rb.length with h1 | h1
      · rw [List.getElem_append_left h1]; exact hF.s i h1
      · rw [List.getElem_append_right h1, nB_s l r.born n _ (List.getElem_mem _)]
        have : ¬ i < (s.F (nm f.name)).safe := by omega
        simp [this]
    · rw [hpe, hsafe, List.length_append, List.length_append, List.length_replicate, hlen, hF.pl]
      omega
    · rw [hsafe, hdr, List.map_append, nB_b l r.born n hle, List.pairwise_append]
      refine ⟨hF.rise, List.pairwise_lt_range' , fun a ha b hb => ?_⟩
      obtain ⟨x, hx, rfl⟩ := List.mem_map.mp ha
      have h1 := hF.bb x hx
      have h2 := (List.mem_range'_1.mp hb).1
      omega
    · rw [hsafe, hdr]
      intro x hx
      rcases List.mem_append.mp hx with hx | hx
      · have := hF.bb x hx; omega
      · have h1 : x.b ∈ (nB l r.born n).map RB.b := List.mem_map.mpr ⟨x, hx, rfl⟩
        rw [nB_b l r.born n hle] at h1
        exact (List.mem_range'_1.mp h1).2
    · rw [hpe]
      intro x hx
      rcases List.mem_append.mp hx with hx | hx
      · have := hF.wb x hx; omega
      · rw [List.eq_of_mem_replicate hx]; exact Nat.le_refl _
  · show _ + s.writes ≤ _ + (s.count l.length).1.writes
    rw [e5]
    omega
  · unfold pdl
    rw [hsafe, hdr, hpe, List.map_append, nB_b l r.born n hle, List.zip_append (by rw [hF.pl]; simp)]
    congr 1
    rw [List.take_of_length_le (Nat.le_refl _)]
  · intro p hp
    have h1 := List.of_mem_zip hp
    exact ⟨(List.mem_range'_1.mp h1.1).1, List.eq_of_mem_replicate h1.2⟩
  · rw [r2, h.wr]
    exact e5.symm
end Go.Proofs.Ytoflkfnmbighaaa

