import Derived.Test.YtedmhpplhbaglaaNto
namespace Go.Proofs.Ytedmhpplhbaglaa
open Go.RowKit Go.ChangeShapes Go.WideShapes Go.Maps

set_option maxHeartbeats 1000000 in
set_option maxRecDepth 100000 in
/-- Gone. -/
theorem ggone_any (w0 W : World) (pl : Int) (ao : Option Addr) (c k how : Nat) (Rs : List RK) (x : RK) (h : RfAt w0 W (.slice ao Rs.length c) Rs) (hk : Rs[k]? = some x) (hl : Rs.length ≤ 1048576) (hw : w0.heap.size ≤ W.heap.size) :
    Calls Try.prog 28 #[.agg #[.int .i64 pl, .slice ao Rs.length c], .int .i64 ((k : Int) + 1), .int .i64 (how : Nat)] W fun e w' => ∃ ao' c', e = .returned (.agg #[.int .i64 pl, .slice ao' Rs.length c']) ∧ RfAt w0 w' (.slice ao' Rs.length c') (Rs.set k ({ x.1 with gone := how }, x.2)) ∧ Fr (fun _ => False) W w' := by
  have hkl := (List.getElem?_eq_some_iff.1 hk).1
  obtain ⟨W3, hW3⟩ : ∃ W3, W3 = (W.alloc (.cells #[.int .i64 pl, .slice ao Rs.length c] 45)).alloc (.cells #[.int .i64 0, .slice none 0 0] 45) := ⟨_, rfl⟩
  have hs3 : W3.heap.size = W.heap.size + 2 := by rw [hW3]; simp
  have hf3 : Fr (fun _ => False) W W3 := by rw [hW3]; exact box2 _ _ _
  have b0 : W3.heap[W.heap.size]? = some (.cells #[.int .i64 pl, .slice ao Rs.length c] 45) := by
    rw [hW3, Below.heap_alloc _ _ _ (by simp)]
    exact heap_alloc_new W _
  have b2 : W3.heap[W.heap.size + 1]? = some (.cells #[.int .i64 0, .slice none 0 0] 45) := by
    rw [hW3]
    have := heap_alloc_new (W.alloc (.cells #[.int .i64 pl, .slice ao Rs.length c] 45)) (.cells #[.int .i64 0, .slice none 0 0] 45)
    simpa using this
  obtain ⟨W4, hr4, ho4, hf4⟩ := make_rk Rs.length W3 (by omega)
  have hR4 := (h.fr0 hf3).fr0 hf4
  obtain ⟨a5, c5, W5, hr5, ho5, hf5⟩ := app_rk W4 W3.heap.size w0.heap.size _ _ [] Rs ho4 hR4.row (by simp; omega) hf4.size
  simp only [List.length_nil, Nat.zero_add, List.nil_append] at hr5 ho5
  obtain ⟨g5, rfl⟩ : ∃ g, a5 = some ⟨g, 0, none⟩ := by
    rcases ho5.2 with ⟨_, e⟩ | ⟨g, c', cur, e, _⟩
    · omega
    · simp only [Value.slice.injEq] at e; exact ⟨g, e.1⟩
  have hs5 : W3.heap.size ≤ W5.heap.size := Nat.le_trans hf4.size hf5.size
  have hf35 : ∀ k, k < W3.heap.size → W5.heap[k]? = W3.heap[k]? := fun k hk => (hf5.block k (Nat.lt_of_lt_of_le hk hf4.size) (fun e => by have e' : W3.heap.size = k := (by simpa [Value.ownBlock] using e); omega)).trans (hf4.block k hk (fun h => h))
  have e0 := (hf35 W.heap.size (by omega)).trans b0
  have e2 := (hf35 (W.heap.size + 1) (by omega)).trans b2
  have hf05 : Fr (fun _ => False) W W5 := (hf3.trans hf4 (fun _ _ h => h)).trans hf5 (fun i hi e => by have e' : W3.heap.size = i := (by simpa [Value.ownBlock] using e); omega)
  have hg5 := ho5.lt g5 rfl
  obtain ⟨_, _, _, q3, _⟩ := rcells_at hk
  have p3 : W5.cell? ⟨g5, k * 5 + 3, none⟩ = some (.int .i64 (x.1.gone : Nat)) := (ho5.cellAt _ (by omega)).trans q3
  have y3 : W5.frozen? ⟨g5, k * 5 + 3, none⟩ = false := by
    obtain ⟨cur, hb⟩ := own_blk ho5 rfl
    simp [World.frozen?, hb]
  have ho6 := (ho5.stored (k * 5 + 3) (.int .i64 (how : Nat))).1
  rw [rcells_set Rs k x hk how] at ho6
  obtain ⟨W6, hW6⟩ : ∃ W6, W6 = W5.setCell ⟨g5, k * 5 + 3, none⟩ (.int .i64 (how : Nat)) := ⟨_, rfl⟩
  have hf56 : Fr (fun k => k = g5) W5 W6 := by rw [hW6]; exact (Fr.refl (fun k => k = g5) W5).setCell (p := ⟨g5, k * 5 + 3, none⟩) (.inl rfl) _
  rw [← hW6] at ho6
  have g0 := (hf56.block W.heap.size (by omega) (by show ¬ W.heap.size = g5; omega)).trans e0
  have g2 := (hf56.block (W.heap.size + 1) (by omega) (by show ¬ W.heap.size + 1 = g5; omega)).trans e2
  have hf06 : Fr (fun _ => False) W W6 := hf05.trans hf56 (fun i hi e => by have e' : i = g5 := e; omega)
  have hs6 := hf56.size
  obtain ⟨W7, hW7⟩ : ∃ W7, W7 = W6.setCell ⟨W.heap.size, 1, none⟩ (.slice (some ⟨g5, 0, none⟩) Rs.length c5) := ⟨_, rfl⟩
  have g0' : W7.heap[W.heap.size]? = some (.cells #[.int .i64 pl, .slice (some ⟨g5, 0, none⟩) Rs.length c5] 45) := by rw [hW7, blkset g0]; rfl
  have hf67 : Fr (fun k => k = W.heap.size) W6 W7 := by rw [hW7]; exact (Fr.refl (fun k => k = W.heap.size) W6).setCell (p := ⟨W.heap.size, 1, none⟩) (.inl rfl) _
  have g2' : W7.heap[W.heap.size + 1]? = some (.cells #[.int .i64 0, .slice none 0 0] 45) := (hf67.block _ (by omega) (by show ¬ W.heap.size + 1 = W.heap.size; omega)).trans g2
  obtain ⟨W8, hr8, hb8, hf8⟩ := st_all (P := Try.prog) (ty := 45) _ [.int .i64 pl, .slice (some ⟨g5, 0, none⟩) Rs.length c5] g2' rfl (by kernel_rfl) (by simp [Value.oneCell'])
  have hfin : Fr (fun _ => False) W W8 := (hf06.trans hf67 (fun i hi e => by have e' : i = W.heap.size := e; omega)).trans hf8 (fun i hi e => by have e' : i = W.heap.size + 1 := e; omega)
  have ho8 : RfAt w0 W8 (.slice (some ⟨g5, 0, none⟩) Rs.length c5) (Rs.set k ({ x.1 with gone := how }, x.2)) := by
    refine ⟨?_, fun y hy => ?_⟩
    · rw [List.length_set]
      refine ownsRow_base (ownsRow_of_block ho6 (fun g hg => ?_)) (by omega)
      have h1 := (ho6.lt g hg).1
      have h2 := (ho6.lt g hg).2
      exact (hf8.block g (Nat.lt_of_lt_of_le h2 hf67.size) (fun e => by have e' : g = W.heap.size + 1 := e; omega)).trans (hf67.block g h2 (fun e => by have e' : g = W.heap.size := e; omega))
    · rcases List.mem_or_eq_of_mem_set hy with hy | rfl
      · exact h.src y hy
      · exact h.src x (List.mem_of_getElem? hk)
  have c01 : W3.cell? ⟨W.heap.size, 1, none⟩ = some (.slice ao Rs.length c) := cell_of_blk b0 rfl
  have c41 : W4.cell? ⟨W.heap.size, 1, none⟩ = some (.slice ao Rs.length c) := (hf4.cell (p := ⟨W.heap.size, 1, none⟩) (lt_of_cell c01) (fun h => h)).trans c01
  have k0 : W5.cell? ⟨W.heap.size, 0, none⟩ = some (.int .i64 pl) := cell_of_blk e0 rfl
  have k1 : W5.cell? ⟨W.heap.size, 1, none⟩ = some (.slice ao Rs.length c) := cell_of_blk e0 rfl
  have z1 : W5.frozen? ⟨W.heap.size, 1, none⟩ = false := by simp [World.frozen?, e0]
  have hne : ¬ g5 = W.heap.size := by omega
  have hne' : ¬ W.heap.size = g5 := by omega
  have hcap : Rs.length ≤ c5 := by
    rcases ho5.2 with ⟨e, _⟩ | ⟨g', c', cur, e, _, _, hc, _⟩
    · cases e
    · simp only [Value.slice.injEq] at e; omega
  rw [hW7, hW6] at hr8
  have HR5 := hide hr5
  have HR8 := hide hr8
  have HF := hide (And.intro (range_of_block hb8) (And.intro ho8 hfin))
  clear hr5 hr8 hb8 ho8 hfin hf8 g2' hf67 g0' hW7 W7 hf06 hs6 g0 g2 hf56 ho6 hW6 W6 hf05 e0 e2 hf35 hs5 ho5 hf5 hR4 ho4 hf4 b0 b2 hf3 h q3 hk hg5
  rw [hs3] at HR5 hr4
  rw [hW3] at hr4 c01
  go_enter Try.func28, Try.ntmps28
  go_wp2_with (first
    | (at_builtin; refine wpList_app rfl (.tmp 12) (.tmp 14) 43 43 rfl _ _ _ rfl rfl (unhide HR5) ?_)
    | (refine wpList_stN rfl 45 (.tmp 6) (.tmp 24) rfl _ _ rfl rfl (unhide HR8) ?_))
  (try simp only [Exit.inBlock, Exit.then])
  refine bodyPost_ret (results_cell_mid rfl _ _ (W.heap.size + 1) 0 [.int .i64 pl, .slice (some ⟨g5, 0, none⟩) Rs.length c5] _ rfl (unhide HF).1 Try.underlying45 rfl (by kernel_rfl)) rfl ?_
  exact ⟨_, c5, rfl, (unhide HF).2⟩
set_option maxRecDepth 100000 in
/-- is: of a packet handed out and the document's own, alike. -/
theorem is_any (n f t : Int) (x y : Value) (l : List Nat) (gone : Nat) (cp : Bool) (W : World) (hx : Src W x l) (hy : Src W y l) (hl : l.length ≤ 1048576) :
    Calls Try.prog 29 #[.agg #[.int .i64 n, .int .i64 f, .int .i64 t, x], .int .i64 n, .agg #[.int .i64 f, .int .i64 t, y, .int .i64 (gone : Nat), .bool cp]] W fun e w' => e = .returned (.bool true) ∧ Fr (fun _ => False) W w' := by
  have HS := hide (And.intro hx hy)
  obtain ⟨xo, xc, rfl⟩ := hx.form
  obtain ⟨yo, yc, rfl⟩ := hy.form
  clear hx hy
  have n1 : (n == n) = true := by simp
  have f1 : (f == f) = true := by simp
  have t1 : (t == t) = true := by simp
  go_enter Try.func29, Try.ntmps29
  go_wp2_with fail
  refine (same_fr _ _ l _ ((unhide HS).1.fr (box2 _ _ _) (fun _ _ _ _ _ h => h)) ((unhide HS).2.fr (box2 _ _ _) (fun _ _ _ _ _ h => h)) hl).mono ?_
  rintro e w2 ⟨rfl, hf⟩
  have HF := hide ((box2 _ _ _).trans hf (fun _ _ h => h))
  clear hf
  go_wp2_with fail
  go_ret
  exact ⟨rfl, unhide HF⟩
end Go.Proofs.Ytedmhpplhbaglaa
