import Derived.Test.YtedmhpplhbaglaaNtn
namespace Go.Proofs.Ytedmhpplhbaglaa
open Go.RowKit Go.ChangeShapes Go.WideShapes Go.Maps

theorem lit_rk (w : World) (x : RK) : (w.alloc (.cells #[.int .i64 x.1.f, .int .i64 x.1.t, .slice x.2.1 x.1.b.length x.2.2, .int .i64 (x.1.gone : Nat), .bool x.1.cp] 71)).ownsRow w.heap.size 71 5 (.slice (some ⟨w.heap.size, 0, none⟩) 1 1) [x].length (rcells [x]) :=
  ⟨by simp [rcells, rc5], .inr ⟨w.heap.size, 1, _, rfl, Nat.le_refl _, heap_alloc_new w _, Nat.le_refl _, by decide, rfl, by simp [rcells, rc5]⟩⟩
set_option maxHeartbeats 1000000 in
set_option maxRecDepth 100000 in
/-- Put. -/
theorem gput_any (w0 W : World) (pl : Int) (ao : Option Addr) (c : Nat) (Rs : List RK) (x : RK) (h : RfAt w0 W (.slice ao Rs.length c) Rs) (hx : Src w0 (.slice x.2.1 x.1.b.length x.2.2) x.1.b ∧ x.1.b.length ≤ 1048576) (hl : Rs.length ≤ 1048576) (hw : w0.heap.size ≤ W.heap.size) :
    Calls Try.prog 26 #[.agg #[.int .i64 pl, .slice ao Rs.length c], .agg #[.int .i64 x.1.f, .int .i64 x.1.t, .slice x.2.1 x.1.b.length x.2.2, .int .i64 (x.1.gone : Nat), .bool x.1.cp]] W fun e w' => ∃ ao' c', e = .returned (.agg #[.int .i64 pl, .slice ao' (Rs.length + 1) c']) ∧ RfAt w0 w' (.slice ao' (Rs.length + 1) c') (Rs ++ [x]) ∧ Fr (fun _ => False) W w' := by
  obtain ⟨W3, hW3⟩ : ∃ W3, W3 = ((W.alloc (.cells #[.int .i64 pl, .slice ao Rs.length c] 45)).alloc (.cells #[.int .i64 x.1.f, .int .i64 x.1.t, .slice x.2.1 x.1.b.length x.2.2, .int .i64 (x.1.gone : Nat), .bool x.1.cp] 71)).alloc (.cells #[.int .i64 0, .slice none 0 0] 45) := ⟨_, rfl⟩
  have hs3 : W3.heap.size = W.heap.size + 3 := by rw [hW3]; simp
  have hf3 : Fr (fun _ => False) W W3 := by rw [hW3]; exact (((Fr.refl _ _).alloc _).alloc _).alloc _
  have b0 : W3.heap[W.heap.size]? = some (.cells #[.int .i64 pl, .slice ao Rs.length c] 45) := by
    rw [hW3, Below.heap_alloc _ _ _ (by simp; omega), Below.heap_alloc _ _ _ (by simp)]
    exact heap_alloc_new W _
  have b1 : W3.heap[W.heap.size + 1]? = some (.cells #[.int .i64 x.1.f, .int .i64 x.1.t, .slice x.2.1 x.1.b.length x.2.2, .int .i64 (x.1.gone : Nat), .bool x.1.cp] 71) := by
    rw [hW3, Below.heap_alloc _ _ _ (by simp)]
    have := heap_alloc_new (W.alloc (.cells #[.int .i64 pl, .slice ao Rs.length c] 45)) (.cells #[.int .i64 x.1.f, .int .i64 x.1.t, .slice x.2.1 x.1.b.length x.2.2, .int .i64 (x.1.gone : Nat), .bool x.1.cp] 71)
    simpa using this
  have b2 : W3.heap[W.heap.size + 2]? = some (.cells #[.int .i64 0, .slice none 0 0] 45) := by
    rw [hW3]
    have := heap_alloc_new ((W.alloc (.cells #[.int .i64 pl, .slice ao Rs.length c] 45)).alloc (.cells #[.int .i64 x.1.f, .int .i64 x.1.t, .slice x.2.1 x.1.b.length x.2.2, .int .i64 (x.1.gone : Nat), .bool x.1.cp] 71)) (.cells #[.int .i64 0, .slice none 0 0] 45)
    simpa using this
  obtain ⟨W4, hr4, ho4, hf4⟩ := make_rk (Rs.length + 1) W3 (by omega)
  have hr4' : (Instr.makeSlice 43 (.int .i64 0) (.int .i64 ((Rs.length : Int) + 1))).run Try.prog W3 = .ok (.slice (some ⟨W3.heap.size, 0, none⟩) 0 (Rs.length + 1)) W4 := hr4
  have hR4 := (h.fr0 hf3).fr0 hf4
  obtain ⟨a5, c5, W5, hr5, ho5, hf5⟩ := app_rk W4 W3.heap.size w0.heap.size _ _ [] Rs ho4 hR4.row (by simp; omega) hf4.size
  simp only [List.length_nil, Nat.zero_add, List.nil_append] at hr5 ho5
  have hs5 : W3.heap.size ≤ W5.heap.size := Nat.le_trans hf4.size hf5.size
  have hf35 : ∀ k, k < W3.heap.size → W5.heap[k]? = W3.heap[k]? := fun k hk => (hf5.block k (Nat.lt_of_lt_of_le hk hf4.size) (fun e => by have e' : W3.heap.size = k := (by simpa [Value.ownBlock] using e); omega)).trans (hf4.block k hk (fun h => h))
  have e0 := (hf35 W.heap.size (by omega)).trans b0
  have e1 := (hf35 (W.heap.size + 1) (by omega)).trans b1
  have e2 := (hf35 (W.heap.size + 2) (by omega)).trans b2
  have hf05 : Fr (fun _ => False) W W5 := (hf3.trans hf4 (fun _ _ h => h)).trans hf5 (fun i hi e => by have e' : W3.heap.size = i := (by simpa [Value.ownBlock] using e); omega)
  have ho5' : (W5.alloc (.cells #[.int .i64 x.1.f, .int .i64 x.1.t, .slice x.2.1 x.1.b.length x.2.2, .int .i64 (x.1.gone : Nat), .bool x.1.cp] 71)).ownsRow W3.heap.size 71 5 (.slice a5 Rs.length c5) Rs.length (rcells Rs) := ownsRow_of_block ho5 (fun g hg => Below.heap_alloc _ _ _ (ho5.lt g hg).2)
  obtain ⟨a6, c6, W6, hr6, ho6, hf6⟩ := app_rk _ W3.heap.size W5.heap.size _ _ Rs [x] ho5' (lit_rk W5 x) (by simp; omega) (by simp; omega)
  simp only [List.length_cons, List.length_nil, Nat.zero_add] at hr6 ho6
  have hb5 : ∀ k, (Value.slice a5 Rs.length c5).ownBlock = some k → W3.heap.size ≤ k := fun k hk => (ho5.lt k hk).1
  have hf56 : ∀ k, k < W3.heap.size → W6.heap[k]? = W5.heap[k]? := fun k hk => (hf6.block k (by simp; omega) (fun e => by have := hb5 k e; omega)).trans (Below.heap_alloc _ _ _ (by omega))
  have g0 := (hf56 W.heap.size (by omega)).trans e0
  have g2 := (hf56 (W.heap.size + 2) (by omega)).trans e2
  have hf06 : Fr (fun _ => False) W W6 := ((hf05.alloc _).trans hf6 (fun i hi e => by have := hb5 i e; omega))
  have hs6 : W3.heap.size ≤ W6.heap.size := by have := hf6.size; simp at this; omega
  obtain ⟨W7, hW7⟩ : ∃ W7, W7 = W6.setCell ⟨W.heap.size, 1, none⟩ (.slice a6 (Rs.length + 1) c6) := ⟨_, rfl⟩
  have g0' : W7.heap[W.heap.size]? = some (.cells #[.int .i64 pl, .slice a6 (Rs.length + 1) c6] 45) := by rw [hW7, blkset g0]; rfl
  have hf67 : Fr (fun k => k = W.heap.size) W6 W7 := by rw [hW7]; exact (Fr.refl (fun k => k = W.heap.size) W6).setCell (p := ⟨W.heap.size, 1, none⟩) (.inl rfl) _
  have g2' : W7.heap[W.heap.size + 2]? = some (.cells #[.int .i64 0, .slice none 0 0] 45) := (hf67.block _ (by omega) (by show ¬ W.heap.size + 2 = W.heap.size; omega)).trans g2
  obtain ⟨W8, hr8, hb8, hf8⟩ := st_all (P := Try.prog) (ty := 45) _ [.int .i64 pl, .slice a6 (Rs.length + 1) c6] g2' rfl (by kernel_rfl) (by simp [Value.oneCell'])
  have hfin : Fr (fun _ => False) W W8 := (hf06.trans hf67 (fun i hi e => by have e' : i = W.heap.size := e; omega)).trans hf8 (fun i hi e => by have e' : i = W.heap.size + 2 := e; omega)
  have ho8 : RfAt w0 W8 (.slice a6 (Rs.length + 1) c6) (Rs ++ [x]) := by
    refine ⟨?_, fun y hy => ?_⟩
    · rw [List.length_append]
      refine ownsRow_base (ownsRow_of_block ho6 (fun g hg => ?_)) (by omega)
      have h1 := (ho6.lt g hg).1
      have h2 := (ho6.lt g hg).2
      exact (hf8.block g (Nat.lt_of_lt_of_le h2 hf67.size) (fun e => by have e' : g = W.heap.size + 2 := e; omega)).trans (hf67.block g h2 (fun e => by have e' : g = W.heap.size := e; omega))
    · rcases List.mem_append.1 hy with hy | hy
      · exact h.src y hy
      · simp at hy; subst hy; exact hx
  have c01 : W3.cell? ⟨W.heap.size, 1, none⟩ = some (.slice ao Rs.length c) := cell_of_blk b0 rfl
  have c41 : W4.cell? ⟨W.heap.size, 1, none⟩ = some (.slice ao Rs.length c) := (hf4.cell (p := ⟨W.heap.size, 1, none⟩) (lt_of_cell c01) (fun h => h)).trans c01
  have d0 : W5.cell? ⟨W.heap.size + 1, 0, none⟩ = some (.int .i64 x.1.f) := cell_of_blk e1 rfl
  have d1 : W5.cell? ⟨W.heap.size + 1, 1, none⟩ = some (.int .i64 x.1.t) := cell_of_blk e1 rfl
  have d2 : W5.cell? ⟨W.heap.size + 1, 2, none⟩ = some (.slice x.2.1 x.1.b.length x.2.2) := cell_of_blk e1 rfl
  have d3 : W5.cell? ⟨W.heap.size + 1, 3, none⟩ = some (.int .i64 (x.1.gone : Nat)) := cell_of_blk e1 rfl
  have d4 : W5.cell? ⟨W.heap.size + 1, 4, none⟩ = some (.bool x.1.cp) := cell_of_blk e1 rfl
  have k0 : W6.cell? ⟨W.heap.size, 0, none⟩ = some (.int .i64 pl) := cell_of_blk g0 rfl
  have k1 : W6.cell? ⟨W.heap.size, 1, none⟩ = some (.slice ao Rs.length c) := cell_of_blk g0 rfl
  have z1 : W6.frozen? ⟨W.heap.size, 1, none⟩ = false := by simp [World.frozen?, g0]
  rw [hW7] at hr8
  have HR5 := hide hr5
  have HR6 := hide hr6
  have HR8 := hide hr8
  have HF := hide (And.intro (range_of_block hb8) (And.intro ho8 hfin))
  clear hr4 hr5 hr6 hr8 hb8 ho8 hfin hf8 g2' hf67 g0' hW7 W7 hf06 hs6 g0 g2 hf56 hb5 ho6 hf6 ho5' hf05 e0 e1 e2 hf35 hs5 ho5 hf5 hR4 ho4 hf4 b0 b1 b2 hf3 h hx
  rw [hs3] at HR5 hr4'
  rw [hW3] at hr4' c01
  go_enter Try.func26, Try.ntmps26
  go_wp2_with (first
    | (at_builtin; refine wpList_app rfl (.tmp 11) (.tmp 13) 43 43 rfl _ _ _ rfl rfl (unhide HR5) ?_)
    | (at_builtin; refine wpList_app rfl (.tmp 15) (.tmp 17) 43 43 rfl _ _ _ rfl rfl (unhide HR6) ?_)
    | (refine wpList_stN rfl 45 (.tmp 4) (.tmp 20) rfl _ _ rfl rfl (unhide HR8) ?_))
  (try simp only [Exit.inBlock, Exit.then])
  refine bodyPost_ret (results_cell_mid rfl _ _ (W.heap.size + 2) 0 [.int .i64 pl, .slice a6 (Rs.length + 1) c6] _ rfl (unhide HF).1 Try.underlying45 rfl (by kernel_rfl)) rfl ?_
  exact ⟨a6, c6, rfl, (unhide HF).2⟩
end Go.Proofs.Ytedmhpplhbaglaa
