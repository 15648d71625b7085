import Derived.Test.YtedmhpplhbaglaaNte
namespace Go.Proofs.Ytedmhpplhbaglaa
open Go.RowKit Go.ChangeShapes Go.WideShapes Go.Maps

set_option maxRecDepth 100000 in
/-- Deliver of what is not under way. -/
theorem deliver_no (d m : Nat) (pl z : Int) (ps : List PK) (sv : Nat → Option Addr × Nat) (T : Nat → Prop) (w : World) (h : NtAt w d m pl ps sv T) (hz : (Lit.int .i64 z).wf = true) (hu : und ps z = false) :
    Calls Try.prog 12 #[.pointer (some ⟨d, 0, none⟩), .int .i64 z] w fun e w' => e = .returned (.tuple #[.agg #[.int .i64 0, .int .i64 0, .int .i64 0, .slice none 0 0], .int .i64 15]) ∧ Fr (fun _ => False) w w' := by
  have hA := h.fr0 (box1 w (.cells #[.int .i64 0, .int .i64 0, .int .i64 0, .slice none 0 0] 34))
  have c1 := hA.cells.2.1
  have hlk := hA.look_no z hz hu
  have hdl := h.lt.1
  have c1' := h.cells.2.1
  clear h hz hu hA
  go_enter Try.func12, Try.ntmps12
  go_wp2
  (try simp only [Exit.inBlock, Exit.then])
  refine bodyPost_ret (results_cellt rfl _ _ w.heap.size 0 [.int .i64 0, .int .i64 0, .int .i64 0, .slice none 0 0] _ _ rfl rfl (range_of_block (t := 34) ?_) Try.underlying34 rfl (by kernel_rfl)) rfl ?_
  · exact (Below.heap_alloc _ _ _ (by simp)).trans (heap_alloc_new w _)
  · exact ⟨rfl, box2 _ _ _⟩
set_option maxRecDepth 100000 in
/-- Deliver of a packet that is under way. -/
theorem deliver_ok (d m k : Nat) (pl : Int) (ps : List PK) (p : PK) (sv : Nat → Option Addr × Nat) (T : Nat → Prop) (w : World) (h : NtAt w d m pl ps sv T) (hk : ps[k]? = some p) (hp : p.gone = 0) (hn : ps.length ≤ 1048576) :
    Calls Try.prog 12 #[.pointer (some ⟨d, 0, none⟩), .int .i64 ((k : Int) + 1)] w fun e w' => ∃ ao c, e = .returned (.tuple #[.agg #[.int .i64 ((k : Int) + 1), .int .i64 p.f, .int .i64 p.t, .slice ao p.b.length c], .int .i64 0]) ∧ w'.ownsRow w.heap.size 5 1 (.slice ao p.b.length c) p.b.length (cellsOf p.b) ∧ NtAt w' d m pl (ps.set k { p with gone := 1 }) sv T ∧ Fr (fun k => k = d ∨ k = m) w w' := by
  have hf1 := box1 w (.cells #[.int .i64 0, .int .i64 0, .int .i64 0, .slice none 0 0] 34)
  have hA := h.fr0 hf1
  have hlk := hA.look_yes k p hk hp hn true
  simp only [if_true] at hlk
  have c1 := h.cells.2.1
  have hdl := h.lt.1
  have hml := h.lt.2
  have hdm := h.dm
  have hkl := (List.getElem?_eq_some_iff.1 hk).1
  have hlim := h.lim p (List.mem_of_getElem? hk)
  obtain ⟨WA, hWA⟩ : ∃ WA, WA = (w.alloc (.cells #[.int .i64 0, .int .i64 0, .int .i64 0, .slice none 0 0] 34)).alloc (.cells #[.int .i64 ((k : Int) + 1), .int .i64 p.f, .int .i64 p.t, .slice (sv k).1 p.b.length (sv k).2] 34) := ⟨_, rfl⟩
  have hfA : Fr (fun _ => False) w WA := by rw [hWA]; exact box2 _ _ _
  have hsA : WA.heap.size = w.heap.size + 2 := by rw [hWA]; simp
  have bR : WA.heap[w.heap.size]? = some (.cells #[.int .i64 0, .int .i64 0, .int .i64 0, .slice none 0 0] 34) := by rw [hWA]; exact (Below.heap_alloc _ _ _ (by simp)).trans (heap_alloc_new w _)
  have bP : WA.heap[w.heap.size + 1]? = some (.cells #[.int .i64 ((k : Int) + 1), .int .i64 p.f, .int .i64 p.t, .slice (sv k).1 p.b.length (sv k).2] 34) := by
    rw [hWA]
    have := heap_alloc_new (w.alloc (.cells #[.int .i64 0, .int .i64 0, .int .i64 0, .slice none 0 0] 34)) (.cells #[.int .i64 ((k : Int) + 1), .int .i64 p.f, .int .i64 p.t, .slice (sv k).1 p.b.length (sv k).2] 34)
    simpa using this
  have hB := h.fr0 hfA
  obtain ⟨D, hown, hD⟩ := hB.map
  obtain ⟨W2, hr, ho, ht⟩ := hown.drop Try.iK (t := 56) Try.underlying56 (key_int _ (wf_nat k (by omega))) 0
  have hft := Fr.turned ht
  have b2 : W2.heap[d]? = some (.cells (NC pl m ps) 58) := (hft.block d hB.lt.1 hdm).trans hB.blk
  have c4 : W2.cell? ⟨d, 4, none⟩ = some (.int .i64 (cD ps : Nat)) := cell_of_blk b2 rfl
  have z4 : W2.frozen? ⟨d, 4, none⟩ = false := by simp [World.frozen?, b2]
  have bP2 : W2.heap[w.heap.size + 1]? = _ := (hft.block _ (by omega) (by show ¬ w.heap.size + 1 = m; omega)).trans bP
  have p0 : W2.cell? ⟨w.heap.size + 1, 0, none⟩ = some (.int .i64 ((k : Int) + 1)) := cell_of_blk bP2 rfl
  have p1 : W2.cell? ⟨w.heap.size + 1, 1, none⟩ = some (.int .i64 p.f) := cell_of_blk bP2 rfl
  have p2 : W2.cell? ⟨w.heap.size + 1, 2, none⟩ = some (.int .i64 p.t) := cell_of_blk bP2 rfl
  have p3 : W2.cell? ⟨w.heap.size + 1, 3, none⟩ = some (.slice (sv k).1 p.b.length (sv k).2) := cell_of_blk bP2 rfl
  obtain ⟨W3, hW3⟩ : ∃ W3, W3 = W2.setCell ⟨d, 4, none⟩ (.int .i64 ((cD ps : Int) + 1)) := ⟨_, rfl⟩
  have hf3 : Fr (fun k => k = d ∨ k = m) WA W3 := by rw [hW3]; exact (hft.mono (fun _ _ h => .inr h)).setCell (p := ⟨d, 4, none⟩) (.inl (.inl rfl)) _
  have hN3 : NtAt W3 d m pl (ps.set k { p with gone := 1 }) sv T := by
    refine hB.del k { p with gone := 1 } hkl (by simp) hlim hD ?_ ?_ hf3
    · rw [hW3, blkset b2, (NC_gone pl m ps k p hk hp).1]
    · rw [hW3]; exact ho.setCell (fun e => hdm e.symm) _
  have hS3 : Src W3 (.slice (sv k).1 p.b.length (sv k).2) p.b := by
    refine (hB.src k p hk hp).fr hf3 (fun g o n c e2 => ?_)
    cases hs : (sv k).1 with
    | none => rw [hs] at e2; cases e2
    | some a =>
      rw [hs] at e2
      cases e2
      have := hB.ns g (hB.own k p hk hp g o hs)
      omega
  have bR3 : W3.heap[w.heap.size]? = some (.cells #[.int .i64 0, .int .i64 0, .int .i64 0, .slice none 0 0] 34) := (hf3.block _ (by omega) (by omega)).trans bR
  have hs3 := hf3.size
  have HH := hide (handed_any ((k : Int) + 1) p.f p.t _ p.b W3 hS3 hlim)
  have H3 := hide (And.intro hN3 (And.intro bR3 (And.intro (hfA.mono (T := fun k => k = d ∨ k = m) (fun _ _ h => h.elim) |>.trans hf3 (fun _ _ h => h)) (And.intro hs3 (And.intro hsA (And.intro hml (fun g (hg : T g) => (h.ns g hg).2.2)))))))
  have hcD : cD ps ≤ 1048576 := Nat.le_trans List.countP_le_length hn
  rw [hWA] at hr
  have c1a : ((w.alloc (.cells #[.int .i64 0, .int .i64 0, .int .i64 0, .slice none 0 0] 34)).alloc (.cells #[.int .i64 ((k : Int) + 1), .int .i64 p.f, .int .i64 p.t, .slice (sv k).1 p.b.length (sv k).2] 34)).cell? ⟨d, 1, none⟩ = some (.map (some m)) := by rw [← hWA]; exact hB.cells.2.1
  have hne : ¬ w.heap.size + 1 = d := by omega
  rw [hW3] at HH
  clear hf1 hA hN3 hS3 bR3 hs3 hf3 ho ht hft b2 bP2 hB hown hD bR bP hfA hsA hWA h hk hp hkl hml
  generalize (sv k).1 = a at *
  generalize (sv k).2 = b at *
  go_enter Try.func12, Try.ntmps12
  go_wp2_with fail
  refine (unhide HH).mono ?_
  rintro e w4 ⟨ao, c, rfl, hv, hf4⟩
  obtain ⟨hN3, bR3, hfw, hs3, hsA, hml, hTl⟩ := unhide H3
  rw [← hW3] at hv hf4
  have bR4 : w4.heap[w.heap.size]? = some (.cells #[.int .i64 0, .int .i64 0, .int .i64 0, .slice none 0 0] 34) := (hf4.block _ (by omega) (fun h => h)).trans bR3
  obtain ⟨W8, hr8, hb8, hf8⟩ := st_all (P := Try.prog) (ty := 34) _ [.int .i64 ((k : Int) + 1), .int .i64 p.f, .int .i64 p.t, .slice ao p.b.length c] bR4 rfl (by kernel_rfl) (by simp [Value.oneCell'])
  have hdw : ¬ d = w.heap.size := by omega
  have hN8 : NtAt W8 d m pl (ps.set k { p with gone := 1 }) sv T := (hN3.fr0 hf4).fr hf8 hdw (fun e => by have e' : m = w.heap.size := e; omega) (fun g hg e => by have e' : g = w.heap.size := e; have := hTl g hg; omega)
  have hv8 : W8.ownsRow w.heap.size 5 1 (.slice ao p.b.length c) p.b.length (cellsOf p.b) := ownsRow_of_block (own_mono hv (by omega)) (fun g hg => hf8.block g (hv.lt g hg).2 (fun e => by have e' : g = w.heap.size := e; have := (hv.lt g hg).1; omega))
  have hF : Fr (fun k => k = d ∨ k = m) w W8 := (hfw.trans hf4 (fun _ _ h => h.elim)).trans hf8 (fun i hi e => by have e' : i = w.heap.size := e; omega)
  have HR := hide hr8
  have H8 := hide (And.intro (range_of_block hb8) (And.intro hv8 (And.intro hN8 hF)))
  clear hr8 hb8 hf8 hv8 hF hN8 bR4 hf4 hv hN3 bR3 hfw hs3 hsA hml hTl HH H3 hdw hW3 W3 p0 p1 p2 p3 c4 z4 hr
  go_wp2_with (refine wpList_stN rfl 34 (.tmp 4) (.tmp 33) rfl _ _ rfl rfl (unhide HR) ?_)
  (try simp only [Exit.inBlock, Exit.then])
  refine bodyPost_ret (results_cellt rfl _ _ w.heap.size 0 [.int .i64 ((k : Int) + 1), .int .i64 p.f, .int .i64 p.t, .slice ao p.b.length c] _ _ rfl rfl (unhide H8).1 Try.underlying34 rfl (by kernel_rfl)) rfl ?_
  exact ⟨ao, c, rfl, (unhide H8).2⟩
end Go.Proofs.Ytedmhpplhbaglaa
