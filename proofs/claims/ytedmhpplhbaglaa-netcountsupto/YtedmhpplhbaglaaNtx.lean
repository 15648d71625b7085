import Derived.Test.YtedmhpplhbaglaaNtw
import Derived.Test.YtedmhpplhbaglaaNry
import Derived.Deep.RegionHeldLaw
namespace Go.Proofs.Ytedmhpplhbaglaa
open Go.RowKit Go.ChangeShapes Go.WideShapes Go.Maps

theorem OpsAt.form {W : World} {v : Value} {A : List OpV} (h : OpsAt W v A) : ∃ ao c, v = .slice ao A.length c := by
  rcases h with ⟨a, c, rfl, rfl⟩ | ⟨g, o, c, rfl, _⟩
  · exact ⟨a, c, rfl⟩
  · exact ⟨_, c, rfl⟩
theorem OpsAt.at_ {W : World} {ao : Option Addr} {n c : Nat} {A : List OpV} (h : OpsAt W (.slice ao n c) A) (j : Nat) (hj : j < A.length) : ∃ g o xo xc, ao = some ⟨g, o, none⟩ ∧ W.cell? ⟨g, o + j * 4, none⟩ = some (.int .i64 A[j].ki) ∧ W.cell? ⟨g, o + j * 4 + 1, none⟩ = some (.int .i64 A[j].a) ∧ W.cell? ⟨g, o + j * 4 + 2, none⟩ = some (.int .i64 A[j].b) ∧ W.cell? ⟨g, o + j * 4 + 3, none⟩ = some (.slice xo A[j].l.length xc) ∧ A[j].Ok W (.slice xo A[j].l.length xc) := by
  rcases h with ⟨a, c', e, rfl⟩ | ⟨g, o, c', e, hc⟩
  · simp at hj
  · simp only [Value.slice.injEq] at e
    obtain ⟨x, h0, h1, h2, h3, h4⟩ := hc j hj
    obtain ⟨xo, xc, rfl⟩ := h4.s.form
    exact ⟨g, o, xo, xc, e.1, h0, h1, h2, h3, h4⟩
/-- The loop's state: the net, the document's own net in its box. -/
structure PL (w W : World) (B d m : Nat) (pl : Int) (ao : Option Addr) (n c : Nat) (Rs : List RK) : Prop where
  nn : NS w W d m pl (pks Rs)
  rr : RfAt w W (.slice ao n c) Rs
  ee : n = Rs.length
  bb : W.heap[B]? = some (.cells #[.int .i64 pl, .slice ao n c] 45)
  dd : d < B
  mm : m < B
  ww : w.heap.size ≤ B
set_option maxHeartbeats 4000000 in
set_option maxRecDepth 100000 in
theorem nplays_ok (pl : Int) (vo : Option Addr) (vc : Nat) (A : List OpV) (w : World) (hA : OpsAt w (.slice vo A.length vc) A) (hn : A.length ≤ 1048575) (h1 : 1 ≤ pl) (h2 : pl ≤ 64) :
    Calls Try.prog 4 #[.int .i64 pl, .slice vo A.length vc] w fun e w' => e = .returned (.bool true) ∧ Fr (fun _ => False) w w' := by
  have HA := hide hA
  have l1 : ¬ pl < 1 := by omega
  have l2 : ¬ pl > 64 := by omega
  clear hA
  go_enter Try.func4, Try.ntmps4
  go_wp2_with fail
  refine (awake14 w).mono ?_
  rintro e w1 ⟨rfl, hf1⟩
  have H1 := hide hf1
  clear hf1
  go_wp2_with fail
  refine (ns_new pl w w1 h1 h2 (unhide H1)).mono ?_
  rintro e w2 ⟨d, m, rfl, hN2⟩
  have HL2 : Hid (PL w (w2.alloc (.cells #[.int .i64 pl, .slice none 0 0] 45)) w2.heap.size d m pl none 0 0 []) := ⟨hN2.go (box1 _ _), ⟨World.ownsRow_nil _ _ _ _, fun x hx => by cases hx⟩, rfl, heap_alloc_new w2 _, hN2.dl, hN2.ml, hN2.fr.size⟩
  clear hN2 H1 l1 l2
  go_wp2_with fail
  go_loopw [8] (fun iv wr => ∃ (k : Nat) (ao : Option Addr) (n c : Nat) (Rs : List RK), k ≤ A.length ∧ iv = .int .i64 k ∧ Rs.length ≤ k ∧ PL w wr w2.heap.size d m pl ao n c Rs) (fun iv _ => A.length - (intOf iv).toNat)
  case atStart => exact ⟨0, none, 0, 0, [], Nat.zero_le _, rfl, Nat.zero_le _, unhide HL2⟩
  case round =>
    obtain ⟨k, ao, n, c, Rs, hk, rfl, hRk, hL⟩ := hrel
    rename World => wr
    clear HL2
    have t0 : wr.cell? ⟨w2.heap.size, 0, none⟩ = some (.int .i64 pl) := cell_of_blk hL.bb rfl
    have t1 : wr.cell? ⟨w2.heap.size, 1, none⟩ = some (.slice ao n c) := cell_of_blk hL.bb rfl
    have HL := hide hL
    clear hL
    by_cases hlt : k < A.length
    · obtain ⟨g, o, xo, xc, rfl, a0, a1, a2, a3, hok⟩ := (unhide HA).at_ k hlt
      have HOK := hide hok
      have hfw := (unhide HL).nn.fr
      have s0 := (hfw.cell (p := ⟨g, o + k * 4, none⟩) (lt_of_cell a0) (fun h => h)).trans a0
      have s1 := (hfw.cell (p := ⟨g, o + k * 4 + 1, none⟩) (lt_of_cell a1) (fun h => h)).trans a1
      have s2 := (hfw.cell (p := ⟨g, o + k * 4 + 2, none⟩) (lt_of_cell a2) (fun h => h)).trans a2
      have s3 := (hfw.cell (p := ⟨g, o + k * 4 + 3, none⟩) (lt_of_cell a3) (fun h => h)).trans a3
      have HC : Hid (∀ W', Fr (fun _ => False) wr W' → Calls Try.prog 17 #[.pointer (some ⟨d, 0, none⟩), .agg #[.int .i64 pl, .slice ao n c], .agg #[.int .i64 A[k].ki, .int .i64 A[k].a, .int .i64 A[k].b, .slice xo A[k].l.length xc]] W' fun e w' => ∃ ao' n' c' Rs', e = .returned (.tuple #[.agg #[.int .i64 pl, .slice ao' n' c'], .bool true]) ∧ NS w w' d m pl (pks Rs') ∧ RfAt w w' (.slice ao' n' c') Rs' ∧ n' = Rs'.length ∧ Rs'.length ≤ k + 1 ∧ Fr (fun k => k = d ∨ k = m) W' w') := fun W' hf => by
        obtain ⟨hN, hR, he, hb, hd, hm, hw⟩ := unhide HL
        subst he
        refine (played_any w W' d m pl A[k].ki A[k].a A[k].b ao c Rs xo xc A[k].l (hN.go hf) (hR.fr0 hf) (by omega) hok.a hok.s hok.l hok.n).mono ?_
        rintro e w' ⟨ao', c', Rs', rfl, h1, h2, h3, h4⟩
        exact ⟨ao', _, c', Rs', rfl, h1, h2, rfl, by omega, h4⟩
      have HK : Hid (∀ W', Fr (fun k => k = d ∨ k = m ∨ k = wr.heap.size) wr W' → W'.cell? ⟨w2.heap.size, 0, none⟩ = some (.int .i64 pl) ∧ W'.cell? ⟨w2.heap.size, 1, none⟩ = some (.slice ao n c) ∧ W'.cell? ⟨g, o + k * 4, none⟩ = some (.int .i64 A[k].ki) ∧ W'.cell? ⟨g, o + k * 4 + 1, none⟩ = some (.int .i64 A[k].a) ∧ W'.cell? ⟨g, o + k * 4 + 2, none⟩ = some (.int .i64 A[k].b) ∧ W'.cell? ⟨g, o + k * 4 + 3, none⟩ = some (.slice xo A[k].l.length xc)) := fun W' hf => by
        have hgw : g < w.heap.size := lt_of_cell a0
        have h1 := (unhide HL).nn.d
        have h2 := (unhide HL).nn.m
        have h3 := (unhide HL).dd
        have h4 := (unhide HL).mm
        have h5 := lt_of_cell s0
        have h6 := lt_of_cell t0
        have h7 : ¬ (g = d ∨ g = m ∨ g = wr.heap.size) := by have : g < wr.heap.size := h5; omega
        have h8 : ¬ (w2.heap.size = d ∨ w2.heap.size = m ∨ w2.heap.size = wr.heap.size) := by have : w2.heap.size < wr.heap.size := h6; omega
        exact ⟨(hf.cell (p := ⟨w2.heap.size, 0, none⟩) (lt_of_cell t0) h8).trans t0, (hf.cell (p := ⟨w2.heap.size, 1, none⟩) (lt_of_cell t1) h8).trans t1, (hf.cell (p := ⟨g, o + k * 4, none⟩) (lt_of_cell s0) h7).trans s0, (hf.cell (p := ⟨g, o + k * 4 + 1, none⟩) (lt_of_cell s1) h7).trans s1, (hf.cell (p := ⟨g, o + k * 4 + 2, none⟩) (lt_of_cell s2) h7).trans s2, (hf.cell (p := ⟨g, o + k * 4 + 3, none⟩) (lt_of_cell s3) h7).trans s3⟩
      clear hok hfw a0 a1 a2 a3
      generalize A[k].ki = ki at *
      generalize A[k].a = aa at *
      generalize A[k].b = bb at *
      generalize A[k].l.length = ll at *
      have hdw : d < wr.heap.size := (unhide HL).nn.dl
      have hmw : m < wr.heap.size := (unhide HL).nn.ml
      go_wp2_with fail
      go_region_held_law (fun W' => W'.cell? ⟨w2.heap.size, 0, none⟩ = some (.int .i64 pl) ∧ W'.cell? ⟨w2.heap.size, 1, none⟩ = some (.slice ao n c) ∧ W'.cell? ⟨g, o + k * 4, none⟩ = some (.int .i64 ki) ∧ W'.cell? ⟨g, o + k * 4 + 1, none⟩ = some (.int .i64 aa) ∧ W'.cell? ⟨g, o + k * 4 + 2, none⟩ = some (.int .i64 bb) ∧ W'.cell? ⟨g, o + k * 4 + 3, none⟩ = some (.slice xo ll xc))
        (first | exact ⟨t0, t1, s0, s1, s2, s3⟩ | exact (unhide HK) _ ((Fr.refl _ _).drew) | exact (unhide HK) _ hf3 | exact (unhide HK) _ ((Fr.refl _ _).drew.alloc _) | exact (unhide HK) _ (hf3.alloc _) | exact (unhide HK) _ (hf3.trans (two_frN _ _ _ _) (fun _ _ h => .inr (.inr h))))
        (first
          | (go_at_call 17
             first
               | (refine ((unhide HC) _ (Fr.refl _ _).drew).mono ?_
                  rintro e w3 ⟨ao', n', c', Rs', rfl, hr1, hr2, hr3, hr4, hf3b⟩
                  have hf3 : Fr (fun k => k = d ∨ k = m ∨ k = wr.heap.size) wr w3 := (Fr.refl _ _).drew.trans hf3b (fun _ _ h => h.elim .inl (fun h => .inr (.inl h)))
                  have H3 := hide (And.intro hr1 (And.intro hr2 (And.intro hr3 (And.intro hr4 hf3b))))
                  clear hr1 hr2 hr3 hr4 hf3b)
               | (refine ((unhide HC) _ ((Fr.refl _ _).drew.alloc (.cells #[.int .i64 0, .slice none 0 0] 45))).mono ?_
                  rintro e w3 ⟨ao', n', c', Rs', rfl, hr1, hr2, hr3, hr4, hf3b⟩
                  have hf3 : Fr (fun k => k = d ∨ k = m ∨ k = wr.heap.size) wr w3 := ((Fr.refl _ _).drew.alloc _).trans hf3b (fun _ _ h => h.elim .inl (fun h => .inr (.inl h)))
                  have bk : w3.heap[wr.heap.size]? = some (.cells #[.int .i64 0, .slice none 0 0] 45) := (hf3b.block wr.heap.size (lt_of_block (heap_alloc_new wr.drew _)) (by omega)).trans (heap_alloc_new wr.drew _)
                  have b0 : w3.cell? ⟨wr.heap.size, 0, none⟩ = some (.int .i64 0) := cell_of_blk bk rfl
                  have b1 : w3.cell? ⟨wr.heap.size, 1, none⟩ = some (.slice none 0 0) := cell_of_blk bk rfl
                  have z0 : w3.frozen? ⟨wr.heap.size, 0, none⟩ = false := by simp [World.frozen?, bk]
                  have z1 : w3.frozen? ⟨wr.heap.size, 1, none⟩ = false := by simp [World.frozen?, bk]
                  have HBK := hide bk
                  clear bk
                  have H3 := hide (And.intro hr1 (And.intro hr2 (And.intro hr3 (And.intro hr4 hf3b))))
                  clear hr1 hr2 hr3 hr4 hf3b)))
      · obtain ⟨hN3, hR3, he3, hl3, _⟩ := unhide H3
        have h2w : w2.heap.size < wr.heap.size := lt_of_cell t0
        have hdB := (unhide HL).dd
        have hmB := (unhide HL).mm
        have hf5 : Fr (fun _ => False) w3 (w3.alloc (.cells #[.int .i64 pl, .slice ao' n' c'] 45)) := box1 _ _
        have hN5 := hN3.go hf5
        have hR5 := hR3.fr0 hf5
        have hb5 : (w3.alloc (.cells #[.int .i64 pl, .slice ao' n' c'] 45)).heap[w3.heap.size]? = some (.cells #[.int .i64 pl, .slice ao' n' c'] 45) := heap_alloc_new w3 _
        have ht5 : (w3.alloc (.cells #[.int .i64 pl, .slice ao' n' c'] 45)).heap[w2.heap.size]? = some (.cells #[.int .i64 pl, .slice ao n c] 45) := (hf5.block w2.heap.size (Nat.lt_of_lt_of_le h2w hf3.size) (fun h => h)).trans ((hf3.block w2.heap.size h2w (by omega)).trans (unhide HL).bb)
        obtain ⟨W5, hW5⟩ : ∃ W5, W5 = w3.alloc (.cells #[.int .i64 pl, .slice ao' n' c'] 45) := ⟨_, rfl⟩
        rw [← hW5] at hN5 hR5 hb5 ht5 ⊢
        have HU : Hid (Calls Try.prog 18 #[.pointer (some ⟨d, 0, none⟩), .agg #[.int .i64 pl, .slice ao' n' c']] W5 fun e w' => e = .returned (.bool true) ∧ Fr (fun _ => False) W5 w') := by
          subst he3
          exact under_any w w W5 d m pl ao' c' Rs' hN5 hR5 (by omega) hN5.fr
        have v0 : W5.cell? ⟨w3.heap.size, 0, none⟩ = some (.int .i64 pl) := cell_of_blk hb5 rfl
        have v1 : W5.cell? ⟨w3.heap.size, 1, none⟩ = some (.slice ao' n' c') := cell_of_blk hb5 rfl
        have H5 := hide (And.intro hN5 (And.intro hR5 (And.intro hb5 (And.intro ht5 (And.intro he3 hl3)))))
        clear hN5 hR5 hb5 ht5 hf5 hW5 hN3 hR3 he3 hl3 H3 hf3 t0 t1 s0 s1 s2 s3 HC HK
        go_wp2_with fail
        refine (unhide HU).mono ?_
        rintro e w6 ⟨rfl, hf6⟩
        obtain ⟨hN5, hR5, hb5, ht5, he3, hl3⟩ := unhide H5
        have hb6 := (hf6.block _ (lt_of_block hb5) (fun h => h)).trans hb5
        have ht6 := (hf6.block _ (lt_of_block ht5) (fun h => h)).trans ht5
        have q0 : w6.cell? ⟨w3.heap.size, 0, none⟩ = some (.int .i64 pl) := cell_of_blk hb6 rfl
        have q1 : w6.cell? ⟨w3.heap.size, 1, none⟩ = some (.slice ao' n' c') := cell_of_blk hb6 rfl
        obtain ⟨V, hrV, hbV, hfV⟩ := st_all (P := Try.prog) (ty := 45) [.int .i64 pl, .slice ao n c] [.int .i64 pl, .slice ao' n' c'] ht6 rfl (by kernel_rfl) (by simp [Value.oneCell'])
        have hPL : PL w V w2.heap.size d m pl ao' n' c' Rs' := ⟨(hN5.go hf6).box hfV ht6 (no8_2 pl _ (fun z => by simp)) (by omega) (by omega) (unhide HL).ww, (hR5.fr0 hf6).box hfV ht6 (by decide), he3, hbV, hdB, hmB, (unhide HL).ww⟩
        have HV := hide hrV
        have HP := hide (And.intro hPL hl3)
        clear hrV hbV hfV hPL hb6 ht6 hN5 hR5 hb5 ht5 he3 hl3 hf6 H5 HU v0 v1
        go_wp2_with (refine wpList_stN rfl 45 (.tmp 7) (.tmp 54) rfl _ _ rfl rfl (unhide HV) ?_)
        go_roundw
        case rel => exact ⟨k + 1, ao', n', c', Rs', by omega, by go_num, (unhide HP).2, (unhide HP).1⟩
        case measure => simp [intOf]; omega
      · obtain ⟨hN3, hR3, he3, hl3, _⟩ := unhide H3
        have h2w : w2.heap.size < wr.heap.size := lt_of_cell t0
        have hdB := (unhide HL).dd
        have hmB := (unhide HL).mm
        have hf5 : Fr (fun k => k = wr.heap.size) w3 ((w3.setCell ⟨wr.heap.size, 0, none⟩ (.int .i64 pl)).setCell ⟨wr.heap.size, 1, none⟩ (.slice ao' n' c')) := two_frN _ _ _ _
        have hN5 := hN3.box hf5 (unhide HBK) (no8_2 0 _ (fun z => by simp)) (by omega) (by omega) (unhide HL).nn.fr.size
        have hR5 := hR3.box hf5 (unhide HBK) (by decide)
        have hb5 : ((w3.setCell ⟨wr.heap.size, 0, none⟩ (.int .i64 pl)).setCell ⟨wr.heap.size, 1, none⟩ (.slice ao' n' c')).heap[wr.heap.size]? = some (.cells #[.int .i64 pl, .slice ao' n' c'] 45) := by rw [blkset (blkset (unhide HBK) 0 _) 1 _]; rfl
        have ht5 : ((w3.setCell ⟨wr.heap.size, 0, none⟩ (.int .i64 pl)).setCell ⟨wr.heap.size, 1, none⟩ (.slice ao' n' c')).heap[w2.heap.size]? = some (.cells #[.int .i64 pl, .slice ao n c] 45) := (hf5.block w2.heap.size (Nat.lt_of_lt_of_le h2w hf3.size) (by show ¬ w2.heap.size = wr.heap.size; omega)).trans ((hf3.block w2.heap.size h2w (by omega)).trans (unhide HL).bb)
        clear b0 b1 z0 z1 HBK
        obtain ⟨W5, hW5⟩ : ∃ W5, W5 = (w3.setCell ⟨wr.heap.size, 0, none⟩ (.int .i64 pl)).setCell ⟨wr.heap.size, 1, none⟩ (.slice ao' n' c') := ⟨_, rfl⟩
        rw [← hW5] at hN5 hR5 hb5 ht5 ⊢
        have HU : Hid (Calls Try.prog 18 #[.pointer (some ⟨d, 0, none⟩), .agg #[.int .i64 pl, .slice ao' n' c']] W5 fun e w' => e = .returned (.bool true) ∧ Fr (fun _ => False) W5 w') := by
          subst he3
          exact under_any w w W5 d m pl ao' c' Rs' hN5 hR5 (by omega) hN5.fr
        have v0 : W5.cell? ⟨wr.heap.size, 0, none⟩ = some (.int .i64 pl) := cell_of_blk hb5 rfl
        have v1 : W5.cell? ⟨wr.heap.size, 1, none⟩ = some (.slice ao' n' c') := cell_of_blk hb5 rfl
        have H5 := hide (And.intro hN5 (And.intro hR5 (And.intro hb5 (And.intro ht5 (And.intro he3 hl3)))))
        clear hN5 hR5 hb5 ht5 hf5 hW5 hN3 hR3 he3 hl3 H3 hf3 t0 t1 s0 s1 s2 s3 HC HK
        go_wp2_with fail
        refine (unhide HU).mono ?_
        rintro e w6 ⟨rfl, hf6⟩
        obtain ⟨hN5, hR5, hb5, ht5, he3, hl3⟩ := unhide H5
        have hb6 := (hf6.block _ (lt_of_block hb5) (fun h => h)).trans hb5
        have ht6 := (hf6.block _ (lt_of_block ht5) (fun h => h)).trans ht5
        have q0 : w6.cell? ⟨wr.heap.size, 0, none⟩ = some (.int .i64 pl) := cell_of_blk hb6 rfl
        have q1 : w6.cell? ⟨wr.heap.size, 1, none⟩ = some (.slice ao' n' c') := cell_of_blk hb6 rfl
        obtain ⟨V, hrV, hbV, hfV⟩ := st_all (P := Try.prog) (ty := 45) [.int .i64 pl, .slice ao n c] [.int .i64 pl, .slice ao' n' c'] ht6 rfl (by kernel_rfl) (by simp [Value.oneCell'])
        have hPL : PL w V w2.heap.size d m pl ao' n' c' Rs' := ⟨(hN5.go hf6).box hfV ht6 (no8_2 pl _ (fun z => by simp)) (by omega) (by omega) (unhide HL).ww, (hR5.fr0 hf6).box hfV ht6 (by decide), he3, hbV, hdB, hmB, (unhide HL).ww⟩
        have HV := hide hrV
        have HP := hide (And.intro hPL hl3)
        clear hrV hbV hfV hPL hb6 ht6 hN5 hR5 hb5 ht5 he3 hl3 hf6 H5 HU v0 v1
        go_wp2_with (refine wpList_stN rfl 45 (.tmp 7) (.tmp 54) rfl _ _ rfl rfl (unhide HV) ?_)
        go_roundw
        case rel => exact ⟨k + 1, ao', n', c', Rs', by omega, by go_num, (unhide HP).2, (unhide HP).1⟩
        case measure => simp [intOf]; omega
    · obtain rfl : k = A.length := by omega
      have HU : Hid (Calls Try.prog 18 #[.pointer (some ⟨d, 0, none⟩), .agg #[.int .i64 pl, .slice ao n c]] wr fun e w' => e = .returned (.bool true) ∧ Fr (fun _ => False) wr w') := by
        obtain ⟨hN, hR, he, _, _, _, _⟩ := unhide HL
        subst he
        exact under_any w w wr d m pl ao c Rs hN hR (by omega) hN.fr
      go_wp2_with fail
      refine (unhide HU).mono ?_
      rintro e w6 ⟨rfl, hf6⟩
      have HF := hide ((unhide HL).nn.fr.trans hf6 (fun _ _ h => h))
      clear hf6 HL HU
      go_wp2_with fail
      go_ret
      exact ⟨rfl, unhide HF⟩
set_option maxRecDepth 100000 in
theorem nplays_no (pl : Int) (v : Value) (w : World) (h : pl < 1 ∨ 64 < pl) :
    Calls Try.prog 4 #[.int .i64 pl, v] w fun e w' => e = .returned (.bool true) ∧ Fr (fun _ => False) w w' := by
  by_cases h1 : pl < 1
  · go_enter Try.func4, Try.ntmps4
    go_wp2_with fail
    refine (awake14 w).mono ?_
    rintro e w1 ⟨rfl, hf1⟩
    have H1 := hide hf1
    clear hf1
    go_wp2_with fail
    refine (new_bad pl w1 h).mono ?_
    rintro e w2 ⟨rfl, hw⟩
    obtain rfl := hw.symm
    go_wp2_with fail
    go_ret
    exact ⟨rfl, unhide H1⟩
  · have h2 : pl > 64 := by omega
    go_enter Try.func4, Try.ntmps4
    go_wp2_with fail
    refine (awake14 w).mono ?_
    rintro e w1 ⟨rfl, hf1⟩
    have H1 := hide hf1
    clear hf1
    go_wp2_with fail
    refine (new_bad pl w1 h).mono ?_
    rintro e w2 ⟨rfl, hw⟩
    obtain rfl := hw.symm
    clear h
    go_wp2_with fail
    go_ret
    exact ⟨rfl, unhide H1⟩
theorem nplays_any (pl : Int) (v : Value) (A : List OpV) (w : World) (hA : OpsAt w v A) (hn : A.length ≤ 1048575) :
    Calls Try.prog 4 #[.int .i64 pl, v] w fun e w' => e = .returned (.bool true) ∧ Fr (fun _ => False) w w' := by
  by_cases h : pl < 1 ∨ 64 < pl
  · exact nplays_no pl v w h
  · obtain ⟨ao, c, rfl⟩ := hA.form
    exact nplays_ok pl ao c A w hA hn (by omega) (by omega)
end Go.Proofs.Ytedmhpplhbaglaa
