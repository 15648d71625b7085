import Derived.Test.YtoflkfnmbighaaaPk10
import Derived.Test.YtoflkfnmbighaaaDki
import Derived.Test.YtoflkfnmbighaaaDry
namespace Go.Proofs.Ytoflkfnmbighaaa
open Go.RowKit Go.ChangeShapes Go.WideShapes Go.Maps

theorem gboxB {V : World} {b : Nat} {old : Array Value} (hb : V.heap[b]? = some (.cells old 30)) (hl : old.size = 8) (r : RD) (ao : Option Addr) (n c : Nat) :
    ∃ V', (Instr.storeAt 30 (.pointer (some ⟨b, 0, none⟩)) (r.agg (.slice ao n c))).run Try.prog V = .ok () V' ∧ V'.heap[b]? = some (.cells (r.cells (.slice ao n c)) 30) ∧ Fr (fun k => k = b) V V' := by
  obtain ⟨V', h1, h2, h3⟩ := st_all (P := Try.prog) (ty := 30) (W := V) (g := b) (t := 30) old.toList (r.cells (.slice ao n c)).toList (by simpa using hb) (by rw [Array.length_toList, hl]; rfl) (by kernel_rfl) (by simp [RD.cells, Value.oneCell'])
  exact ⟨V', by simpa [RD.agg, RD.cells] using h1, by simpa using h2, h3⟩
theorem Ops8.form {W : World} {v : Value} {A : List Op8} (h : Ops8 W v A) : ∃ ao c, v = .slice ao A.length c := by
  rcases h with ⟨a, c, rfl, rfl⟩ | ⟨g, o, c, rfl, _⟩
  · exact ⟨a, c, rfl⟩
  · exact ⟨_, c, rfl⟩
theorem Ops8.at_ {W : World} {ao : Option Addr} {n c : Nat} {A : List Op8} (h : Ops8 W (.slice ao n c) A) (j : Nat) (hj : j < A.length) : ∃ g o xo xc, ao = some ⟨g, o, none⟩ ∧ W.cell? ⟨g, o + j * 7, none⟩ = some (.int .i64 A[j].ki) ∧ W.cell? ⟨g, o + j * 7 + 1, none⟩ = some (.string A[j].n) ∧ W.cell? ⟨g, o + j * 7 + 2, none⟩ = some (.int .i64 A[j].a) ∧ W.cell? ⟨g, o + j * 7 + 3, none⟩ = some (.int .i64 A[j].z) ∧ W.cell? ⟨g, o + j * 7 + 4, none⟩ = some (.int .u64 A[j].b) ∧ W.cell? ⟨g, o + j * 7 + 5, none⟩ = some (.bool A[j].on) ∧ W.cell? ⟨g, o + j * 7 + 6, none⟩ = some (.slice xo A[j].l.length xc) ∧ A[j].Ok W (.slice xo A[j].l.length xc) := by
  rcases h with ⟨a, c', e, rfl⟩ | ⟨g, o, c', e, hc⟩
  · simp at hj
  · simp only [Value.slice.injEq] at e
    obtain ⟨x, h0, h1, h2, h3, h4, h5, h6, h7⟩ := hc j hj
    obtain ⟨xo, xc, rfl⟩ := h7.s.form
    exact ⟨g, o, xo, xc, e.1, h0, h1, h2, h3, h4, h5, h6, h7⟩
theorem Op8.Ok.fr {W W' : World} {x : Op8} {v : Value} (h : x.Ok W v) (hf : Fr (fun _ => False) W W') : x.Ok W' v := ⟨h.s.fr hf (fun _ _ _ _ _ h => h), h.g.imp id (fun hg g o n c e => Nat.lt_of_lt_of_le (hg g o n c e) hf.size), h.c, h.l, h.n, h.a, h.z, h.b⟩
/-- The loop's state: both disks, the document's in its box B. -/
structure PD (w W : World) (B d m : Nat) (r : RD) (v : Value) (O T : Nat → Prop) : Prop where
  ps : PS W d m r v O T
  bb : W.heap[B]? = some (.cells (r.cells v) 30)
  ot : ∀ k, O k ∨ T k → w.heap.size ≤ k ∧ k ≠ B
  fr : Fr (fun _ => False) w W
  wB : w.heap.size ≤ B
theorem gd_new (W : World) (limit : Nat) : GD W ⟨limit, 0, 0, [], 0, 0, false, false⟩ (.slice none 0 0) (fun _ => False) :=
  ⟨none, 0, [], rfl, rfl, World.ownsRow_nil _ _ _ _, fun _ h => (by cases h), fun _ _ _ _ h => (by cases h), fun _ h => (by cases h), fun _ h => (by cases h), fun _ h => h.elim⟩
set_option maxHeartbeats 8000000 in
set_option maxRecDepth 100000 in
theorem dplays_ok (limit : Nat) (vo : Option Addr) (vc : Nat) (A : List Op8) (w : World) (hA : Ops8 w (.slice vo A.length vc) A) (hn : A.length ≤ 1000000) (h1 : 1 ≤ limit) (h2 : limit ≤ 1048576) :
    Calls Try.prog 3 #[.int .i64 (limit : Nat), .slice vo A.length vc] w fun e w' => e = .returned (.bool true) ∧ Fr (fun _ => False) w w' := by
  have HA := hide hA
  clear hA
  go_enter Try.func3, Try.ntmps3
  go_wp2_with fail
  refine (awake8 w).mono ?_
  rintro e w1 ⟨rfl, hf1⟩
  have H1 := hide hf1
  clear hf1
  go_wp2_with fail
  refine (new_any limit w1 h1 h2).mono ?_
  rintro e w2 ⟨d, m, q, O0, rfl, hD2, hf2, hO2⟩
  have H2 := hide (And.intro hD2 (And.intro hf2 hO2))
  clear hD2 hf2 hO2
  go_wp2_with fail
  refine (gnew_ok limit w2 h1 h2).mono ?_
  rintro e w3 ⟨he, hf3⟩
  replace he : e = .returned (.tuple #[.agg #[.int .i64 (limit : Nat), .int .i64 0, .int .i64 0, .slice none 0 0, .int .i64 0, .int .i64 0, .bool false, .bool false], .int .i64 0]) := he
  subst he
  obtain ⟨hD2, hf2, hO2⟩ := unhide H2
  obtain ⟨V, hw4⟩ : ∃ V, V = w3.alloc (.cells #[.int .i64 (limit : Nat), .int .i64 0, .int .i64 0, .slice none 0 0, .int .i64 0, .int .i64 0, .bool false, .bool false] 30) := ⟨_, rfl⟩
  have hf4 : Fr (fun _ => False) w3 V := by rw [hw4]; exact box1 _ _
  have hgV : V.heap[w3.heap.size]? = some (.cells ((RD.mk limit 0 0 [] 0 0 false false).cells (.slice none 0 0)) 30) := by rw [hw4]; exact heap_alloc_new _ _
  have hf24 := hf3.trans hf4 (fun _ _ h => h)
  have hD4 := hD2.fr hf24 (fun _ _ h => h)
  have s1 := (unhide H1).size
  have s2 := hf2.size
  have s3 := hf3.size
  have hPD0 : PD w V w3.heap.size d m ⟨limit, 0, 0, [], 0, 0, false, false⟩ (.slice none 0 0) O0 (fun _ => False) :=
    ⟨⟨⟨_, q, hD4, rel_new limit h2⟩, gd_new V limit, fun _ _ h => h⟩, hgV, fun k hk => hk.elim (fun hk => ⟨by have := hO2 k hk; omega, by have := hD2.lt k hk; omega⟩) (fun h => h.elim), ((unhide H1).trans hf2 (fun _ _ h => h)).trans hf24 (fun _ _ h => h), by omega⟩
  have HP0 := hide hPD0
  clear hgV hPD0 hD4 hf4 hf24 hD2 hf2 hO2 H2 H1 hf3 s1 s2 s3
  have HW4 := hide hw4
  clear hw4
  go_wp2_with fail
  rw [← unhide HW4]
  clear HW4
  generalize w3.heap.size = B at *
  go_loopw [9] (fun iv wr => ∃ (k : Nat) (r : RD) (v : Value) (O T : Nat → Prop), k ≤ A.length ∧ iv = .int .i64 k ∧ Bud r k ∧ PD w wr B d m r v O T) (fun iv _ => A.length - (intOf iv).toNat)
  case atStart => exact ⟨0, _, _, _, _, Nat.zero_le _, rfl, bud_new limit, unhide HP0⟩
  case round =>
    obtain ⟨k, r, v, O, T, hk, rfl, hBud, hL⟩ := hrel
    rename World => wr
    clear HP0
    obtain ⟨ro, rc, rfl⟩ := hL.ps.G.form
    obtain ⟨t0, t1, t2, t3, t4, t5, t6, t7, _⟩ := cells_of8 hL.bb
    have HL := hide hL
    have HBU := hide hBud
    clear hL hBud
    by_cases hlt : k < A.length
    · obtain ⟨g, o, xo, xc, rfl, a0, a1, a2, a3, a4, a5, a6, hok⟩ := (unhide HA).at_ k hlt
      have hfw := (unhide HL).fr
      have s0 := (hfw.cell (p := ⟨g, o + k * 7, none⟩) (lt_of_cell a0) (fun h => h)).trans a0
      have s1 := (hfw.cell (p := ⟨g, o + k * 7 + 1, none⟩) (lt_of_cell a1) (fun h => h)).trans a1
      have s2 := (hfw.cell (p := ⟨g, o + k * 7 + 2, none⟩) (lt_of_cell a2) (fun h => h)).trans a2
      have s3 := (hfw.cell (p := ⟨g, o + k * 7 + 3, none⟩) (lt_of_cell a3) (fun h => h)).trans a3
      have s4 := (hfw.cell (p := ⟨g, o + k * 7 + 4, none⟩) (lt_of_cell a4) (fun h => h)).trans a4
      have s5 := (hfw.cell (p := ⟨g, o + k * 7 + 5, none⟩) (lt_of_cell a5) (fun h => h)).trans a5
      have s6 := (hfw.cell (p := ⟨g, o + k * 7 + 6, none⟩) (lt_of_cell a6) (fun h => h)).trans a6
      have hBO : ¬ (O B ∨ T B) := fun h => ((unhide HL).ot B h).2 rfl
      have hgO : ¬ (O g ∨ T g) := fun h => by have := ((unhide HL).ot g h).1; have : g < w.heap.size := lt_of_cell a0; omega
      have HC : Hid (∀ V, Fr (fun _ => False) wr V → Calls Try.prog 7 #[.pointer (some ⟨d, 0, none⟩), r.agg (.slice ro r.fs.length rc), .agg #[.int .i64 A[k].ki, .string A[k].n, .int .i64 A[k].a, .int .i64 A[k].z, .int .u64 A[k].b, .bool A[k].on, .slice xo A[k].l.length xc]] V fun e w' => ∃ r' v' O' T', e = .returned (.tuple #[r'.agg v', .bool true]) ∧ PS w' d m r' v' O' T' ∧ Bud r' (k + 1) ∧ (∀ b, O' b → O b ∨ V.heap.size ≤ b) ∧ (∀ b, T' b → T b ∨ V.heap.size ≤ b) ∧ Fr (fun b => O b ∨ T b) V w') := fun V hf => by
        have hkn : k ≤ 1000000 := by omega
        refine (played_any k V d m r _ O T ((unhide HL).ps.fr hf (fun _ _ h => h)) (unhide HBU) hkn A[k] xo xc (hok.fr (hfw.trans hf (fun _ _ h => h))) (hok.g.imp id (fun hg g o n c e hO => ?_))).mono ?_
        · have h9 := hg g o n c e
          have h10 := ((unhide HL).ot g (.inl hO)).1
          omega
        · rintro e w' ⟨r', ⟨v', O', T', he, h5, h6, h7, h8⟩, h9⟩
          exact ⟨r', v', O', T', he, h5, h9, h6, h7, h8⟩
      clear hok hfw a0 a1 a2 a3 a4 a5 a6
      generalize A[k].ki = ki at *
      generalize A[k].n = nn at *
      generalize A[k].a = aa at *
      generalize A[k].z = zz at *
      generalize A[k].b = bb at *
      generalize A[k].on = on at *
      generalize A[k].l.length = ll at *
      have HK : Hid (∀ V, Fr (fun b => O b ∨ T b) wr V → (fun V => Fr (fun b => O b ∨ T b) wr V ∧ V.cell? ⟨B, 0, none⟩ = some (.int .i64 (r.limit : Nat)) ∧ V.cell? ⟨B, 1, none⟩ = some (.int .i64 (r.born : Nat)) ∧ V.cell? ⟨B, 2, none⟩ = some (.int .i64 (r.writes : Nat)) ∧ V.cell? ⟨B, 3, none⟩ = some (.slice ro r.fs.length rc) ∧ V.cell? ⟨B, 4, none⟩ = some (.int .i64 r.armed) ∧ V.cell? ⟨B, 5, none⟩ = some (.int .i64 r.tear) ∧ V.cell? ⟨B, 6, none⟩ = some (.bool r.off) ∧ V.cell? ⟨B, 7, none⟩ = some (.bool r.full) ∧ V.cell? ⟨g, o + k * 7, none⟩ = some (.int .i64 ki) ∧ V.cell? ⟨g, o + k * 7 + 1, none⟩ = some (.string nn) ∧ V.cell? ⟨g, o + k * 7 + 2, none⟩ = some (.int .i64 aa) ∧ V.cell? ⟨g, o + k * 7 + 3, none⟩ = some (.int .i64 zz) ∧ V.cell? ⟨g, o + k * 7 + 4, none⟩ = some (.int .u64 bb) ∧ V.cell? ⟨g, o + k * 7 + 5, none⟩ = some (.bool on) ∧ V.cell? ⟨g, o + k * 7 + 6, none⟩ = some (.slice xo ll xc)) V) := fun V hf => ⟨hf, (hf.cell (p := ⟨B, 0, none⟩) (lt_of_cell t0) hBO).trans t0, (hf.cell (p := ⟨B, 1, none⟩) (lt_of_cell t1) hBO).trans t1, (hf.cell (p := ⟨B, 2, none⟩) (lt_of_cell t2) hBO).trans t2, (hf.cell (p := ⟨B, 3, none⟩) (lt_of_cell t3) hBO).trans t3, (hf.cell (p := ⟨B, 4, none⟩) (lt_of_cell t4) hBO).trans t4, (hf.cell (p := ⟨B, 5, none⟩) (lt_of_cell t5) hBO).trans t5, (hf.cell (p := ⟨B, 6, none⟩) (lt_of_cell t6) hBO).trans t6, (hf.cell (p := ⟨B, 7, none⟩) (lt_of_cell t7) hBO).trans t7, (hf.cell (p := ⟨g, o + k * 7, none⟩) (lt_of_cell s0) hgO).trans s0, (hf.cell (p := ⟨g, o + k * 7 + 1, none⟩) (lt_of_cell s1) hgO).trans s1, (hf.cell (p := ⟨g, o + k * 7 + 2, none⟩) (lt_of_cell s2) hgO).trans s2, (hf.cell (p := ⟨g, o + k * 7 + 3, none⟩) (lt_of_cell s3) hgO).trans s3, (hf.cell (p := ⟨g, o + k * 7 + 4, none⟩) (lt_of_cell s4) hgO).trans s4, (hf.cell (p := ⟨g, o + k * 7 + 5, none⟩) (lt_of_cell s5) hgO).trans s5, (hf.cell (p := ⟨g, o + k * 7 + 6, none⟩) (lt_of_cell s6) hgO).trans s6⟩
      have hkl : (k : Int) < (A.length : Int) := by omega
      unfold RD.agg at HC
      go_wp2_with fail
      refine wp_region_noPanic ?_
      refine wp_region_held_drew (S := (fun V => Fr (fun b => O b ∨ T b) wr V ∧ V.cell? ⟨B, 0, none⟩ = some (.int .i64 (r.limit : Nat)) ∧ V.cell? ⟨B, 1, none⟩ = some (.int .i64 (r.born : Nat)) ∧ V.cell? ⟨B, 2, none⟩ = some (.int .i64 (r.writes : Nat)) ∧ V.cell? ⟨B, 3, none⟩ = some (.slice ro r.fs.length rc) ∧ V.cell? ⟨B, 4, none⟩ = some (.int .i64 r.armed) ∧ V.cell? ⟨B, 5, none⟩ = some (.int .i64 r.tear) ∧ V.cell? ⟨B, 6, none⟩ = some (.bool r.off) ∧ V.cell? ⟨B, 7, none⟩ = some (.bool r.full) ∧ V.cell? ⟨g, o + k * 7, none⟩ = some (.int .i64 ki) ∧ V.cell? ⟨g, o + k * 7 + 1, none⟩ = some (.string nn) ∧ V.cell? ⟨g, o + k * 7 + 2, none⟩ = some (.int .i64 aa) ∧ V.cell? ⟨g, o + k * 7 + 3, none⟩ = some (.int .i64 zz) ∧ V.cell? ⟨g, o + k * 7 + 4, none⟩ = some (.int .u64 bb) ∧ V.cell? ⟨g, o + k * 7 + 5, none⟩ = some (.bool on) ∧ V.cell? ⟨g, o + k * 7 + 6, none⟩ = some (.slice xo ll xc))) (by kernel_rfl) ((unhide HK) _ ((Fr.refl _ _).drew)) (fun hHeld => ?_)
      refine wtk (i := 0) (v := ?_) rfl (Or.inl ⟨by rfl, ?_⟩) hHeld ?_
      rotate_left
      · intro w hSw; (try dsimp only at hSw); (try obtain ⟨_, y0, y1, y2, y3, y4, y5, y6, y7, y8, y9, y10, y11, y12, y13, y14⟩ := hSw); go_simp; (try with_reducible rfl)
      (try simp only [Act.put, nrm])
      refine wtk (i := 1) (v := ?_) rfl (Or.inl ⟨by rfl, ?_⟩) hHeld ?_
      rotate_left
      · intro w hSw; (try dsimp only at hSw); (try obtain ⟨_, y0, y1, y2, y3, y4, y5, y6, y7, y8, y9, y10, y11, y12, y13, y14⟩ := hSw); go_simp; (try with_reducible rfl)
      (try simp only [Act.put, nrm])
      refine wtk (i := 2) (v := ?_) rfl (Or.inl ⟨by rfl, ?_⟩) hHeld ?_
      rotate_left
      · intro w hSw; (try dsimp only at hSw); (try obtain ⟨_, y0, y1, y2, y3, y4, y5, y6, y7, y8, y9, y10, y11, y12, y13, y14⟩ := hSw); go_simp; (try with_reducible rfl)
      (try simp only [Act.put, nrm])
      refine wtk (i := 3) (v := ?_) rfl (Or.inl ⟨by rfl, ?_⟩) hHeld ?_
      rotate_left
      · intro w hSw; (try dsimp only at hSw); (try obtain ⟨_, y0, y1, y2, y3, y4, y5, y6, y7, y8, y9, y10, y11, y12, y13, y14⟩ := hSw); go_simp; (try with_reducible rfl)
      (try simp only [Act.put, nrm])
      refine wtk (i := 4) (v := ?_) rfl (Or.inl ⟨by rfl, ?_⟩) hHeld ?_
      rotate_left
      · intro w hSw; (try dsimp only at hSw); (try obtain ⟨_, y0, y1, y2, y3, y4, y5, y6, y7, y8, y9, y10, y11, y12, y13, y14⟩ := hSw); go_simp; (try with_reducible rfl)
      (try simp only [Act.put, nrm])
      refine wtk (i := 5) (v := ?_) rfl (Or.inl ⟨by rfl, ?_⟩) hHeld ?_
      rotate_left
      · intro w hSw; (try dsimp only at hSw); (try obtain ⟨_, y0, y1, y2, y3, y4, y5, y6, y7, y8, y9, y10, y11, y12, y13, y14⟩ := hSw); go_simp; (try with_reducible rfl)
      (try simp only [Act.put, nrm])
      refine wpAnyH_ready (rs := [6, 10]) (by kernel_rfl) (by simp) (AllReadyH.cons rfl (fun K hK => ?_) (AllReadyH.cons rfl (fun K hK => ?_) AllReadyH.nil))
      · go_simp
        refine ((unhide HC) _ ((Fr.refl _ _).drew)).mono ?_
        rintro e w3 ⟨r', v', O', T', rfl, hq1, hq2, hq3, hq4, hq5⟩
        replace hq3 : ∀ b, O' b → O b ∨ wr.heap.size ≤ b := hq3
        replace hq4 : ∀ b, T' b → T b ∨ wr.heap.size ≤ b := hq4
        replace hq5 : Fr (fun b => O b ∨ T b) wr w3 := (Fr.refl _ _).drew.trans hq5 (fun _ _ h => h)
        obtain ⟨ro', rc', rfl⟩ := hq1.G.form
        have H3 := hide (And.intro hq1 (And.intro hq2 (And.intro hq3 (And.intro hq4 hq5))))
        clear hq1 hq2 hq3 hq4 hq5
        go_simp
        refine hK.out _ _ ((unhide HK) _ (unhide H3).2.2.2.2) (fun hHeld => ?_)
        clear hK K
        (try simp only [Act.put, nrm])
        refine wtk (i := 7) (v := ?_) rfl (Or.inl ⟨by rfl, ?_⟩) hHeld ?_
        rotate_left
        · intro w hSw; (try dsimp only at hSw); (try obtain ⟨_, y0, y1, y2, y3, y4, y5, y6, y7, y8, y9, y10, y11, y12, y13, y14⟩ := hSw); go_simp; (try with_reducible rfl)
        (try simp only [Act.put, nrm])
        refine wtk (i := 8) (v := ?_) rfl (Or.inl ⟨by rfl, ?_⟩) hHeld ?_
        rotate_left
        · intro w hSw; (try dsimp only at hSw); (try obtain ⟨_, y0, y1, y2, y3, y4, y5, y6, y7, y8, y9, y10, y11, y12, y13, y14⟩ := hSw); go_simp; (try with_reducible rfl)
        (try simp only [Act.put, nrm])
        refine wtk (i := 9) (v := ?_) rfl (Or.inl ⟨by rfl, ?_⟩) hHeld ?_
        rotate_left
        · intro w hSw; (try dsimp only at hSw); (try obtain ⟨_, y0, y1, y2, y3, y4, y5, y6, y7, y8, y9, y10, y11, y12, y13, y14⟩ := hSw); go_simp; (try with_reducible rfl)
        (try simp only [Act.put, nrm])
        refine wpAnyH_ready (rs := [10]) (by kernel_rfl) (by simp) (AllReadyH.cons rfl (fun K hK => ?_) AllReadyH.nil)
        go_simp
        refine hK.out _ _ ((unhide HK) _ ((unhide H3).2.2.2.2.alloc _)) (fun hHeld => ?_)
        clear hK K
        (try simp only [Act.put, nrm])
        obtain ⟨hq1, hq2, hq3, hq4, hq5⟩ := unhide H3
        have hO3 : ∀ b, O b ∨ T b → b < wr.heap.size := (unhide HL).ps.lt
        have hBw := lt_of_block (unhide HL).bb
        have hnb : ∀ b, O' b ∨ T' b → (w.heap.size ≤ b ∧ b ≠ B) ∧ b ≠ w3.heap.size := fun b hb => by
          have h9 : (O b ∨ T b) ∨ wr.heap.size ≤ b := hb.elim (fun h => (hq3 b h).elim (fun h => .inl (.inl h)) .inr) (fun h => (hq4 b h).elim (fun h => .inl (.inr h)) .inr)
          have h10 := hq1.lt b hb
          have h11 := (unhide HL).fr.size
          have h12 := (unhide HL).wB
          have h15 := hq5.size
          rcases h9 with h9 | h9
          · have h13 := (unhide HL).ot b h9
            have h14 := hO3 b h9
            omega
          · omega
        have hB3 : w3.heap[B]? = some (.cells (r.cells (.slice ro r.fs.length rc)) 30) := (hq5.block B hBw hBO).trans (unhide HL).bb
        have hw3 := hq5.size
        obtain ⟨w5, hw5⟩ : ∃ w5, w5 = w3.alloc (.cells zero8 30) := ⟨_, rfl⟩
        have hf5 : Fr (fun _ => False) w3 w5 := by rw [hw5]; exact box1 _ _
        have hb5 : w5.heap[w3.heap.size]? = some (.cells zero8 30) := by rw [hw5]; exact heap_alloc_new _ _
        obtain ⟨V, hrV, hgV, hfV⟩ := gboxB hb5 rfl r' ro' r'.fs.length rc'
        have hbV := (hfV.block B (by have := hf5.size; omega) (by show ¬ B = w3.heap.size; omega)).trans ((hf5.block B (by omega) (fun h => h)).trans hB3)
        have hfw3 : Fr (fun _ => False) w V := (((unhide HL).fr.trans hq5 (fun i hi e => absurd ((unhide HL).ot i e).1 (by omega))).trans hf5 (fun _ _ h => h)).trans hfV (fun i hi e => by have e' : i = w3.heap.size := e; have := (unhide HL).fr.size; omega)
        have HP := hide (And.intro ((hq1.fr hf5 (fun _ _ h => h)).fr hfV (fun b hb e => (hnb b hb).2 e)) (And.intro hq2 (And.intro (fun b hb => (hnb b hb).1) (And.intro hbV (And.intro hfw3 (unhide HL).wB)))))
        have HFV := hide ((hq5.trans hf5 (fun _ _ h => h.elim)).trans hfV (fun i hi e => by have e' : i = w3.heap.size := e; omega))
        unfold RD.agg at hrV
        rw [hw5] at hrV
        unfold zero8 at hrV
        have HV := hide hrV
        clear hrV hfV hbV hfw3 hb5 hf5 hw5 hw3 hB3 hnb hBw hO3 hq1 hq2 hq3 hq4 hq5 H3
        generalize w3.heap.size = u at *
        refine wpAnyH_ready (rs := [11]) (by kernel_rfl) (by simp) (AllReadyH.cons rfl (fun K hK => ?_) AllReadyH.nil)
        refine wp_stN 30 (.tmp 10) (.tmp 45) rfl _ _ rfl rfl (unhide HV) ?_
        refine hK.out _ _ ((unhide HK) _ (unhide HFV)) (fun hHeld => ?_)
        clear hK K
        (try simp only [Act.put, nrm])
        refine wtk (i := 12) (v := ?_) rfl (Or.inl ⟨by rfl, ?_⟩) hHeld ?_
        rotate_left
        · intro w hSw; (try dsimp only at hSw); (try obtain ⟨_, y0, y1, y2, y3, y4, y5, y6, y7, y8, y9, y10, y11, y12, y13, y14⟩ := hSw); go_simp; (try with_reducible rfl)
        (try simp only [Act.put, nrm])
        refine wpAnyH_done (by kernel_rfl) ?_ _
        refine NoPanic.normal ?_
        clear hHeld HK HC HV HFV t0 t1 t2 t3 t4 t5 t6 t7 s0 s1 s2 s3 s4 s5 s6
        have hu6 := range_of_block hgV
        obtain ⟨k0, k1, k2, k3, k4, k5, k6, k7⟩ := range_cells hu6
        have HQ := hide (fun (V' : World) (hf : Fr (fun _ => False) V V') => range_cells (range_of_block ((hf.block _ (lt_of_block hgV) (fun h => h)).trans hgV)))
        have HA := hide (lall_any V d m r' _ O' T' (unhide HP).1)
        unfold RD.agg at HA
        clear hu6 hgV
        go_wp2_with fail
        refine (unhide HA).mono ?_
        rintro e w6 ⟨rfl, hf6⟩
        clear k0 k1 k2 k3 k4 k5 k6 k7 HA
        obtain ⟨k0, k1, k2, k3, k4, k5, k6, k7⟩ := (unhide HQ) _ hf6
        obtain ⟨hp1, hp2, hp3, hp4, hp5, hp6⟩ := unhide HP
        have hb6 := (hf6.block _ (lt_of_block hp4) (fun h => h)).trans hp4
        obtain ⟨V7, hrV7, hgV7, hfV7⟩ := gboxB hb6 rfl r' ro' r'.fs.length rc'
        have hPD : PD w V7 B d m r' (.slice ro' r'.fs.length rc') O' T' := ⟨(hp1.fr hf6 (fun _ _ h => h)).fr hfV7 (fun k hk e => (hp3 k hk).2 e), hgV7, hp3, (hp5.trans hf6 (fun _ _ h => h)).trans hfV7 (fun i hi e => by have e' : i = B := e; have := hp6; omega), hp6⟩
        unfold RD.agg at hrV7
        have HV7 := hide hrV7
        have HPD := hide (And.intro hPD hp2)
        clear hrV7 hgV7 hfV7 hPD hb6 hp1 hp2 hp3 hp4 hp5 hp6 HP HQ hf6
        go_wp2_with (refine wpList_stN rfl 30 (.tmp 7) (.tmp 55) rfl _ _ rfl rfl (unhide HV7) ?_)
        go_roundw
        case rel => exact ⟨k + 1, r', _, O', T', by omega, by go_num, (unhide HPD).2, (unhide HPD).1⟩
        case measure => simp [intOf]; omega
      · go_simp
        obtain ⟨W0, hW0⟩ : ∃ W0, W0 = (wr.alloc (.cells zero8 30)).drew := ⟨_, rfl⟩
        have hf0 : Fr (fun _ => False) wr W0 := by rw [hW0]; exact ((Fr.refl _ _).alloc _).drew
        have hb0 : W0.heap[wr.heap.size]? = some (.cells zero8 30) := by rw [hW0]; exact heap_alloc_new wr _
        have hs0 : W0.heap.size = wr.heap.size + 1 := by rw [hW0]; simp
        have H0 := hide (And.intro hf0 (And.intro hb0 hs0))
        unfold zero8 at hW0
        rw [← hW0]
        clear hf0 hb0 hs0 hW0
        refine hK.out _ _ ((unhide HK) _ ((unhide H0).1.mono (fun _ _ h => h.elim))) (fun hHeld => ?_)
        clear hK K
        (try simp only [Act.put, nrm])
        refine wpAnyH_ready (rs := [6]) (by kernel_rfl) (by simp) (AllReadyH.cons rfl (fun K hK => ?_) AllReadyH.nil)
        go_simp
        refine ((unhide HC) _ (unhide H0).1).mono ?_
        rintro e w3 ⟨r', v', O', T', rfl, hq1, hq2, hq3, hq4, hq5⟩
        skip
        obtain ⟨ro', rc', rfl⟩ := hq1.G.form
        have H3 := hide (And.intro hq1 (And.intro hq2 (And.intro hq3 (And.intro hq4 hq5))))
        clear hq1 hq2 hq3 hq4 hq5
        go_simp
        refine hK.out _ _ ((unhide HK) _ (((unhide H0).1.mono (fun _ _ h => h.elim)).trans (unhide H3).2.2.2.2 (fun _ _ h => h))) (fun hHeld => ?_)
        clear hK K
        (try simp only [Act.put, nrm])
        refine wtk (i := 7) (v := ?_) rfl (Or.inl ⟨by rfl, ?_⟩) hHeld ?_
        rotate_left
        · intro w hSw; (try dsimp only at hSw); (try obtain ⟨_, y0, y1, y2, y3, y4, y5, y6, y7, y8, y9, y10, y11, y12, y13, y14⟩ := hSw); go_simp; (try with_reducible rfl)
        (try simp only [Act.put, nrm])
        refine wtk (i := 8) (v := ?_) rfl (Or.inl ⟨by rfl, ?_⟩) hHeld ?_
        rotate_left
        · intro w hSw; (try dsimp only at hSw); (try obtain ⟨_, y0, y1, y2, y3, y4, y5, y6, y7, y8, y9, y10, y11, y12, y13, y14⟩ := hSw); go_simp; (try with_reducible rfl)
        (try simp only [Act.put, nrm])
        refine wtk (i := 9) (v := ?_) rfl (Or.inl ⟨by rfl, ?_⟩) hHeld ?_
        rotate_left
        · intro w hSw; (try dsimp only at hSw); (try obtain ⟨_, y0, y1, y2, y3, y4, y5, y6, y7, y8, y9, y10, y11, y12, y13, y14⟩ := hSw); go_simp; (try with_reducible rfl)
        (try simp only [Act.put, nrm])
        obtain ⟨hq1, hq2, hq3, hq4, hq5⟩ := unhide H3
        have hO3 : ∀ b, O b ∨ T b → b < wr.heap.size := (unhide HL).ps.lt
        have hBw := lt_of_block (unhide HL).bb
        have hnb : ∀ b, O' b ∨ T' b → (w.heap.size ≤ b ∧ b ≠ B) ∧ b ≠ wr.heap.size := fun b hb => by
          have h9 : (O b ∨ T b) ∨ W0.heap.size ≤ b := hb.elim (fun h => (hq3 b h).elim (fun h => .inl (.inl h)) .inr) (fun h => (hq4 b h).elim (fun h => .inl (.inr h)) .inr)
          have h10 := hq1.lt b hb
          have h11 := (unhide HL).fr.size
          have h12 := (unhide HL).wB
          have h15 := (unhide H0).2.2
          rcases h9 with h9 | h9
          · have h13 := (unhide HL).ot b h9
            have h14 := hO3 b h9
            omega
          · omega
        have hB3 : w3.heap[B]? = some (.cells (r.cells (.slice ro r.fs.length rc)) 30) := (hq5.block B (by have := (unhide H0).2.2; omega) hBO).trans (((unhide H0).1.block B hBw (fun h => h)).trans (unhide HL).bb)
        have hs0 := (unhide H0).2.2
        have hw3 := hq5.size
        have hb5 : w3.heap[wr.heap.size]? = some (.cells zero8 30) := (hq5.block _ (by omega) (fun h => absurd (hO3 _ h) (by omega))).trans (unhide H0).2.1
        obtain ⟨V, hrV, hgV, hfV⟩ := gboxB hb5 rfl r' ro' r'.fs.length rc'
        have hbV := (hfV.block B (by omega) (by show ¬ B = wr.heap.size; omega)).trans hB3
        have hfw3 : Fr (fun _ => False) w V := ((((unhide HL).fr.trans (unhide H0).1 (fun _ _ h => h)).trans hq5 (fun i hi e => absurd ((unhide HL).ot i e).1 (by omega))).trans hfV (fun i hi e => by have e' : i = wr.heap.size := e; have := (unhide HL).fr.size; omega))
        have HP := hide (And.intro (hq1.fr hfV (fun b hb e => (hnb b hb).2 e)) (And.intro hq2 (And.intro (fun b hb => (hnb b hb).1) (And.intro hbV (And.intro hfw3 (unhide HL).wB)))))
        have HFV := hide ((((unhide H0).1.mono (fun _ _ h => h.elim)).trans hq5 (fun _ _ h => h)).trans hfV (fun i hi e => by have e' : i = wr.heap.size := e; omega))
        unfold RD.agg at hrV
        have HV := hide hrV
        clear hrV hfV hbV hfw3 hb5 hs0 hw3 hB3 hnb hBw hO3 hq1 hq2 hq3 hq4 hq5 H3 H0
        generalize wr.heap.size = u at *
        refine wpAnyH_ready (rs := [11]) (by kernel_rfl) (by simp) (AllReadyH.cons rfl (fun K hK => ?_) AllReadyH.nil)
        refine wp_stN 30 (.tmp 10) (.tmp 45) rfl _ _ rfl rfl (unhide HV) ?_
        refine hK.out _ _ ((unhide HK) _ (unhide HFV)) (fun hHeld => ?_)
        clear hK K
        (try simp only [Act.put, nrm])
        refine wtk (i := 12) (v := ?_) rfl (Or.inl ⟨by rfl, ?_⟩) hHeld ?_
        rotate_left
        · intro w hSw; (try dsimp only at hSw); (try obtain ⟨_, y0, y1, y2, y3, y4, y5, y6, y7, y8, y9, y10, y11, y12, y13, y14⟩ := hSw); go_simp; (try with_reducible rfl)
        (try simp only [Act.put, nrm])
        refine wpAnyH_done (by kernel_rfl) ?_ _
        refine NoPanic.normal ?_
        clear hHeld HK HC HV HFV t0 t1 t2 t3 t4 t5 t6 t7 s0 s1 s2 s3 s4 s5 s6
        have hu6 := range_of_block hgV
        obtain ⟨k0, k1, k2, k3, k4, k5, k6, k7⟩ := range_cells hu6
        have HQ := hide (fun (V' : World) (hf : Fr (fun _ => False) V V') => range_cells (range_of_block ((hf.block _ (lt_of_block hgV) (fun h => h)).trans hgV)))
        have HA := hide (lall_any V d m r' _ O' T' (unhide HP).1)
        unfold RD.agg at HA
        clear hu6 hgV
        go_wp2_with fail
        refine (unhide HA).mono ?_
        rintro e w6 ⟨rfl, hf6⟩
        clear k0 k1 k2 k3 k4 k5 k6 k7 HA
        obtain ⟨k0, k1, k2, k3, k4, k5, k6, k7⟩ := (unhide HQ) _ hf6
        obtain ⟨hp1, hp2, hp3, hp4, hp5, hp6⟩ := unhide HP
        have hb6 := (hf6.block _ (lt_of_block hp4) (fun h => h)).trans hp4
        obtain ⟨V7, hrV7, hgV7, hfV7⟩ := gboxB hb6 rfl r' ro' r'.fs.length rc'
        have hPD : PD w V7 B d m r' (.slice ro' r'.fs.length rc') O' T' := ⟨(hp1.fr hf6 (fun _ _ h => h)).fr hfV7 (fun k hk e => (hp3 k hk).2 e), hgV7, hp3, (hp5.trans hf6 (fun _ _ h => h)).trans hfV7 (fun i hi e => by have e' : i = B := e; have := hp6; omega), hp6⟩
        unfold RD.agg at hrV7
        have HV7 := hide hrV7
        have HPD := hide (And.intro hPD hp2)
        clear hrV7 hgV7 hfV7 hPD hb6 hp1 hp2 hp3 hp4 hp5 hp6 HP HQ hf6
        go_wp2_with (refine wpList_stN rfl 30 (.tmp 7) (.tmp 55) rfl _ _ rfl rfl (unhide HV7) ?_)
        go_roundw
        case rel => exact ⟨k + 1, r', _, O', T', by omega, by go_num, (unhide HPD).2, (unhide HPD).1⟩
        case measure => simp [intOf]; omega
    · obtain rfl : k = A.length := by omega
      have hkl : ¬ (A.length : Int) < (A.length : Int) := by omega
      have HU := hide (lall_any wr d m r _ O T (unhide HL).ps)
      unfold RD.agg at HU
      go_wp2_with fail
      refine (unhide HU).mono ?_
      rintro e w6 ⟨rfl, hf6⟩
      have HF := hide ((unhide HL).fr.trans hf6 (fun _ _ h => h))
      clear hf6 HL HU
      go_wp2_with fail
      go_ret
      exact ⟨rfl, unhide HF⟩
set_option maxRecDepth 100000 in
/-- New, refused. -/
theorem gnew_no (limit : Int) (W : World) (h : limit < 1 ∨ 1048576 < limit) :
    Calls Try.prog 6 #[.int .i64 limit] W fun e w' => e = .returned (.tuple #[.agg #[.int .i64 0, .int .i64 0, .int .i64 0, .slice none 0 0, .int .i64 0, .int .i64 0, .bool false, .bool false], .int .i64 1]) ∧ Fr (fun _ => False) W w' := by
  obtain ⟨w, hw⟩ : ∃ w, w = W.alloc (.cells zero8 30) := ⟨_, rfl⟩
  have hf : Fr (fun _ => False) W w := by rw [hw]; exact box1 _ _
  have hb0 : w.heap[W.heap.size]? = some (.cells zero8 30) := by rw [hw]; exact heap_alloc_new _ _
  obtain ⟨V, hrV, hgV, hfV⟩ := gbox hb0 (RD.mk 0 0 0 [] 0 0 false false) none 0 0
  have HE := hide (And.intro hgV (hf.trans hfV (fun i hi e => by have e' : i = W.heap.size := e; omega)))
  unfold RD.agg at hrV
  rw [hw] at hrV
  unfold zero8 at hrV
  have HV := hide hrV
  clear hrV hgV hfV hf hw hb0
  by_cases l1 : limit < 1
  · clear h
    go_enter Try.func6, Try.ntmps6
    go_wp2_with (refine wpList_stN rfl 30 _ _ rfl _ _ rfl rfl (unhide HV) ?_)
    (try simp only [Exit.inBlock, Exit.then])
    refine bodyPost_ret (results_cellt rfl _ _ W.heap.size 0 _ _ _ rfl rfl (unhide HE).1 Try.underlying30 rfl (by kernel_rfl)) rfl ?_
    exact ⟨rfl, (unhide HE).2⟩
  · have l2 : limit > 1048576 := by omega
    clear h
    go_enter Try.func6, Try.ntmps6
    go_wp2_with (refine wpList_stN rfl 30 _ _ rfl _ _ rfl rfl (unhide HV) ?_)
    (try simp only [Exit.inBlock, Exit.then])
    refine bodyPost_ret (results_cellt rfl _ _ W.heap.size 0 _ _ _ rfl rfl (unhide HE).1 Try.underlying30 rfl (by kernel_rfl)) rfl ?_
    exact ⟨rfl, (unhide HE).2⟩
set_option maxRecDepth 100000 in
theorem dplays_no (limit : Int) (v : Value) (w : World) (h : limit < 1 ∨ 1048576 < limit) :
    Calls Try.prog 3 #[.int .i64 limit, v] w fun e w' => e = .returned (.bool true) ∧ Fr (fun _ => False) w w' := by
  have HL := hide h
  clear h
  go_enter Try.func3, Try.ntmps3
  go_wp2_with fail
  refine (awake8 w).mono ?_
  rintro e w1 ⟨rfl, hf1⟩
  have H1 := hide hf1
  clear hf1
  go_wp2_with fail
  refine (new_no limit w1 (unhide HL)).mono ?_
  rintro e w2 ⟨rfl, hw2⟩
  obtain rfl := hw2.symm
  clear hw2
  go_wp2_with fail
  refine (gnew_no limit w1 (unhide HL)).mono ?_
  rintro e w3 ⟨rfl, hf3⟩
  have HE := hide (((unhide H1).trans hf3 (fun _ _ h => h)).alloc (.cells #[.int .i64 0, .int .i64 0, .int .i64 0, .slice none 0 0, .int .i64 0, .int .i64 0, .bool false, .bool false] 30))
  clear H1 hf3
  go_wp2_with fail
  go_ret
  exact ⟨rfl, unhide HE⟩
theorem dplays_any (limit : Int) (v : Value) (A : List Op8) (w : World) (hA : Ops8 w v A) (hn : A.length ≤ 1000000) :
    Calls Try.prog 3 #[.int .i64 limit, v] w fun e w' => e = .returned (.bool true) ∧ Fr (fun _ => False) w w' := by
  by_cases h : limit < 1 ∨ 1048576 < limit
  · exact dplays_no limit v w h
  · obtain ⟨vo, vc, rfl⟩ := hA.form
    obtain ⟨l, rfl⟩ : ∃ l : Nat, limit = l := ⟨limit.toNat, by omega⟩
    exact dplays_ok l vo vc A w hA hn (by omega) (by omega)
end Go.Proofs.Ytoflkfnmbighaaa

namespace Go.Proofs.Ytoflkfnmbighaaa
open Go.ChangeShapes Go.WideShapes Go.ChangeAt Go.RowKit
set_option maxRecDepth 100000

theorem dplays_lifted (os : Os) (started : os.Started) (H : Type) (enc : TypeId × Value → H) (F : Stop.Interp) :
    ReturnsInHanded {} Try.checked os 3 .any ((Rows.OpenSpec.upto Rows.diskPlaysSpec).pre6 enc Try.prog Try.f3 Rows.diskPlaysUptoRow.domain false) (((Rows.OpenSpec.upto Rows.diskPlaysSpec).at F).post enc Try.prog Try.f3 false true false false) := by
  refine returnsInHanded_of_cond (C := Try.checked) (s := Rows.OpenSpec.upto Rows.diskPlaysSpec) (k := Rows.uptoSmall) rfl Try.ownKnob started (by kernel_rfl) Try.func3
    (OpenSpec.witness (enc := enc) (C := Try.checked) (s := Rows.OpenSpec.upto Rows.diskPlaysSpec) (k := Rows.uptoSmall) rfl false ⟨#[], #[.int .i64 0, .slice none 0 0], []⟩ 8 (by kernel_rfl) (by kernel_rfl) (by kernel_rfl)
      (x := ([.lit (.int .i64 0), .nil], [], [])) (by kernel_rfl) rfl (by kernel_rfl)) ?_
  intro W base args ds gs before hval0 hW _ hk _
  have hval : ∀ (j : Nat) t v, Try.f3.params[j]? = some t → args[j]? = some v → Value.okWide Try.prog W .any base t v := hval0
  have hW' := hW
  obtain ⟨p, q, hA0, hV, rfl, hfz, hnd⟩ := hW
  have hA : DataW.TrodAll enc Try.prog W 0 (fun _ => true) true Try.f3.params.toList args.toList ds p := hA0
  rw [Try.params3] at hA hval
  obtain ⟨v0, vs0, d0, ds0, p0, q0, hargs0, rfl, rfl, h0, r0⟩ := trodAll_cons hA
  obtain ⟨v1, vs1, d1, ds1, p1, q1, hargs1, rfl, rfl, h1, r1⟩ := trodAll_cons r0
  obtain ⟨rfl, rfl, rfl⟩ := trodAll_nil r1
  obtain rfl : args = #[v0, v1] := by cases args; simp_all
  obtain ⟨rfl, rfl⟩ := trodVars_none hV
  have hbulk : Rows.uptoBulk d0 + (Rows.uptoBulk d1 + 0) ≤ 1048576 := by
    have h := of_decide_eq_true hk
    simpa only [List.append_nil, Rows.uptoBulkAll] using h
  obtain ⟨z0, rfl, rfl, rfl, w0⟩ := open_int Try.underlying3 (hval 0 3 v0 rfl rfl) h0
  obtain ⟨A1, s1, b1⟩ := ops8_of_reading (hval 1 22 v1 rfl rfl) h1 (by omega)
  clear hA0 hval0
  refine (dplays_any z0 v1 A1 W s1 (by omega)).mono fun e W' ⟨he, hf⟩ => ?_
  subst he
  have hlt : ∀ x ∈ [] ++ (p1 ++ []), x.block < W.heap.size := fun x hx => hW'.lt x (by simpa using hx)
  have hb := hf.below
  refine ⟨_, rfl, _, _, _, [], [] ++ (p1 ++ []), [], hW', ?_, ?_, ?_, hb.frame _, fun h => by cases h⟩
  · exact trodAll_cons_mk (shut_bool Try.underlying4 true) trodAll_mk0
  · exact (trodAll_cons_mk (shut_int Try.underlying3 w0) (trodAll_cons_mk (Below.trod (by kernel_rfl) (by kernel_rfl) (by decide +kernel) h1 hb (fun x hx => hlt x (by simp [hx]))) trodAll_mk0))
  · rfl
theorem dplays_said : Rows.DiskPlaysUptoSaid :=
  OpenClaim.holds_of_cond 3 Try.f3 rfl rfl rfl rfl rfl rfl rfl ⟨rfl, rfl, rfl, rfl, rfl⟩ rfl rfl rfl rfl rfl (by kernel_rfl) Try.func3 (by kernel_rfl)
    (of_decide_eq_true (by kernel_rfl)) (by unfold Func.isWrapper; first | (rw [if_pos (by decide +kernel)]; kernel_rfl) | (rw [if_neg (by decide +kernel)]; exact ⟨rfl, rfl⟩))
    (fun os started H enc _ F => dplays_lifted os started H enc F)
#print axioms dplays_said
end Go.Proofs.Ytoflkfnmbighaaa

