import Derived.Test.YtficeloegepdkaaPov
namespace Go.Proofs.Ytficeloegepdkaa
open Go.RowKit

/-- A question as the law has it. -/
structure AQ where
  lv : Value
  wd : Nat
  ow : Nat
  sl : Bool
  gv : Value
  k : Nat
  wd2 : Nat
  ow2 : Nat
  fv : Value
  rs : ByteArray
def AQ.cs (q : AQ) : Array Value := #[q.lv, .int .u32 (q.wd : Nat), .int .u32 (q.ow : Nat), .bool q.sl, q.gv, .int .u32 (q.k : Nat), .int .u32 (q.wd2 : Nat), .int .u32 (q.ow2 : Nat), q.fv, .string q.rs]
/-- The question and the sheet in their boxes. -/
abbrev JS (b t : Nat) (q : AQ) (pv : Value) (W0 w' : World) : Prop :=
  w'.cell? ⟨b, 0, none⟩ = some q.lv ∧ w'.cell? ⟨b, 1, none⟩ = some (.int .u32 (q.wd : Nat)) ∧ w'.cell? ⟨b, 2, none⟩ = some (.int .u32 (q.ow : Nat)) ∧ w'.cell? ⟨b, 3, none⟩ = some (.bool q.sl) ∧ w'.cell? ⟨b, 4, none⟩ = some q.gv ∧ w'.cell? ⟨b, 5, none⟩ = some (.int .u32 (q.k : Nat)) ∧ w'.cell? ⟨b, 6, none⟩ = some (.int .u32 (q.wd2 : Nat)) ∧ w'.cell? ⟨b, 7, none⟩ = some (.int .u32 (q.ow2 : Nat)) ∧ w'.cell? ⟨b, 8, none⟩ = some q.fv ∧ w'.cell? ⟨b, 9, none⟩ = some (.string q.rs) ∧
  w'.cell? ⟨t, 0, none⟩ = some (.int .u32 (q.wd : Nat)) ∧ w'.cell? ⟨t, 1, none⟩ = some (.int .u32 (q.ow : Nat)) ∧ w'.cell? ⟨t, 2, none⟩ = some (.bool q.sl) ∧ w'.cell? ⟨t, 3, none⟩ = some pv ∧ Fr (fun _ => False) W0 w'
theorem JS.fr {b t : Nat} {q : AQ} {pv : Value} {W0 W : World} (h : JS b t q pv W0 W) : Fr (fun _ => False) W0 W := h.2.2.2.2.2.2.2.2.2.2.2.2.2.2
theorem JS.step {b t : Nat} {q : AQ} {pv : Value} {W0 W W' : World} (h : JS b t q pv W0 W) (hf : Fr (fun _ => False) W W') : JS b t q pv W0 W' := by
  have A : ∀ (g i : Nat) (v : Value), W.cell? ⟨g, i, none⟩ = some v → W'.cell? ⟨g, i, none⟩ = some v := fun g i v e => (hf.cell (p := ⟨g, i, none⟩) (lt_of_cell e) (fun h => h)).trans e
  obtain ⟨h0, h1, h2, h3, h4, h5, h6, h7, h8, h9, g0, g1, g2, g3, hF⟩ := h
  exact ⟨A _ _ _ h0, A _ _ _ h1, A _ _ _ h2, A _ _ _ h3, A _ _ _ h4, A _ _ _ h5, A _ _ _ h6, A _ _ _ h7, A _ _ _ h8, A _ _ _ h9, A _ _ _ g0, A _ _ _ g1, A _ _ _ g2, A _ _ _ g3, hF.trans hf (fun _ _ h => h)⟩
/-- What a question of the law stands upon. -/
structure AE (w : World) (q : AQ) (S : List P3) (G : List Nat) (F : List F5) : Prop where
  s : Stf w q.lv S
  g : Us w q.gv G
  f : Fds w q.fv F
  sl : S.length ≤ 1048575
  gl : G.length ≤ 1048575
  fl : F.length ≤ 1048575
set_option maxHeartbeats 2000000 in
set_option maxRecDepth 100000 in
/-- PolicyJudges. -/
theorem judges_any (q : AQ) (S : List P3) (G : List Nat) (F : List F5) (w : World) (hE : AE w q S G F) :
    Calls Try.prog 5 #[.agg q.cs] w fun e w' => e = .returned (.bool true) ∧ Fr (fun _ => False) w w' := by
  have HE := hide hE
  obtain ⟨xo, xc, hx⟩ := hE.s.form
  obtain ⟨go, gc, hg⟩ := hE.g.form
  obtain ⟨fo, fc, hf⟩ := hE.f.form
  have HX := hide (And.intro hx (And.intro hg hf))
  clear hE hx hg hf
  have hS := fun o => staff_any q.lv S (w.alloc o) ((unhide HE).s.fr ((Fr.refl _ _).alloc _)) (unhide HE).sl
  have HS := hide hS
  clear hS
  simp only [AQ.cs]
  go_enter Try.func5, Try.ntmps5
  go_wp2_with fail
  refine (unhide HS _).mono ?_
  clear HS
  rintro e w1 ⟨av, rfl, hM, hf1⟩
  have hbx := (hf1.block w.heap.size (by simp) (fun h => h)).trans Array.getElem?_push_size
  obtain ⟨c0, c1, c2, c3, c4, c5, c6, c7, c8, c9, -⟩ := box10 hbx
  have hF1 : Fr (fun _ => False) w w1 := ((Fr.refl _ _).alloc _).trans hf1 (fun _ _ h => h)
  have HM := hide (And.intro hM hF1)
  have hSh := sheet_any q.wd q.ow q.sl q.gv G w1 ((unhide HE).g.fr hF1) (unhide HE).gl
  obtain ⟨va, ca, hva⟩ := hM.stf.form
  subst hva
  clear hM hF1 hf1 hbx
  go_wp2_with fail
  refine hSh.mono ?_
  clear hSh
  rintro e w2 ⟨pv', rfl, hU, hf2⟩
  obtain ⟨va2, ca2, hva2⟩ := hU.us.form
  subst hva2
  have HU := hide (And.intro hU hf2)
  have d0 := (hf2.cell (p := ⟨w.heap.size, 0, none⟩) (lt_of_cell c0) (fun h => h)).trans c0
  have d1 := (hf2.cell (p := ⟨w.heap.size, 1, none⟩) (lt_of_cell c1) (fun h => h)).trans c1
  have d2 := (hf2.cell (p := ⟨w.heap.size, 2, none⟩) (lt_of_cell c2) (fun h => h)).trans c2
  have d3 := (hf2.cell (p := ⟨w.heap.size, 3, none⟩) (lt_of_cell c3) (fun h => h)).trans c3
  have d4 := (hf2.cell (p := ⟨w.heap.size, 4, none⟩) (lt_of_cell c4) (fun h => h)).trans c4
  have d5 := (hf2.cell (p := ⟨w.heap.size, 5, none⟩) (lt_of_cell c5) (fun h => h)).trans c5
  have d6 := (hf2.cell (p := ⟨w.heap.size, 6, none⟩) (lt_of_cell c6) (fun h => h)).trans c6
  have d7 := (hf2.cell (p := ⟨w.heap.size, 7, none⟩) (lt_of_cell c7) (fun h => h)).trans c7
  have d8 := (hf2.cell (p := ⟨w.heap.size, 8, none⟩) (lt_of_cell c8) (fun h => h)).trans c8
  have d9 := (hf2.cell (p := ⟨w.heap.size, 9, none⟩) (lt_of_cell c9) (fun h => h)).trans c9
  have hl2 : w.heap.size < w2.heap.size := lt_of_cell d0
  clear c0 c1 c2 c3 c4 c5 c6 c7 c8 c9 hU hf2
  go_wp2_with fail
  obtain ⟨W0, hW0⟩ : ∃ W0, w2.alloc (.cells #[.int .u32 (q.wd : Nat), .int .u32 (q.ow : Nat), .bool q.sl, .slice va2 G.length ca2] 29) = W0 := ⟨_, rfl⟩
  have hF0 : Fr (fun _ => False) w2 W0 := by rw [← hW0]; exact (Fr.refl _ _).alloc _
  have hb0 : W0.heap[w2.heap.size]? = some (.cells #[.int .u32 (q.wd : Nat), .int .u32 (q.ow : Nat), .bool q.sl, .slice va2 G.length ca2] 29) := by rw [← hW0]; exact Array.getElem?_push_size
  replace d0 := (hF0.cell (p := ⟨w.heap.size, 0, none⟩) hl2 (fun h => h)).trans d0
  replace d1 := (hF0.cell (p := ⟨w.heap.size, 1, none⟩) hl2 (fun h => h)).trans d1
  replace d2 := (hF0.cell (p := ⟨w.heap.size, 2, none⟩) hl2 (fun h => h)).trans d2
  replace d3 := (hF0.cell (p := ⟨w.heap.size, 3, none⟩) hl2 (fun h => h)).trans d3
  replace d4 := (hF0.cell (p := ⟨w.heap.size, 4, none⟩) hl2 (fun h => h)).trans d4
  replace d5 := (hF0.cell (p := ⟨w.heap.size, 5, none⟩) hl2 (fun h => h)).trans d5
  replace d6 := (hF0.cell (p := ⟨w.heap.size, 6, none⟩) hl2 (fun h => h)).trans d6
  replace d7 := (hF0.cell (p := ⟨w.heap.size, 7, none⟩) hl2 (fun h => h)).trans d7
  replace d8 := (hF0.cell (p := ⟨w.heap.size, 8, none⟩) hl2 (fun h => h)).trans d8
  replace d9 := (hF0.cell (p := ⟨w.heap.size, 9, none⟩) hl2 (fun h => h)).trans d9
  have hJ : JS w.heap.size w2.heap.size q (.slice va2 G.length ca2) W0 W0 := ⟨d0, d1, d2, d3, d4, d5, d6, d7, d8, d9, by simp only [World.cell?, hb0]; rfl, by simp only [World.cell?, hb0]; rfl, by simp only [World.cell?, hb0]; rfl, by simp only [World.cell?, hb0]; rfl, Fr.refl _ _⟩
  have hFw : Fr (fun _ => False) w W0 := (unhide HM).2.trans ((unhide HU).2.trans hF0 (fun _ _ h => h)) (fun _ _ h => h)
  have hA0 : MkS W0 (.slice va S.length ca) S := (unhide HM).1.fr ((unhide HU).2.trans hF0 (fun _ _ h => h))
  have hU0 : MkU W0 (.slice va2 G.length ca2) G := (unhide HU).1.fr hF0
  have hS0 := (unhide HE).s.fr hFw
  have hG0 := (unhide HE).g.fr hFw
  have hD0 := (unhide HE).f.fr hFw
  have hsl := (unhide HE).sl
  have hgl := (unhide HE).gl
  have hfl := (unhide HE).fl
  rw [hW0]
  have HFw := hide hFw
  clear hW0 hF0 hb0 d0 d1 d2 d3 d4 d5 d6 d7 d8 d9 HM HU hl2 hFw
  obtain ⟨cC, hcC⟩ : ∃ c, (ansv S q.k fun p => gCr S p q.wd2 q.ow2) = c := ⟨_, rfl⟩
  have hPC : ∀ W, JS w.heap.size w2.heap.size q (.slice va2 G.length ca2) W0 W → Calls Try.prog 9 #[.slice va S.length ca, .int .u32 (q.k : Nat), .int .u32 (q.wd2 : Nat), .int .u32 (q.ow2 : Nat)] W fun e w' => e = .returned (.int .u8 (cC : Nat)) ∧ JS w.heap.size w2.heap.size q (.slice va2 G.length ca2) W0 w' := fun W h => (pcreate_any _ S q.k q.wd2 q.ow2 W (hA0.fr h.fr).stf (by omega)).mono fun _ _ ⟨e, hf⟩ => ⟨by rw [e, ← hcC, ansv_congr (fun p hp => eq_create _ _ _ _ S p q.wd2 q.ow2 _)], h.step hf⟩
  have hRC : ∀ W, JS w.heap.size w2.heap.size q (.slice va2 G.length ca2) W0 W → Calls Try.prog 22 #[q.lv, .int .u32 (q.k : Nat), .int .u32 (q.wd2 : Nat), .int .u32 (q.ow2 : Nat)] W fun e w' => e = .returned (.int .u8 (cC : Nat)) ∧ JS w.heap.size w2.heap.size q (.slice va2 G.length ca2) W0 w' := fun W h => (gcreate_any _ S q.k q.wd2 q.ow2 W (hS0.fr h.fr) (by omega)).mono fun _ _ ⟨e, hf⟩ => ⟨by rw [e, hcC], h.step hf⟩
  have HC := hide (And.intro hPC hRC)
  clear hPC hRC hcC
  obtain ⟨cA, hcA⟩ : ∃ c, (ansv S q.k fun p => gAm p q.k q.wd q.ow q.sl G F) = c := ⟨_, rfl⟩
  have hPA : ∀ W, JS w.heap.size w2.heap.size q (.slice va2 G.length ca2) W0 W → Calls Try.prog 12 #[.slice va S.length ca, .agg #[.int .u32 (q.wd : Nat), .int .u32 (q.ow : Nat), .bool q.sl, .slice va2 G.length ca2], .int .u32 (q.k : Nat), q.fv] W fun e w' => e = .returned (.int .u8 (cA : Nat)) ∧ JS w.heap.size w2.heap.size q (.slice va2 G.length ca2) W0 w' := fun W h => (pamend_any _ S q.wd q.ow q.sl _ G q.k q.fv F W (hA0.fr h.fr).stf (by omega) (hU0.fr h.fr).us (by omega) (hD0.fr h.fr) (by omega)).mono fun _ _ ⟨e, hf⟩ => ⟨by rw [e, ← hcA, ansv_congr (fun p hp => eq_amend _ _ _ _ p q.k q.wd q.ow q.sl G F hp)], h.step hf⟩
  have hRA : ∀ W, JS w.heap.size w2.heap.size q (.slice va2 G.length ca2) W0 W → Calls Try.prog 23 #[q.lv, .agg #[.int .u32 (q.wd : Nat), .int .u32 (q.ow : Nat), .bool q.sl, q.gv], .int .u32 (q.k : Nat), q.fv] W fun e w' => e = .returned (.int .u8 (cA : Nat)) ∧ JS w.heap.size w2.heap.size q (.slice va2 G.length ca2) W0 w' := fun W h => (gamend_any _ S q.wd q.ow q.sl _ G q.k q.fv F W (hS0.fr h.fr) (by omega) (hG0.fr h.fr) (by omega) (hD0.fr h.fr) (by omega)).mono fun _ _ ⟨e, hf⟩ => ⟨by rw [e, hcA], h.step hf⟩
  have HA := hide (And.intro hPA hRA)
  clear hPA hRA hcA
  obtain ⟨cR, hcR⟩ : ∃ c, (ansv S q.k fun p => gRd p q.k q.wd q.ow q.sl G) = c := ⟨_, rfl⟩
  have hPR : ∀ W, JS w.heap.size w2.heap.size q (.slice va2 G.length ca2) W0 W → Calls Try.prog 10 #[.slice va S.length ca, .agg #[.int .u32 (q.wd : Nat), .int .u32 (q.ow : Nat), .bool q.sl, .slice va2 G.length ca2], .int .u32 (q.k : Nat)] W fun e w' => e = .returned (.int .u8 (cR : Nat)) ∧ JS w.heap.size w2.heap.size q (.slice va2 G.length ca2) W0 w' := fun W h => (pread_any _ S q.wd q.ow q.sl _ G q.k W (hA0.fr h.fr).stf (by omega) (hU0.fr h.fr).us (by omega)).mono fun _ _ ⟨e, hf⟩ => ⟨by rw [e, ← hcR, ansv_congr (fun p hp => eq_read _ _ _ _ p q.k q.wd q.ow q.sl G hp)], h.step hf⟩
  have hRR : ∀ W, JS w.heap.size w2.heap.size q (.slice va2 G.length ca2) W0 W → Calls Try.prog 24 #[q.lv, .agg #[.int .u32 (q.wd : Nat), .int .u32 (q.ow : Nat), .bool q.sl, q.gv], .int .u32 (q.k : Nat)] W fun e w' => e = .returned (.int .u8 (cR : Nat)) ∧ JS w.heap.size w2.heap.size q (.slice va2 G.length ca2) W0 w' := fun W h => (gread_any _ S q.wd q.ow q.sl _ G q.k W (hS0.fr h.fr) (by omega) (hG0.fr h.fr) (by omega)).mono fun _ _ ⟨e, hf⟩ => ⟨by rw [e, hcR], h.step hf⟩
  have HR := hide (And.intro hPR hRR)
  clear hPR hRR hcR
  obtain ⟨cH, hcH⟩ : ∃ c, (ansv S q.k fun p => gHi p q.k q.wd q.ow q.sl G) = c := ⟨_, rfl⟩
  have hPH : ∀ W, JS w.heap.size w2.heap.size q (.slice va2 G.length ca2) W0 W → Calls Try.prog 11 #[.slice va S.length ca, .agg #[.int .u32 (q.wd : Nat), .int .u32 (q.ow : Nat), .bool q.sl, .slice va2 G.length ca2], .int .u32 (q.k : Nat)] W fun e w' => e = .returned (.int .u8 (cH : Nat)) ∧ JS w.heap.size w2.heap.size q (.slice va2 G.length ca2) W0 w' := fun W h => (phistory_any _ S q.wd q.ow q.sl _ G q.k W (hA0.fr h.fr).stf (by omega) (hU0.fr h.fr).us (by omega)).mono fun _ _ ⟨e, hf⟩ => ⟨by rw [e, ← hcH, ansv_congr (fun p hp => eq_hist _ _ _ _ p q.k q.wd q.ow q.sl G hp)], h.step hf⟩
  have hRH : ∀ W, JS w.heap.size w2.heap.size q (.slice va2 G.length ca2) W0 W → Calls Try.prog 25 #[q.lv, .agg #[.int .u32 (q.wd : Nat), .int .u32 (q.ow : Nat), .bool q.sl, q.gv], .int .u32 (q.k : Nat)] W fun e w' => e = .returned (.int .u8 (cH : Nat)) ∧ JS w.heap.size w2.heap.size q (.slice va2 G.length ca2) W0 w' := fun W h => (ghistory_any _ S q.wd q.ow q.sl _ G q.k W (hS0.fr h.fr) (by omega) (hG0.fr h.fr) (by omega)).mono fun _ _ ⟨e, hf⟩ => ⟨by rw [e, hcH], h.step hf⟩
  have HH := hide (And.intro hPH hRH)
  clear hPH hRH hcH
  obtain ⟨cD, hcD⟩ : ∃ c, (ansv S q.k fun p => gRe p q.k q.wd q.ow) = c := ⟨_, rfl⟩
  have hPD : ∀ W, JS w.heap.size w2.heap.size q (.slice va2 G.length ca2) W0 W → Calls Try.prog 13 #[.slice va S.length ca, .agg #[.int .u32 (q.wd : Nat), .int .u32 (q.ow : Nat), .bool q.sl, .slice va2 G.length ca2], .int .u32 (q.k : Nat)] W fun e w' => e = .returned (.int .u8 (cD : Nat)) ∧ JS w.heap.size w2.heap.size q (.slice va2 G.length ca2) W0 w' := fun W h => (predact_any _ S q.wd q.ow q.sl _ G q.k W (hA0.fr h.fr).stf (by omega) (hU0.fr h.fr).us (by omega)).mono fun _ _ ⟨e, hf⟩ => ⟨by rw [e, ← hcD, ansv_congr (fun p hp => eq_redact _ _ _ _ p q.k q.wd q.ow q.sl hp)], h.step hf⟩
  have hRD : ∀ W, JS w.heap.size w2.heap.size q (.slice va2 G.length ca2) W0 W → Calls Try.prog 26 #[q.lv, .agg #[.int .u32 (q.wd : Nat), .int .u32 (q.ow : Nat), .bool q.sl, q.gv], .int .u32 (q.k : Nat)] W fun e w' => e = .returned (.int .u8 (cD : Nat)) ∧ JS w.heap.size w2.heap.size q (.slice va2 G.length ca2) W0 w' := fun W h => (gredact_any _ S q.wd q.ow q.sl _ q.k W (hS0.fr h.fr) (by omega)).mono fun _ _ ⟨e, hf⟩ => ⟨by rw [e, hcD], h.step hf⟩
  have HD := hide (And.intro hPD hRD)
  clear hPD hRD hcD
  obtain ⟨cS, hcS⟩ : ∃ c, (ansv S q.k fun p => gSe p q.k q.ow) = c := ⟨_, rfl⟩
  have hPS : ∀ W, JS w.heap.size w2.heap.size q (.slice va2 G.length ca2) W0 W → Calls Try.prog 14 #[.slice va S.length ca, .agg #[.int .u32 (q.wd : Nat), .int .u32 (q.ow : Nat), .bool q.sl, .slice va2 G.length ca2], .int .u32 (q.k : Nat)] W fun e w' => e = .returned (.int .u8 (cS : Nat)) ∧ JS w.heap.size w2.heap.size q (.slice va2 G.length ca2) W0 w' := fun W h => (pseal_any _ S q.wd q.ow q.sl _ G q.k W (hA0.fr h.fr).stf (by omega) (hU0.fr h.fr).us (by omega)).mono fun _ _ ⟨e, hf⟩ => ⟨by rw [e, ← hcS, ansv_congr (fun p hp => eq_seal _ _ _ _ p q.k q.wd q.ow q.sl hp)], h.step hf⟩
  have hRS : ∀ W, JS w.heap.size w2.heap.size q (.slice va2 G.length ca2) W0 W → Calls Try.prog 27 #[q.lv, .agg #[.int .u32 (q.wd : Nat), .int .u32 (q.ow : Nat), .bool q.sl, q.gv], .int .u32 (q.k : Nat)] W fun e w' => e = .returned (.int .u8 (cS : Nat)) ∧ JS w.heap.size w2.heap.size q (.slice va2 G.length ca2) W0 w' := fun W h => (gseal_any _ S q.wd q.ow q.sl _ q.k W (hS0.fr h.fr) (by omega)).mono fun _ _ ⟨e, hf⟩ => ⟨by rw [e, hcS], h.step hf⟩
  have HS := hide (And.intro hPS hRS)
  clear hPS hRS hcS
  obtain ⟨cB, hcB⟩ : ∃ c, (ansv S q.k fun p => gBr p q.rs) = c := ⟨_, rfl⟩
  have hPB : ∀ W, JS w.heap.size w2.heap.size q (.slice va2 G.length ca2) W0 W → Calls Try.prog 15 #[.slice va S.length ca, .agg #[.int .u32 (q.wd : Nat), .int .u32 (q.ow : Nat), .bool q.sl, .slice va2 G.length ca2], .int .u32 (q.k : Nat), .string q.rs] W fun e w' => e = .returned (.int .u8 (cB : Nat)) ∧ JS w.heap.size w2.heap.size q (.slice va2 G.length ca2) W0 w' := fun W h => (pbreak_any _ S q.wd q.ow q.sl _ G q.k q.rs W (hA0.fr h.fr).stf (by omega) (hU0.fr h.fr).us (by omega)).mono fun _ _ ⟨e, hf⟩ => ⟨by rw [e, ← hcB, ansv_congr (fun p hp => eq_break _ _ _ _ p q.wd q.ow q.sl)], h.step hf⟩
  have hRB : ∀ W, JS w.heap.size w2.heap.size q (.slice va2 G.length ca2) W0 W → Calls Try.prog 28 #[q.lv, .agg #[.int .u32 (q.wd : Nat), .int .u32 (q.ow : Nat), .bool q.sl, q.gv], .int .u32 (q.k : Nat), .string q.rs] W fun e w' => e = .returned (.int .u8 (cB : Nat)) ∧ JS w.heap.size w2.heap.size q (.slice va2 G.length ca2) W0 w' := fun W h => (gbreak_any _ S q.wd q.ow q.sl _ q.k q.rs W (hS0.fr h.fr) (by omega)).mono fun _ _ ⟨e, hf⟩ => ⟨by rw [e, hcB], h.step hf⟩
  have HB := hide (And.intro hPB hRB)
  clear hPB hRB hcB
  have hLf : ∀ W, JS w.heap.size w2.heap.size q (.slice va2 G.length ca2) W0 W → Calls Try.prog 29 #[.slice va S.length ca, q.lv, .agg #[.int .u32 (q.wd : Nat), .int .u32 (q.ow : Nat), .bool q.sl, .slice va2 G.length ca2], .agg #[.int .u32 (q.wd : Nat), .int .u32 (q.ow : Nat), .bool q.sl, q.gv]] W fun e w' => e = .returned (.bool true) ∧ JS w.heap.size w2.heap.size q (.slice va2 G.length ca2) W0 w' := fun W h => (left_any _ _ S q.wd q.ow q.sl _ _ G W (hA0.fr h.fr) (hS0.fr h.fr) (hU0.fr h.fr) (hG0.fr h.fr) hsl hgl).mono fun _ _ ⟨e, hf⟩ => ⟨e, h.step hf⟩
  have hAw : ∀ W, JS w.heap.size w2.heap.size q (.slice va2 G.length ca2) W0 W → Calls Try.prog 8 #[] W fun e w' => e = .returned (.bool true) ∧ JS w.heap.size w2.heap.size q (.slice va2 G.length ca2) W0 w' := fun W h => (awake10 W).mono fun _ _ ⟨e, hf⟩ => ⟨e, h.step hf⟩
  have HLA := hide (And.intro hLf hAw)
  clear hLf hAw hA0 hU0 hS0 hG0 hD0 hsl hgl hfl
  go_region_held3 (fun w' => w'.cell? ⟨w.heap.size, 0, none⟩ = some q.lv ∧ w'.cell? ⟨w.heap.size, 1, none⟩ = some (.int .u32 (q.wd : Nat)) ∧ w'.cell? ⟨w.heap.size, 2, none⟩ = some (.int .u32 (q.ow : Nat)) ∧ w'.cell? ⟨w.heap.size, 3, none⟩ = some (.bool q.sl) ∧ w'.cell? ⟨w.heap.size, 4, none⟩ = some q.gv ∧ w'.cell? ⟨w.heap.size, 5, none⟩ = some (.int .u32 (q.k : Nat)) ∧ w'.cell? ⟨w.heap.size, 6, none⟩ = some (.int .u32 (q.wd2 : Nat)) ∧ w'.cell? ⟨w.heap.size, 7, none⟩ = some (.int .u32 (q.ow2 : Nat)) ∧ w'.cell? ⟨w.heap.size, 8, none⟩ = some q.fv ∧ w'.cell? ⟨w.heap.size, 9, none⟩ = some (.string q.rs) ∧ w'.cell? ⟨w2.heap.size, 0, none⟩ = some (.int .u32 (q.wd : Nat)) ∧ w'.cell? ⟨w2.heap.size, 1, none⟩ = some (.int .u32 (q.ow : Nat)) ∧ w'.cell? ⟨w2.heap.size, 2, none⟩ = some (.bool q.sl) ∧ w'.cell? ⟨w2.heap.size, 3, none⟩ = some (.slice va2 G.length ca2) ∧ Fr (fun _ => False) W0 w')
    (first | assumption | exact hJ.step ((Fr.refl _ _).drew))
    (first
      | (go_at_call 9; refine ((unhide HC).1 _ (by assumption)).mono ?_; rintro e w' ⟨rfl, hJ⟩)
      | (go_at_call 22; refine ((unhide HC).2 _ (by assumption)).mono ?_; rintro e w' ⟨rfl, hJ⟩))
  go_wp2_with fail
  go_region_held3 (fun w' => w'.cell? ⟨w.heap.size, 0, none⟩ = some q.lv ∧ w'.cell? ⟨w.heap.size, 1, none⟩ = some (.int .u32 (q.wd : Nat)) ∧ w'.cell? ⟨w.heap.size, 2, none⟩ = some (.int .u32 (q.ow : Nat)) ∧ w'.cell? ⟨w.heap.size, 3, none⟩ = some (.bool q.sl) ∧ w'.cell? ⟨w.heap.size, 4, none⟩ = some q.gv ∧ w'.cell? ⟨w.heap.size, 5, none⟩ = some (.int .u32 (q.k : Nat)) ∧ w'.cell? ⟨w.heap.size, 6, none⟩ = some (.int .u32 (q.wd2 : Nat)) ∧ w'.cell? ⟨w.heap.size, 7, none⟩ = some (.int .u32 (q.ow2 : Nat)) ∧ w'.cell? ⟨w.heap.size, 8, none⟩ = some q.fv ∧ w'.cell? ⟨w.heap.size, 9, none⟩ = some (.string q.rs) ∧ w'.cell? ⟨w2.heap.size, 0, none⟩ = some (.int .u32 (q.wd : Nat)) ∧ w'.cell? ⟨w2.heap.size, 1, none⟩ = some (.int .u32 (q.ow : Nat)) ∧ w'.cell? ⟨w2.heap.size, 2, none⟩ = some (.bool q.sl) ∧ w'.cell? ⟨w2.heap.size, 3, none⟩ = some (.slice va2 G.length ca2) ∧ Fr (fun _ => False) W0 w')
    (first | assumption | exact hJ.step ((Fr.refl _ _).drew))
    (first
      | (go_at_call 12; refine ((unhide HA).1 _ (by assumption)).mono ?_; rintro e w' ⟨rfl, hJ⟩)
      | (go_at_call 23; refine ((unhide HA).2 _ (by assumption)).mono ?_; rintro e w' ⟨rfl, hJ⟩))
  go_wp2_with fail
  go_region_held3 (fun w' => w'.cell? ⟨w.heap.size, 0, none⟩ = some q.lv ∧ w'.cell? ⟨w.heap.size, 1, none⟩ = some (.int .u32 (q.wd : Nat)) ∧ w'.cell? ⟨w.heap.size, 2, none⟩ = some (.int .u32 (q.ow : Nat)) ∧ w'.cell? ⟨w.heap.size, 3, none⟩ = some (.bool q.sl) ∧ w'.cell? ⟨w.heap.size, 4, none⟩ = some q.gv ∧ w'.cell? ⟨w.heap.size, 5, none⟩ = some (.int .u32 (q.k : Nat)) ∧ w'.cell? ⟨w.heap.size, 6, none⟩ = some (.int .u32 (q.wd2 : Nat)) ∧ w'.cell? ⟨w.heap.size, 7, none⟩ = some (.int .u32 (q.ow2 : Nat)) ∧ w'.cell? ⟨w.heap.size, 8, none⟩ = some q.fv ∧ w'.cell? ⟨w.heap.size, 9, none⟩ = some (.string q.rs) ∧ w'.cell? ⟨w2.heap.size, 0, none⟩ = some (.int .u32 (q.wd : Nat)) ∧ w'.cell? ⟨w2.heap.size, 1, none⟩ = some (.int .u32 (q.ow : Nat)) ∧ w'.cell? ⟨w2.heap.size, 2, none⟩ = some (.bool q.sl) ∧ w'.cell? ⟨w2.heap.size, 3, none⟩ = some (.slice va2 G.length ca2) ∧ Fr (fun _ => False) W0 w')
    (first | assumption | exact hJ.step ((Fr.refl _ _).drew))
    (first
      | (go_at_call 10; refine ((unhide HR).1 _ (by assumption)).mono ?_; rintro e w' ⟨rfl, hJ⟩)
      | (go_at_call 24; refine ((unhide HR).2 _ (by assumption)).mono ?_; rintro e w' ⟨rfl, hJ⟩)
      | (go_at_call 11; refine ((unhide HH).1 _ (by assumption)).mono ?_; rintro e w' ⟨rfl, hJ⟩)
      | (go_at_call 25; refine ((unhide HH).2 _ (by assumption)).mono ?_; rintro e w' ⟨rfl, hJ⟩))
  go_wp2_with fail
  go_region_held3 (fun w' => w'.cell? ⟨w.heap.size, 0, none⟩ = some q.lv ∧ w'.cell? ⟨w.heap.size, 1, none⟩ = some (.int .u32 (q.wd : Nat)) ∧ w'.cell? ⟨w.heap.size, 2, none⟩ = some (.int .u32 (q.ow : Nat)) ∧ w'.cell? ⟨w.heap.size, 3, none⟩ = some (.bool q.sl) ∧ w'.cell? ⟨w.heap.size, 4, none⟩ = some q.gv ∧ w'.cell? ⟨w.heap.size, 5, none⟩ = some (.int .u32 (q.k : Nat)) ∧ w'.cell? ⟨w.heap.size, 6, none⟩ = some (.int .u32 (q.wd2 : Nat)) ∧ w'.cell? ⟨w.heap.size, 7, none⟩ = some (.int .u32 (q.ow2 : Nat)) ∧ w'.cell? ⟨w.heap.size, 8, none⟩ = some q.fv ∧ w'.cell? ⟨w.heap.size, 9, none⟩ = some (.string q.rs) ∧ w'.cell? ⟨w2.heap.size, 0, none⟩ = some (.int .u32 (q.wd : Nat)) ∧ w'.cell? ⟨w2.heap.size, 1, none⟩ = some (.int .u32 (q.ow : Nat)) ∧ w'.cell? ⟨w2.heap.size, 2, none⟩ = some (.bool q.sl) ∧ w'.cell? ⟨w2.heap.size, 3, none⟩ = some (.slice va2 G.length ca2) ∧ Fr (fun _ => False) W0 w')
    (first | assumption | exact hJ.step ((Fr.refl _ _).drew))
    (first
      | (go_at_call 13; refine ((unhide HD).1 _ (by assumption)).mono ?_; rintro e w' ⟨rfl, hJ⟩)
      | (go_at_call 26; refine ((unhide HD).2 _ (by assumption)).mono ?_; rintro e w' ⟨rfl, hJ⟩)
      | (go_at_call 14; refine ((unhide HS).1 _ (by assumption)).mono ?_; rintro e w' ⟨rfl, hJ⟩)
      | (go_at_call 27; refine ((unhide HS).2 _ (by assumption)).mono ?_; rintro e w' ⟨rfl, hJ⟩))
  go_wp2_with fail
  go_region_held3 (fun w' => w'.cell? ⟨w.heap.size, 0, none⟩ = some q.lv ∧ w'.cell? ⟨w.heap.size, 1, none⟩ = some (.int .u32 (q.wd : Nat)) ∧ w'.cell? ⟨w.heap.size, 2, none⟩ = some (.int .u32 (q.ow : Nat)) ∧ w'.cell? ⟨w.heap.size, 3, none⟩ = some (.bool q.sl) ∧ w'.cell? ⟨w.heap.size, 4, none⟩ = some q.gv ∧ w'.cell? ⟨w.heap.size, 5, none⟩ = some (.int .u32 (q.k : Nat)) ∧ w'.cell? ⟨w.heap.size, 6, none⟩ = some (.int .u32 (q.wd2 : Nat)) ∧ w'.cell? ⟨w.heap.size, 7, none⟩ = some (.int .u32 (q.ow2 : Nat)) ∧ w'.cell? ⟨w.heap.size, 8, none⟩ = some q.fv ∧ w'.cell? ⟨w.heap.size, 9, none⟩ = some (.string q.rs) ∧ w'.cell? ⟨w2.heap.size, 0, none⟩ = some (.int .u32 (q.wd : Nat)) ∧ w'.cell? ⟨w2.heap.size, 1, none⟩ = some (.int .u32 (q.ow : Nat)) ∧ w'.cell? ⟨w2.heap.size, 2, none⟩ = some (.bool q.sl) ∧ w'.cell? ⟨w2.heap.size, 3, none⟩ = some (.slice va2 G.length ca2) ∧ Fr (fun _ => False) W0 w')
    (first | assumption | exact hJ.step ((Fr.refl _ _).drew))
    (first
      | (go_at_call 15; refine ((unhide HB).1 _ (by assumption)).mono ?_; rintro e w' ⟨rfl, hJ⟩)
      | (go_at_call 28; refine ((unhide HB).2 _ (by assumption)).mono ?_; rintro e w' ⟨rfl, hJ⟩)
      | (go_at_call 29; refine ((unhide HLA).1 _ (by assumption)).mono ?_; rintro e w' ⟨rfl, hJ⟩)
      | (go_at_call 8; refine ((unhide HLA).2 _ (by assumption)).mono ?_; rintro e w' ⟨rfl, hJ⟩))
  have HQ := hide hJ.fr
  clear hJ
  go_wp2_with fail
  go_ret
  exact ⟨rfl, (unhide HFw).trans (unhide HQ) (fun _ _ h => h)⟩
end Go.Proofs.Ytficeloegepdkaa
