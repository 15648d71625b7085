import Derived.Test.YtgpbkdhldakpmaaGreatDoorPk3
namespace Go.Proofs.YtgpbkdhldakpmaaGreatDoor
open Go.RowKit

/-- A reader at a thing's end. -/
def Q.fin (q : Q) : ByteArray × Nat × Nat := (q.named n_end).ended
set_option maxRecDepth 100000 in
set_option maxHeartbeats 2000000 in
/-- get. -/
theorem get_Head (x : Value) (l : List Nat) (q' : Q) (Res : World → (Nat → Prop) → Nat → Array Value → Prop) (E : Nat → Addr) (w : World) (hg : G6 w E) (hw : 7 ≤ w.heap.size) (hx : Src w x l) (hl : l.length ≤ 140737488355328)
    (hst : ∀ w2 w' F F' P g vs, Res w2 F g vs → Stp w2 w' F F' P → (∀ k j, P k j → k = w.heap.size) → Res w' F' g vs)
    (hwhole : ∀ w1 cb b F g, Cd w1 cb b F (.rd ⟨ByteArray.empty, l, 0, 0, none⟩) E → w1.cell? ⟨g, 0, none⟩ = some (.int .u32 0) → w1.cell? ⟨g, 1, none⟩ = some (.slice none 0 0) → (∀ i, Loc w1 cb F g i) → (∀ k, F k → w.heap.size < k) → w.heap.size < g → Fr (fun _ => False) w w1 → Calls Tryz.prog 50 #[.pointer (some ⟨cb, 0, none⟩), .iface 110 (.pointer (some ⟨g, 0, none⟩))] w1 fun e w' => e = .returned (.tuple #[]) ∧ ∃ F', Cd w' cb b F' (.rd q') E ∧ ∃ v0 v1, w'.cell? ⟨g, 0, none⟩ = some v0 ∧ w'.cell? ⟨g, 1, none⟩ = some v1 ∧ (∀ v ∈ ([v0, v1] : List Value), v.oneCell' = true) ∧ Res w' F' g #[v0, v1] ∧ Stp w1 w' F F' (fun k _ => k = g)) :
    Calls Tryz.prog 35 #[x] w fun e w' => ∃ vs err, e = .returned (.tuple #[.agg vs, err]) ∧ ErrV w' err q'.fin E ∧ (q'.fin.2.2 ≠ 0 → vs = #[.int .u32 0, .slice none 0 0]) ∧ (q'.fin.2.2 = 0 → ∃ F' g, Res w' F' g vs ∧ w.heap.size ≤ g) ∧ Fr (fun _ => False) w w' := by
  obtain ⟨xo, xc, rfl⟩ := hx.form
  have hbx := box1 w (.cells #[.int .u32 0, .slice none 0 0] 35)
  have HN := hide (newReader_any _ l (w.alloc (.cells #[.int .u32 0, .slice none 0 0] 35)) (by simp; omega) (hx.fr hbx (fun _ _ _ _ _ h => h)) hl)
  have H := hide (And.intro hg (And.intro hst hwhole))
  have HB := hide hbx
  clear hg hst hwhole hx hbx
  go_enter Tryz.func35, Tryz.ntmps35
  go_wp2_with fail
  refine (unhide HN).mono ?_
  rintro e w1 ⟨b, F, rfl, hR1, hf1', hF1'⟩
  have hf1 : Fr (fun _ => False) w w1 := (unhide HB).trans hf1' (fun _ _ h => h)
  have hF1 : ∀ k, F k → w.heap.size < k := fun k hk => by have := hF1' k hk; simp at this; omega
  have hr0 : w1.cell? ⟨w.heap.size, 0, none⟩ = some (.int .u32 0) := (hf1'.cell (p := ⟨w.heap.size, 0, none⟩) (by simp) (fun h => h)).trans (by simp)
  have hrz : ∀ i, w1.frozen? ⟨w.heap.size, i, none⟩ = false := fun i => (hf1'.frozen (p := ⟨w.heap.size, i, none⟩) (by simp) (fun h => h)).trans (by simp)
  have hrb : w1.heap[w.heap.size]? = some (.cells #[.int .u32 0, .slice none 0 0] 35) := (hf1'.block w.heap.size (by simp) (fun h => h)).trans (heap_alloc_new _ _)
  have hrl := lt_of_cell hr0
  clear hf1' hF1'
  have hbl := hR1.lt b hR1.fb
  have H1 := hide (And.intro hR1 (And.intro hf1 hF1))
  clear hR1 hf1 hF1
  go_wp2_with fail
  obtain ⟨W2, hW2⟩ : ∃ W2, ((w1.alloc (.cells #[.pointer none, .pointer (some ⟨b, 0, none⟩)] 108)).alloc (.cells #[.int .u32 0, .slice none 0 0] 35)).alloc (.cells #[.int .u32 0, .slice none 0 0] 35) = W2 := ⟨_, rfl⟩
  have hf12 : Fr (fun _ => False) w1 W2 := by rw [← hW2]; exact box3 _ _ _ _
  have HF12 := hide hf12
  have hf02 := (unhide H1).2.1.trans hf12 (fun _ _ h => h)
  have hsz2 : W2.heap.size = w1.heap.size + 3 := by rw [← hW2]; simp
  have hC2 : Cd W2 w1.heap.size b F (.rd ⟨ByteArray.empty, l, 0, 0, none⟩) E := by
    have hb1 := (unhide H1).1.lt
    have hw1 := (unhide H1).2.1.size
    refine ⟨(unhide H).1.fr hf02 (fun _ h => h.elim), fun hx => by have := hb1 _ hx; omega, fun k hk => by have := hb1 k hk; omega, (unhide H1).1.lo, by omega, ?_, ?_, ⟨(unhide H1).1.frame hf12 (fun _ _ h => h), ⟨Nat.zero_le _, Nat.zero_le _, fun y hy => by cases hy⟩, hl⟩, trivial⟩
    · rw [← hW2, World.cell?_alloc_past _ _ _ (by simp; omega), World.cell?_alloc_past _ _ _ (by simp), World.cell?_alloc_at _ _ _ _ (by simp)]; rfl
    · rw [← hW2, World.cell?_alloc_past _ _ _ (by simp; omega), World.cell?_alloc_past _ _ _ (by simp), World.cell?_alloc_at _ _ _ _ (by simp)]; rfl
  have hcs : ∀ (i : Nat) v, (#[.int .u32 0, .slice none 0 0] : Array Value)[i]? = some v → W2.cell? ⟨w1.heap.size + 1, i, none⟩ = some v := fun i v hv => by
    rw [← hW2, World.cell?_alloc_past _ _ _ (by simp), World.cell?_alloc_at _ _ _ _ (by simp)]; exact hv
  have hnn : ∀ (i : Nat) v, (#[.int .u32 0, .slice none 0 0] : Array Value)[i]? = some v → W2.cell? ⟨w1.heap.size + 1 + 1, i, none⟩ = some v := fun i v hv => by
    rw [← hW2, World.cell?_alloc_at _ _ _ _ (by simp)]; exact hv
  have hLo : ∀ i, Loc W2 w1.heap.size F (w1.heap.size + 1) i := fun i => by
    have hb1 := (unhide H1).1.lt
    have hw1 := (unhide H1).2.1.size
    exact ⟨(((by rw [← hW2]; exact box1 _ _) : Fr (fun _ => False) ((w1.alloc (.cells #[.pointer none, .pointer (some ⟨b, 0, none⟩)] 108)).alloc (.cells #[.int .u32 0, .slice none 0 0] 35)) W2).frozen (p := ⟨w1.heap.size + 1, i, none⟩) (by simp) (fun h => h)).trans (by simp), by omega, fun hx => by have := hb1 _ hx; omega, by omega, by omega⟩
  have HW := hide ((unhide H).2.2 W2 w1.heap.size b F (w1.heap.size + 1) hC2 (hcs 0 _ rfl) (hcs 1 _ rfl) hLo (unhide H1).2.2 (by omega) hf02)
  have H2 := hide (And.intro hf02 (And.intro hnn hsz2))
  clear hC2 hf02 hLo hsz2 hcs hf12 hnn
  rw [hW2]
  clear hW2
  refine (unhide HW).mono ?_
  rintro e w3 ⟨rfl, F3, hC3, v0, v1, hv0, hv1, hone, hRes, hs3⟩
  have hst0 : ∀ (a : Addr) (m : Mode) (W : World), (store a v0 m).run Tryz.prog W = stored Tryz.prog W a v0 m := fun _ _ _ => run_store _ _ _ _ _ (hone v0 (by simp))
  have hst1 : ∀ (a : Addr) (m : Mode) (W : World), (store a v1 m).run Tryz.prog W = stored Tryz.prog W a v1 m := fun _ _ _ => run_store _ _ _ _ _ (hone v1 (by simp))
  clear hone
  have h1 : w3.cell? ⟨w1.heap.size, 1, none⟩ = some (.pointer (some ⟨b, 0, none⟩)) := hC3.c1
  have hl1 := lt_of_cell h1
  obtain ⟨hf02, hnn, hsz2⟩ := unhide H2
  have hFb : ∀ k, F k → k < w1.heap.size := (unhide H1).1.lt
  have hne : ∀ i, w3.cell? ⟨w1.heap.size + 1 + 1, i, none⟩ = W2.cell? ⟨w1.heap.size + 1 + 1, i, none⟩ := fun i => hs3.oth (w1.heap.size + 1 + 1) i (by omega) (fun hx => by have := hFb _ hx; omega) (fun h => by omega)
  have hn0 := (hne 0).trans (hnn 0 _ rfl)
  have hn1 := (hne 1).trans (hnn 1 _ rfl)
  have hrF : ¬ F w.heap.size := fun hx => by have := (unhide H1).2.2 _ hx; omega
  have hrb3 : w3.heap[w.heap.size]? = some (.cells #[.int .u32 0, .slice none 0 0] 35) := (hs3.block (by omega) hrF (fun i h => by omega)).trans ((unhide HF12).block _ hrl (fun h => h) |>.trans hrb)
  have hf03 : Fr (fun _ => False) w w3 := hf02.trans hs3.fr (fun k hk hx => hx.elim (fun hx => by have := (unhide H1).2.2 k hx; omega) (fun ⟨_, hx⟩ => by omega))
  have hst3 : R w3 b F3 (q'.rst E) ∧ q'.ok ∧ q'.all.length ≤ 140737488355328 := hC3.st
  have HD := hide (rName_step q' n_end b F3 E w3 hst3.1)
  have H3 := hide (And.intro hC3 (And.intro hs3 (And.intro hRes (And.intro hf03 (And.intro hst3.2.1 hrF)))))
  clear hC3 hs3 hRes hf03 hst3 hrF hf02 hnn hsz2 hFb hne
  go_wp2_with fail
  refine (unhide HD).mono ?_
  rintro e w4 ⟨rfl, hR4, hch4⟩
  have hgF3 := (unhide H3).2.1.nF (by have := (unhide H2).2.2; omega) (show ¬ F (w1.heap.size + 1) from fun hx => by have := (unhide H1).1.lt _ hx; omega)
  have hnF3 := (unhide H3).2.1.nF (by have := (unhide H2).2.2; omega) (show ¬ F (w1.heap.size + 1 + 1) from fun hx => by have := (unhide H1).1.lt _ hx; omega)
  have hcF3 := (unhide H3).1.nf
  have hv04 := (hch4.fr.cell (p := ⟨w1.heap.size + 1, 0, none⟩) (lt_of_cell hv0) hgF3).trans hv0
  have hv14 := (hch4.fr.cell (p := ⟨w1.heap.size + 1, 1, none⟩) (lt_of_cell hv1) hgF3).trans hv1
  have hn04 := (hch4.fr.cell (p := ⟨w1.heap.size + 1 + 1, 0, none⟩) (lt_of_cell hn0) hnF3).trans hn0
  have hn14 := (hch4.fr.cell (p := ⟨w1.heap.size + 1 + 1, 1, none⟩) (lt_of_cell hn1) hnF3).trans hn1
  have h14 : w4.cell? ⟨w1.heap.size, 1, none⟩ = some (.pointer (some ⟨b, 0, none⟩)) := (hch4.fr.cell (p := ⟨w1.heap.size, 1, none⟩) hl1 hcF3).trans h1
  have hrb4 : w4.heap[w.heap.size]? = some (.cells #[.int .u32 0, .slice none 0 0] 35) := (hch4.fr.block w.heap.size (by omega) ((unhide H3).2.1.nF (by have := (unhide H2).2.2; omega) (unhide H3).2.2.2.2.2)).trans hrb3
  have HE := hide (done_any (q'.named n_end) b F3 E w4 hR4 (Q.named_ok (unhide H3).2.2.2.2.1 n_end) ((unhide H3).1.g7.fr hch4.fr (unhide H3).1.lo).gl)
  have hs4 : Stp w3 w4 F3 F3 (fun _ _ => False) := Stp.of_ch hch4 _
  have hf04 : Fr (fun _ => False) w w4 := (unhide H3).2.2.2.1.trans hch4.fr (fun k hk hx => by
    rcases (unhide H3).2.1.new k hx with h | h
    · have := (unhide H1).2.2 k h; omega
    · have := (unhide H1).2.1.size; have := (unhide H2).2.2; omega)
  have H4 := hide (And.intro hs4 hf04)
  clear hR4 hch4 hs4 hf04 hgF3 hnF3 hcF3
  go_wp2_with fail
  refine (unhide HE).mono ?_
  rintro e w5 ⟨err, rfl, hEr, hf5⟩
  have hrb5 : w5.heap[w.heap.size]? = some (.cells #[.int .u32 0, .slice none 0 0] 35) := (hf5.block w.heap.size (by have := (unhide H4).1.size; have := (unhide H3).2.1.size; have := (unhide H2).2.2; omega) (fun h => h)).trans hrb4
  have hv05 := (hf5.cell (p := ⟨w1.heap.size + 1, 0, none⟩) (lt_of_cell hv04) (fun h => h)).trans hv04
  have hn05 := (hf5.cell (p := ⟨w1.heap.size + 1 + 1, 0, none⟩) (lt_of_cell hn04) (fun h => h)).trans hn04
  have hv15 := (hf5.cell (p := ⟨w1.heap.size + 1, 1, none⟩) (lt_of_cell hv14) (fun h => h)).trans hv14
  have hn15 := (hf5.cell (p := ⟨w1.heap.size + 1 + 1, 1, none⟩) (lt_of_cell hn14) (fun h => h)).trans hn14
  have hr05 : w5.cell? ⟨w.heap.size, 0, none⟩ = some (.int .u32 0) := by simp [World.cell?, hrb5]
  have hr15 : w5.cell? ⟨w.heap.size, 1, none⟩ = some (.slice none 0 0) := by simp [World.cell?, hrb5]
  have hrz5 : ∀ i, w5.frozen? ⟨w.heap.size, i, none⟩ = false := fun i => by simp [World.frozen?, hrb5]
  have hrl5 := lt_of_cell hr05
  have hlv5 := lt_of_cell hv05
  have hln5 := lt_of_cell hn05
  have hnr1 : w1.heap.size + 1 ≠ w.heap.size := by omega
  have hnr2 : w1.heap.size + 1 + 1 ≠ w.heap.size := by omega
  have hsF : ∀ (i : Nat) v W, Fr (fun k => k = w.heap.size) w5 W → Fr (fun k => k = w.heap.size) w5 (W.setCell ⟨w.heap.size, i, none⟩ v) := fun i v W h => h.setCell (.inl rfl) v
  have H5 := hide (And.intro hf5 (hEr))
  rcases hEr with ⟨h0, rfl⟩ | ⟨h1', h7, fb, rfl, hb⟩
  · clear hf5
    go_wp2_with fail
    refine bodyPost_ret (v := .tuple #[.agg #[v0, v1], .nilIface]) (by simp [results, Tryz.results35, go_sem, hr05, hr15]) rfl ?_
    have hfin : q'.fin.2.2 = 0 := h0
    refine ⟨_, _, rfl, .inl ⟨hfin, rfl⟩, fun h => absurd hfin h, fun _ => ⟨F3, w1.heap.size + 1, ?_, by omega⟩, ?_⟩
    · have hR5 := (unhide H).2.1 _ _ _ _ _ _ _ ((unhide H).2.1 _ _ _ _ _ _ _ (unhide H3).2.2.1 (unhide H4).1 (fun _ _ h => h.elim)) (Stp.of_fr (unhide H5).1 F3 (fun _ _ => False)) (fun _ _ h => h.elim)
      exact (unhide H).2.1 _ _ _ _ _ _ _ hR5 (((Stp.refl w5 F3 (fun k _ => k = w.heap.size)).trans (Stp.set w.heap.size 0 _) (fun k j _ h => h.1)).trans (Stp.set w.heap.size 1 _) (fun k j _ h => h.1)) (fun k j h => h)
    · exact (((unhide H4).2.trans (unhide H5).1 (fun _ _ h => h)).setCell (.inr (Nat.le_refl _)) _).setCell (.inr (Nat.le_refl _)) _
  · have hfb : fb ≠ w.heap.size := fun e => by rw [e, hrb5] at hb; simp [faultObj] at hb
    have HB5 := hide hb
    clear hf5 hb
    go_wp2_with fail
    refine bodyPost_ret (v := .tuple #[.agg #[.int .u32 0, .slice none 0 0], .iface 124 (.pointer (some ⟨fb, 0, none⟩))]) (by simp [results, Tryz.results35, go_sem, hr05, hr15]) rfl ?_
    have hfin : q'.fin.2.2 ≠ 0 := fun e => by have : 1 ≤ q'.fin.2.2 := h1'; omega
    refine ⟨_, _, rfl, .inr ⟨h1', h7, fb, rfl, ?_⟩, fun _ => rfl, fun h => absurd h hfin, ?_⟩
    · rw [Below.heap_setCell _ _ _ _ hfb, Below.heap_setCell _ _ _ _ hfb]
      exact unhide HB5
    · exact (((unhide H4).2.trans (unhide H5).1 (fun _ _ h => h)).setCell (.inr (Nat.le_refl _)) _).setCell (.inr (Nat.le_refl _)) _
set_option maxRecDepth 100000 in
set_option maxHeartbeats 2000000 in
/-- get. -/
theorem get_Signed (x : Value) (l : List Nat) (q' : Q) (Res : World → (Nat → Prop) → Nat → Array Value → Prop) (E : Nat → Addr) (w : World) (hg : G6 w E) (hw : 7 ≤ w.heap.size) (hx : Src w x l) (hl : l.length ≤ 140737488355328)
    (hst : ∀ w2 w' F F' P g vs, Res w2 F g vs → Stp w2 w' F F' P → (∀ k j, P k j → k = w.heap.size) → Res w' F' g vs)
    (hwhole : ∀ w1 cb b F g, Cd w1 cb b F (.rd ⟨ByteArray.empty, l, 0, 0, none⟩) E → w1.cell? ⟨g, 0, none⟩ = some (.int .u32 0) → w1.cell? ⟨g, 1, none⟩ = some (.slice none 0 0) → w1.cell? ⟨g, 2, none⟩ = some (.int .u32 0) → w1.cell? ⟨g, 3, none⟩ = some (.slice none 0 0) → (∀ i, Loc w1 cb F g i) → (∀ k, F k → w.heap.size < k) → w.heap.size < g → Fr (fun _ => False) w w1 → Calls Tryz.prog 50 #[.pointer (some ⟨cb, 0, none⟩), .iface 117 (.pointer (some ⟨g, 0, none⟩))] w1 fun e w' => e = .returned (.tuple #[]) ∧ ∃ F', Cd w' cb b F' (.rd q') E ∧ ∃ v0 v1 v2 v3, w'.cell? ⟨g, 0, none⟩ = some v0 ∧ w'.cell? ⟨g, 1, none⟩ = some v1 ∧ w'.cell? ⟨g, 2, none⟩ = some v2 ∧ w'.cell? ⟨g, 3, none⟩ = some v3 ∧ (∀ v ∈ ([v0, v1, v2, v3] : List Value), v.oneCell' = true) ∧ Res w' F' g #[v0, v1, v2, v3] ∧ Stp w1 w' F F' (fun k _ => k = g)) :
    Calls Tryz.prog 45 #[x] w fun e w' => ∃ vs err, e = .returned (.tuple #[.agg vs, err]) ∧ ErrV w' err q'.fin E ∧ (q'.fin.2.2 ≠ 0 → vs = #[.int .u32 0, .slice none 0 0, .int .u32 0, .slice none 0 0]) ∧ (q'.fin.2.2 = 0 → ∃ F' g, Res w' F' g vs ∧ w.heap.size ≤ g) ∧ Fr (fun _ => False) w w' := by
  obtain ⟨xo, xc, rfl⟩ := hx.form
  have hbx := box1 w (.cells #[.int .u32 0, .slice none 0 0, .int .u32 0, .slice none 0 0] 37)
  have HN := hide (newReader_any _ l (w.alloc (.cells #[.int .u32 0, .slice none 0 0, .int .u32 0, .slice none 0 0] 37)) (by simp; omega) (hx.fr hbx (fun _ _ _ _ _ h => h)) hl)
  have H := hide (And.intro hg (And.intro hst hwhole))
  have HB := hide hbx
  clear hg hst hwhole hx hbx
  go_enter Tryz.func45, Tryz.ntmps45
  go_wp2_with fail
  refine (unhide HN).mono ?_
  rintro e w1 ⟨b, F, rfl, hR1, hf1', hF1'⟩
  have hf1 : Fr (fun _ => False) w w1 := (unhide HB).trans hf1' (fun _ _ h => h)
  have hF1 : ∀ k, F k → w.heap.size < k := fun k hk => by have := hF1' k hk; simp at this; omega
  have hr0 : w1.cell? ⟨w.heap.size, 0, none⟩ = some (.int .u32 0) := (hf1'.cell (p := ⟨w.heap.size, 0, none⟩) (by simp) (fun h => h)).trans (by simp)
  have hrz : ∀ i, w1.frozen? ⟨w.heap.size, i, none⟩ = false := fun i => (hf1'.frozen (p := ⟨w.heap.size, i, none⟩) (by simp) (fun h => h)).trans (by simp)
  have hrb : w1.heap[w.heap.size]? = some (.cells #[.int .u32 0, .slice none 0 0, .int .u32 0, .slice none 0 0] 37) := (hf1'.block w.heap.size (by simp) (fun h => h)).trans (heap_alloc_new _ _)
  have hrl := lt_of_cell hr0
  clear hf1' hF1'
  have hbl := hR1.lt b hR1.fb
  have H1 := hide (And.intro hR1 (And.intro hf1 hF1))
  clear hR1 hf1 hF1
  go_wp2_with fail
  obtain ⟨W2, hW2⟩ : ∃ W2, ((w1.alloc (.cells #[.pointer none, .pointer (some ⟨b, 0, none⟩)] 108)).alloc (.cells #[.int .u32 0, .slice none 0 0, .int .u32 0, .slice none 0 0] 37)).alloc (.cells #[.int .u32 0, .slice none 0 0, .int .u32 0, .slice none 0 0] 37) = W2 := ⟨_, rfl⟩
  have hf12 : Fr (fun _ => False) w1 W2 := by rw [← hW2]; exact box3 _ _ _ _
  have HF12 := hide hf12
  have hf02 := (unhide H1).2.1.trans hf12 (fun _ _ h => h)
  have hsz2 : W2.heap.size = w1.heap.size + 3 := by rw [← hW2]; simp
  have hC2 : Cd W2 w1.heap.size b F (.rd ⟨ByteArray.empty, l, 0, 0, none⟩) E := by
    have hb1 := (unhide H1).1.lt
    have hw1 := (unhide H1).2.1.size
    refine ⟨(unhide H).1.fr hf02 (fun _ h => h.elim), fun hx => by have := hb1 _ hx; omega, fun k hk => by have := hb1 k hk; omega, (unhide H1).1.lo, by omega, ?_, ?_, ⟨(unhide H1).1.frame hf12 (fun _ _ h => h), ⟨Nat.zero_le _, Nat.zero_le _, fun y hy => by cases hy⟩, hl⟩, trivial⟩
    · rw [← hW2, World.cell?_alloc_past _ _ _ (by simp; omega), World.cell?_alloc_past _ _ _ (by simp), World.cell?_alloc_at _ _ _ _ (by simp)]; rfl
    · rw [← hW2, World.cell?_alloc_past _ _ _ (by simp; omega), World.cell?_alloc_past _ _ _ (by simp), World.cell?_alloc_at _ _ _ _ (by simp)]; rfl
  have hcs : ∀ (i : Nat) v, (#[.int .u32 0, .slice none 0 0, .int .u32 0, .slice none 0 0] : Array Value)[i]? = some v → W2.cell? ⟨w1.heap.size + 1, i, none⟩ = some v := fun i v hv => by
    rw [← hW2, World.cell?_alloc_past _ _ _ (by simp), World.cell?_alloc_at _ _ _ _ (by simp)]; exact hv
  have hnn : ∀ (i : Nat) v, (#[.int .u32 0, .slice none 0 0, .int .u32 0, .slice none 0 0] : Array Value)[i]? = some v → W2.cell? ⟨w1.heap.size + 1 + 1, i, none⟩ = some v := fun i v hv => by
    rw [← hW2, World.cell?_alloc_at _ _ _ _ (by simp)]; exact hv
  have hLo : ∀ i, Loc W2 w1.heap.size F (w1.heap.size + 1) i := fun i => by
    have hb1 := (unhide H1).1.lt
    have hw1 := (unhide H1).2.1.size
    exact ⟨(((by rw [← hW2]; exact box1 _ _) : Fr (fun _ => False) ((w1.alloc (.cells #[.pointer none, .pointer (some ⟨b, 0, none⟩)] 108)).alloc (.cells #[.int .u32 0, .slice none 0 0, .int .u32 0, .slice none 0 0] 37)) W2).frozen (p := ⟨w1.heap.size + 1, i, none⟩) (by simp) (fun h => h)).trans (by simp), by omega, fun hx => by have := hb1 _ hx; omega, by omega, by omega⟩
  have HW := hide ((unhide H).2.2 W2 w1.heap.size b F (w1.heap.size + 1) hC2 (hcs 0 _ rfl) (hcs 1 _ rfl) (hcs 2 _ rfl) (hcs 3 _ rfl) hLo (unhide H1).2.2 (by omega) hf02)
  have H2 := hide (And.intro hf02 (And.intro hnn hsz2))
  clear hC2 hf02 hLo hsz2 hcs hf12 hnn
  rw [hW2]
  clear hW2
  refine (unhide HW).mono ?_
  rintro e w3 ⟨rfl, F3, hC3, v0, v1, v2, v3, hv0, hv1, hv2, hv3, hone, hRes, hs3⟩
  have hst0 : ∀ (a : Addr) (m : Mode) (W : World), (store a v0 m).run Tryz.prog W = stored Tryz.prog W a v0 m := fun _ _ _ => run_store _ _ _ _ _ (hone v0 (by simp))
  have hst1 : ∀ (a : Addr) (m : Mode) (W : World), (store a v1 m).run Tryz.prog W = stored Tryz.prog W a v1 m := fun _ _ _ => run_store _ _ _ _ _ (hone v1 (by simp))
  have hst2 : ∀ (a : Addr) (m : Mode) (W : World), (store a v2 m).run Tryz.prog W = stored Tryz.prog W a v2 m := fun _ _ _ => run_store _ _ _ _ _ (hone v2 (by simp))
  have hst3 : ∀ (a : Addr) (m : Mode) (W : World), (store a v3 m).run Tryz.prog W = stored Tryz.prog W a v3 m := fun _ _ _ => run_store _ _ _ _ _ (hone v3 (by simp))
  clear hone
  have h1 : w3.cell? ⟨w1.heap.size, 1, none⟩ = some (.pointer (some ⟨b, 0, none⟩)) := hC3.c1
  have hl1 := lt_of_cell h1
  obtain ⟨hf02, hnn, hsz2⟩ := unhide H2
  have hFb : ∀ k, F k → k < w1.heap.size := (unhide H1).1.lt
  have hne : ∀ i, w3.cell? ⟨w1.heap.size + 1 + 1, i, none⟩ = W2.cell? ⟨w1.heap.size + 1 + 1, i, none⟩ := fun i => hs3.oth (w1.heap.size + 1 + 1) i (by omega) (fun hx => by have := hFb _ hx; omega) (fun h => by omega)
  have hn0 := (hne 0).trans (hnn 0 _ rfl)
  have hn1 := (hne 1).trans (hnn 1 _ rfl)
  have hn2 := (hne 2).trans (hnn 2 _ rfl)
  have hn3 := (hne 3).trans (hnn 3 _ rfl)
  have hrF : ¬ F w.heap.size := fun hx => by have := (unhide H1).2.2 _ hx; omega
  have hrb3 : w3.heap[w.heap.size]? = some (.cells #[.int .u32 0, .slice none 0 0, .int .u32 0, .slice none 0 0] 37) := (hs3.block (by omega) hrF (fun i h => by omega)).trans ((unhide HF12).block _ hrl (fun h => h) |>.trans hrb)
  have hf03 : Fr (fun _ => False) w w3 := hf02.trans hs3.fr (fun k hk hx => hx.elim (fun hx => by have := (unhide H1).2.2 k hx; omega) (fun ⟨_, hx⟩ => by omega))
  have hst3 : R w3 b F3 (q'.rst E) ∧ q'.ok ∧ q'.all.length ≤ 140737488355328 := hC3.st
  have HD := hide (rName_step q' n_end b F3 E w3 hst3.1)
  have H3 := hide (And.intro hC3 (And.intro hs3 (And.intro hRes (And.intro hf03 (And.intro hst3.2.1 hrF)))))
  clear hC3 hs3 hRes hf03 hst3 hrF hf02 hnn hsz2 hFb hne
  go_wp2_with fail
  refine (unhide HD).mono ?_
  rintro e w4 ⟨rfl, hR4, hch4⟩
  have hgF3 := (unhide H3).2.1.nF (by have := (unhide H2).2.2; omega) (show ¬ F (w1.heap.size + 1) from fun hx => by have := (unhide H1).1.lt _ hx; omega)
  have hnF3 := (unhide H3).2.1.nF (by have := (unhide H2).2.2; omega) (show ¬ F (w1.heap.size + 1 + 1) from fun hx => by have := (unhide H1).1.lt _ hx; omega)
  have hcF3 := (unhide H3).1.nf
  have hv04 := (hch4.fr.cell (p := ⟨w1.heap.size + 1, 0, none⟩) (lt_of_cell hv0) hgF3).trans hv0
  have hv14 := (hch4.fr.cell (p := ⟨w1.heap.size + 1, 1, none⟩) (lt_of_cell hv1) hgF3).trans hv1
  have hv24 := (hch4.fr.cell (p := ⟨w1.heap.size + 1, 2, none⟩) (lt_of_cell hv2) hgF3).trans hv2
  have hv34 := (hch4.fr.cell (p := ⟨w1.heap.size + 1, 3, none⟩) (lt_of_cell hv3) hgF3).trans hv3
  have hn04 := (hch4.fr.cell (p := ⟨w1.heap.size + 1 + 1, 0, none⟩) (lt_of_cell hn0) hnF3).trans hn0
  have hn14 := (hch4.fr.cell (p := ⟨w1.heap.size + 1 + 1, 1, none⟩) (lt_of_cell hn1) hnF3).trans hn1
  have hn24 := (hch4.fr.cell (p := ⟨w1.heap.size + 1 + 1, 2, none⟩) (lt_of_cell hn2) hnF3).trans hn2
  have hn34 := (hch4.fr.cell (p := ⟨w1.heap.size + 1 + 1, 3, none⟩) (lt_of_cell hn3) hnF3).trans hn3
  have h14 : w4.cell? ⟨w1.heap.size, 1, none⟩ = some (.pointer (some ⟨b, 0, none⟩)) := (hch4.fr.cell (p := ⟨w1.heap.size, 1, none⟩) hl1 hcF3).trans h1
  have hrb4 : w4.heap[w.heap.size]? = some (.cells #[.int .u32 0, .slice none 0 0, .int .u32 0, .slice none 0 0] 37) := (hch4.fr.block w.heap.size (by omega) ((unhide H3).2.1.nF (by have := (unhide H2).2.2; omega) (unhide H3).2.2.2.2.2)).trans hrb3
  have HE := hide (done_any (q'.named n_end) b F3 E w4 hR4 (Q.named_ok (unhide H3).2.2.2.2.1 n_end) ((unhide H3).1.g7.fr hch4.fr (unhide H3).1.lo).gl)
  have hs4 : Stp w3 w4 F3 F3 (fun _ _ => False) := Stp.of_ch hch4 _
  have hf04 : Fr (fun _ => False) w w4 := (unhide H3).2.2.2.1.trans hch4.fr (fun k hk hx => by
    rcases (unhide H3).2.1.new k hx with h | h
    · have := (unhide H1).2.2 k h; omega
    · have := (unhide H1).2.1.size; have := (unhide H2).2.2; omega)
  have H4 := hide (And.intro hs4 hf04)
  clear hR4 hch4 hs4 hf04 hgF3 hnF3 hcF3
  go_wp2_with fail
  refine (unhide HE).mono ?_
  rintro e w5 ⟨err, rfl, hEr, hf5⟩
  have hrb5 : w5.heap[w.heap.size]? = some (.cells #[.int .u32 0, .slice none 0 0, .int .u32 0, .slice none 0 0] 37) := (hf5.block w.heap.size (by have := (unhide H4).1.size; have := (unhide H3).2.1.size; have := (unhide H2).2.2; omega) (fun h => h)).trans hrb4
  have hv05 := (hf5.cell (p := ⟨w1.heap.size + 1, 0, none⟩) (lt_of_cell hv04) (fun h => h)).trans hv04
  have hn05 := (hf5.cell (p := ⟨w1.heap.size + 1 + 1, 0, none⟩) (lt_of_cell hn04) (fun h => h)).trans hn04
  have hv15 := (hf5.cell (p := ⟨w1.heap.size + 1, 1, none⟩) (lt_of_cell hv14) (fun h => h)).trans hv14
  have hn15 := (hf5.cell (p := ⟨w1.heap.size + 1 + 1, 1, none⟩) (lt_of_cell hn14) (fun h => h)).trans hn14
  have hv25 := (hf5.cell (p := ⟨w1.heap.size + 1, 2, none⟩) (lt_of_cell hv24) (fun h => h)).trans hv24
  have hn25 := (hf5.cell (p := ⟨w1.heap.size + 1 + 1, 2, none⟩) (lt_of_cell hn24) (fun h => h)).trans hn24
  have hv35 := (hf5.cell (p := ⟨w1.heap.size + 1, 3, none⟩) (lt_of_cell hv34) (fun h => h)).trans hv34
  have hn35 := (hf5.cell (p := ⟨w1.heap.size + 1 + 1, 3, none⟩) (lt_of_cell hn34) (fun h => h)).trans hn34
  have hr05 : w5.cell? ⟨w.heap.size, 0, none⟩ = some (.int .u32 0) := by simp [World.cell?, hrb5]
  have hr15 : w5.cell? ⟨w.heap.size, 1, none⟩ = some (.slice none 0 0) := by simp [World.cell?, hrb5]
  have hr25 : w5.cell? ⟨w.heap.size, 2, none⟩ = some (.int .u32 0) := by simp [World.cell?, hrb5]
  have hr35 : w5.cell? ⟨w.heap.size, 3, none⟩ = some (.slice none 0 0) := by simp [World.cell?, hrb5]
  have hrz5 : ∀ i, w5.frozen? ⟨w.heap.size, i, none⟩ = false := fun i => by simp [World.frozen?, hrb5]
  have hrl5 := lt_of_cell hr05
  have hlv5 := lt_of_cell hv05
  have hln5 := lt_of_cell hn05
  have hnr1 : w1.heap.size + 1 ≠ w.heap.size := by omega
  have hnr2 : w1.heap.size + 1 + 1 ≠ w.heap.size := by omega
  have hsF : ∀ (i : Nat) v W, Fr (fun k => k = w.heap.size) w5 W → Fr (fun k => k = w.heap.size) w5 (W.setCell ⟨w.heap.size, i, none⟩ v) := fun i v W h => h.setCell (.inl rfl) v
  have H5 := hide (And.intro hf5 (hEr))
  rcases hEr with ⟨h0, rfl⟩ | ⟨h1', h7, fb, rfl, hb⟩
  · clear hf5
    go_wp2_with fail
    refine bodyPost_ret (v := .tuple #[.agg #[v0, v1, v2, v3], .nilIface]) (by simp [results, Tryz.results45, go_sem, hr05, hr15, hr25, hr35]) rfl ?_
    have hfin : q'.fin.2.2 = 0 := h0
    refine ⟨_, _, rfl, .inl ⟨hfin, rfl⟩, fun h => absurd hfin h, fun _ => ⟨F3, w1.heap.size + 1, ?_, by omega⟩, ?_⟩
    · have hR5 := (unhide H).2.1 _ _ _ _ _ _ _ ((unhide H).2.1 _ _ _ _ _ _ _ (unhide H3).2.2.1 (unhide H4).1 (fun _ _ h => h.elim)) (Stp.of_fr (unhide H5).1 F3 (fun _ _ => False)) (fun _ _ h => h.elim)
      exact (unhide H).2.1 _ _ _ _ _ _ _ hR5 (((((Stp.refl w5 F3 (fun k _ => k = w.heap.size)).trans (Stp.set w.heap.size 0 _) (fun k j _ h => h.1)).trans (Stp.set w.heap.size 1 _) (fun k j _ h => h.1)).trans (Stp.set w.heap.size 2 _) (fun k j _ h => h.1)).trans (Stp.set w.heap.size 3 _) (fun k j _ h => h.1)) (fun k j h => h)
    · exact (((((unhide H4).2.trans (unhide H5).1 (fun _ _ h => h)).setCell (.inr (Nat.le_refl _)) _).setCell (.inr (Nat.le_refl _)) _).setCell (.inr (Nat.le_refl _)) _).setCell (.inr (Nat.le_refl _)) _
  · have hfb : fb ≠ w.heap.size := fun e => by rw [e, hrb5] at hb; simp [faultObj] at hb
    have HB5 := hide hb
    clear hf5 hb
    go_wp2_with fail
    refine bodyPost_ret (v := .tuple #[.agg #[.int .u32 0, .slice none 0 0, .int .u32 0, .slice none 0 0], .iface 124 (.pointer (some ⟨fb, 0, none⟩))]) (by simp [results, Tryz.results45, go_sem, hr05, hr15, hr25, hr35]) rfl ?_
    have hfin : q'.fin.2.2 ≠ 0 := fun e => by have : 1 ≤ q'.fin.2.2 := h1'; omega
    refine ⟨_, _, rfl, .inr ⟨h1', h7, fb, rfl, ?_⟩, fun _ => rfl, fun h => absurd h hfin, ?_⟩
    · rw [Below.heap_setCell _ _ _ _ hfb, Below.heap_setCell _ _ _ _ hfb, Below.heap_setCell _ _ _ _ hfb, Below.heap_setCell _ _ _ _ hfb]
      exact unhide HB5
    · exact (((((unhide H4).2.trans (unhide H5).1 (fun _ _ h => h)).setCell (.inr (Nat.le_refl _)) _).setCell (.inr (Nat.le_refl _)) _).setCell (.inr (Nat.le_refl _)) _).setCell (.inr (Nat.le_refl _)) _
set_option maxRecDepth 100000 in
set_option maxHeartbeats 2000000 in
/-- get. -/
theorem get_Proof (x : Value) (l : List Nat) (q' : Q) (Res : World → (Nat → Prop) → Nat → Array Value → Prop) (E : Nat → Addr) (w : World) (hg : G6 w E) (hw : 7 ≤ w.heap.size) (hx : Src w x l) (hl : l.length ≤ 140737488355328)
    (hst : ∀ w2 w' F F' P g vs, Res w2 F g vs → Stp w2 w' F F' P → (∀ k j, P k j → k = w.heap.size) → Res w' F' g vs)
    (hwhole : ∀ w1 cb b F g, Cd w1 cb b F (.rd ⟨ByteArray.empty, l, 0, 0, none⟩) E → w1.cell? ⟨g, 0, none⟩ = some (.slice none 0 0) → (∀ i, Loc w1 cb F g i) → (∀ k, F k → w.heap.size < k) → w.heap.size < g → Fr (fun _ => False) w w1 → Calls Tryz.prog 50 #[.pointer (some ⟨cb, 0, none⟩), .iface 118 (.pointer (some ⟨g, 0, none⟩))] w1 fun e w' => e = .returned (.tuple #[]) ∧ ∃ F', Cd w' cb b F' (.rd q') E ∧ ∃ v0, w'.cell? ⟨g, 0, none⟩ = some v0 ∧ (∀ v ∈ ([v0] : List Value), v.oneCell' = true) ∧ Res w' F' g #[v0] ∧ Stp w1 w' F F' (fun k _ => k = g)) :
    Calls Tryz.prog 46 #[x] w fun e w' => ∃ vs err, e = .returned (.tuple #[.agg vs, err]) ∧ ErrV w' err q'.fin E ∧ (q'.fin.2.2 ≠ 0 → vs = #[.slice none 0 0]) ∧ (q'.fin.2.2 = 0 → ∃ F' g, Res w' F' g vs ∧ w.heap.size ≤ g) ∧ Fr (fun _ => False) w w' := by
  obtain ⟨xo, xc, rfl⟩ := hx.form
  have hbx := box1 w (.cells #[.slice none 0 0] 40)
  have HN := hide (newReader_any _ l (w.alloc (.cells #[.slice none 0 0] 40)) (by simp; omega) (hx.fr hbx (fun _ _ _ _ _ h => h)) hl)
  have H := hide (And.intro hg (And.intro hst hwhole))
  have HB := hide hbx
  clear hg hst hwhole hx hbx
  go_enter Tryz.func46, Tryz.ntmps46
  go_wp2_with fail
  refine (unhide HN).mono ?_
  rintro e w1 ⟨b, F, rfl, hR1, hf1', hF1'⟩
  have hf1 : Fr (fun _ => False) w w1 := (unhide HB).trans hf1' (fun _ _ h => h)
  have hF1 : ∀ k, F k → w.heap.size < k := fun k hk => by have := hF1' k hk; simp at this; omega
  have hr0 : w1.cell? ⟨w.heap.size, 0, none⟩ = some (.slice none 0 0) := (hf1'.cell (p := ⟨w.heap.size, 0, none⟩) (by simp) (fun h => h)).trans (by simp)
  have hrz : ∀ i, w1.frozen? ⟨w.heap.size, i, none⟩ = false := fun i => (hf1'.frozen (p := ⟨w.heap.size, i, none⟩) (by simp) (fun h => h)).trans (by simp)
  have hrb : w1.heap[w.heap.size]? = some (.cells #[.slice none 0 0] 40) := (hf1'.block w.heap.size (by simp) (fun h => h)).trans (heap_alloc_new _ _)
  have hrl := lt_of_cell hr0
  clear hf1' hF1'
  have hbl := hR1.lt b hR1.fb
  have H1 := hide (And.intro hR1 (And.intro hf1 hF1))
  clear hR1 hf1 hF1
  go_wp2_with fail
  obtain ⟨W2, hW2⟩ : ∃ W2, ((w1.alloc (.cells #[.pointer none, .pointer (some ⟨b, 0, none⟩)] 108)).alloc (.cells #[.slice none 0 0] 40)).alloc (.cells #[.slice none 0 0] 40) = W2 := ⟨_, rfl⟩
  have hf12 : Fr (fun _ => False) w1 W2 := by rw [← hW2]; exact box3 _ _ _ _
  have HF12 := hide hf12
  have hf02 := (unhide H1).2.1.trans hf12 (fun _ _ h => h)
  have hsz2 : W2.heap.size = w1.heap.size + 3 := by rw [← hW2]; simp
  have hC2 : Cd W2 w1.heap.size b F (.rd ⟨ByteArray.empty, l, 0, 0, none⟩) E := by
    have hb1 := (unhide H1).1.lt
    have hw1 := (unhide H1).2.1.size
    refine ⟨(unhide H).1.fr hf02 (fun _ h => h.elim), fun hx => by have := hb1 _ hx; omega, fun k hk => by have := hb1 k hk; omega, (unhide H1).1.lo, by omega, ?_, ?_, ⟨(unhide H1).1.frame hf12 (fun _ _ h => h), ⟨Nat.zero_le _, Nat.zero_le _, fun y hy => by cases hy⟩, hl⟩, trivial⟩
    · rw [← hW2, World.cell?_alloc_past _ _ _ (by simp; omega), World.cell?_alloc_past _ _ _ (by simp), World.cell?_alloc_at _ _ _ _ (by simp)]; rfl
    · rw [← hW2, World.cell?_alloc_past _ _ _ (by simp; omega), World.cell?_alloc_past _ _ _ (by simp), World.cell?_alloc_at _ _ _ _ (by simp)]; rfl
  have hcs : ∀ (i : Nat) v, (#[.slice none 0 0] : Array Value)[i]? = some v → W2.cell? ⟨w1.heap.size + 1, i, none⟩ = some v := fun i v hv => by
    rw [← hW2, World.cell?_alloc_past _ _ _ (by simp), World.cell?_alloc_at _ _ _ _ (by simp)]; exact hv
  have hnn : ∀ (i : Nat) v, (#[.slice none 0 0] : Array Value)[i]? = some v → W2.cell? ⟨w1.heap.size + 1 + 1, i, none⟩ = some v := fun i v hv => by
    rw [← hW2, World.cell?_alloc_at _ _ _ _ (by simp)]; exact hv
  have hLo : ∀ i, Loc W2 w1.heap.size F (w1.heap.size + 1) i := fun i => by
    have hb1 := (unhide H1).1.lt
    have hw1 := (unhide H1).2.1.size
    exact ⟨(((by rw [← hW2]; exact box1 _ _) : Fr (fun _ => False) ((w1.alloc (.cells #[.pointer none, .pointer (some ⟨b, 0, none⟩)] 108)).alloc (.cells #[.slice none 0 0] 40)) W2).frozen (p := ⟨w1.heap.size + 1, i, none⟩) (by simp) (fun h => h)).trans (by simp), by omega, fun hx => by have := hb1 _ hx; omega, by omega, by omega⟩
  have HW := hide ((unhide H).2.2 W2 w1.heap.size b F (w1.heap.size + 1) hC2 (hcs 0 _ rfl) hLo (unhide H1).2.2 (by omega) hf02)
  have H2 := hide (And.intro hf02 (And.intro hnn hsz2))
  clear hC2 hf02 hLo hsz2 hcs hf12 hnn
  rw [hW2]
  clear hW2
  refine (unhide HW).mono ?_
  rintro e w3 ⟨rfl, F3, hC3, v0, hv0, hone, hRes, hs3⟩
  have hst0 : ∀ (a : Addr) (m : Mode) (W : World), (store a v0 m).run Tryz.prog W = stored Tryz.prog W a v0 m := fun _ _ _ => run_store _ _ _ _ _ (hone v0 (by simp))
  clear hone
  have h1 : w3.cell? ⟨w1.heap.size, 1, none⟩ = some (.pointer (some ⟨b, 0, none⟩)) := hC3.c1
  have hl1 := lt_of_cell h1
  obtain ⟨hf02, hnn, hsz2⟩ := unhide H2
  have hFb : ∀ k, F k → k < w1.heap.size := (unhide H1).1.lt
  have hne : ∀ i, w3.cell? ⟨w1.heap.size + 1 + 1, i, none⟩ = W2.cell? ⟨w1.heap.size + 1 + 1, i, none⟩ := fun i => hs3.oth (w1.heap.size + 1 + 1) i (by omega) (fun hx => by have := hFb _ hx; omega) (fun h => by omega)
  have hn0 := (hne 0).trans (hnn 0 _ rfl)
  have hrF : ¬ F w.heap.size := fun hx => by have := (unhide H1).2.2 _ hx; omega
  have hrb3 : w3.heap[w.heap.size]? = some (.cells #[.slice none 0 0] 40) := (hs3.block (by omega) hrF (fun i h => by omega)).trans ((unhide HF12).block _ hrl (fun h => h) |>.trans hrb)
  have hf03 : Fr (fun _ => False) w w3 := hf02.trans hs3.fr (fun k hk hx => hx.elim (fun hx => by have := (unhide H1).2.2 k hx; omega) (fun ⟨_, hx⟩ => by omega))
  have hst3 : R w3 b F3 (q'.rst E) ∧ q'.ok ∧ q'.all.length ≤ 140737488355328 := hC3.st
  have HD := hide (rName_step q' n_end b F3 E w3 hst3.1)
  have H3 := hide (And.intro hC3 (And.intro hs3 (And.intro hRes (And.intro hf03 (And.intro hst3.2.1 hrF)))))
  clear hC3 hs3 hRes hf03 hst3 hrF hf02 hnn hsz2 hFb hne
  go_wp2_with fail
  refine (unhide HD).mono ?_
  rintro e w4 ⟨rfl, hR4, hch4⟩
  have hgF3 := (unhide H3).2.1.nF (by have := (unhide H2).2.2; omega) (show ¬ F (w1.heap.size + 1) from fun hx => by have := (unhide H1).1.lt _ hx; omega)
  have hnF3 := (unhide H3).2.1.nF (by have := (unhide H2).2.2; omega) (show ¬ F (w1.heap.size + 1 + 1) from fun hx => by have := (unhide H1).1.lt _ hx; omega)
  have hcF3 := (unhide H3).1.nf
  have hv04 := (hch4.fr.cell (p := ⟨w1.heap.size + 1, 0, none⟩) (lt_of_cell hv0) hgF3).trans hv0
  have hn04 := (hch4.fr.cell (p := ⟨w1.heap.size + 1 + 1, 0, none⟩) (lt_of_cell hn0) hnF3).trans hn0
  have h14 : w4.cell? ⟨w1.heap.size, 1, none⟩ = some (.pointer (some ⟨b, 0, none⟩)) := (hch4.fr.cell (p := ⟨w1.heap.size, 1, none⟩) hl1 hcF3).trans h1
  have hrb4 : w4.heap[w.heap.size]? = some (.cells #[.slice none 0 0] 40) := (hch4.fr.block w.heap.size (by omega) ((unhide H3).2.1.nF (by have := (unhide H2).2.2; omega) (unhide H3).2.2.2.2.2)).trans hrb3
  have HE := hide (done_any (q'.named n_end) b F3 E w4 hR4 (Q.named_ok (unhide H3).2.2.2.2.1 n_end) ((unhide H3).1.g7.fr hch4.fr (unhide H3).1.lo).gl)
  have hs4 : Stp w3 w4 F3 F3 (fun _ _ => False) := Stp.of_ch hch4 _
  have hf04 : Fr (fun _ => False) w w4 := (unhide H3).2.2.2.1.trans hch4.fr (fun k hk hx => by
    rcases (unhide H3).2.1.new k hx with h | h
    · have := (unhide H1).2.2 k h; omega
    · have := (unhide H1).2.1.size; have := (unhide H2).2.2; omega)
  have H4 := hide (And.intro hs4 hf04)
  clear hR4 hch4 hs4 hf04 hgF3 hnF3 hcF3
  go_wp2_with fail
  refine (unhide HE).mono ?_
  rintro e w5 ⟨err, rfl, hEr, hf5⟩
  have hrb5 : w5.heap[w.heap.size]? = some (.cells #[.slice none 0 0] 40) := (hf5.block w.heap.size (by have := (unhide H4).1.size; have := (unhide H3).2.1.size; have := (unhide H2).2.2; omega) (fun h => h)).trans hrb4
  have hv05 := (hf5.cell (p := ⟨w1.heap.size + 1, 0, none⟩) (lt_of_cell hv04) (fun h => h)).trans hv04
  have hn05 := (hf5.cell (p := ⟨w1.heap.size + 1 + 1, 0, none⟩) (lt_of_cell hn04) (fun h => h)).trans hn04
  have hr05 : w5.cell? ⟨w.heap.size, 0, none⟩ = some (.slice none 0 0) := by simp [World.cell?, hrb5]
  have hrz5 : ∀ i, w5.frozen? ⟨w.heap.size, i, none⟩ = false := fun i => by simp [World.frozen?, hrb5]
  have hrl5 := lt_of_cell hr05
  have hlv5 := lt_of_cell hv05
  have hln5 := lt_of_cell hn05
  have hnr1 : w1.heap.size + 1 ≠ w.heap.size := by omega
  have hnr2 : w1.heap.size + 1 + 1 ≠ w.heap.size := by omega
  have hsF : ∀ (i : Nat) v W, Fr (fun k => k = w.heap.size) w5 W → Fr (fun k => k = w.heap.size) w5 (W.setCell ⟨w.heap.size, i, none⟩ v) := fun i v W h => h.setCell (.inl rfl) v
  have H5 := hide (And.intro hf5 (hEr))
  rcases hEr with ⟨h0, rfl⟩ | ⟨h1', h7, fb, rfl, hb⟩
  · clear hf5
    go_wp2_with fail
    refine bodyPost_ret (v := .tuple #[.agg #[v0], .nilIface]) (by simp [results, Tryz.results46, go_sem, hr05]) rfl ?_
    have hfin : q'.fin.2.2 = 0 := h0
    refine ⟨_, _, rfl, .inl ⟨hfin, rfl⟩, fun h => absurd hfin h, fun _ => ⟨F3, w1.heap.size + 1, ?_, by omega⟩, ?_⟩
    · have hR5 := (unhide H).2.1 _ _ _ _ _ _ _ ((unhide H).2.1 _ _ _ _ _ _ _ (unhide H3).2.2.1 (unhide H4).1 (fun _ _ h => h.elim)) (Stp.of_fr (unhide H5).1 F3 (fun _ _ => False)) (fun _ _ h => h.elim)
      exact (unhide H).2.1 _ _ _ _ _ _ _ hR5 ((Stp.refl w5 F3 (fun k _ => k = w.heap.size)).trans (Stp.set w.heap.size 0 _) (fun k j _ h => h.1)) (fun k j h => h)
    · exact ((unhide H4).2.trans (unhide H5).1 (fun _ _ h => h)).setCell (.inr (Nat.le_refl _)) _
  · have hfb : fb ≠ w.heap.size := fun e => by rw [e, hrb5] at hb; simp [faultObj] at hb
    have HB5 := hide hb
    clear hf5 hb
    go_wp2_with fail
    refine bodyPost_ret (v := .tuple #[.agg #[.slice none 0 0], .iface 124 (.pointer (some ⟨fb, 0, none⟩))]) (by simp [results, Tryz.results46, go_sem, hr05]) rfl ?_
    have hfin : q'.fin.2.2 ≠ 0 := fun e => by have : 1 ≤ q'.fin.2.2 := h1'; omega
    refine ⟨_, _, rfl, .inr ⟨h1', h7, fb, rfl, ?_⟩, fun _ => rfl, fun h => absurd h hfin, ?_⟩
    · rw [Below.heap_setCell _ _ _ _ hfb]
      exact unhide HB5
    · exact ((unhide H4).2.trans (unhide H5).1 (fun _ _ h => h)).setCell (.inr (Nat.le_refl _)) _
set_option maxRecDepth 100000 in
set_option maxHeartbeats 2000000 in
/-- get. -/
theorem get_Request (x : Value) (l : List Nat) (q' : Q) (Res : World → (Nat → Prop) → Nat → Array Value → Prop) (E : Nat → Addr) (w : World) (hg : G6 w E) (hw : 7 ≤ w.heap.size) (hx : Src w x l) (hl : l.length ≤ 140737488355328)
    (hst : ∀ w2 w' F F' P g vs, Res w2 F g vs → Stp w2 w' F F' P → (∀ k j, P k j → k = w.heap.size) → Res w' F' g vs)
    (hwhole : ∀ w1 cb b F g, Cd w1 cb b F (.rd ⟨ByteArray.empty, l, 0, 0, none⟩) E → w1.cell? ⟨g, 0, none⟩ = some (.int .u32 0) → w1.cell? ⟨g, 1, none⟩ = some (.int .u32 0) → w1.cell? ⟨g, 2, none⟩ = some (.int .u32 0) → w1.cell? ⟨g, 3, none⟩ = some (.int .u8 0) → w1.cell? ⟨g, 4, none⟩ = some (.int .u32 0) → w1.cell? ⟨g, 5, none⟩ = some (.int .u32 0) → w1.cell? ⟨g, 6, none⟩ = some (.int .u32 0) → w1.cell? ⟨g, 7, none⟩ = some (.int .u32 0) → w1.cell? ⟨g, 8, none⟩ = some (.slice none 0 0) → w1.cell? ⟨g, 9, none⟩ = some (.string ⟨#[]⟩) → (∀ i, Loc w1 cb F g i) → (∀ k, F k → w.heap.size < k) → w.heap.size < g → Fr (fun _ => False) w w1 → Calls Tryz.prog 50 #[.pointer (some ⟨cb, 0, none⟩), .iface 114 (.pointer (some ⟨g, 0, none⟩))] w1 fun e w' => e = .returned (.tuple #[]) ∧ ∃ F', Cd w' cb b F' (.rd q') E ∧ ∃ v0 v1 v2 v3 v4 v5 v6 v7 v8 v9, w'.cell? ⟨g, 0, none⟩ = some v0 ∧ w'.cell? ⟨g, 1, none⟩ = some v1 ∧ w'.cell? ⟨g, 2, none⟩ = some v2 ∧ w'.cell? ⟨g, 3, none⟩ = some v3 ∧ w'.cell? ⟨g, 4, none⟩ = some v4 ∧ w'.cell? ⟨g, 5, none⟩ = some v5 ∧ w'.cell? ⟨g, 6, none⟩ = some v6 ∧ w'.cell? ⟨g, 7, none⟩ = some v7 ∧ w'.cell? ⟨g, 8, none⟩ = some v8 ∧ w'.cell? ⟨g, 9, none⟩ = some v9 ∧ (∀ v ∈ ([v0, v1, v2, v3, v4, v5, v6, v7, v8, v9] : List Value), v.oneCell' = true) ∧ Res w' F' g #[v0, v1, v2, v3, v4, v5, v6, v7, v8, v9] ∧ Stp w1 w' F F' (fun k _ => k = g)) :
    Calls Tryz.prog 42 #[x] w fun e w' => ∃ vs err, e = .returned (.tuple #[.agg vs, err]) ∧ ErrV w' err q'.fin E ∧ (q'.fin.2.2 ≠ 0 → vs = #[.int .u32 0, .int .u32 0, .int .u32 0, .int .u8 0, .int .u32 0, .int .u32 0, .int .u32 0, .int .u32 0, .slice none 0 0, .string ⟨#[]⟩]) ∧ (q'.fin.2.2 = 0 → ∃ F' g, Res w' F' g vs ∧ w.heap.size ≤ g) ∧ Fr (fun _ => False) w w' := by
  obtain ⟨xo, xc, rfl⟩ := hx.form
  have hbx := box1 w (.cells #[.int .u32 0, .int .u32 0, .int .u32 0, .int .u8 0, .int .u32 0, .int .u32 0, .int .u32 0, .int .u32 0, .slice none 0 0, .string ⟨#[]⟩] 27)
  have HN := hide (newReader_any _ l (w.alloc (.cells #[.int .u32 0, .int .u32 0, .int .u32 0, .int .u8 0, .int .u32 0, .int .u32 0, .int .u32 0, .int .u32 0, .slice none 0 0, .string ⟨#[]⟩] 27)) (by simp; omega) (hx.fr hbx (fun _ _ _ _ _ h => h)) hl)
  have H := hide (And.intro hg (And.intro hst hwhole))
  have HB := hide hbx
  clear hg hst hwhole hx hbx
  go_enter Tryz.func42, Tryz.ntmps42
  go_wp2_with fail
  refine (unhide HN).mono ?_
  rintro e w1 ⟨b, F, rfl, hR1, hf1', hF1'⟩
  have hf1 : Fr (fun _ => False) w w1 := (unhide HB).trans hf1' (fun _ _ h => h)
  have hF1 : ∀ k, F k → w.heap.size < k := fun k hk => by have := hF1' k hk; simp at this; omega
  have hr0 : w1.cell? ⟨w.heap.size, 0, none⟩ = some (.int .u32 0) := (hf1'.cell (p := ⟨w.heap.size, 0, none⟩) (by simp) (fun h => h)).trans (by simp)
  have hrz : ∀ i, w1.frozen? ⟨w.heap.size, i, none⟩ = false := fun i => (hf1'.frozen (p := ⟨w.heap.size, i, none⟩) (by simp) (fun h => h)).trans (by simp)
  have hrb : w1.heap[w.heap.size]? = some (.cells #[.int .u32 0, .int .u32 0, .int .u32 0, .int .u8 0, .int .u32 0, .int .u32 0, .int .u32 0, .int .u32 0, .slice none 0 0, .string ⟨#[]⟩] 27) := (hf1'.block w.heap.size (by simp) (fun h => h)).trans (heap_alloc_new _ _)
  have hrl := lt_of_cell hr0
  clear hf1' hF1'
  have hbl := hR1.lt b hR1.fb
  have H1 := hide (And.intro hR1 (And.intro hf1 hF1))
  clear hR1 hf1 hF1
  go_wp2_with fail
  obtain ⟨W2, hW2⟩ : ∃ W2, ((w1.alloc (.cells #[.pointer none, .pointer (some ⟨b, 0, none⟩)] 108)).alloc (.cells #[.int .u32 0, .int .u32 0, .int .u32 0, .int .u8 0, .int .u32 0, .int .u32 0, .int .u32 0, .int .u32 0, .slice none 0 0, .string ⟨#[]⟩] 27)).alloc (.cells #[.int .u32 0, .int .u32 0, .int .u32 0, .int .u8 0, .int .u32 0, .int .u32 0, .int .u32 0, .int .u32 0, .slice none 0 0, .string ⟨#[]⟩] 27) = W2 := ⟨_, rfl⟩
  have hf12 : Fr (fun _ => False) w1 W2 := by rw [← hW2]; exact box3 _ _ _ _
  have HF12 := hide hf12
  have hf02 := (unhide H1).2.1.trans hf12 (fun _ _ h => h)
  have hsz2 : W2.heap.size = w1.heap.size + 3 := by rw [← hW2]; simp
  have hC2 : Cd W2 w1.heap.size b F (.rd ⟨ByteArray.empty, l, 0, 0, none⟩) E := by
    have hb1 := (unhide H1).1.lt
    have hw1 := (unhide H1).2.1.size
    refine ⟨(unhide H).1.fr hf02 (fun _ h => h.elim), fun hx => by have := hb1 _ hx; omega, fun k hk => by have := hb1 k hk; omega, (unhide H1).1.lo, by omega, ?_, ?_, ⟨(unhide H1).1.frame hf12 (fun _ _ h => h), ⟨Nat.zero_le _, Nat.zero_le _, fun y hy => by cases hy⟩, hl⟩, trivial⟩
    · rw [← hW2, World.cell?_alloc_past _ _ _ (by simp; omega), World.cell?_alloc_past _ _ _ (by simp), World.cell?_alloc_at _ _ _ _ (by simp)]; rfl
    · rw [← hW2, World.cell?_alloc_past _ _ _ (by simp; omega), World.cell?_alloc_past _ _ _ (by simp), World.cell?_alloc_at _ _ _ _ (by simp)]; rfl
  have hcs : ∀ (i : Nat) v, (#[.int .u32 0, .int .u32 0, .int .u32 0, .int .u8 0, .int .u32 0, .int .u32 0, .int .u32 0, .int .u32 0, .slice none 0 0, .string ⟨#[]⟩] : Array Value)[i]? = some v → W2.cell? ⟨w1.heap.size + 1, i, none⟩ = some v := fun i v hv => by
    rw [← hW2, World.cell?_alloc_past _ _ _ (by simp), World.cell?_alloc_at _ _ _ _ (by simp)]; exact hv
  have hnn : ∀ (i : Nat) v, (#[.int .u32 0, .int .u32 0, .int .u32 0, .int .u8 0, .int .u32 0, .int .u32 0, .int .u32 0, .int .u32 0, .slice none 0 0, .string ⟨#[]⟩] : Array Value)[i]? = some v → W2.cell? ⟨w1.heap.size + 1 + 1, i, none⟩ = some v := fun i v hv => by
    rw [← hW2, World.cell?_alloc_at _ _ _ _ (by simp)]; exact hv
  have hLo : ∀ i, Loc W2 w1.heap.size F (w1.heap.size + 1) i := fun i => by
    have hb1 := (unhide H1).1.lt
    have hw1 := (unhide H1).2.1.size
    exact ⟨(((by rw [← hW2]; exact box1 _ _) : Fr (fun _ => False) ((w1.alloc (.cells #[.pointer none, .pointer (some ⟨b, 0, none⟩)] 108)).alloc (.cells #[.int .u32 0, .int .u32 0, .int .u32 0, .int .u8 0, .int .u32 0, .int .u32 0, .int .u32 0, .int .u32 0, .slice none 0 0, .string ⟨#[]⟩] 27)) W2).frozen (p := ⟨w1.heap.size + 1, i, none⟩) (by simp) (fun h => h)).trans (by simp), by omega, fun hx => by have := hb1 _ hx; omega, by omega, by omega⟩
  have HW := hide ((unhide H).2.2 W2 w1.heap.size b F (w1.heap.size + 1) hC2 (hcs 0 _ rfl) (hcs 1 _ rfl) (hcs 2 _ rfl) (hcs 3 _ rfl) (hcs 4 _ rfl) (hcs 5 _ rfl) (hcs 6 _ rfl) (hcs 7 _ rfl) (hcs 8 _ rfl) (hcs 9 _ rfl) hLo (unhide H1).2.2 (by omega) hf02)
  have H2 := hide (And.intro hf02 (And.intro hnn hsz2))
  clear hC2 hf02 hLo hsz2 hcs hf12 hnn
  rw [hW2]
  clear hW2
  refine (unhide HW).mono ?_
  rintro e w3 ⟨rfl, F3, hC3, v0, v1, v2, v3, v4, v5, v6, v7, v8, v9, hv0, hv1, hv2, hv3, hv4, hv5, hv6, hv7, hv8, hv9, hone, hRes, hs3⟩
  have hst0 : ∀ (a : Addr) (m : Mode) (W : World), (store a v0 m).run Tryz.prog W = stored Tryz.prog W a v0 m := fun _ _ _ => run_store _ _ _ _ _ (hone v0 (by simp))
  have hst1 : ∀ (a : Addr) (m : Mode) (W : World), (store a v1 m).run Tryz.prog W = stored Tryz.prog W a v1 m := fun _ _ _ => run_store _ _ _ _ _ (hone v1 (by simp))
  have hst2 : ∀ (a : Addr) (m : Mode) (W : World), (store a v2 m).run Tryz.prog W = stored Tryz.prog W a v2 m := fun _ _ _ => run_store _ _ _ _ _ (hone v2 (by simp))
  have hst3 : ∀ (a : Addr) (m : Mode) (W : World), (store a v3 m).run Tryz.prog W = stored Tryz.prog W a v3 m := fun _ _ _ => run_store _ _ _ _ _ (hone v3 (by simp))
  have hst4 : ∀ (a : Addr) (m : Mode) (W : World), (store a v4 m).run Tryz.prog W = stored Tryz.prog W a v4 m := fun _ _ _ => run_store _ _ _ _ _ (hone v4 (by simp))
  have hst5 : ∀ (a : Addr) (m : Mode) (W : World), (store a v5 m).run Tryz.prog W = stored Tryz.prog W a v5 m := fun _ _ _ => run_store _ _ _ _ _ (hone v5 (by simp))
  have hst6 : ∀ (a : Addr) (m : Mode) (W : World), (store a v6 m).run Tryz.prog W = stored Tryz.prog W a v6 m := fun _ _ _ => run_store _ _ _ _ _ (hone v6 (by simp))
  have hst7 : ∀ (a : Addr) (m : Mode) (W : World), (store a v7 m).run Tryz.prog W = stored Tryz.prog W a v7 m := fun _ _ _ => run_store _ _ _ _ _ (hone v7 (by simp))
  have hst8 : ∀ (a : Addr) (m : Mode) (W : World), (store a v8 m).run Tryz.prog W = stored Tryz.prog W a v8 m := fun _ _ _ => run_store _ _ _ _ _ (hone v8 (by simp))
  have hst9 : ∀ (a : Addr) (m : Mode) (W : World), (store a v9 m).run Tryz.prog W = stored Tryz.prog W a v9 m := fun _ _ _ => run_store _ _ _ _ _ (hone v9 (by simp))
  clear hone
  have h1 : w3.cell? ⟨w1.heap.size, 1, none⟩ = some (.pointer (some ⟨b, 0, none⟩)) := hC3.c1
  have hl1 := lt_of_cell h1
  obtain ⟨hf02, hnn, hsz2⟩ := unhide H2
  have hFb : ∀ k, F k → k < w1.heap.size := (unhide H1).1.lt
  have hne : ∀ i, w3.cell? ⟨w1.heap.size + 1 + 1, i, none⟩ = W2.cell? ⟨w1.heap.size + 1 + 1, i, none⟩ := fun i => hs3.oth (w1.heap.size + 1 + 1) i (by omega) (fun hx => by have := hFb _ hx; omega) (fun h => by omega)
  have hn0 := (hne 0).trans (hnn 0 _ rfl)
  have hn1 := (hne 1).trans (hnn 1 _ rfl)
  have hn2 := (hne 2).trans (hnn 2 _ rfl)
  have hn3 := (hne 3).trans (hnn 3 _ rfl)
  have hn4 := (hne 4).trans (hnn 4 _ rfl)
  have hn5 := (hne 5).trans (hnn 5 _ rfl)
  have hn6 := (hne 6).trans (hnn 6 _ rfl)
  have hn7 := (hne 7).trans (hnn 7 _ rfl)
  have hn8 := (hne 8).trans (hnn 8 _ rfl)
  have hn9 := (hne 9).trans (hnn 9 _ rfl)
  have hrF : ¬ F w.heap.size := fun hx => by have := (unhide H1).2.2 _ hx; omega
  have hrb3 : w3.heap[w.heap.size]? = some (.cells #[.int .u32 0, .int .u32 0, .int .u32 0, .int .u8 0, .int .u32 0, .int .u32 0, .int .u32 0, .int .u32 0, .slice none 0 0, .string ⟨#[]⟩] 27) := (hs3.block (by omega) hrF (fun i h => by omega)).trans ((unhide HF12).block _ hrl (fun h => h) |>.trans hrb)
  have hf03 : Fr (fun _ => False) w w3 := hf02.trans hs3.fr (fun k hk hx => hx.elim (fun hx => by have := (unhide H1).2.2 k hx; omega) (fun ⟨_, hx⟩ => by omega))
  have hst3 : R w3 b F3 (q'.rst E) ∧ q'.ok ∧ q'.all.length ≤ 140737488355328 := hC3.st
  have HD := hide (rName_step q' n_end b F3 E w3 hst3.1)
  have H3 := hide (And.intro hC3 (And.intro hs3 (And.intro hRes (And.intro hf03 (And.intro hst3.2.1 hrF)))))
  clear hC3 hs3 hRes hf03 hst3 hrF hf02 hnn hsz2 hFb hne
  go_wp2_with fail
  refine (unhide HD).mono ?_
  rintro e w4 ⟨rfl, hR4, hch4⟩
  have hgF3 := (unhide H3).2.1.nF (by have := (unhide H2).2.2; omega) (show ¬ F (w1.heap.size + 1) from fun hx => by have := (unhide H1).1.lt _ hx; omega)
  have hnF3 := (unhide H3).2.1.nF (by have := (unhide H2).2.2; omega) (show ¬ F (w1.heap.size + 1 + 1) from fun hx => by have := (unhide H1).1.lt _ hx; omega)
  have hcF3 := (unhide H3).1.nf
  have hv04 := (hch4.fr.cell (p := ⟨w1.heap.size + 1, 0, none⟩) (lt_of_cell hv0) hgF3).trans hv0
  have hv14 := (hch4.fr.cell (p := ⟨w1.heap.size + 1, 1, none⟩) (lt_of_cell hv1) hgF3).trans hv1
  have hv24 := (hch4.fr.cell (p := ⟨w1.heap.size + 1, 2, none⟩) (lt_of_cell hv2) hgF3).trans hv2
  have hv34 := (hch4.fr.cell (p := ⟨w1.heap.size + 1, 3, none⟩) (lt_of_cell hv3) hgF3).trans hv3
  have hv44 := (hch4.fr.cell (p := ⟨w1.heap.size + 1, 4, none⟩) (lt_of_cell hv4) hgF3).trans hv4
  have hv54 := (hch4.fr.cell (p := ⟨w1.heap.size + 1, 5, none⟩) (lt_of_cell hv5) hgF3).trans hv5
  have hv64 := (hch4.fr.cell (p := ⟨w1.heap.size + 1, 6, none⟩) (lt_of_cell hv6) hgF3).trans hv6
  have hv74 := (hch4.fr.cell (p := ⟨w1.heap.size + 1, 7, none⟩) (lt_of_cell hv7) hgF3).trans hv7
  have hv84 := (hch4.fr.cell (p := ⟨w1.heap.size + 1, 8, none⟩) (lt_of_cell hv8) hgF3).trans hv8
  have hv94 := (hch4.fr.cell (p := ⟨w1.heap.size + 1, 9, none⟩) (lt_of_cell hv9) hgF3).trans hv9
  have hn04 := (hch4.fr.cell (p := ⟨w1.heap.size + 1 + 1, 0, none⟩) (lt_of_cell hn0) hnF3).trans hn0
  have hn14 := (hch4.fr.cell (p := ⟨w1.heap.size + 1 + 1, 1, none⟩) (lt_of_cell hn1) hnF3).trans hn1
  have hn24 := (hch4.fr.cell (p := ⟨w1.heap.size + 1 + 1, 2, none⟩) (lt_of_cell hn2) hnF3).trans hn2
  have hn34 := (hch4.fr.cell (p := ⟨w1.heap.size + 1 + 1, 3, none⟩) (lt_of_cell hn3) hnF3).trans hn3
  have hn44 := (hch4.fr.cell (p := ⟨w1.heap.size + 1 + 1, 4, none⟩) (lt_of_cell hn4) hnF3).trans hn4
  have hn54 := (hch4.fr.cell (p := ⟨w1.heap.size + 1 + 1, 5, none⟩) (lt_of_cell hn5) hnF3).trans hn5
  have hn64 := (hch4.fr.cell (p := ⟨w1.heap.size + 1 + 1, 6, none⟩) (lt_of_cell hn6) hnF3).trans hn6
  have hn74 := (hch4.fr.cell (p := ⟨w1.heap.size + 1 + 1, 7, none⟩) (lt_of_cell hn7) hnF3).trans hn7
  have hn84 := (hch4.fr.cell (p := ⟨w1.heap.size + 1 + 1, 8, none⟩) (lt_of_cell hn8) hnF3).trans hn8
  have hn94 := (hch4.fr.cell (p := ⟨w1.heap.size + 1 + 1, 9, none⟩) (lt_of_cell hn9) hnF3).trans hn9
  have h14 : w4.cell? ⟨w1.heap.size, 1, none⟩ = some (.pointer (some ⟨b, 0, none⟩)) := (hch4.fr.cell (p := ⟨w1.heap.size, 1, none⟩) hl1 hcF3).trans h1
  have hrb4 : w4.heap[w.heap.size]? = some (.cells #[.int .u32 0, .int .u32 0, .int .u32 0, .int .u8 0, .int .u32 0, .int .u32 0, .int .u32 0, .int .u32 0, .slice none 0 0, .string ⟨#[]⟩] 27) := (hch4.fr.block w.heap.size (by omega) ((unhide H3).2.1.nF (by have := (unhide H2).2.2; omega) (unhide H3).2.2.2.2.2)).trans hrb3
  have HE := hide (done_any (q'.named n_end) b F3 E w4 hR4 (Q.named_ok (unhide H3).2.2.2.2.1 n_end) ((unhide H3).1.g7.fr hch4.fr (unhide H3).1.lo).gl)
  have hs4 : Stp w3 w4 F3 F3 (fun _ _ => False) := Stp.of_ch hch4 _
  have hf04 : Fr (fun _ => False) w w4 := (unhide H3).2.2.2.1.trans hch4.fr (fun k hk hx => by
    rcases (unhide H3).2.1.new k hx with h | h
    · have := (unhide H1).2.2 k h; omega
    · have := (unhide H1).2.1.size; have := (unhide H2).2.2; omega)
  have H4 := hide (And.intro hs4 hf04)
  clear hR4 hch4 hs4 hf04 hgF3 hnF3 hcF3
  go_wp2_with fail
  refine (unhide HE).mono ?_
  rintro e w5 ⟨err, rfl, hEr, hf5⟩
  have hrb5 : w5.heap[w.heap.size]? = some (.cells #[.int .u32 0, .int .u32 0, .int .u32 0, .int .u8 0, .int .u32 0, .int .u32 0, .int .u32 0, .int .u32 0, .slice none 0 0, .string ⟨#[]⟩] 27) := (hf5.block w.heap.size (by have := (unhide H4).1.size; have := (unhide H3).2.1.size; have := (unhide H2).2.2; omega) (fun h => h)).trans hrb4
  have hv05 := (hf5.cell (p := ⟨w1.heap.size + 1, 0, none⟩) (lt_of_cell hv04) (fun h => h)).trans hv04
  have hn05 := (hf5.cell (p := ⟨w1.heap.size + 1 + 1, 0, none⟩) (lt_of_cell hn04) (fun h => h)).trans hn04
  have hv15 := (hf5.cell (p := ⟨w1.heap.size + 1, 1, none⟩) (lt_of_cell hv14) (fun h => h)).trans hv14
  have hn15 := (hf5.cell (p := ⟨w1.heap.size + 1 + 1, 1, none⟩) (lt_of_cell hn14) (fun h => h)).trans hn14
  have hv25 := (hf5.cell (p := ⟨w1.heap.size + 1, 2, none⟩) (lt_of_cell hv24) (fun h => h)).trans hv24
  have hn25 := (hf5.cell (p := ⟨w1.heap.size + 1 + 1, 2, none⟩) (lt_of_cell hn24) (fun h => h)).trans hn24
  have hv35 := (hf5.cell (p := ⟨w1.heap.size + 1, 3, none⟩) (lt_of_cell hv34) (fun h => h)).trans hv34
  have hn35 := (hf5.cell (p := ⟨w1.heap.size + 1 + 1, 3, none⟩) (lt_of_cell hn34) (fun h => h)).trans hn34
  have hv45 := (hf5.cell (p := ⟨w1.heap.size + 1, 4, none⟩) (lt_of_cell hv44) (fun h => h)).trans hv44
  have hn45 := (hf5.cell (p := ⟨w1.heap.size + 1 + 1, 4, none⟩) (lt_of_cell hn44) (fun h => h)).trans hn44
  have hv55 := (hf5.cell (p := ⟨w1.heap.size + 1, 5, none⟩) (lt_of_cell hv54) (fun h => h)).trans hv54
  have hn55 := (hf5.cell (p := ⟨w1.heap.size + 1 + 1, 5, none⟩) (lt_of_cell hn54) (fun h => h)).trans hn54
  have hv65 := (hf5.cell (p := ⟨w1.heap.size + 1, 6, none⟩) (lt_of_cell hv64) (fun h => h)).trans hv64
  have hn65 := (hf5.cell (p := ⟨w1.heap.size + 1 + 1, 6, none⟩) (lt_of_cell hn64) (fun h => h)).trans hn64
  have hv75 := (hf5.cell (p := ⟨w1.heap.size + 1, 7, none⟩) (lt_of_cell hv74) (fun h => h)).trans hv74
  have hn75 := (hf5.cell (p := ⟨w1.heap.size + 1 + 1, 7, none⟩) (lt_of_cell hn74) (fun h => h)).trans hn74
  have hv85 := (hf5.cell (p := ⟨w1.heap.size + 1, 8, none⟩) (lt_of_cell hv84) (fun h => h)).trans hv84
  have hn85 := (hf5.cell (p := ⟨w1.heap.size + 1 + 1, 8, none⟩) (lt_of_cell hn84) (fun h => h)).trans hn84
  have hv95 := (hf5.cell (p := ⟨w1.heap.size + 1, 9, none⟩) (lt_of_cell hv94) (fun h => h)).trans hv94
  have hn95 := (hf5.cell (p := ⟨w1.heap.size + 1 + 1, 9, none⟩) (lt_of_cell hn94) (fun h => h)).trans hn94
  have hr05 : w5.cell? ⟨w.heap.size, 0, none⟩ = some (.int .u32 0) := by simp [World.cell?, hrb5]
  have hr15 : w5.cell? ⟨w.heap.size, 1, none⟩ = some (.int .u32 0) := by simp [World.cell?, hrb5]
  have hr25 : w5.cell? ⟨w.heap.size, 2, none⟩ = some (.int .u32 0) := by simp [World.cell?, hrb5]
  have hr35 : w5.cell? ⟨w.heap.size, 3, none⟩ = some (.int .u8 0) := by simp [World.cell?, hrb5]
  have hr45 : w5.cell? ⟨w.heap.size, 4, none⟩ = some (.int .u32 0) := by simp [World.cell?, hrb5]
  have hr55 : w5.cell? ⟨w.heap.size, 5, none⟩ = some (.int .u32 0) := by simp [World.cell?, hrb5]
  have hr65 : w5.cell? ⟨w.heap.size, 6, none⟩ = some (.int .u32 0) := by simp [World.cell?, hrb5]
  have hr75 : w5.cell? ⟨w.heap.size, 7, none⟩ = some (.int .u32 0) := by simp [World.cell?, hrb5]
  have hr85 : w5.cell? ⟨w.heap.size, 8, none⟩ = some (.slice none 0 0) := by simp [World.cell?, hrb5]
  have hr95 : w5.cell? ⟨w.heap.size, 9, none⟩ = some (.string ⟨#[]⟩) := by simp [World.cell?, hrb5]
  have hrz5 : ∀ i, w5.frozen? ⟨w.heap.size, i, none⟩ = false := fun i => by simp [World.frozen?, hrb5]
  have hrl5 := lt_of_cell hr05
  have hlv5 := lt_of_cell hv05
  have hln5 := lt_of_cell hn05
  have hnr1 : w1.heap.size + 1 ≠ w.heap.size := by omega
  have hnr2 : w1.heap.size + 1 + 1 ≠ w.heap.size := by omega
  have hsF : ∀ (i : Nat) v W, Fr (fun k => k = w.heap.size) w5 W → Fr (fun k => k = w.heap.size) w5 (W.setCell ⟨w.heap.size, i, none⟩ v) := fun i v W h => h.setCell (.inl rfl) v
  have H5 := hide (And.intro hf5 (hEr))
  rcases hEr with ⟨h0, rfl⟩ | ⟨h1', h7, fb, rfl, hb⟩
  · clear hf5
    go_wp2_with fail
    refine bodyPost_ret (v := .tuple #[.agg #[v0, v1, v2, v3, v4, v5, v6, v7, v8, v9], .nilIface]) (by simp [results, Tryz.results42, go_sem, hr05, hr15, hr25, hr35, hr45, hr55, hr65, hr75, hr85, hr95]) rfl ?_
    have hfin : q'.fin.2.2 = 0 := h0
    refine ⟨_, _, rfl, .inl ⟨hfin, rfl⟩, fun h => absurd hfin h, fun _ => ⟨F3, w1.heap.size + 1, ?_, by omega⟩, ?_⟩
    · have hR5 := (unhide H).2.1 _ _ _ _ _ _ _ ((unhide H).2.1 _ _ _ _ _ _ _ (unhide H3).2.2.1 (unhide H4).1 (fun _ _ h => h.elim)) (Stp.of_fr (unhide H5).1 F3 (fun _ _ => False)) (fun _ _ h => h.elim)
      exact (unhide H).2.1 _ _ _ _ _ _ _ hR5 (((((((((((Stp.refl w5 F3 (fun k _ => k = w.heap.size)).trans (Stp.set w.heap.size 0 _) (fun k j _ h => h.1)).trans (Stp.set w.heap.size 1 _) (fun k j _ h => h.1)).trans (Stp.set w.heap.size 2 _) (fun k j _ h => h.1)).trans (Stp.set w.heap.size 3 _) (fun k j _ h => h.1)).trans (Stp.set w.heap.size 4 _) (fun k j _ h => h.1)).trans (Stp.set w.heap.size 5 _) (fun k j _ h => h.1)).trans (Stp.set w.heap.size 6 _) (fun k j _ h => h.1)).trans (Stp.set w.heap.size 7 _) (fun k j _ h => h.1)).trans (Stp.set w.heap.size 8 _) (fun k j _ h => h.1)).trans (Stp.set w.heap.size 9 _) (fun k j _ h => h.1)) (fun k j h => h)
    · exact (((((((((((unhide H4).2.trans (unhide H5).1 (fun _ _ h => h)).setCell (.inr (Nat.le_refl _)) _).setCell (.inr (Nat.le_refl _)) _).setCell (.inr (Nat.le_refl _)) _).setCell (.inr (Nat.le_refl _)) _).setCell (.inr (Nat.le_refl _)) _).setCell (.inr (Nat.le_refl _)) _).setCell (.inr (Nat.le_refl _)) _).setCell (.inr (Nat.le_refl _)) _).setCell (.inr (Nat.le_refl _)) _).setCell (.inr (Nat.le_refl _)) _
  · have hfb : fb ≠ w.heap.size := fun e => by rw [e, hrb5] at hb; simp [faultObj] at hb
    have HB5 := hide hb
    clear hf5 hb
    go_wp2_with fail
    refine bodyPost_ret (v := .tuple #[.agg #[.int .u32 0, .int .u32 0, .int .u32 0, .int .u8 0, .int .u32 0, .int .u32 0, .int .u32 0, .int .u32 0, .slice none 0 0, .string ⟨#[]⟩], .iface 124 (.pointer (some ⟨fb, 0, none⟩))]) (by simp [results, Tryz.results42, go_sem, hr05, hr15, hr25, hr35, hr45, hr55, hr65, hr75, hr85, hr95]) rfl ?_
    have hfin : q'.fin.2.2 ≠ 0 := fun e => by have : 1 ≤ q'.fin.2.2 := h1'; omega
    refine ⟨_, _, rfl, .inr ⟨h1', h7, fb, rfl, ?_⟩, fun _ => rfl, fun h => absurd h hfin, ?_⟩
    · rw [Below.heap_setCell _ _ _ _ hfb, Below.heap_setCell _ _ _ _ hfb, Below.heap_setCell _ _ _ _ hfb, Below.heap_setCell _ _ _ _ hfb, Below.heap_setCell _ _ _ _ hfb, Below.heap_setCell _ _ _ _ hfb, Below.heap_setCell _ _ _ _ hfb, Below.heap_setCell _ _ _ _ hfb, Below.heap_setCell _ _ _ _ hfb, Below.heap_setCell _ _ _ _ hfb]
      exact unhide HB5
    · exact (((((((((((unhide H4).2.trans (unhide H5).1 (fun _ _ h => h)).setCell (.inr (Nat.le_refl _)) _).setCell (.inr (Nat.le_refl _)) _).setCell (.inr (Nat.le_refl _)) _).setCell (.inr (Nat.le_refl _)) _).setCell (.inr (Nat.le_refl _)) _).setCell (.inr (Nat.le_refl _)) _).setCell (.inr (Nat.le_refl _)) _).setCell (.inr (Nat.le_refl _)) _).setCell (.inr (Nat.le_refl _)) _).setCell (.inr (Nat.le_refl _)) _
set_option maxRecDepth 100000 in
set_option maxHeartbeats 2000000 in
/-- get. -/
theorem get_Answer (x : Value) (l : List Nat) (q' : Q) (Res : World → (Nat → Prop) → Nat → Array Value → Prop) (E : Nat → Addr) (w : World) (hg : G6 w E) (hw : 7 ≤ w.heap.size) (hx : Src w x l) (hl : l.length ≤ 140737488355328)
    (hst : ∀ w2 w' F F' P g vs, Res w2 F g vs → Stp w2 w' F F' P → (∀ k j, P k j → k = w.heap.size) → Res w' F' g vs)
    (hwhole : ∀ w1 cb b F g, Cd w1 cb b F (.rd ⟨ByteArray.empty, l, 0, 0, none⟩) E → w1.cell? ⟨g, 0, none⟩ = some (.int .u32 0) → w1.cell? ⟨g, 1, none⟩ = some (.int .u32 0) → w1.cell? ⟨g, 2, none⟩ = some (.int .u8 0) → w1.cell? ⟨g, 3, none⟩ = some (.int .u32 0) → w1.cell? ⟨g, 4, none⟩ = some (.int .u32 0) → w1.cell? ⟨g, 5, none⟩ = some (.slice none 0 0) → w1.cell? ⟨g, 6, none⟩ = some (.slice none 0 0) → (∀ i, Loc w1 cb F g i) → (∀ k, F k → w.heap.size < k) → w.heap.size < g → Fr (fun _ => False) w w1 → Calls Tryz.prog 50 #[.pointer (some ⟨cb, 0, none⟩), .iface 115 (.pointer (some ⟨g, 0, none⟩))] w1 fun e w' => e = .returned (.tuple #[]) ∧ ∃ F', Cd w' cb b F' (.rd q') E ∧ ∃ v0 v1 v2 v3 v4 v5 v6, w'.cell? ⟨g, 0, none⟩ = some v0 ∧ w'.cell? ⟨g, 1, none⟩ = some v1 ∧ w'.cell? ⟨g, 2, none⟩ = some v2 ∧ w'.cell? ⟨g, 3, none⟩ = some v3 ∧ w'.cell? ⟨g, 4, none⟩ = some v4 ∧ w'.cell? ⟨g, 5, none⟩ = some v5 ∧ w'.cell? ⟨g, 6, none⟩ = some v6 ∧ (∀ v ∈ ([v0, v1, v2, v3, v4, v5, v6] : List Value), v.oneCell' = true) ∧ Res w' F' g #[v0, v1, v2, v3, v4, v5, v6] ∧ Stp w1 w' F F' (fun k _ => k = g)) :
    Calls Tryz.prog 43 #[x] w fun e w' => ∃ vs err, e = .returned (.tuple #[.agg vs, err]) ∧ ErrV w' err q'.fin E ∧ (q'.fin.2.2 ≠ 0 → vs = #[.int .u32 0, .int .u32 0, .int .u8 0, .int .u32 0, .int .u32 0, .slice none 0 0, .slice none 0 0]) ∧ (q'.fin.2.2 = 0 → ∃ F' g, Res w' F' g vs ∧ w.heap.size ≤ g) ∧ Fr (fun _ => False) w w' := by
  obtain ⟨xo, xc, rfl⟩ := hx.form
  have hbx := box1 w (.cells #[.int .u32 0, .int .u32 0, .int .u8 0, .int .u32 0, .int .u32 0, .slice none 0 0, .slice none 0 0] 30)
  have HN := hide (newReader_any _ l (w.alloc (.cells #[.int .u32 0, .int .u32 0, .int .u8 0, .int .u32 0, .int .u32 0, .slice none 0 0, .slice none 0 0] 30)) (by simp; omega) (hx.fr hbx (fun _ _ _ _ _ h => h)) hl)
  have H := hide (And.intro hg (And.intro hst hwhole))
  have HB := hide hbx
  clear hg hst hwhole hx hbx
  go_enter Tryz.func43, Tryz.ntmps43
  go_wp2_with fail
  refine (unhide HN).mono ?_
  rintro e w1 ⟨b, F, rfl, hR1, hf1', hF1'⟩
  have hf1 : Fr (fun _ => False) w w1 := (unhide HB).trans hf1' (fun _ _ h => h)
  have hF1 : ∀ k, F k → w.heap.size < k := fun k hk => by have := hF1' k hk; simp at this; omega
  have hr0 : w1.cell? ⟨w.heap.size, 0, none⟩ = some (.int .u32 0) := (hf1'.cell (p := ⟨w.heap.size, 0, none⟩) (by simp) (fun h => h)).trans (by simp)
  have hrz : ∀ i, w1.frozen? ⟨w.heap.size, i, none⟩ = false := fun i => (hf1'.frozen (p := ⟨w.heap.size, i, none⟩) (by simp) (fun h => h)).trans (by simp)
  have hrb : w1.heap[w.heap.size]? = some (.cells #[.int .u32 0, .int .u32 0, .int .u8 0, .int .u32 0, .int .u32 0, .slice none 0 0, .slice none 0 0] 30) := (hf1'.block w.heap.size (by simp) (fun h => h)).trans (heap_alloc_new _ _)
  have hrl := lt_of_cell hr0
  clear hf1' hF1'
  have hbl := hR1.lt b hR1.fb
  have H1 := hide (And.intro hR1 (And.intro hf1 hF1))
  clear hR1 hf1 hF1
  go_wp2_with fail
  obtain ⟨W2, hW2⟩ : ∃ W2, ((w1.alloc (.cells #[.pointer none, .pointer (some ⟨b, 0, none⟩)] 108)).alloc (.cells #[.int .u32 0, .int .u32 0, .int .u8 0, .int .u32 0, .int .u32 0, .slice none 0 0, .slice none 0 0] 30)).alloc (.cells #[.int .u32 0, .int .u32 0, .int .u8 0, .int .u32 0, .int .u32 0, .slice none 0 0, .slice none 0 0] 30) = W2 := ⟨_, rfl⟩
  have hf12 : Fr (fun _ => False) w1 W2 := by rw [← hW2]; exact box3 _ _ _ _
  have HF12 := hide hf12
  have hf02 := (unhide H1).2.1.trans hf12 (fun _ _ h => h)
  have hsz2 : W2.heap.size = w1.heap.size + 3 := by rw [← hW2]; simp
  have hC2 : Cd W2 w1.heap.size b F (.rd ⟨ByteArray.empty, l, 0, 0, none⟩) E := by
    have hb1 := (unhide H1).1.lt
    have hw1 := (unhide H1).2.1.size
    refine ⟨(unhide H).1.fr hf02 (fun _ h => h.elim), fun hx => by have := hb1 _ hx; omega, fun k hk => by have := hb1 k hk; omega, (unhide H1).1.lo, by omega, ?_, ?_, ⟨(unhide H1).1.frame hf12 (fun _ _ h => h), ⟨Nat.zero_le _, Nat.zero_le _, fun y hy => by cases hy⟩, hl⟩, trivial⟩
    · rw [← hW2, World.cell?_alloc_past _ _ _ (by simp; omega), World.cell?_alloc_past _ _ _ (by simp), World.cell?_alloc_at _ _ _ _ (by simp)]; rfl
    · rw [← hW2, World.cell?_alloc_past _ _ _ (by simp; omega), World.cell?_alloc_past _ _ _ (by simp), World.cell?_alloc_at _ _ _ _ (by simp)]; rfl
  have hcs : ∀ (i : Nat) v, (#[.int .u32 0, .int .u32 0, .int .u8 0, .int .u32 0, .int .u32 0, .slice none 0 0, .slice none 0 0] : Array Value)[i]? = some v → W2.cell? ⟨w1.heap.size + 1, i, none⟩ = some v := fun i v hv => by
    rw [← hW2, World.cell?_alloc_past _ _ _ (by simp), World.cell?_alloc_at _ _ _ _ (by simp)]; exact hv
  have hnn : ∀ (i : Nat) v, (#[.int .u32 0, .int .u32 0, .int .u8 0, .int .u32 0, .int .u32 0, .slice none 0 0, .slice none 0 0] : Array Value)[i]? = some v → W2.cell? ⟨w1.heap.size + 1 + 1, i, none⟩ = some v := fun i v hv => by
    rw [← hW2, World.cell?_alloc_at _ _ _ _ (by simp)]; exact hv
  have hLo : ∀ i, Loc W2 w1.heap.size F (w1.heap.size + 1) i := fun i => by
    have hb1 := (unhide H1).1.lt
    have hw1 := (unhide H1).2.1.size
    exact ⟨(((by rw [← hW2]; exact box1 _ _) : Fr (fun _ => False) ((w1.alloc (.cells #[.pointer none, .pointer (some ⟨b, 0, none⟩)] 108)).alloc (.cells #[.int .u32 0, .int .u32 0, .int .u8 0, .int .u32 0, .int .u32 0, .slice none 0 0, .slice none 0 0] 30)) W2).frozen (p := ⟨w1.heap.size + 1, i, none⟩) (by simp) (fun h => h)).trans (by simp), by omega, fun hx => by have := hb1 _ hx; omega, by omega, by omega⟩
  have HW := hide ((unhide H).2.2 W2 w1.heap.size b F (w1.heap.size + 1) hC2 (hcs 0 _ rfl) (hcs 1 _ rfl) (hcs 2 _ rfl) (hcs 3 _ rfl) (hcs 4 _ rfl) (hcs 5 _ rfl) (hcs 6 _ rfl) hLo (unhide H1).2.2 (by omega) hf02)
  have H2 := hide (And.intro hf02 (And.intro hnn hsz2))
  clear hC2 hf02 hLo hsz2 hcs hf12 hnn
  rw [hW2]
  clear hW2
  refine (unhide HW).mono ?_
  rintro e w3 ⟨rfl, F3, hC3, v0, v1, v2, v3, v4, v5, v6, hv0, hv1, hv2, hv3, hv4, hv5, hv6, hone, hRes, hs3⟩
  have hst0 : ∀ (a : Addr) (m : Mode) (W : World), (store a v0 m).run Tryz.prog W = stored Tryz.prog W a v0 m := fun _ _ _ => run_store _ _ _ _ _ (hone v0 (by simp))
  have hst1 : ∀ (a : Addr) (m : Mode) (W : World), (store a v1 m).run Tryz.prog W = stored Tryz.prog W a v1 m := fun _ _ _ => run_store _ _ _ _ _ (hone v1 (by simp))
  have hst2 : ∀ (a : Addr) (m : Mode) (W : World), (store a v2 m).run Tryz.prog W = stored Tryz.prog W a v2 m := fun _ _ _ => run_store _ _ _ _ _ (hone v2 (by simp))
  have hst3 : ∀ (a : Addr) (m : Mode) (W : World), (store a v3 m).run Tryz.prog W = stored Tryz.prog W a v3 m := fun _ _ _ => run_store _ _ _ _ _ (hone v3 (by simp))
  have hst4 : ∀ (a : Addr) (m : Mode) (W : World), (store a v4 m).run Tryz.prog W = stored Tryz.prog W a v4 m := fun _ _ _ => run_store _ _ _ _ _ (hone v4 (by simp))
  have hst5 : ∀ (a : Addr) (m : Mode) (W : World), (store a v5 m).run Tryz.prog W = stored Tryz.prog W a v5 m := fun _ _ _ => run_store _ _ _ _ _ (hone v5 (by simp))
  have hst6 : ∀ (a : Addr) (m : Mode) (W : World), (store a v6 m).run Tryz.prog W = stored Tryz.prog W a v6 m := fun _ _ _ => run_store _ _ _ _ _ (hone v6 (by simp))
  clear hone
  have h1 : w3.cell? ⟨w1.heap.size, 1, none⟩ = some (.pointer (some ⟨b, 0, none⟩)) := hC3.c1
  have hl1 := lt_of_cell h1
  obtain ⟨hf02, hnn, hsz2⟩ := unhide H2
  have hFb : ∀ k, F k → k < w1.heap.size := (unhide H1).1.lt
  have hne : ∀ i, w3.cell? ⟨w1.heap.size + 1 + 1, i, none⟩ = W2.cell? ⟨w1.heap.size + 1 + 1, i, none⟩ := fun i => hs3.oth (w1.heap.size + 1 + 1) i (by omega) (fun hx => by have := hFb _ hx; omega) (fun h => by omega)
  have hn0 := (hne 0).trans (hnn 0 _ rfl)
  have hn1 := (hne 1).trans (hnn 1 _ rfl)
  have hn2 := (hne 2).trans (hnn 2 _ rfl)
  have hn3 := (hne 3).trans (hnn 3 _ rfl)
  have hn4 := (hne 4).trans (hnn 4 _ rfl)
  have hn5 := (hne 5).trans (hnn 5 _ rfl)
  have hn6 := (hne 6).trans (hnn 6 _ rfl)
  have hrF : ¬ F w.heap.size := fun hx => by have := (unhide H1).2.2 _ hx; omega
  have hrb3 : w3.heap[w.heap.size]? = some (.cells #[.int .u32 0, .int .u32 0, .int .u8 0, .int .u32 0, .int .u32 0, .slice none 0 0, .slice none 0 0] 30) := (hs3.block (by omega) hrF (fun i h => by omega)).trans ((unhide HF12).block _ hrl (fun h => h) |>.trans hrb)
  have hf03 : Fr (fun _ => False) w w3 := hf02.trans hs3.fr (fun k hk hx => hx.elim (fun hx => by have := (unhide H1).2.2 k hx; omega) (fun ⟨_, hx⟩ => by omega))
  have hst3 : R w3 b F3 (q'.rst E) ∧ q'.ok ∧ q'.all.length ≤ 140737488355328 := hC3.st
  have HD := hide (rName_step q' n_end b F3 E w3 hst3.1)
  have H3 := hide (And.intro hC3 (And.intro hs3 (And.intro hRes (And.intro hf03 (And.intro hst3.2.1 hrF)))))
  clear hC3 hs3 hRes hf03 hst3 hrF hf02 hnn hsz2 hFb hne
  go_wp2_with fail
  refine (unhide HD).mono ?_
  rintro e w4 ⟨rfl, hR4, hch4⟩
  have hgF3 := (unhide H3).2.1.nF (by have := (unhide H2).2.2; omega) (show ¬ F (w1.heap.size + 1) from fun hx => by have := (unhide H1).1.lt _ hx; omega)
  have hnF3 := (unhide H3).2.1.nF (by have := (unhide H2).2.2; omega) (show ¬ F (w1.heap.size + 1 + 1) from fun hx => by have := (unhide H1).1.lt _ hx; omega)
  have hcF3 := (unhide H3).1.nf
  have hv04 := (hch4.fr.cell (p := ⟨w1.heap.size + 1, 0, none⟩) (lt_of_cell hv0) hgF3).trans hv0
  have hv14 := (hch4.fr.cell (p := ⟨w1.heap.size + 1, 1, none⟩) (lt_of_cell hv1) hgF3).trans hv1
  have hv24 := (hch4.fr.cell (p := ⟨w1.heap.size + 1, 2, none⟩) (lt_of_cell hv2) hgF3).trans hv2
  have hv34 := (hch4.fr.cell (p := ⟨w1.heap.size + 1, 3, none⟩) (lt_of_cell hv3) hgF3).trans hv3
  have hv44 := (hch4.fr.cell (p := ⟨w1.heap.size + 1, 4, none⟩) (lt_of_cell hv4) hgF3).trans hv4
  have hv54 := (hch4.fr.cell (p := ⟨w1.heap.size + 1, 5, none⟩) (lt_of_cell hv5) hgF3).trans hv5
  have hv64 := (hch4.fr.cell (p := ⟨w1.heap.size + 1, 6, none⟩) (lt_of_cell hv6) hgF3).trans hv6
  have hn04 := (hch4.fr.cell (p := ⟨w1.heap.size + 1 + 1, 0, none⟩) (lt_of_cell hn0) hnF3).trans hn0
  have hn14 := (hch4.fr.cell (p := ⟨w1.heap.size + 1 + 1, 1, none⟩) (lt_of_cell hn1) hnF3).trans hn1
  have hn24 := (hch4.fr.cell (p := ⟨w1.heap.size + 1 + 1, 2, none⟩) (lt_of_cell hn2) hnF3).trans hn2
  have hn34 := (hch4.fr.cell (p := ⟨w1.heap.size + 1 + 1, 3, none⟩) (lt_of_cell hn3) hnF3).trans hn3
  have hn44 := (hch4.fr.cell (p := ⟨w1.heap.size + 1 + 1, 4, none⟩) (lt_of_cell hn4) hnF3).trans hn4
  have hn54 := (hch4.fr.cell (p := ⟨w1.heap.size + 1 + 1, 5, none⟩) (lt_of_cell hn5) hnF3).trans hn5
  have hn64 := (hch4.fr.cell (p := ⟨w1.heap.size + 1 + 1, 6, none⟩) (lt_of_cell hn6) hnF3).trans hn6
  have h14 : w4.cell? ⟨w1.heap.size, 1, none⟩ = some (.pointer (some ⟨b, 0, none⟩)) := (hch4.fr.cell (p := ⟨w1.heap.size, 1, none⟩) hl1 hcF3).trans h1
  have hrb4 : w4.heap[w.heap.size]? = some (.cells #[.int .u32 0, .int .u32 0, .int .u8 0, .int .u32 0, .int .u32 0, .slice none 0 0, .slice none 0 0] 30) := (hch4.fr.block w.heap.size (by omega) ((unhide H3).2.1.nF (by have := (unhide H2).2.2; omega) (unhide H3).2.2.2.2.2)).trans hrb3
  have HE := hide (done_any (q'.named n_end) b F3 E w4 hR4 (Q.named_ok (unhide H3).2.2.2.2.1 n_end) ((unhide H3).1.g7.fr hch4.fr (unhide H3).1.lo).gl)
  have hs4 : Stp w3 w4 F3 F3 (fun _ _ => False) := Stp.of_ch hch4 _
  have hf04 : Fr (fun _ => False) w w4 := (unhide H3).2.2.2.1.trans hch4.fr (fun k hk hx => by
    rcases (unhide H3).2.1.new k hx with h | h
    · have := (unhide H1).2.2 k h; omega
    · have := (unhide H1).2.1.size; have := (unhide H2).2.2; omega)
  have H4 := hide (And.intro hs4 hf04)
  clear hR4 hch4 hs4 hf04 hgF3 hnF3 hcF3
  go_wp2_with fail
  refine (unhide HE).mono ?_
  rintro e w5 ⟨err, rfl, hEr, hf5⟩
  have hrb5 : w5.heap[w.heap.size]? = some (.cells #[.int .u32 0, .int .u32 0, .int .u8 0, .int .u32 0, .int .u32 0, .slice none 0 0, .slice none 0 0] 30) := (hf5.block w.heap.size (by have := (unhide H4).1.size; have := (unhide H3).2.1.size; have := (unhide H2).2.2; omega) (fun h => h)).trans hrb4
  have hv05 := (hf5.cell (p := ⟨w1.heap.size + 1, 0, none⟩) (lt_of_cell hv04) (fun h => h)).trans hv04
  have hn05 := (hf5.cell (p := ⟨w1.heap.size + 1 + 1, 0, none⟩) (lt_of_cell hn04) (fun h => h)).trans hn04
  have hv15 := (hf5.cell (p := ⟨w1.heap.size + 1, 1, none⟩) (lt_of_cell hv14) (fun h => h)).trans hv14
  have hn15 := (hf5.cell (p := ⟨w1.heap.size + 1 + 1, 1, none⟩) (lt_of_cell hn14) (fun h => h)).trans hn14
  have hv25 := (hf5.cell (p := ⟨w1.heap.size + 1, 2, none⟩) (lt_of_cell hv24) (fun h => h)).trans hv24
  have hn25 := (hf5.cell (p := ⟨w1.heap.size + 1 + 1, 2, none⟩) (lt_of_cell hn24) (fun h => h)).trans hn24
  have hv35 := (hf5.cell (p := ⟨w1.heap.size + 1, 3, none⟩) (lt_of_cell hv34) (fun h => h)).trans hv34
  have hn35 := (hf5.cell (p := ⟨w1.heap.size + 1 + 1, 3, none⟩) (lt_of_cell hn34) (fun h => h)).trans hn34
  have hv45 := (hf5.cell (p := ⟨w1.heap.size + 1, 4, none⟩) (lt_of_cell hv44) (fun h => h)).trans hv44
  have hn45 := (hf5.cell (p := ⟨w1.heap.size + 1 + 1, 4, none⟩) (lt_of_cell hn44) (fun h => h)).trans hn44
  have hv55 := (hf5.cell (p := ⟨w1.heap.size + 1, 5, none⟩) (lt_of_cell hv54) (fun h => h)).trans hv54
  have hn55 := (hf5.cell (p := ⟨w1.heap.size + 1 + 1, 5, none⟩) (lt_of_cell hn54) (fun h => h)).trans hn54
  have hv65 := (hf5.cell (p := ⟨w1.heap.size + 1, 6, none⟩) (lt_of_cell hv64) (fun h => h)).trans hv64
  have hn65 := (hf5.cell (p := ⟨w1.heap.size + 1 + 1, 6, none⟩) (lt_of_cell hn64) (fun h => h)).trans hn64
  have hr05 : w5.cell? ⟨w.heap.size, 0, none⟩ = some (.int .u32 0) := by simp [World.cell?, hrb5]
  have hr15 : w5.cell? ⟨w.heap.size, 1, none⟩ = some (.int .u32 0) := by simp [World.cell?, hrb5]
  have hr25 : w5.cell? ⟨w.heap.size, 2, none⟩ = some (.int .u8 0) := by simp [World.cell?, hrb5]
  have hr35 : w5.cell? ⟨w.heap.size, 3, none⟩ = some (.int .u32 0) := by simp [World.cell?, hrb5]
  have hr45 : w5.cell? ⟨w.heap.size, 4, none⟩ = some (.int .u32 0) := by simp [World.cell?, hrb5]
  have hr55 : w5.cell? ⟨w.heap.size, 5, none⟩ = some (.slice none 0 0) := by simp [World.cell?, hrb5]
  have hr65 : w5.cell? ⟨w.heap.size, 6, none⟩ = some (.slice none 0 0) := by simp [World.cell?, hrb5]
  have hrz5 : ∀ i, w5.frozen? ⟨w.heap.size, i, none⟩ = false := fun i => by simp [World.frozen?, hrb5]
  have hrl5 := lt_of_cell hr05
  have hlv5 := lt_of_cell hv05
  have hln5 := lt_of_cell hn05
  have hnr1 : w1.heap.size + 1 ≠ w.heap.size := by omega
  have hnr2 : w1.heap.size + 1 + 1 ≠ w.heap.size := by omega
  have hsF : ∀ (i : Nat) v W, Fr (fun k => k = w.heap.size) w5 W → Fr (fun k => k = w.heap.size) w5 (W.setCell ⟨w.heap.size, i, none⟩ v) := fun i v W h => h.setCell (.inl rfl) v
  have H5 := hide (And.intro hf5 (hEr))
  rcases hEr with ⟨h0, rfl⟩ | ⟨h1', h7, fb, rfl, hb⟩
  · clear hf5
    go_wp2_with fail
    refine bodyPost_ret (v := .tuple #[.agg #[v0, v1, v2, v3, v4, v5, v6], .nilIface]) (by simp [results, Tryz.results43, go_sem, hr05, hr15, hr25, hr35, hr45, hr55, hr65]) rfl ?_
    have hfin : q'.fin.2.2 = 0 := h0
    refine ⟨_, _, rfl, .inl ⟨hfin, rfl⟩, fun h => absurd hfin h, fun _ => ⟨F3, w1.heap.size + 1, ?_, by omega⟩, ?_⟩
    · have hR5 := (unhide H).2.1 _ _ _ _ _ _ _ ((unhide H).2.1 _ _ _ _ _ _ _ (unhide H3).2.2.1 (unhide H4).1 (fun _ _ h => h.elim)) (Stp.of_fr (unhide H5).1 F3 (fun _ _ => False)) (fun _ _ h => h.elim)
      exact (unhide H).2.1 _ _ _ _ _ _ _ hR5 ((((((((Stp.refl w5 F3 (fun k _ => k = w.heap.size)).trans (Stp.set w.heap.size 0 _) (fun k j _ h => h.1)).trans (Stp.set w.heap.size 1 _) (fun k j _ h => h.1)).trans (Stp.set w.heap.size 2 _) (fun k j _ h => h.1)).trans (Stp.set w.heap.size 3 _) (fun k j _ h => h.1)).trans (Stp.set w.heap.size 4 _) (fun k j _ h => h.1)).trans (Stp.set w.heap.size 5 _) (fun k j _ h => h.1)).trans (Stp.set w.heap.size 6 _) (fun k j _ h => h.1)) (fun k j h => h)
    · exact ((((((((unhide H4).2.trans (unhide H5).1 (fun _ _ h => h)).setCell (.inr (Nat.le_refl _)) _).setCell (.inr (Nat.le_refl _)) _).setCell (.inr (Nat.le_refl _)) _).setCell (.inr (Nat.le_refl _)) _).setCell (.inr (Nat.le_refl _)) _).setCell (.inr (Nat.le_refl _)) _).setCell (.inr (Nat.le_refl _)) _
  · have hfb : fb ≠ w.heap.size := fun e => by rw [e, hrb5] at hb; simp [faultObj] at hb
    have HB5 := hide hb
    clear hf5 hb
    go_wp2_with fail
    refine bodyPost_ret (v := .tuple #[.agg #[.int .u32 0, .int .u32 0, .int .u8 0, .int .u32 0, .int .u32 0, .slice none 0 0, .slice none 0 0], .iface 124 (.pointer (some ⟨fb, 0, none⟩))]) (by simp [results, Tryz.results43, go_sem, hr05, hr15, hr25, hr35, hr45, hr55, hr65]) rfl ?_
    have hfin : q'.fin.2.2 ≠ 0 := fun e => by have : 1 ≤ q'.fin.2.2 := h1'; omega
    refine ⟨_, _, rfl, .inr ⟨h1', h7, fb, rfl, ?_⟩, fun _ => rfl, fun h => absurd h hfin, ?_⟩
    · rw [Below.heap_setCell _ _ _ _ hfb, Below.heap_setCell _ _ _ _ hfb, Below.heap_setCell _ _ _ _ hfb, Below.heap_setCell _ _ _ _ hfb, Below.heap_setCell _ _ _ _ hfb, Below.heap_setCell _ _ _ _ hfb, Below.heap_setCell _ _ _ _ hfb]
      exact unhide HB5
    · exact ((((((((unhide H4).2.trans (unhide H5).1 (fun _ _ h => h)).setCell (.inr (Nat.le_refl _)) _).setCell (.inr (Nat.le_refl _)) _).setCell (.inr (Nat.le_refl _)) _).setCell (.inr (Nat.le_refl _)) _).setCell (.inr (Nat.le_refl _)) _).setCell (.inr (Nat.le_refl _)) _).setCell (.inr (Nat.le_refl _)) _
set_option maxRecDepth 100000 in
set_option maxHeartbeats 2000000 in
/-- get. -/
theorem get_Event (x : Value) (l : List Nat) (q' : Q) (Res : World → (Nat → Prop) → Nat → Array Value → Prop) (E : Nat → Addr) (w : World) (hg : G6 w E) (hw : 7 ≤ w.heap.size) (hx : Src w x l) (hl : l.length ≤ 140737488355328)
    (hst : ∀ w2 w' F F' P g vs, Res w2 F g vs → Stp w2 w' F F' P → (∀ k j, P k j → k = w.heap.size) → Res w' F' g vs)
    (hwhole : ∀ w1 cb b F g, Cd w1 cb b F (.rd ⟨ByteArray.empty, l, 0, 0, none⟩) E → w1.cell? ⟨g, 0, none⟩ = some (.int .u32 0) → w1.cell? ⟨g, 1, none⟩ = some (.int .u32 0) → w1.cell? ⟨g, 2, none⟩ = some (.int .u32 0) → w1.cell? ⟨g, 3, none⟩ = some (.int .u32 0) → w1.cell? ⟨g, 4, none⟩ = some (.int .u8 0) → w1.cell? ⟨g, 5, none⟩ = some (.int .u32 0) → w1.cell? ⟨g, 6, none⟩ = some (.int .u32 0) → w1.cell? ⟨g, 7, none⟩ = some (.int .u32 0) → w1.cell? ⟨g, 8, none⟩ = some (.int .u32 0) → w1.cell? ⟨g, 9, none⟩ = some (.slice none 0 0) → w1.cell? ⟨g, 10, none⟩ = some (.string ⟨#[]⟩) → w1.cell? ⟨g, 11, none⟩ = some (.int .u8 0) → w1.cell? ⟨g, 12, none⟩ = some (.slice none 0 0) → (∀ i, Loc w1 cb F g i) → (∀ k, F k → w.heap.size < k) → w.heap.size < g → Fr (fun _ => False) w w1 → Calls Tryz.prog 50 #[.pointer (some ⟨cb, 0, none⟩), .iface 116 (.pointer (some ⟨g, 0, none⟩))] w1 fun e w' => e = .returned (.tuple #[]) ∧ ∃ F', Cd w' cb b F' (.rd q') E ∧ ∃ v0 v1 v2 v3 v4 v5 v6 v7 v8 v9 v10 v11 v12, w'.cell? ⟨g, 0, none⟩ = some v0 ∧ w'.cell? ⟨g, 1, none⟩ = some v1 ∧ w'.cell? ⟨g, 2, none⟩ = some v2 ∧ w'.cell? ⟨g, 3, none⟩ = some v3 ∧ w'.cell? ⟨g, 4, none⟩ = some v4 ∧ w'.cell? ⟨g, 5, none⟩ = some v5 ∧ w'.cell? ⟨g, 6, none⟩ = some v6 ∧ w'.cell? ⟨g, 7, none⟩ = some v7 ∧ w'.cell? ⟨g, 8, none⟩ = some v8 ∧ w'.cell? ⟨g, 9, none⟩ = some v9 ∧ w'.cell? ⟨g, 10, none⟩ = some v10 ∧ w'.cell? ⟨g, 11, none⟩ = some v11 ∧ w'.cell? ⟨g, 12, none⟩ = some v12 ∧ (∀ v ∈ ([v0, v1, v2, v3, v4, v5, v6, v7, v8, v9, v10, v11, v12] : List Value), v.oneCell' = true) ∧ Res w' F' g #[v0, v1, v2, v3, v4, v5, v6, v7, v8, v9, v10, v11, v12] ∧ Stp w1 w' F F' (fun k _ => k = g)) :
    Calls Tryz.prog 44 #[x] w fun e w' => ∃ vs err, e = .returned (.tuple #[.agg vs, err]) ∧ ErrV w' err q'.fin E ∧ (q'.fin.2.2 ≠ 0 → vs = #[.int .u32 0, .int .u32 0, .int .u32 0, .int .u32 0, .int .u8 0, .int .u32 0, .int .u32 0, .int .u32 0, .int .u32 0, .slice none 0 0, .string ⟨#[]⟩, .int .u8 0, .slice none 0 0]) ∧ (q'.fin.2.2 = 0 → ∃ F' g, Res w' F' g vs ∧ w.heap.size ≤ g) ∧ Fr (fun _ => False) w w' := by
  obtain ⟨xo, xc, rfl⟩ := hx.form
  have hbx := box1 w (.cells #[.int .u32 0, .int .u32 0, .int .u32 0, .int .u32 0, .int .u8 0, .int .u32 0, .int .u32 0, .int .u32 0, .int .u32 0, .slice none 0 0, .string ⟨#[]⟩, .int .u8 0, .slice none 0 0] 33)
  have HN := hide (newReader_any _ l (w.alloc (.cells #[.int .u32 0, .int .u32 0, .int .u32 0, .int .u32 0, .int .u8 0, .int .u32 0, .int .u32 0, .int .u32 0, .int .u32 0, .slice none 0 0, .string ⟨#[]⟩, .int .u8 0, .slice none 0 0] 33)) (by simp; omega) (hx.fr hbx (fun _ _ _ _ _ h => h)) hl)
  have H := hide (And.intro hg (And.intro hst hwhole))
  have HB := hide hbx
  clear hg hst hwhole hx hbx
  go_enter Tryz.func44, Tryz.ntmps44
  go_wp2_with fail
  refine (unhide HN).mono ?_
  rintro e w1 ⟨b, F, rfl, hR1, hf1', hF1'⟩
  have hf1 : Fr (fun _ => False) w w1 := (unhide HB).trans hf1' (fun _ _ h => h)
  have hF1 : ∀ k, F k → w.heap.size < k := fun k hk => by have := hF1' k hk; simp at this; omega
  have hr0 : w1.cell? ⟨w.heap.size, 0, none⟩ = some (.int .u32 0) := (hf1'.cell (p := ⟨w.heap.size, 0, none⟩) (by simp) (fun h => h)).trans (by simp)
  have hrz : ∀ i, w1.frozen? ⟨w.heap.size, i, none⟩ = false := fun i => (hf1'.frozen (p := ⟨w.heap.size, i, none⟩) (by simp) (fun h => h)).trans (by simp)
  have hrb : w1.heap[w.heap.size]? = some (.cells #[.int .u32 0, .int .u32 0, .int .u32 0, .int .u32 0, .int .u8 0, .int .u32 0, .int .u32 0, .int .u32 0, .int .u32 0, .slice none 0 0, .string ⟨#[]⟩, .int .u8 0, .slice none 0 0] 33) := (hf1'.block w.heap.size (by simp) (fun h => h)).trans (heap_alloc_new _ _)
  have hrl := lt_of_cell hr0
  clear hf1' hF1'
  have hbl := hR1.lt b hR1.fb
  have H1 := hide (And.intro hR1 (And.intro hf1 hF1))
  clear hR1 hf1 hF1
  go_wp2_with fail
  obtain ⟨W2, hW2⟩ : ∃ W2, ((w1.alloc (.cells #[.pointer none, .pointer (some ⟨b, 0, none⟩)] 108)).alloc (.cells #[.int .u32 0, .int .u32 0, .int .u32 0, .int .u32 0, .int .u8 0, .int .u32 0, .int .u32 0, .int .u32 0, .int .u32 0, .slice none 0 0, .string ⟨#[]⟩, .int .u8 0, .slice none 0 0] 33)).alloc (.cells #[.int .u32 0, .int .u32 0, .int .u32 0, .int .u32 0, .int .u8 0, .int .u32 0, .int .u32 0, .int .u32 0, .int .u32 0, .slice none 0 0, .string ⟨#[]⟩, .int .u8 0, .slice none 0 0] 33) = W2 := ⟨_, rfl⟩
  have hf12 : Fr (fun _ => False) w1 W2 := by rw [← hW2]; exact box3 _ _ _ _
  have HF12 := hide hf12
  have hf02 := (unhide H1).2.1.trans hf12 (fun _ _ h => h)
  have hsz2 : W2.heap.size = w1.heap.size + 3 := by rw [← hW2]; simp
  have hC2 : Cd W2 w1.heap.size b F (.rd ⟨ByteArray.empty, l, 0, 0, none⟩) E := by
    have hb1 := (unhide H1).1.lt
    have hw1 := (unhide H1).2.1.size
    refine ⟨(unhide H).1.fr hf02 (fun _ h => h.elim), fun hx => by have := hb1 _ hx; omega, fun k hk => by have := hb1 k hk; omega, (unhide H1).1.lo, by omega, ?_, ?_, ⟨(unhide H1).1.frame hf12 (fun _ _ h => h), ⟨Nat.zero_le _, Nat.zero_le _, fun y hy => by cases hy⟩, hl⟩, trivial⟩
    · rw [← hW2, World.cell?_alloc_past _ _ _ (by simp; omega), World.cell?_alloc_past _ _ _ (by simp), World.cell?_alloc_at _ _ _ _ (by simp)]; rfl
    · rw [← hW2, World.cell?_alloc_past _ _ _ (by simp; omega), World.cell?_alloc_past _ _ _ (by simp), World.cell?_alloc_at _ _ _ _ (by simp)]; rfl
  have hcs : ∀ (i : Nat) v, (#[.int .u32 0, .int .u32 0, .int .u32 0, .int .u32 0, .int .u8 0, .int .u32 0, .int .u32 0, .int .u32 0, .int .u32 0, .slice none 0 0, .string ⟨#[]⟩, .int .u8 0, .slice none 0 0] : Array Value)[i]? = some v → W2.cell? ⟨w1.heap.size + 1, i, none⟩ = some v := fun i v hv => by
    rw [← hW2, World.cell?_alloc_past _ _ _ (by simp), World.cell?_alloc_at _ _ _ _ (by simp)]; exact hv
  have hnn : ∀ (i : Nat) v, (#[.int .u32 0, .int .u32 0, .int .u32 0, .int .u32 0, .int .u8 0, .int .u32 0, .int .u32 0, .int .u32 0, .int .u32 0, .slice none 0 0, .string ⟨#[]⟩, .int .u8 0, .slice none 0 0] : Array Value)[i]? = some v → W2.cell? ⟨w1.heap.size + 1 + 1, i, none⟩ = some v := fun i v hv => by
    rw [← hW2, World.cell?_alloc_at _ _ _ _ (by simp)]; exact hv
  have hLo : ∀ i, Loc W2 w1.heap.size F (w1.heap.size + 1) i := fun i => by
    have hb1 := (unhide H1).1.lt
    have hw1 := (unhide H1).2.1.size
    exact ⟨(((by rw [← hW2]; exact box1 _ _) : Fr (fun _ => False) ((w1.alloc (.cells #[.pointer none, .pointer (some ⟨b, 0, none⟩)] 108)).alloc (.cells #[.int .u32 0, .int .u32 0, .int .u32 0, .int .u32 0, .int .u8 0, .int .u32 0, .int .u32 0, .int .u32 0, .int .u32 0, .slice none 0 0, .string ⟨#[]⟩, .int .u8 0, .slice none 0 0] 33)) W2).frozen (p := ⟨w1.heap.size + 1, i, none⟩) (by simp) (fun h => h)).trans (by simp), by omega, fun hx => by have := hb1 _ hx; omega, by omega, by omega⟩
  have HW := hide ((unhide H).2.2 W2 w1.heap.size b F (w1.heap.size + 1) hC2 (hcs 0 _ rfl) (hcs 1 _ rfl) (hcs 2 _ rfl) (hcs 3 _ rfl) (hcs 4 _ rfl) (hcs 5 _ rfl) (hcs 6 _ rfl) (hcs 7 _ rfl) (hcs 8 _ rfl) (hcs 9 _ rfl) (hcs 10 _ rfl) (hcs 11 _ rfl) (hcs 12 _ rfl) hLo (unhide H1).2.2 (by omega) hf02)
  have H2 := hide (And.intro hf02 (And.intro hnn hsz2))
  clear hC2 hf02 hLo hsz2 hcs hf12 hnn
  rw [hW2]
  clear hW2
  refine (unhide HW).mono ?_
  rintro e w3 ⟨rfl, F3, hC3, v0, v1, v2, v3, v4, v5, v6, v7, v8, v9, v10, v11, v12, hv0, hv1, hv2, hv3, hv4, hv5, hv6, hv7, hv8, hv9, hv10, hv11, hv12, hone, hRes, hs3⟩
  have hst0 : ∀ (a : Addr) (m : Mode) (W : World), (store a v0 m).run Tryz.prog W = stored Tryz.prog W a v0 m := fun _ _ _ => run_store _ _ _ _ _ (hone v0 (by simp))
  have hst1 : ∀ (a : Addr) (m : Mode) (W : World), (store a v1 m).run Tryz.prog W = stored Tryz.prog W a v1 m := fun _ _ _ => run_store _ _ _ _ _ (hone v1 (by simp))
  have hst2 : ∀ (a : Addr) (m : Mode) (W : World), (store a v2 m).run Tryz.prog W = stored Tryz.prog W a v2 m := fun _ _ _ => run_store _ _ _ _ _ (hone v2 (by simp))
  have hst3 : ∀ (a : Addr) (m : Mode) (W : World), (store a v3 m).run Tryz.prog W = stored Tryz.prog W a v3 m := fun _ _ _ => run_store _ _ _ _ _ (hone v3 (by simp))
  have hst4 : ∀ (a : Addr) (m : Mode) (W : World), (store a v4 m).run Tryz.prog W = stored Tryz.prog W a v4 m := fun _ _ _ => run_store _ _ _ _ _ (hone v4 (by simp))
  have hst5 : ∀ (a : Addr) (m : Mode) (W : World), (store a v5 m).run Tryz.prog W = stored Tryz.prog W a v5 m := fun _ _ _ => run_store _ _ _ _ _ (hone v5 (by simp))
  have hst6 : ∀ (a : Addr) (m : Mode) (W : World), (store a v6 m).run Tryz.prog W = stored Tryz.prog W a v6 m := fun _ _ _ => run_store _ _ _ _ _ (hone v6 (by simp))
  have hst7 : ∀ (a : Addr) (m : Mode) (W : World), (store a v7 m).run Tryz.prog W = stored Tryz.prog W a v7 m := fun _ _ _ => run_store _ _ _ _ _ (hone v7 (by simp))
  have hst8 : ∀ (a : Addr) (m : Mode) (W : World), (store a v8 m).run Tryz.prog W = stored Tryz.prog W a v8 m := fun _ _ _ => run_store _ _ _ _ _ (hone v8 (by simp))
  have hst9 : ∀ (a : Addr) (m : Mode) (W : World), (store a v9 m).run Tryz.prog W = stored Tryz.prog W a v9 m := fun _ _ _ => run_store _ _ _ _ _ (hone v9 (by simp))
  have hst10 : ∀ (a : Addr) (m : Mode) (W : World), (store a v10 m).run Tryz.prog W = stored Tryz.prog W a v10 m := fun _ _ _ => run_store _ _ _ _ _ (hone v10 (by simp))
  have hst11 : ∀ (a : Addr) (m : Mode) (W : World), (store a v11 m).run Tryz.prog W = stored Tryz.prog W a v11 m := fun _ _ _ => run_store _ _ _ _ _ (hone v11 (by simp))
  have hst12 : ∀ (a : Addr) (m : Mode) (W : World), (store a v12 m).run Tryz.prog W = stored Tryz.prog W a v12 m := fun _ _ _ => run_store _ _ _ _ _ (hone v12 (by simp))
  clear hone
  have h1 : w3.cell? ⟨w1.heap.size, 1, none⟩ = some (.pointer (some ⟨b, 0, none⟩)) := hC3.c1
  have hl1 := lt_of_cell h1
  obtain ⟨hf02, hnn, hsz2⟩ := unhide H2
  have hFb : ∀ k, F k → k < w1.heap.size := (unhide H1).1.lt
  have hne : ∀ i, w3.cell? ⟨w1.heap.size + 1 + 1, i, none⟩ = W2.cell? ⟨w1.heap.size + 1 + 1, i, none⟩ := fun i => hs3.oth (w1.heap.size + 1 + 1) i (by omega) (fun hx => by have := hFb _ hx; omega) (fun h => by omega)
  have hn0 := (hne 0).trans (hnn 0 _ rfl)
  have hn1 := (hne 1).trans (hnn 1 _ rfl)
  have hn2 := (hne 2).trans (hnn 2 _ rfl)
  have hn3 := (hne 3).trans (hnn 3 _ rfl)
  have hn4 := (hne 4).trans (hnn 4 _ rfl)
  have hn5 := (hne 5).trans (hnn 5 _ rfl)
  have hn6 := (hne 6).trans (hnn 6 _ rfl)
  have hn7 := (hne 7).trans (hnn 7 _ rfl)
  have hn8 := (hne 8).trans (hnn 8 _ rfl)
  have hn9 := (hne 9).trans (hnn 9 _ rfl)
  have hn10 := (hne 10).trans (hnn 10 _ rfl)
  have hn11 := (hne 11).trans (hnn 11 _ rfl)
  have hn12 := (hne 12).trans (hnn 12 _ rfl)
  have hrF : ¬ F w.heap.size := fun hx => by have := (unhide H1).2.2 _ hx; omega
  have hrb3 : w3.heap[w.heap.size]? = some (.cells #[.int .u32 0, .int .u32 0, .int .u32 0, .int .u32 0, .int .u8 0, .int .u32 0, .int .u32 0, .int .u32 0, .int .u32 0, .slice none 0 0, .string ⟨#[]⟩, .int .u8 0, .slice none 0 0] 33) := (hs3.block (by omega) hrF (fun i h => by omega)).trans ((unhide HF12).block _ hrl (fun h => h) |>.trans hrb)
  have hf03 : Fr (fun _ => False) w w3 := hf02.trans hs3.fr (fun k hk hx => hx.elim (fun hx => by have := (unhide H1).2.2 k hx; omega) (fun ⟨_, hx⟩ => by omega))
  have hst3 : R w3 b F3 (q'.rst E) ∧ q'.ok ∧ q'.all.length ≤ 140737488355328 := hC3.st
  have HD := hide (rName_step q' n_end b F3 E w3 hst3.1)
  have H3 := hide (And.intro hC3 (And.intro hs3 (And.intro hRes (And.intro hf03 (And.intro hst3.2.1 hrF)))))
  clear hC3 hs3 hRes hf03 hst3 hrF hf02 hnn hsz2 hFb hne
  go_wp2_with fail
  refine (unhide HD).mono ?_
  rintro e w4 ⟨rfl, hR4, hch4⟩
  have hgF3 := (unhide H3).2.1.nF (by have := (unhide H2).2.2; omega) (show ¬ F (w1.heap.size + 1) from fun hx => by have := (unhide H1).1.lt _ hx; omega)
  have hnF3 := (unhide H3).2.1.nF (by have := (unhide H2).2.2; omega) (show ¬ F (w1.heap.size + 1 + 1) from fun hx => by have := (unhide H1).1.lt _ hx; omega)
  have hcF3 := (unhide H3).1.nf
  have hv04 := (hch4.fr.cell (p := ⟨w1.heap.size + 1, 0, none⟩) (lt_of_cell hv0) hgF3).trans hv0
  have hv14 := (hch4.fr.cell (p := ⟨w1.heap.size + 1, 1, none⟩) (lt_of_cell hv1) hgF3).trans hv1
  have hv24 := (hch4.fr.cell (p := ⟨w1.heap.size + 1, 2, none⟩) (lt_of_cell hv2) hgF3).trans hv2
  have hv34 := (hch4.fr.cell (p := ⟨w1.heap.size + 1, 3, none⟩) (lt_of_cell hv3) hgF3).trans hv3
  have hv44 := (hch4.fr.cell (p := ⟨w1.heap.size + 1, 4, none⟩) (lt_of_cell hv4) hgF3).trans hv4
  have hv54 := (hch4.fr.cell (p := ⟨w1.heap.size + 1, 5, none⟩) (lt_of_cell hv5) hgF3).trans hv5
  have hv64 := (hch4.fr.cell (p := ⟨w1.heap.size + 1, 6, none⟩) (lt_of_cell hv6) hgF3).trans hv6
  have hv74 := (hch4.fr.cell (p := ⟨w1.heap.size + 1, 7, none⟩) (lt_of_cell hv7) hgF3).trans hv7
  have hv84 := (hch4.fr.cell (p := ⟨w1.heap.size + 1, 8, none⟩) (lt_of_cell hv8) hgF3).trans hv8
  have hv94 := (hch4.fr.cell (p := ⟨w1.heap.size + 1, 9, none⟩) (lt_of_cell hv9) hgF3).trans hv9
  have hv104 := (hch4.fr.cell (p := ⟨w1.heap.size + 1, 10, none⟩) (lt_of_cell hv10) hgF3).trans hv10
  have hv114 := (hch4.fr.cell (p := ⟨w1.heap.size + 1, 11, none⟩) (lt_of_cell hv11) hgF3).trans hv11
  have hv124 := (hch4.fr.cell (p := ⟨w1.heap.size + 1, 12, none⟩) (lt_of_cell hv12) hgF3).trans hv12
  have hn04 := (hch4.fr.cell (p := ⟨w1.heap.size + 1 + 1, 0, none⟩) (lt_of_cell hn0) hnF3).trans hn0
  have hn14 := (hch4.fr.cell (p := ⟨w1.heap.size + 1 + 1, 1, none⟩) (lt_of_cell hn1) hnF3).trans hn1
  have hn24 := (hch4.fr.cell (p := ⟨w1.heap.size + 1 + 1, 2, none⟩) (lt_of_cell hn2) hnF3).trans hn2
  have hn34 := (hch4.fr.cell (p := ⟨w1.heap.size + 1 + 1, 3, none⟩) (lt_of_cell hn3) hnF3).trans hn3
  have hn44 := (hch4.fr.cell (p := ⟨w1.heap.size + 1 + 1, 4, none⟩) (lt_of_cell hn4) hnF3).trans hn4
  have hn54 := (hch4.fr.cell (p := ⟨w1.heap.size + 1 + 1, 5, none⟩) (lt_of_cell hn5) hnF3).trans hn5
  have hn64 := (hch4.fr.cell (p := ⟨w1.heap.size + 1 + 1, 6, none⟩) (lt_of_cell hn6) hnF3).trans hn6
  have hn74 := (hch4.fr.cell (p := ⟨w1.heap.size + 1 + 1, 7, none⟩) (lt_of_cell hn7) hnF3).trans hn7
  have hn84 := (hch4.fr.cell (p := ⟨w1.heap.size + 1 + 1, 8, none⟩) (lt_of_cell hn8) hnF3).trans hn8
  have hn94 := (hch4.fr.cell (p := ⟨w1.heap.size + 1 + 1, 9, none⟩) (lt_of_cell hn9) hnF3).trans hn9
  have hn104 := (hch4.fr.cell (p := ⟨w1.heap.size + 1 + 1, 10, none⟩) (lt_of_cell hn10) hnF3).trans hn10
  have hn114 := (hch4.fr.cell (p := ⟨w1.heap.size + 1 + 1, 11, none⟩) (lt_of_cell hn11) hnF3).trans hn11
  have hn124 := (hch4.fr.cell (p := ⟨w1.heap.size + 1 + 1, 12, none⟩) (lt_of_cell hn12) hnF3).trans hn12
  have h14 : w4.cell? ⟨w1.heap.size, 1, none⟩ = some (.pointer (some ⟨b, 0, none⟩)) := (hch4.fr.cell (p := ⟨w1.heap.size, 1, none⟩) hl1 hcF3).trans h1
  have hrb4 : w4.heap[w.heap.size]? = some (.cells #[.int .u32 0, .int .u32 0, .int .u32 0, .int .u32 0, .int .u8 0, .int .u32 0, .int .u32 0, .int .u32 0, .int .u32 0, .slice none 0 0, .string ⟨#[]⟩, .int .u8 0, .slice none 0 0] 33) := (hch4.fr.block w.heap.size (by omega) ((unhide H3).2.1.nF (by have := (unhide H2).2.2; omega) (unhide H3).2.2.2.2.2)).trans hrb3
  have HE := hide (done_any (q'.named n_end) b F3 E w4 hR4 (Q.named_ok (unhide H3).2.2.2.2.1 n_end) ((unhide H3).1.g7.fr hch4.fr (unhide H3).1.lo).gl)
  have hs4 : Stp w3 w4 F3 F3 (fun _ _ => False) := Stp.of_ch hch4 _
  have hf04 : Fr (fun _ => False) w w4 := (unhide H3).2.2.2.1.trans hch4.fr (fun k hk hx => by
    rcases (unhide H3).2.1.new k hx with h | h
    · have := (unhide H1).2.2 k h; omega
    · have := (unhide H1).2.1.size; have := (unhide H2).2.2; omega)
  have H4 := hide (And.intro hs4 hf04)
  clear hR4 hch4 hs4 hf04 hgF3 hnF3 hcF3
  go_wp2_with fail
  refine (unhide HE).mono ?_
  rintro e w5 ⟨err, rfl, hEr, hf5⟩
  have hrb5 : w5.heap[w.heap.size]? = some (.cells #[.int .u32 0, .int .u32 0, .int .u32 0, .int .u32 0, .int .u8 0, .int .u32 0, .int .u32 0, .int .u32 0, .int .u32 0, .slice none 0 0, .string ⟨#[]⟩, .int .u8 0, .slice none 0 0] 33) := (hf5.block w.heap.size (by have := (unhide H4).1.size; have := (unhide H3).2.1.size; have := (unhide H2).2.2; omega) (fun h => h)).trans hrb4
  have hv05 := (hf5.cell (p := ⟨w1.heap.size + 1, 0, none⟩) (lt_of_cell hv04) (fun h => h)).trans hv04
  have hn05 := (hf5.cell (p := ⟨w1.heap.size + 1 + 1, 0, none⟩) (lt_of_cell hn04) (fun h => h)).trans hn04
  have hv15 := (hf5.cell (p := ⟨w1.heap.size + 1, 1, none⟩) (lt_of_cell hv14) (fun h => h)).trans hv14
  have hn15 := (hf5.cell (p := ⟨w1.heap.size + 1 + 1, 1, none⟩) (lt_of_cell hn14) (fun h => h)).trans hn14
  have hv25 := (hf5.cell (p := ⟨w1.heap.size + 1, 2, none⟩) (lt_of_cell hv24) (fun h => h)).trans hv24
  have hn25 := (hf5.cell (p := ⟨w1.heap.size + 1 + 1, 2, none⟩) (lt_of_cell hn24) (fun h => h)).trans hn24
  have hv35 := (hf5.cell (p := ⟨w1.heap.size + 1, 3, none⟩) (lt_of_cell hv34) (fun h => h)).trans hv34
  have hn35 := (hf5.cell (p := ⟨w1.heap.size + 1 + 1, 3, none⟩) (lt_of_cell hn34) (fun h => h)).trans hn34
  have hv45 := (hf5.cell (p := ⟨w1.heap.size + 1, 4, none⟩) (lt_of_cell hv44) (fun h => h)).trans hv44
  have hn45 := (hf5.cell (p := ⟨w1.heap.size + 1 + 1, 4, none⟩) (lt_of_cell hn44) (fun h => h)).trans hn44
  have hv55 := (hf5.cell (p := ⟨w1.heap.size + 1, 5, none⟩) (lt_of_cell hv54) (fun h => h)).trans hv54
  have hn55 := (hf5.cell (p := ⟨w1.heap.size + 1 + 1, 5, none⟩) (lt_of_cell hn54) (fun h => h)).trans hn54
  have hv65 := (hf5.cell (p := ⟨w1.heap.size + 1, 6, none⟩) (lt_of_cell hv64) (fun h => h)).trans hv64
  have hn65 := (hf5.cell (p := ⟨w1.heap.size + 1 + 1, 6, none⟩) (lt_of_cell hn64) (fun h => h)).trans hn64
  have hv75 := (hf5.cell (p := ⟨w1.heap.size + 1, 7, none⟩) (lt_of_cell hv74) (fun h => h)).trans hv74
  have hn75 := (hf5.cell (p := ⟨w1.heap.size + 1 + 1, 7, none⟩) (lt_of_cell hn74) (fun h => h)).trans hn74
  have hv85 := (hf5.cell (p := ⟨w1.heap.size + 1, 8, none⟩) (lt_of_cell hv84) (fun h => h)).trans hv84
  have hn85 := (hf5.cell (p := ⟨w1.heap.size + 1 + 1, 8, none⟩) (lt_of_cell hn84) (fun h => h)).trans hn84
  have hv95 := (hf5.cell (p := ⟨w1.heap.size + 1, 9, none⟩) (lt_of_cell hv94) (fun h => h)).trans hv94
  have hn95 := (hf5.cell (p := ⟨w1.heap.size + 1 + 1, 9, none⟩) (lt_of_cell hn94) (fun h => h)).trans hn94
  have hv105 := (hf5.cell (p := ⟨w1.heap.size + 1, 10, none⟩) (lt_of_cell hv104) (fun h => h)).trans hv104
  have hn105 := (hf5.cell (p := ⟨w1.heap.size + 1 + 1, 10, none⟩) (lt_of_cell hn104) (fun h => h)).trans hn104
  have hv115 := (hf5.cell (p := ⟨w1.heap.size + 1, 11, none⟩) (lt_of_cell hv114) (fun h => h)).trans hv114
  have hn115 := (hf5.cell (p := ⟨w1.heap.size + 1 + 1, 11, none⟩) (lt_of_cell hn114) (fun h => h)).trans hn114
  have hv125 := (hf5.cell (p := ⟨w1.heap.size + 1, 12, none⟩) (lt_of_cell hv124) (fun h => h)).trans hv124
  have hn125 := (hf5.cell (p := ⟨w1.heap.size + 1 + 1, 12, none⟩) (lt_of_cell hn124) (fun h => h)).trans hn124
  have hr05 : w5.cell? ⟨w.heap.size, 0, none⟩ = some (.int .u32 0) := by simp [World.cell?, hrb5]
  have hr15 : w5.cell? ⟨w.heap.size, 1, none⟩ = some (.int .u32 0) := by simp [World.cell?, hrb5]
  have hr25 : w5.cell? ⟨w.heap.size, 2, none⟩ = some (.int .u32 0) := by simp [World.cell?, hrb5]
  have hr35 : w5.cell? ⟨w.heap.size, 3, none⟩ = some (.int .u32 0) := by simp [World.cell?, hrb5]
  have hr45 : w5.cell? ⟨w.heap.size, 4, none⟩ = some (.int .u8 0) := by simp [World.cell?, hrb5]
  have hr55 : w5.cell? ⟨w.heap.size, 5, none⟩ = some (.int .u32 0) := by simp [World.cell?, hrb5]
  have hr65 : w5.cell? ⟨w.heap.size, 6, none⟩ = some (.int .u32 0) := by simp [World.cell?, hrb5]
  have hr75 : w5.cell? ⟨w.heap.size, 7, none⟩ = some (.int .u32 0) := by simp [World.cell?, hrb5]
  have hr85 : w5.cell? ⟨w.heap.size, 8, none⟩ = some (.int .u32 0) := by simp [World.cell?, hrb5]
  have hr95 : w5.cell? ⟨w.heap.size, 9, none⟩ = some (.slice none 0 0) := by simp [World.cell?, hrb5]
  have hr105 : w5.cell? ⟨w.heap.size, 10, none⟩ = some (.string ⟨#[]⟩) := by simp [World.cell?, hrb5]
  have hr115 : w5.cell? ⟨w.heap.size, 11, none⟩ = some (.int .u8 0) := by simp [World.cell?, hrb5]
  have hr125 : w5.cell? ⟨w.heap.size, 12, none⟩ = some (.slice none 0 0) := by simp [World.cell?, hrb5]
  have hrz5 : ∀ i, w5.frozen? ⟨w.heap.size, i, none⟩ = false := fun i => by simp [World.frozen?, hrb5]
  have hrl5 := lt_of_cell hr05
  have hlv5 := lt_of_cell hv05
  have hln5 := lt_of_cell hn05
  have hnr1 : w1.heap.size + 1 ≠ w.heap.size := by omega
  have hnr2 : w1.heap.size + 1 + 1 ≠ w.heap.size := by omega
  have hsF : ∀ (i : Nat) v W, Fr (fun k => k = w.heap.size) w5 W → Fr (fun k => k = w.heap.size) w5 (W.setCell ⟨w.heap.size, i, none⟩ v) := fun i v W h => h.setCell (.inl rfl) v
  have H5 := hide (And.intro hf5 (hEr))
  rcases hEr with ⟨h0, rfl⟩ | ⟨h1', h7, fb, rfl, hb⟩
  · clear hf5
    go_wp2_with fail
    refine bodyPost_ret (v := .tuple #[.agg #[v0, v1, v2, v3, v4, v5, v6, v7, v8, v9, v10, v11, v12], .nilIface]) (by simp [results, Tryz.results44, go_sem, hr05, hr15, hr25, hr35, hr45, hr55, hr65, hr75, hr85, hr95, hr105, hr115, hr125]) rfl ?_
    have hfin : q'.fin.2.2 = 0 := h0
    refine ⟨_, _, rfl, .inl ⟨hfin, rfl⟩, fun h => absurd hfin h, fun _ => ⟨F3, w1.heap.size + 1, ?_, by omega⟩, ?_⟩
    · have hR5 := (unhide H).2.1 _ _ _ _ _ _ _ ((unhide H).2.1 _ _ _ _ _ _ _ (unhide H3).2.2.1 (unhide H4).1 (fun _ _ h => h.elim)) (Stp.of_fr (unhide H5).1 F3 (fun _ _ => False)) (fun _ _ h => h.elim)
      exact (unhide H).2.1 _ _ _ _ _ _ _ hR5 ((((((((((((((Stp.refl w5 F3 (fun k _ => k = w.heap.size)).trans (Stp.set w.heap.size 0 _) (fun k j _ h => h.1)).trans (Stp.set w.heap.size 1 _) (fun k j _ h => h.1)).trans (Stp.set w.heap.size 2 _) (fun k j _ h => h.1)).trans (Stp.set w.heap.size 3 _) (fun k j _ h => h.1)).trans (Stp.set w.heap.size 4 _) (fun k j _ h => h.1)).trans (Stp.set w.heap.size 5 _) (fun k j _ h => h.1)).trans (Stp.set w.heap.size 6 _) (fun k j _ h => h.1)).trans (Stp.set w.heap.size 7 _) (fun k j _ h => h.1)).trans (Stp.set w.heap.size 8 _) (fun k j _ h => h.1)).trans (Stp.set w.heap.size 9 _) (fun k j _ h => h.1)).trans (Stp.set w.heap.size 10 _) (fun k j _ h => h.1)).trans (Stp.set w.heap.size 11 _) (fun k j _ h => h.1)).trans (Stp.set w.heap.size 12 _) (fun k j _ h => h.1)) (fun k j h => h)
    · exact ((((((((((((((unhide H4).2.trans (unhide H5).1 (fun _ _ h => h)).setCell (.inr (Nat.le_refl _)) _).setCell (.inr (Nat.le_refl _)) _).setCell (.inr (Nat.le_refl _)) _).setCell (.inr (Nat.le_refl _)) _).setCell (.inr (Nat.le_refl _)) _).setCell (.inr (Nat.le_refl _)) _).setCell (.inr (Nat.le_refl _)) _).setCell (.inr (Nat.le_refl _)) _).setCell (.inr (Nat.le_refl _)) _).setCell (.inr (Nat.le_refl _)) _).setCell (.inr (Nat.le_refl _)) _).setCell (.inr (Nat.le_refl _)) _).setCell (.inr (Nat.le_refl _)) _
  · have hfb : fb ≠ w.heap.size := fun e => by rw [e, hrb5] at hb; simp [faultObj] at hb
    have HB5 := hide hb
    clear hf5 hb
    go_wp2_with fail
    refine bodyPost_ret (v := .tuple #[.agg #[.int .u32 0, .int .u32 0, .int .u32 0, .int .u32 0, .int .u8 0, .int .u32 0, .int .u32 0, .int .u32 0, .int .u32 0, .slice none 0 0, .string ⟨#[]⟩, .int .u8 0, .slice none 0 0], .iface 124 (.pointer (some ⟨fb, 0, none⟩))]) (by simp [results, Tryz.results44, go_sem, hr05, hr15, hr25, hr35, hr45, hr55, hr65, hr75, hr85, hr95, hr105, hr115, hr125]) rfl ?_
    have hfin : q'.fin.2.2 ≠ 0 := fun e => by have : 1 ≤ q'.fin.2.2 := h1'; omega
    refine ⟨_, _, rfl, .inr ⟨h1', h7, fb, rfl, ?_⟩, fun _ => rfl, fun h => absurd h hfin, ?_⟩
    · rw [Below.heap_setCell _ _ _ _ hfb, Below.heap_setCell _ _ _ _ hfb, Below.heap_setCell _ _ _ _ hfb, Below.heap_setCell _ _ _ _ hfb, Below.heap_setCell _ _ _ _ hfb, Below.heap_setCell _ _ _ _ hfb, Below.heap_setCell _ _ _ _ hfb, Below.heap_setCell _ _ _ _ hfb, Below.heap_setCell _ _ _ _ hfb, Below.heap_setCell _ _ _ _ hfb, Below.heap_setCell _ _ _ _ hfb, Below.heap_setCell _ _ _ _ hfb, Below.heap_setCell _ _ _ _ hfb]
      exact unhide HB5
    · exact ((((((((((((((unhide H4).2.trans (unhide H5).1 (fun _ _ h => h)).setCell (.inr (Nat.le_refl _)) _).setCell (.inr (Nat.le_refl _)) _).setCell (.inr (Nat.le_refl _)) _).setCell (.inr (Nat.le_refl _)) _).setCell (.inr (Nat.le_refl _)) _).setCell (.inr (Nat.le_refl _)) _).setCell (.inr (Nat.le_refl _)) _).setCell (.inr (Nat.le_refl _)) _).setCell (.inr (Nat.le_refl _)) _).setCell (.inr (Nat.le_refl _)) _).setCell (.inr (Nat.le_refl _)) _).setCell (.inr (Nat.le_refl _)) _).setCell (.inr (Nat.le_refl _)) _
end Go.Proofs.YtgpbkdhldakpmaaGreatDoor

namespace Go.Proofs.YtgpbkdhldakpmaaGreatDoor
open Go.RowKit

set_option maxRecDepth 100000 in
theorem PutHead_go (v0 v1 : Value) (w : World) (Q : Ending → World → Prop) (h : Calls Tryz.prog 34 #[.agg #[v0, v1]] (w.alloc (.cells #[v0, v1] 35)) fun e w' => (∃ v err, e = .returned (.tuple #[v, err])) ∧ Q e w') : Calls Tryz.prog 13 #[.agg #[v0, v1]] w fun e w' => (∃ v err, e = .returned (.tuple #[v, err])) ∧ Q e w' := by
  have H := hide h
  clear h
  go_enter Tryz.func13, Tryz.ntmps13
  go_wp2_with fail
  refine (unhide H).mono ?_
  rintro e w' ⟨⟨v, err, rfl⟩, hr⟩
  have HR := hide hr
  clear hr
  go_wp2_with fail
  go_ret2
  exact ⟨⟨v, err, rfl⟩, unhide HR⟩
set_option maxRecDepth 100000 in
theorem PutSigned_go (v0 v1 v2 v3 : Value) (w : World) (Q : Ending → World → Prop) (h : Calls Tryz.prog 39 #[.agg #[v0, v1, v2, v3]] (w.alloc (.cells #[v0, v1, v2, v3] 37)) fun e w' => (∃ v err, e = .returned (.tuple #[v, err])) ∧ Q e w') : Calls Tryz.prog 18 #[.agg #[v0, v1, v2, v3]] w fun e w' => (∃ v err, e = .returned (.tuple #[v, err])) ∧ Q e w' := by
  have H := hide h
  clear h
  go_enter Tryz.func18, Tryz.ntmps18
  go_wp2_with fail
  refine (unhide H).mono ?_
  rintro e w' ⟨⟨v, err, rfl⟩, hr⟩
  have HR := hide hr
  clear hr
  go_wp2_with fail
  go_ret2
  exact ⟨⟨v, err, rfl⟩, unhide HR⟩
set_option maxRecDepth 100000 in
theorem PutProof_go (v0 : Value) (w : World) (Q : Ending → World → Prop) (h : Calls Tryz.prog 40 #[.agg #[v0]] (w.alloc (.cells #[v0] 40)) fun e w' => (∃ v err, e = .returned (.tuple #[v, err])) ∧ Q e w') : Calls Tryz.prog 19 #[.agg #[v0]] w fun e w' => (∃ v err, e = .returned (.tuple #[v, err])) ∧ Q e w' := by
  have H := hide h
  clear h
  go_enter Tryz.func19, Tryz.ntmps19
  go_wp2_with fail
  refine (unhide H).mono ?_
  rintro e w' ⟨⟨v, err, rfl⟩, hr⟩
  have HR := hide hr
  clear hr
  go_wp2_with fail
  go_ret2
  exact ⟨⟨v, err, rfl⟩, unhide HR⟩
set_option maxRecDepth 100000 in
theorem PutRequest_go (v0 v1 v2 v3 v4 v5 v6 v7 v8 v9 : Value) (w : World) (Q : Ending → World → Prop) (h : Calls Tryz.prog 36 #[.agg #[v0, v1, v2, v3, v4, v5, v6, v7, v8, v9]] (w.alloc (.cells #[v0, v1, v2, v3, v4, v5, v6, v7, v8, v9] 27)) fun e w' => (∃ v err, e = .returned (.tuple #[v, err])) ∧ Q e w') : Calls Tryz.prog 15 #[.agg #[v0, v1, v2, v3, v4, v5, v6, v7, v8, v9]] w fun e w' => (∃ v err, e = .returned (.tuple #[v, err])) ∧ Q e w' := by
  have H := hide h
  clear h
  go_enter Tryz.func15, Tryz.ntmps15
  go_wp2_with fail
  refine (unhide H).mono ?_
  rintro e w' ⟨⟨v, err, rfl⟩, hr⟩
  have HR := hide hr
  clear hr
  go_wp2_with fail
  go_ret2
  exact ⟨⟨v, err, rfl⟩, unhide HR⟩
set_option maxRecDepth 100000 in
theorem PutAnswer_go (v0 v1 v2 v3 v4 v5 v6 : Value) (w : World) (Q : Ending → World → Prop) (h : Calls Tryz.prog 37 #[.agg #[v0, v1, v2, v3, v4, v5, v6]] (w.alloc (.cells #[v0, v1, v2, v3, v4, v5, v6] 30)) fun e w' => (∃ v err, e = .returned (.tuple #[v, err])) ∧ Q e w') : Calls Tryz.prog 16 #[.agg #[v0, v1, v2, v3, v4, v5, v6]] w fun e w' => (∃ v err, e = .returned (.tuple #[v, err])) ∧ Q e w' := by
  have H := hide h
  clear h
  go_enter Tryz.func16, Tryz.ntmps16
  go_wp2_with fail
  refine (unhide H).mono ?_
  rintro e w' ⟨⟨v, err, rfl⟩, hr⟩
  have HR := hide hr
  clear hr
  go_wp2_with fail
  go_ret2
  exact ⟨⟨v, err, rfl⟩, unhide HR⟩
set_option maxRecDepth 100000 in
theorem PutEvent_go (v0 v1 v2 v3 v4 v5 v6 v7 v8 v9 v10 v11 v12 : Value) (w : World) (Q : Ending → World → Prop) (h : Calls Tryz.prog 38 #[.agg #[v0, v1, v2, v3, v4, v5, v6, v7, v8, v9, v10, v11, v12]] (w.alloc (.cells #[v0, v1, v2, v3, v4, v5, v6, v7, v8, v9, v10, v11, v12] 33)) fun e w' => (∃ v err, e = .returned (.tuple #[v, err])) ∧ Q e w') : Calls Tryz.prog 17 #[.agg #[v0, v1, v2, v3, v4, v5, v6, v7, v8, v9, v10, v11, v12]] w fun e w' => (∃ v err, e = .returned (.tuple #[v, err])) ∧ Q e w' := by
  have H := hide h
  clear h
  go_enter Tryz.func17, Tryz.ntmps17
  go_wp2_with fail
  refine (unhide H).mono ?_
  rintro e w' ⟨⟨v, err, rfl⟩, hr⟩
  have HR := hide hr
  clear hr
  go_wp2_with fail
  go_ret2
  exact ⟨⟨v, err, rfl⟩, unhide HR⟩
end Go.Proofs.YtgpbkdhldakpmaaGreatDoor

namespace Go.Proofs.YtgpbkdhldakpmaaGreatDoor
open Go.RowKit

def CS.wq : CS → Wq
  | .wr s => s
  | .rd _ => ⟨ByteArray.empty, [], none⟩
def CS.rq : CS → Q
  | .wr _ => ⟨ByteArray.empty, [], 0, 0, none⟩
  | .rd q => q
/-- A new writer, a new reader. -/
def cw0 : CS := .wr ⟨ByteArray.empty, [], none⟩
def cr0 (l : List Nat) : CS := .rd ⟨ByteArray.empty, l, 0, 0, none⟩
theorem cw0_room (n : Nat) (h : n ≤ 1000000) : cw0.room n := by simp only [cw0, CS.room, CS.len, List.length_nil]; omega
theorem room_len {s : Wq} {n : Nat} (h : (CS.wr s).room n) : s.l.length ≤ 140737488355328 := by simp only [CS.room, CS.len] at h; omega
/-- Bytes that come in: they lie in memory that was there. -/
structure SlI (w : World) (x : Value) (l : List Nat) : Prop where
  src : Src w x l
  lt : ∀ g o m c, x = .slice (some ⟨g, o, none⟩) m c → g < w.heap.size
  len : l.length < 9223372036854775808
theorem SlI.bvg {w w1 : World} {x : Value} {l : List Nat} {F : Nat → Prop} (h : SlI w x l) (hf : Fr (fun _ => False) w w1) (hF : ∀ k, F k → w.heap.size ≤ k) (g : Nat) (hg : w.heap.size ≤ g) : BVg w1 x l F g :=
  ⟨⟨h.src.fr hf (fun _ _ _ _ _ h => h), fun k o m c e => ⟨Nat.lt_of_lt_of_le (h.lt k o m c e) hf.size, fun hx => by have := hF k hx; have := h.lt k o m c e; omega⟩⟩, fun k o m c e => by have := h.lt k o m c e; omega, h.len⟩
def headW (size : Nat) (root : List Nat) : Wq := ((cw0.pForm 4).pHead (size, root)).1.wq
def headR (l : List Nat) : CS × Nat × List Nat := ((cr0 l).pForm 4).pHead (0, [])
def signedW (v : (Nat × List Nat) × Nat × List Nat) : Wq := ((cw0.pForm 5).pSigned v).1.wq
def signedR (l : List Nat) : CS × (Nat × List Nat) × Nat × List Nat := ((cr0 l).pForm 5).pSigned ((0, []), 0, [])
def proofW (ps : List (List Nat)) : Wq := ((cw0.pForm 6).pProof ps).1.wq
def proofR (l : List Nat) : CS × List (List Nat) := ((cr0 l).pForm 6).pProof []
theorem SlI.fr0 {w w1 : World} {x : Value} {l : List Nat} (h : SlI w x l) (hf : Fr (fun _ => False) w w1) : SlI w1 x l :=
  ⟨h.src.fr hf (fun _ _ _ _ _ h => h), fun k o m c e => Nat.lt_of_lt_of_le (h.lt k o m c e) hf.size, h.len⟩
/-- What PutX tells. -/
def PutRes (w w' : World) (e : Ending) (s : Wq) (E : Nat → Addr) : Prop := ∃ v err, e = .returned (.tuple #[v, err]) ∧ w'.ownsRow w.heap.size 5 1 v s.out.length (cellsOf s.out) ∧ ErrV w' err (ftV s.f) E ∧ Fr (fun _ => False) w w'
theorem PutRes.box {w w' : World} {e : Ending} {s : Wq} {E : Nat → Addr} {vs : Array Value} {t : TypeId} (h : PutRes (w.alloc (.cells vs t)) w' e s E) : (∃ v err, e = .returned (.tuple #[v, err])) ∧ PutRes w w' e s E := by
  obtain ⟨v, err, rfl, h1, h2, h3⟩ := h
  have hb := box1 w (.cells vs t)
  exact ⟨⟨v, err, rfl⟩, v, err, rfl, ownsRow_base h1 hb.size, h2, hb.trans h3 (fun _ _ h => h)⟩
/-- PutHead. -/
theorem putHead (size : Nat) (root : List Nat) (x : Value) (E : Nat → Addr) (w : World) (hg : G6 w E) (hw : 7 ≤ w.heap.size) (hx : SlI w x root) (hsz : size < 4294967296) :
    Calls Tryz.prog 13 #[.agg #[.int .u32 (size : Nat), x]] w fun e w' => PutRes w w' e (headW size root) E := by
  have hr : (CS.wr (headW size root)).room 0 := CS.pHead_room (n := 0) (CS.pForm_room (cw0_room 3 (by decide)) 4) (size, root)
  obtain ⟨wb, hwb⟩ : ∃ wb, w.alloc (.cells #[.int .u32 (size : Nat), x] 35) = wb := ⟨_, rfl⟩
  have hbx : Fr (fun _ => False) w wb := by rw [← hwb]; exact box1 _ _
  have hx' := hx.fr0 hbx
  have hp := put_Head #[.int .u32 (size : Nat), x] (headW size root) E wb (hg.fr hbx (fun _ h => h.elim)) (by have := hbx.size; omega) (fun w1 cb b F hC hcs hL hF hf => by
    refine (whole_Head cw0 size root x cb b wb.heap.size F E w1 hC (hcs 0 _ rfl) (hcs 1 _ rfl) (hx'.bvg hf (fun k hk => by have := hF k hk; omega) _ (Nat.le_refl _)) hL hsz (cw0_room 3 (by decide))).mono ?_
    rintro e w' ⟨rfl, F', hC', _, x', _, _, hs⟩
    exact ⟨rfl, F', hC', hs.mono (fun k j _ h => h.1)⟩) (room_len hr)
  refine (PutHead_go _ _ w (fun e w' => PutRes w w' e (headW size root) E) ?_).mono (fun e w' h => h.2)
  rw [hwb]
  exact hp.mono (fun e w' h => by rw [← hwb] at h; exact PutRes.box h)
/-- PutSigned. -/
theorem putSigned (size key : Nat) (root sig : List Nat) (x y : Value) (E : Nat → Addr) (w : World) (hg : G6 w E) (hw : 7 ≤ w.heap.size) (hx : SlI w x root) (hy : SlI w y sig) (hsz : size < 4294967296) (hkey : key < 4294967296) :
    Calls Tryz.prog 18 #[.agg #[.int .u32 (size : Nat), x, .int .u32 (key : Nat), y]] w fun e w' => PutRes w w' e (signedW ((size, root), key, sig)) E := by
  have hr : (CS.wr (signedW ((size, root), key, sig))).room 0 := CS.pByt_room (n := 0) (CS.pU32_room (n := 1) (CS.pHead_room (n := 2) (CS.pForm_room (cw0_room 5 (by decide)) 5) (size, root)) _ _ _) _ _ _ _ (fun e => by have := szN_fit [] 0 32768 (fun v : List Nat => v.length) sig e; show sig.length ≤ 32768; omega)
  obtain ⟨wb, hwb⟩ : ∃ wb, w.alloc (.cells #[.int .u32 (size : Nat), x, .int .u32 (key : Nat), y] 37) = wb := ⟨_, rfl⟩
  have hbx : Fr (fun _ => False) w wb := by rw [← hwb]; exact box1 _ _
  have hx' := hx.fr0 hbx
  have hy' := hy.fr0 hbx
  have hp := put_Signed #[.int .u32 (size : Nat), x, .int .u32 (key : Nat), y] (signedW ((size, root), key, sig)) E wb (hg.fr hbx (fun _ h => h.elim)) (by have := hbx.size; omega) (fun w1 cb b F hC hcs hL hF hf => by
    refine (whole_Signed cw0 size key root sig x y cb b wb.heap.size F E w1 hC (hcs 0 _ rfl) (hcs 1 _ rfl) (hcs 2 _ rfl) (hcs 3 _ rfl) (hx'.bvg hf (fun k hk => by have := hF k hk; omega) _ (Nat.le_refl _)) (hy'.bvg hf (fun k hk => by have := hF k hk; omega) _ (Nat.le_refl _)) hL hsz hkey (cw0_room 5 (by decide))).mono ?_
    rintro e w' ⟨rfl, F', hC', _, _, x', y', _, _, _, _, hs⟩
    exact ⟨rfl, F', hC', hs.mono (fun k j _ h => h.1)⟩) (room_len hr)
  refine (PutSigned_go _ _ _ _ w (fun e w' => PutRes w w' e (signedW ((size, root), key, sig)) E) ?_).mono (fun e w' h => h.2)
  rw [hwb]
  exact hp.mono (fun e w' h => by rw [← hwb] at h; exact PutRes.box h)
theorem loopW_wr (ps : List (List Nat)) : ∀ (s : Wq), ∃ s', loopW (fun c v => c.pHash n_hash v) (.wr s) ps = .wr s' := by
  induction ps with
  | nil => intro s; exact ⟨s, rfl⟩
  | cons p ps ih => intro s; exact ih _
theorem loopW_room (ps : List (List Nat)) : ∀ {c : CS} {n : Nat}, c.room (n + ps.length) → (loopW (fun c v => c.pHash n_hash v) c ps).room n := by
  induction ps with
  | nil => intro c n h; exact h
  | cons p ps ih => intro c n h; exact ih (CS.pHash_room (n := n + ps.length) (by simpa [Nat.add_assoc] using h) _ _)
theorem proofW_eq (ps : List (List Nat)) : ((cw0.pForm 6).pProof ps).1 = .wr (proofW ps) := by
  obtain ⟨s, hs⟩ : ∃ s, ((cw0.pForm 6).pProof ps).1 = .wr s := loopW_wr _ _
  unfold proofW
  rw [hs]
  rfl
/-- Slices of bytes that come in. -/
structure PcI (w : World) (xo : Option Addr) (xc : Nat) (ps : List (List Nat)) : Prop where
  cap : ps.length ≤ xc
  len : ps.length < 9223372036854775808
  el : ∀ (j : Nat) p, ps[j]? = some p → ∃ g o x, xo = some ⟨g, o, none⟩ ∧ w.cell? ⟨g, o + j, none⟩ = some x ∧ SlI w x p
theorem PcI.pcv {w w1 : World} {xo : Option Addr} {xc : Nat} {ps : List (List Nat)} {F : Nat → Prop} (h : PcI w xo xc ps) (hf : Fr (fun _ => False) w w1) (hF : ∀ k, F k → w.heap.size ≤ k) : PcV w1 xo xc ps F := by
  refine ⟨h.cap, fun j p hp => ?_⟩
  obtain ⟨g, o, x, h1, h2, h3⟩ := h.el j p hp
  have hlt := lt_of_cell h2
  exact ⟨g, o, x, h1, fun hx => by have := hF g hx; simp only at hlt; omega, (hf.cell (p := ⟨g, o + j, none⟩) hlt (fun h => h)).trans h2, (h3.bvg hf hF w.heap.size (Nat.le_refl _)).bv, h3.len⟩
theorem PcI.fr0 {w w1 : World} {xo : Option Addr} {xc : Nat} {ps : List (List Nat)} (h : PcI w xo xc ps) (hf : Fr (fun _ => False) w w1) : PcI w1 xo xc ps := by
  refine ⟨h.cap, h.len, fun j p hp => ?_⟩
  obtain ⟨g, o, x, h1, h2, h3⟩ := h.el j p hp
  exact ⟨g, o, x, h1, (hf.cell (p := ⟨g, o + j, none⟩) (lt_of_cell h2) (fun h => h)).trans h2, h3.fr0 hf⟩
/-- PutProof. -/
theorem putProof (ps : List (List Nat)) (xo : Option Addr) (xc : Nat) (E : Nat → Addr) (w : World) (hg : G6 w E) (hw : 7 ≤ w.heap.size) (hx : PcI w xo xc ps) :
    Calls Tryz.prog 19 #[.agg #[.slice xo ps.length xc]] w fun e w' => PutRes w w' e (proofW ps) E := by
  have hr : (CS.wr (proofW ps)).room 0 := by
    rw [← proofW_eq]
    refine loopW_room (ps.take (min ps.length 4096)) (n := 0) ?_
    have h2 := CS.pInt_room (n := 4096) (CS.pForm_room (n := 4097) (cw0_room 4098 (by decide)) 6) n_hashes (4096 : Nat) (lrs (4096 : Nat) []) ps.length
    have h3 : (ps.take (min ps.length 4096)).length ≤ 4096 := by rw [List.length_take]; omega
    exact Nat.le_trans (Nat.add_le_add_left (Nat.mul_le_mul_left 40000 (by omega)) _) h2
  obtain ⟨wb, hwb⟩ : ∃ wb, w.alloc (.cells #[.slice xo ps.length xc] 40) = wb := ⟨_, rfl⟩
  have hbx : Fr (fun _ => False) w wb := by rw [← hwb]; exact box1 _ _
  have hx' := hx.fr0 hbx
  have hp := put_Proof #[.slice xo ps.length xc] (proofW ps) E wb (hg.fr hbx (fun _ h => h.elim)) (by have := hbx.size; omega) (fun w1 cb b F hC hcs hL hF hf => by
    refine (whole_Proof_w _ ps xo xc cb b wb.heap.size F E w1 hC (hcs 0 _ rfl) (hL 0) (hx'.pcv hf (fun k hk => by have := hF k hk; omega)) hx.len (cw0_room 5001 (by decide))).mono ?_
    rintro e w' ⟨rfl, F', hC', hs⟩
    exact ⟨rfl, F', by rw [← proofW_eq]; exact hC', hs.mono (fun k j _ h => h.elim)⟩) (room_len hr)
  refine (PutProof_go _ w (fun e w' => PutRes w w' e (proofW ps) E) ?_).mono (fun e w' h => h.2)
  rw [hwb]
  exact hp.mono (fun e w' h => by rw [← hwb] at h; exact PutRes.box h)
end Go.Proofs.YtgpbkdhldakpmaaGreatDoor

namespace Go.Proofs.YtgpbkdhldakpmaaGreatDoor
open Go.RowKit

theorem sm_wq {s : Wq} {c : CS} (h : (CS.wr s).sm c) : c = .wr c.wq := by
  cases c with
  | wr s' => rfl
  | rd q => obtain ⟨_, e⟩ := h.2 q rfl; cases e
theorem sm_rq {q : Q} {c : CS} (h : (CS.rd q).sm c) : c = .rd c.rq := by
  cases c with
  | wr s' => obtain ⟨_, e⟩ := h.1 s' rfl; cases e
  | rd q => rfl
theorem loopW_sm {α : Type} (each : CS → α → CS × α) (he : ∀ (c : CS) (v : α), c.sm (each c v).1) : ∀ (xs : List α) (c : CS), c.sm (loopW each c xs)
  | [], c => CS.sm_refl c
  | x :: xs, c => CS.sm_trans (he c x) (loopW_sm each he xs _)
theorem loopR_sm {α : Type} (each : CS → α → CS × α) (z : α) (he : ∀ (c : CS) (v : α), c.sm (each c v).1) (c : CS) : ∀ n, c.sm (loopR each z n c).1
  | 0 => CS.sm_refl c
  | n + 1 => CS.sm_trans (loopR_sm each z he c n) (he _ _)
theorem loopW_room4 : ∀ (xs : List SuM) {c : CS} {n : Nat}, c.room (n + 4 * xs.length) → (loopW (fun c v => c.pSummary v) c xs).room n
  | [], c, n, h => by simpa [loopW] using h
  | x :: xs, c, n, h => loopW_room4 xs (CS.pSummary_room (n := n + 4 * xs.length) (CS.room_le h (by simp; omega)) x)
theorem CS.pInt_sm (c : CS) (nm : ByteArray) (m : Int) (rs : List (Int → Nat)) (v : Nat) : c.sm (c.pInt nm m rs v).1 := by
  cases c with
  | wr s => exact CS.sm_wr _ _
  | rd q => exact CS.sm_rd _ _
theorem CS.pHist_sm (c : CS) (l : List SuM) : c.sm (c.pHist l).1 := by
  cases c with
  | wr s => exact CS.sm_trans (CS.pInt_sm _ _ _ _ _) (loopW_sm _ CS.pSummary_sm _ _)
  | rd q => exact CS.sm_trans (CS.pInt_sm _ _ _ _ _) (loopR_sm _ _ CS.pSummary_sm _ _)
theorem CS.pHist_room (s : Wq) {n : Nat} (h : (CS.wr s).room (n + 257)) (l : List SuM) : ((CS.wr s).pHist l).1.room n := by
  have h1 := CS.pInt_room (c := .wr s) (n := n + 256) h n_history 64 (lrs 64 []) l.length
  exact loopW_room4 _ (CS.room_le h1 (by simp; omega))
theorem CS.pAnswer_sm (c : CS) (v : AnM) : c.sm (c.pAnswer v).1 := CS.sm_trans (CS.sm_trans (CS.sm_trans (CS.sm_trans (CS.sm_trans (c.pId_sm _) (CS.pU8_sm _ _ _ _)) (CS.pU32_sm _ _ _ _)) (CS.pU32_sm _ _ _ _)) (CS.pFields_sm _ _ _ _)) (CS.pHist_sm _ _)
theorem CS.pHash_sm2 (c : CS) (nm : ByteArray) (v : List Nat) : c.sm (c.pHash nm v).1 := by
  cases c with
  | wr s => exact CS.sm_wr _ _
  | rd q => exact CS.sm_rd _ _
theorem CS.pEvent_sm (c : CS) (v : EvM) : c.sm (c.pEvent v).1 := CS.sm_trans (CS.sm_trans (CS.sm_trans (CS.pU32_sm _ _ _ _) (CS.pRequest_sm _ _)) (CS.pU8_sm _ _ _ _)) (CS.pHash_sm2 _ _ _)
def requestW (v : RqM) : Wq := ((cw0.pForm 1).pRequest v).1.wq
def answerW (v : AnM) : Wq := ((cw0.pForm 2).pAnswer v).1.wq
def eventW (v : EvM) : Wq := ((cw0.pForm 3).pEvent v).1.wq
def requestR (l : List Nat) : CS × RqM := ((cr0 l).pForm 1).pRequest ⟨0, 0, 0, 0, 0, 0, 0, 0, [], ⟨#[]⟩⟩
def answerR (l : List Nat) : CS × AnM := ((cr0 l).pForm 2).pAnswer ⟨0, 0, 0, 0, 0, [], []⟩
def eventR (l : List Nat) : CS × EvM := ((cr0 l).pForm 3).pEvent ⟨0, ⟨0, 0, 0, 0, 0, 0, 0, 0, [], ⟨#[]⟩⟩, 0, []⟩
theorem requestW_eq (v : RqM) : ((cw0.pForm 1).pRequest v).1 = .wr (requestW v) := sm_wq (CS.sm_trans (CS.pForm_sm cw0 1) (CS.pRequest_sm _ _))
theorem answerW_eq (v : AnM) : ((cw0.pForm 2).pAnswer v).1 = .wr (answerW v) := sm_wq (CS.sm_trans (CS.pForm_sm cw0 2) (CS.pAnswer_sm _ _))
theorem eventW_eq (v : EvM) : ((cw0.pForm 3).pEvent v).1 = .wr (eventW v) := sm_wq (CS.sm_trans (CS.pForm_sm cw0 3) (CS.pEvent_sm _ _))
theorem requestR_eq (l : List Nat) : (requestR l).1 = .rd (requestR l).1.rq := sm_rq (CS.sm_trans (CS.pForm_sm (cr0 l) 1) (CS.pRequest_sm _ _))
theorem answerR_eq (l : List Nat) : (answerR l).1 = .rd (answerR l).1.rq := sm_rq (CS.sm_trans (CS.pForm_sm (cr0 l) 2) (CS.pAnswer_sm _ _))
theorem eventR_eq (l : List Nat) : (eventR l).1 = .rd (eventR l).1.rq := sm_rq (CS.sm_trans (CS.pForm_sm (cr0 l) 3) (CS.pEvent_sm _ _))
theorem requestW_room (v : RqM) : (CS.wr (requestW v)).room 0 := by
  rw [← requestW_eq]
  exact CS.pRequest_room (n := 0) (CS.pForm_room (cw0_room 141 (by decide)) 1) v
theorem answerW_room (v : AnM) : (CS.wr (answerW v)).room 0 := by
  rw [← answerW_eq]
  have R0 : (cw0.pForm 2).room 500 := CS.pForm_room (cw0_room 501 (by decide)) 2
  have R1 : ((cw0.pForm 2).a1 v).1.room 498 := CS.pId_room R0 _
  have R2 : ((cw0.pForm 2).a2 v).1.room 497 := CS.pU8_room R1 _ _ _
  have R3 : ((cw0.pForm 2).a3 v).1.room 496 := CS.pU32_room R2 _ _ _
  have R4 : ((cw0.pForm 2).a4 v).1.room 495 := CS.pU32_room R3 _ _ _
  have R5 : ((cw0.pForm 2).a5 v).1.room 366 := CS.pFields_room R4 _ _ _
  have M5 : (cw0.pForm 2).sm ((cw0.pForm 2).a5 v).1 := CS.sm_trans (CS.sm_trans (CS.sm_trans (CS.sm_trans (CS.pId_sm _ _) (CS.pU8_sm _ _ _ _)) (CS.pU32_sm _ _ _ _)) (CS.pU32_sm _ _ _ _)) (CS.pFields_sm _ _ _ _)
  have e := sm_wq (CS.sm_trans (CS.pForm_sm cw0 2) M5)
  show (((cw0.pForm 2).a5 v).1.pHist v.hi).1.room 0
  rw [e] at R5 ⊢
  exact CS.pHist_room _ (CS.room_le R5 (by decide)) _
theorem eventW_room (v : EvM) : (CS.wr (eventW v)).room 0 := by
  rw [← eventW_eq]
  exact CS.pHash_room (CS.pU8_room (CS.pRequest_room (CS.pU32_room (CS.pForm_room (cw0_room 144 (by decide)) 3) _ _ _) _) _ _ _) _ _
/-- Fields that come in; summaries that come in. -/
structure FdI (w : World) (x : Value) (l : List Fld) : Prop where
  v : ∃ xo xc, x = .slice xo l.length xc ∧ FdV w xo xc l (fun _ => False)
  len : l.length < 9223372036854775808
structure SuI (w : World) (x : Value) (l : List SuM) : Prop where
  v : ∃ xo xc, x = .slice xo l.length xc ∧ SuV w xo xc l (fun _ => False)
  len : l.length < 9223372036854775808
theorem FdI.fr0 {w w1 : World} {x : Value} {l : List Fld} (h : FdI w x l) (hf : Fr (fun _ => False) w w1) : FdI w1 x l := by
  obtain ⟨⟨xo, xc, e, hv⟩, hn⟩ := h
  exact ⟨⟨xo, xc, e, hv.stp (Stp.of_fr hf _ (fun _ _ => False)) (fun _ _ _ _ _ h => h)⟩, hn⟩
theorem SuI.fr0 {w w1 : World} {x : Value} {l : List SuM} (h : SuI w x l) (hf : Fr (fun _ => False) w w1) : SuI w1 x l := by
  obtain ⟨⟨xo, xc, e, hv⟩, hn⟩ := h
  exact ⟨⟨xo, xc, e, hv.stp (Stp.of_fr hf _ (fun _ _ => False)) (fun _ _ _ _ _ h => h)⟩, hn⟩
theorem FdI.fdx {w w1 : World} {x : Value} {l : List Fld} {F : Nat → Prop} {s : Wq} (h : FdI w x l) (hf : Fr (fun _ => False) w w1) (hF : ∀ k, F k → w.heap.size ≤ k) (g : Nat) (hg : w.heap.size ≤ g) : FdX w1 (.wr s) x l F g := by
  obtain ⟨⟨xo, xc, e, hv⟩, hn⟩ := h
  have hv1 := hv.stp (Stp.of_fr hf _ (fun _ _ => False)) (fun _ _ _ _ _ h => h)
  refine ⟨fun _ _ => ⟨xo, xc, e, ⟨hv.cap, fun j f hj => ?_⟩, fun g' o' e' hl => ?_⟩, fun q e => (by cases e), hn⟩
  · obtain ⟨h0, g', o, h1, _, h3⟩ := hv.el j f hj
    obtain ⟨_, g2, o2, h1', _, h3'⟩ := hv1.el j f hj
    obtain ⟨rfl, rfl⟩ : g2 = g' ∧ o2 = o := by rw [h1] at h1'; injection h1' with e1; injection e1 with e2 e3; exact ⟨e2.symm, e3.symm⟩
    have hlt : g2 < w.heap.size := lt_of_cell h3.1
    exact ⟨h0, g2, o2, h1, fun hx => by have := hF g2 hx; omega, h3'⟩
  · obtain ⟨f, hj⟩ : ∃ f, l[0]? = some f := by cases l with
      | nil => exact absurd rfl hl
      | cons a t => exact ⟨a, rfl⟩
    obtain ⟨_, g2, o2, h1, _, h3⟩ := hv.el 0 f hj
    rw [e'] at h1
    injection h1 with e1
    injection e1 with e2 e3
    have hlt : g2 < w.heap.size := lt_of_cell h3.1
    omega
theorem SuI.sux {w w1 : World} {x : Value} {l : List SuM} {F : Nat → Prop} {s : Wq} (h : SuI w x l) (hf : Fr (fun _ => False) w w1) (hF : ∀ k, F k → w.heap.size ≤ k) (g : Nat) (hg : w.heap.size ≤ g) : SuX w1 (.wr s) x l F g := by
  obtain ⟨⟨xo, xc, e, hv⟩, hn⟩ := h
  have hv1 := hv.stp (Stp.of_fr hf _ (fun _ _ => False)) (fun _ _ _ _ _ h => h)
  refine ⟨fun _ _ => ⟨xo, xc, e, ⟨hv.cap, fun j f hj => ?_⟩, fun g' o' e' hl => ?_⟩, fun q e => (by cases e), hn⟩
  · obtain ⟨h0, g', o, h1, _, h3⟩ := hv.el j f hj
    obtain ⟨_, g2, o2, h1', _, h3'⟩ := hv1.el j f hj
    obtain ⟨rfl, rfl⟩ : g2 = g' ∧ o2 = o := by rw [h1] at h1'; injection h1' with e1; injection e1 with e2 e3; exact ⟨e2.symm, e3.symm⟩
    have hlt : g2 < w.heap.size := lt_of_cell h3.1
    exact ⟨h0, g2, o2, h1, fun hx => by have := hF g2 hx; omega, h3'⟩
  · obtain ⟨f, hj⟩ : ∃ f, l[0]? = some f := by cases l with
      | nil => exact absurd rfl hl
      | cons a t => exact ⟨a, rfl⟩
    obtain ⟨_, g2, o2, h1, _, h3⟩ := hv.el 0 f hj
    rw [e'] at h1
    injection h1 with e1
    injection e1 with e2 e3
    have hlt : g2 < w.heap.size := lt_of_cell h3.1
    omega
/-- A request's, an answer's, an event's values. -/
def RqM.vals (v : RqM) (x : Value) : Array Value := #[.int .u32 (v.cl : Nat), .int .u32 (v.nu : Nat), .int .u32 (v.ac : Nat), .int .u8 (v.op : Nat), .int .u32 (v.re : Nat), .int .u32 (v.ve : Nat), .int .u32 (v.wa : Nat), .int .u32 (v.ow : Nat), x, .string v.rs]
def AnM.vals (v : AnM) (x y : Value) : Array Value := #[.int .u32 (v.cl : Nat), .int .u32 (v.nu : Nat), .int .u8 (v.co : Nat), .int .u32 (v.re : Nat), .int .u32 (v.ve : Nat), x, y]
def EvM.vals (v : EvM) (x y : Value) : Array Value := #[.int .u32 (v.pl : Nat), .int .u32 (v.rq.cl : Nat), .int .u32 (v.rq.nu : Nat), .int .u32 (v.rq.ac : Nat), .int .u8 (v.rq.op : Nat), .int .u32 (v.rq.re : Nat), .int .u32 (v.rq.ve : Nat), .int .u32 (v.rq.wa : Nat), .int .u32 (v.rq.ow : Nat), x, .string v.rq.rs, .int .u8 (v.co : Nat), y]
set_option maxRecDepth 100000 in
/-- PutRequest. -/
theorem putRequest (v : RqM) (x : Value) (E : Nat → Addr) (w : World) (hg : G6 w E) (hw : 7 ≤ w.heap.size) (hx : FdI w x v.fs) (hv : v.ok) :
    Calls Tryz.prog 15 #[.agg (v.vals x)] w fun e w' => PutRes w w' e (requestW v) E := by
  have hr := requestW_room v
  obtain ⟨wb, hwb⟩ : ∃ wb, w.alloc (.cells (v.vals x) 27) = wb := ⟨_, rfl⟩
  have hbx : Fr (fun _ => False) w wb := by rw [← hwb]; exact box1 _ _
  have hx' := hx.fr0 hbx
  have hp := put_Request (v.vals x) (requestW v) E wb (hg.fr hbx (fun _ h => h.elim)) (by have := hbx.size; omega) (fun w1 cb b F hC hcs hL hF hf => by
    have hF' : ∀ k, F k → wb.heap.size ≤ k := fun k hk => by have := hF k hk; omega
    refine (whole_Request cw0 v x cb b wb.heap.size F E w1 hC ⟨hcs 0 _ rfl, hcs 1 _ rfl, hcs 2 _ rfl, hcs 3 _ rfl, hcs 4 _ rfl, hcs 5 _ rfl, hcs 6 _ rfl, hcs 7 _ rfl, hcs 8 _ rfl, hcs 9 _ rfl⟩ (hx'.fdx hf hF' _ (Nat.le_refl _)) hL hv (cw0_room 221 (by decide))).mono ?_
    rintro e w' ⟨rfl, F', _, hC', _, _, hs⟩
    exact ⟨rfl, F', by rw [← requestW_eq]; exact hC', hs.mono (fun k j _ h => h.1)⟩) (room_len hr)
  refine (PutRequest_go _ _ _ _ _ _ _ _ _ _ w (fun e w' => PutRes w w' e (requestW v) E) ?_).mono (fun e w' h => h.2)
  show Calls Tryz.prog 36 #[.agg (v.vals x)] (w.alloc (.cells (v.vals x) 27)) _
  rw [hwb]
  exact hp.mono (fun e w' h => by rw [← hwb] at h; exact PutRes.box h)
set_option maxRecDepth 100000 in
/-- PutAnswer. -/
theorem putAnswer (v : AnM) (x y : Value) (E : Nat → Addr) (w : World) (hg : G6 w E) (hw : 7 ≤ w.heap.size) (hx : FdI w x v.fs) (hy : SuI w y v.hi) (hv : v.ok) :
    Calls Tryz.prog 16 #[.agg (v.vals x y)] w fun e w' => PutRes w w' e (answerW v) E := by
  have hr := answerW_room v
  obtain ⟨wb, hwb⟩ : ∃ wb, w.alloc (.cells (v.vals x y) 30) = wb := ⟨_, rfl⟩
  have hbx : Fr (fun _ => False) w wb := by rw [← hwb]; exact box1 _ _
  have hx' := hx.fr0 hbx
  have hy' := hy.fr0 hbx
  have hp := put_Answer (v.vals x y) (answerW v) E wb (hg.fr hbx (fun _ h => h.elim)) (by have := hbx.size; omega) (fun w1 cb b F hC hcs hL hF hf => by
    have hF' : ∀ k, F k → wb.heap.size ≤ k := fun k hk => by have := hF k hk; omega
    refine (whole_Answer cw0 v x y cb b wb.heap.size F E w1 hC ⟨hcs 0 _ rfl, hcs 1 _ rfl, hcs 2 _ rfl, hcs 3 _ rfl, hcs 4 _ rfl, hcs 5 _ rfl, hcs 6 _ rfl⟩ (hx'.fdx hf hF' _ (Nat.le_refl _)) (hy'.sux hf hF' _ (Nat.le_refl _)) hL hv (cw0_room 501 (by decide))).mono ?_
    rintro e w' ⟨rfl, F', _, _, hC', _, _, _, hs⟩
    exact ⟨rfl, F', by rw [← answerW_eq]; exact hC', hs.mono (fun k j _ h => h.1)⟩) (room_len hr)
  refine (PutAnswer_go _ _ _ _ _ _ _ w (fun e w' => PutRes w w' e (answerW v) E) ?_).mono (fun e w' h => h.2)
  show Calls Tryz.prog 37 #[.agg (v.vals x y)] (w.alloc (.cells (v.vals x y) 30)) _
  rw [hwb]
  exact hp.mono (fun e w' h => by rw [← hwb] at h; exact PutRes.box h)
set_option maxRecDepth 100000 in
/-- PutEvent. -/
theorem putEvent (v : EvM) (x y : Value) (E : Nat → Addr) (w : World) (hg : G6 w E) (hw : 7 ≤ w.heap.size) (hx : FdI w x v.rq.fs) (hy : SlI w y v.dg) (hv : v.ok) :
    Calls Tryz.prog 17 #[.agg (v.vals x y)] w fun e w' => PutRes w w' e (eventW v) E := by
  have hr := eventW_room v
  obtain ⟨wb, hwb⟩ : ∃ wb, w.alloc (.cells (v.vals x y) 33) = wb := ⟨_, rfl⟩
  have hbx : Fr (fun _ => False) w wb := by rw [← hwb]; exact box1 _ _
  have hx' := hx.fr0 hbx
  have hy' := hy.fr0 hbx
  have hp := put_Event (v.vals x y) (eventW v) E wb (hg.fr hbx (fun _ h => h.elim)) (by have := hbx.size; omega) (fun w1 cb b F hC hcs hL hF hf => by
    have hF' : ∀ k, F k → wb.heap.size ≤ k := fun k hk => by have := hF k hk; omega
    refine (whole_Event cw0 v x y cb b wb.heap.size F E w1 hC ⟨hcs 0 _ rfl, ⟨hcs 1 _ rfl, hcs 2 _ rfl, hcs 3 _ rfl, hcs 4 _ rfl, hcs 5 _ rfl, hcs 6 _ rfl, hcs 7 _ rfl, hcs 8 _ rfl, hcs 9 _ rfl, hcs 10 _ rfl⟩, hcs 11 _ rfl, hcs 12 _ rfl⟩ (hx'.fdx hf hF' _ (Nat.le_refl _)) (hy'.bvg hf hF' _ (Nat.le_refl _)) hL hv (cw0_room 231 (by decide))).mono ?_
    rintro e w' ⟨rfl, F', _, _, hC', _, _, _, hs⟩
    exact ⟨rfl, F', by rw [← eventW_eq]; exact hC', hs.mono (fun k j _ h => h.1)⟩) (room_len hr)
  refine (PutEvent_go _ _ _ _ _ _ _ _ _ _ _ _ _ w (fun e w' => PutRes w w' e (eventW v) E) ?_).mono (fun e w' h => h.2)
  show Calls Tryz.prog 38 #[.agg (v.vals x y)] (w.alloc (.cells (v.vals x y) 33)) _
  rw [hwb]
  exact hp.mono (fun e w' h => by rw [← hwb] at h; exact PutRes.box h)
end Go.Proofs.YtgpbkdhldakpmaaGreatDoor

namespace Go.Proofs.YtgpbkdhldakpmaaGreatDoor
open Go.RowKit

set_option maxRecDepth 100000 in
set_option maxHeartbeats 2000000 in
theorem GetRequest_go (xo : Option Addr) (n xc : Nat) (w : World) (Q : World → Array Value → Value → Prop) (h : Calls Tryz.prog 42 #[.slice xo n xc] (w.alloc (.cells #[.int .u32 0, .int .u32 0, .int .u32 0, .int .u8 0, .int .u32 0, .int .u32 0, .int .u32 0, .int .u32 0, .slice none 0 0, .string ⟨#[]⟩] 27)) fun e w' => ∃ v0 v1 v2 v3 v4 v5 v6 v7 v8 v9 err, e = .returned (.tuple #[.agg #[v0, v1, v2, v3, v4, v5, v6, v7, v8, v9], err]) ∧ (∀ v ∈ ([v0, v1, v2, v3, v4, v5, v6, v7, v8, v9] : List Value), v.oneCell' = true) ∧ Fr (fun _ => False) (w.alloc (.cells #[.int .u32 0, .int .u32 0, .int .u32 0, .int .u8 0, .int .u32 0, .int .u32 0, .int .u32 0, .int .u32 0, .slice none 0 0, .string ⟨#[]⟩] 27)) w' ∧ Q w' #[v0, v1, v2, v3, v4, v5, v6, v7, v8, v9] err) :
    Calls Tryz.prog 21 #[.slice xo n xc] w fun e w' => ∃ vs err, e = .returned (.tuple #[.agg vs, err]) ∧ ∃ w2, Q w2 vs err ∧ Fr (fun k => k = w.heap.size) w2 w' ∧ (∀ F, Stp w2 w' F F (fun k _ => k = w.heap.size)) ∧ Fr (fun _ => False) w w' ∧ w2.heap[w.heap.size]? = some (.cells #[.int .u32 0, .int .u32 0, .int .u32 0, .int .u8 0, .int .u32 0, .int .u32 0, .int .u32 0, .int .u32 0, .slice none 0 0, .string ⟨#[]⟩] 27) := by
  have H := hide h
  clear h
  go_enter Tryz.func21, Tryz.ntmps21
  go_wp2_with fail
  refine (unhide H).mono ?_
  rintro e w5 ⟨v0, v1, v2, v3, v4, v5, v6, v7, v8, v9, err, rfl, hone, hf5, hq⟩
  have hst0 : ∀ (a : Addr) (m : Mode) (W : World), (store a v0 m).run Tryz.prog W = stored Tryz.prog W a v0 m := fun _ _ _ => run_store _ _ _ _ _ (hone v0 (by simp))
  have hst1 : ∀ (a : Addr) (m : Mode) (W : World), (store a v1 m).run Tryz.prog W = stored Tryz.prog W a v1 m := fun _ _ _ => run_store _ _ _ _ _ (hone v1 (by simp))
  have hst2 : ∀ (a : Addr) (m : Mode) (W : World), (store a v2 m).run Tryz.prog W = stored Tryz.prog W a v2 m := fun _ _ _ => run_store _ _ _ _ _ (hone v2 (by simp))
  have hst3 : ∀ (a : Addr) (m : Mode) (W : World), (store a v3 m).run Tryz.prog W = stored Tryz.prog W a v3 m := fun _ _ _ => run_store _ _ _ _ _ (hone v3 (by simp))
  have hst4 : ∀ (a : Addr) (m : Mode) (W : World), (store a v4 m).run Tryz.prog W = stored Tryz.prog W a v4 m := fun _ _ _ => run_store _ _ _ _ _ (hone v4 (by simp))
  have hst5 : ∀ (a : Addr) (m : Mode) (W : World), (store a v5 m).run Tryz.prog W = stored Tryz.prog W a v5 m := fun _ _ _ => run_store _ _ _ _ _ (hone v5 (by simp))
  have hst6 : ∀ (a : Addr) (m : Mode) (W : World), (store a v6 m).run Tryz.prog W = stored Tryz.prog W a v6 m := fun _ _ _ => run_store _ _ _ _ _ (hone v6 (by simp))
  have hst7 : ∀ (a : Addr) (m : Mode) (W : World), (store a v7 m).run Tryz.prog W = stored Tryz.prog W a v7 m := fun _ _ _ => run_store _ _ _ _ _ (hone v7 (by simp))
  have hst8 : ∀ (a : Addr) (m : Mode) (W : World), (store a v8 m).run Tryz.prog W = stored Tryz.prog W a v8 m := fun _ _ _ => run_store _ _ _ _ _ (hone v8 (by simp))
  have hst9 : ∀ (a : Addr) (m : Mode) (W : World), (store a v9 m).run Tryz.prog W = stored Tryz.prog W a v9 m := fun _ _ _ => run_store _ _ _ _ _ (hone v9 (by simp))
  have hrb5 : w5.heap[w.heap.size]? = some (.cells #[.int .u32 0, .int .u32 0, .int .u32 0, .int .u8 0, .int .u32 0, .int .u32 0, .int .u32 0, .int .u32 0, .slice none 0 0, .string ⟨#[]⟩] 27) := (hf5.block w.heap.size (by simp) (fun h => h)).trans (heap_alloc_new _ _)
  have hr05 : w5.cell? ⟨w.heap.size, 0, none⟩ = some (.int .u32 0) := by simp [World.cell?, hrb5]
  have hr15 : w5.cell? ⟨w.heap.size, 1, none⟩ = some (.int .u32 0) := by simp [World.cell?, hrb5]
  have hr25 : w5.cell? ⟨w.heap.size, 2, none⟩ = some (.int .u32 0) := by simp [World.cell?, hrb5]
  have hr35 : w5.cell? ⟨w.heap.size, 3, none⟩ = some (.int .u8 0) := by simp [World.cell?, hrb5]
  have hr45 : w5.cell? ⟨w.heap.size, 4, none⟩ = some (.int .u32 0) := by simp [World.cell?, hrb5]
  have hr55 : w5.cell? ⟨w.heap.size, 5, none⟩ = some (.int .u32 0) := by simp [World.cell?, hrb5]
  have hr65 : w5.cell? ⟨w.heap.size, 6, none⟩ = some (.int .u32 0) := by simp [World.cell?, hrb5]
  have hr75 : w5.cell? ⟨w.heap.size, 7, none⟩ = some (.int .u32 0) := by simp [World.cell?, hrb5]
  have hr85 : w5.cell? ⟨w.heap.size, 8, none⟩ = some (.slice none 0 0) := by simp [World.cell?, hrb5]
  have hr95 : w5.cell? ⟨w.heap.size, 9, none⟩ = some (.string ⟨#[]⟩) := by simp [World.cell?, hrb5]
  have hrz5 : ∀ i, w5.frozen? ⟨w.heap.size, i, none⟩ = false := fun i => by simp [World.frozen?, hrb5]
  have hrl5 := lt_of_cell hr05
  have H5 := hide (And.intro hf5 (And.intro hq hrb5))
  clear hf5 hq hone hrb5
  go_wp2_with fail
  refine bodyPost_ret (v := .tuple #[.agg #[v0, v1, v2, v3, v4, v5, v6, v7, v8, v9], err]) (by simp [results, Tryz.results21, go_sem, hr05, hr15, hr25, hr35, hr45, hr55, hr65, hr75, hr85, hr95]) rfl ?_
  have hf05 : Fr (fun _ => False) w w5 := (box1 w _).trans (unhide H5).1 (fun _ _ h => h)
  exact ⟨_, _, rfl, w5, (unhide H5).2.1, ((((((((((Fr.refl (fun k => k = w.heap.size) w5).setCell (.inl rfl) _).setCell (.inl rfl) _).setCell (.inl rfl) _).setCell (.inl rfl) _).setCell (.inl rfl) _).setCell (.inl rfl) _).setCell (.inl rfl) _).setCell (.inl rfl) _).setCell (.inl rfl) _).setCell (.inl rfl) _, fun F => ((((((((((Stp.refl w5 F (fun k _ => k = w.heap.size)).trans (Stp.set w.heap.size 0 _) (fun k j _ h => h.1)).trans (Stp.set w.heap.size 1 _) (fun k j _ h => h.1)).trans (Stp.set w.heap.size 2 _) (fun k j _ h => h.1)).trans (Stp.set w.heap.size 3 _) (fun k j _ h => h.1)).trans (Stp.set w.heap.size 4 _) (fun k j _ h => h.1)).trans (Stp.set w.heap.size 5 _) (fun k j _ h => h.1)).trans (Stp.set w.heap.size 6 _) (fun k j _ h => h.1)).trans (Stp.set w.heap.size 7 _) (fun k j _ h => h.1)).trans (Stp.set w.heap.size 8 _) (fun k j _ h => h.1)).trans (Stp.set w.heap.size 9 _) (fun k j _ h => h.1), ((((((((((hf05).setCell (.inr (Nat.le_refl _)) _).setCell (.inr (Nat.le_refl _)) _).setCell (.inr (Nat.le_refl _)) _).setCell (.inr (Nat.le_refl _)) _).setCell (.inr (Nat.le_refl _)) _).setCell (.inr (Nat.le_refl _)) _).setCell (.inr (Nat.le_refl _)) _).setCell (.inr (Nat.le_refl _)) _).setCell (.inr (Nat.le_refl _)) _).setCell (.inr (Nat.le_refl _)) _, (unhide H5).2.2⟩
set_option maxRecDepth 100000 in
set_option maxHeartbeats 2000000 in
theorem GetAnswer_go (xo : Option Addr) (n xc : Nat) (w : World) (Q : World → Array Value → Value → Prop) (h : Calls Tryz.prog 43 #[.slice xo n xc] (w.alloc (.cells #[.int .u32 0, .int .u32 0, .int .u8 0, .int .u32 0, .int .u32 0, .slice none 0 0, .slice none 0 0] 30)) fun e w' => ∃ v0 v1 v2 v3 v4 v5 v6 err, e = .returned (.tuple #[.agg #[v0, v1, v2, v3, v4, v5, v6], err]) ∧ (∀ v ∈ ([v0, v1, v2, v3, v4, v5, v6] : List Value), v.oneCell' = true) ∧ Fr (fun _ => False) (w.alloc (.cells #[.int .u32 0, .int .u32 0, .int .u8 0, .int .u32 0, .int .u32 0, .slice none 0 0, .slice none 0 0] 30)) w' ∧ Q w' #[v0, v1, v2, v3, v4, v5, v6] err) :
    Calls Tryz.prog 22 #[.slice xo n xc] w fun e w' => ∃ vs err, e = .returned (.tuple #[.agg vs, err]) ∧ ∃ w2, Q w2 vs err ∧ Fr (fun k => k = w.heap.size) w2 w' ∧ (∀ F, Stp w2 w' F F (fun k _ => k = w.heap.size)) ∧ Fr (fun _ => False) w w' ∧ w2.heap[w.heap.size]? = some (.cells #[.int .u32 0, .int .u32 0, .int .u8 0, .int .u32 0, .int .u32 0, .slice none 0 0, .slice none 0 0] 30) := by
  have H := hide h
  clear h
  go_enter Tryz.func22, Tryz.ntmps22
  go_wp2_with fail
  refine (unhide H).mono ?_
  rintro e w5 ⟨v0, v1, v2, v3, v4, v5, v6, err, rfl, hone, hf5, hq⟩
  have hst0 : ∀ (a : Addr) (m : Mode) (W : World), (store a v0 m).run Tryz.prog W = stored Tryz.prog W a v0 m := fun _ _ _ => run_store _ _ _ _ _ (hone v0 (by simp))
  have hst1 : ∀ (a : Addr) (m : Mode) (W : World), (store a v1 m).run Tryz.prog W = stored Tryz.prog W a v1 m := fun _ _ _ => run_store _ _ _ _ _ (hone v1 (by simp))
  have hst2 : ∀ (a : Addr) (m : Mode) (W : World), (store a v2 m).run Tryz.prog W = stored Tryz.prog W a v2 m := fun _ _ _ => run_store _ _ _ _ _ (hone v2 (by simp))
  have hst3 : ∀ (a : Addr) (m : Mode) (W : World), (store a v3 m).run Tryz.prog W = stored Tryz.prog W a v3 m := fun _ _ _ => run_store _ _ _ _ _ (hone v3 (by simp))
  have hst4 : ∀ (a : Addr) (m : Mode) (W : World), (store a v4 m).run Tryz.prog W = stored Tryz.prog W a v4 m := fun _ _ _ => run_store _ _ _ _ _ (hone v4 (by simp))
  have hst5 : ∀ (a : Addr) (m : Mode) (W : World), (store a v5 m).run Tryz.prog W = stored Tryz.prog W a v5 m := fun _ _ _ => run_store _ _ _ _ _ (hone v5 (by simp))
  have hst6 : ∀ (a : Addr) (m : Mode) (W : World), (store a v6 m).run Tryz.prog W = stored Tryz.prog W a v6 m := fun _ _ _ => run_store _ _ _ _ _ (hone v6 (by simp))
  have hrb5 : w5.heap[w.heap.size]? = some (.cells #[.int .u32 0, .int .u32 0, .int .u8 0, .int .u32 0, .int .u32 0, .slice none 0 0, .slice none 0 0] 30) := (hf5.block w.heap.size (by simp) (fun h => h)).trans (heap_alloc_new _ _)
  have hr05 : w5.cell? ⟨w.heap.size, 0, none⟩ = some (.int .u32 0) := by simp [World.cell?, hrb5]
  have hr15 : w5.cell? ⟨w.heap.size, 1, none⟩ = some (.int .u32 0) := by simp [World.cell?, hrb5]
  have hr25 : w5.cell? ⟨w.heap.size, 2, none⟩ = some (.int .u8 0) := by simp [World.cell?, hrb5]
  have hr35 : w5.cell? ⟨w.heap.size, 3, none⟩ = some (.int .u32 0) := by simp [World.cell?, hrb5]
  have hr45 : w5.cell? ⟨w.heap.size, 4, none⟩ = some (.int .u32 0) := by simp [World.cell?, hrb5]
  have hr55 : w5.cell? ⟨w.heap.size, 5, none⟩ = some (.slice none 0 0) := by simp [World.cell?, hrb5]
  have hr65 : w5.cell? ⟨w.heap.size, 6, none⟩ = some (.slice none 0 0) := by simp [World.cell?, hrb5]
  have hrz5 : ∀ i, w5.frozen? ⟨w.heap.size, i, none⟩ = false := fun i => by simp [World.frozen?, hrb5]
  have hrl5 := lt_of_cell hr05
  have H5 := hide (And.intro hf5 (And.intro hq hrb5))
  clear hf5 hq hone hrb5
  go_wp2_with fail
  refine bodyPost_ret (v := .tuple #[.agg #[v0, v1, v2, v3, v4, v5, v6], err]) (by simp [results, Tryz.results22, go_sem, hr05, hr15, hr25, hr35, hr45, hr55, hr65]) rfl ?_
  have hf05 : Fr (fun _ => False) w w5 := (box1 w _).trans (unhide H5).1 (fun _ _ h => h)
  exact ⟨_, _, rfl, w5, (unhide H5).2.1, (((((((Fr.refl (fun k => k = w.heap.size) w5).setCell (.inl rfl) _).setCell (.inl rfl) _).setCell (.inl rfl) _).setCell (.inl rfl) _).setCell (.inl rfl) _).setCell (.inl rfl) _).setCell (.inl rfl) _, fun F => (((((((Stp.refl w5 F (fun k _ => k = w.heap.size)).trans (Stp.set w.heap.size 0 _) (fun k j _ h => h.1)).trans (Stp.set w.heap.size 1 _) (fun k j _ h => h.1)).trans (Stp.set w.heap.size 2 _) (fun k j _ h => h.1)).trans (Stp.set w.heap.size 3 _) (fun k j _ h => h.1)).trans (Stp.set w.heap.size 4 _) (fun k j _ h => h.1)).trans (Stp.set w.heap.size 5 _) (fun k j _ h => h.1)).trans (Stp.set w.heap.size 6 _) (fun k j _ h => h.1), (((((((hf05).setCell (.inr (Nat.le_refl _)) _).setCell (.inr (Nat.le_refl _)) _).setCell (.inr (Nat.le_refl _)) _).setCell (.inr (Nat.le_refl _)) _).setCell (.inr (Nat.le_refl _)) _).setCell (.inr (Nat.le_refl _)) _).setCell (.inr (Nat.le_refl _)) _, (unhide H5).2.2⟩
set_option maxRecDepth 100000 in
set_option maxHeartbeats 2000000 in
theorem GetEvent_go (xo : Option Addr) (n xc : Nat) (w : World) (Q : World → Array Value → Value → Prop) (h : Calls Tryz.prog 44 #[.slice xo n xc] (w.alloc (.cells #[.int .u32 0, .int .u32 0, .int .u32 0, .int .u32 0, .int .u8 0, .int .u32 0, .int .u32 0, .int .u32 0, .int .u32 0, .slice none 0 0, .string ⟨#[]⟩, .int .u8 0, .slice none 0 0] 33)) fun e w' => ∃ v0 v1 v2 v3 v4 v5 v6 v7 v8 v9 v10 v11 v12 err, e = .returned (.tuple #[.agg #[v0, v1, v2, v3, v4, v5, v6, v7, v8, v9, v10, v11, v12], err]) ∧ (∀ v ∈ ([v0, v1, v2, v3, v4, v5, v6, v7, v8, v9, v10, v11, v12] : List Value), v.oneCell' = true) ∧ Fr (fun _ => False) (w.alloc (.cells #[.int .u32 0, .int .u32 0, .int .u32 0, .int .u32 0, .int .u8 0, .int .u32 0, .int .u32 0, .int .u32 0, .int .u32 0, .slice none 0 0, .string ⟨#[]⟩, .int .u8 0, .slice none 0 0] 33)) w' ∧ Q w' #[v0, v1, v2, v3, v4, v5, v6, v7, v8, v9, v10, v11, v12] err) :
    Calls Tryz.prog 23 #[.slice xo n xc] w fun e w' => ∃ vs err, e = .returned (.tuple #[.agg vs, err]) ∧ ∃ w2, Q w2 vs err ∧ Fr (fun k => k = w.heap.size) w2 w' ∧ (∀ F, Stp w2 w' F F (fun k _ => k = w.heap.size)) ∧ Fr (fun _ => False) w w' ∧ w2.heap[w.heap.size]? = some (.cells #[.int .u32 0, .int .u32 0, .int .u32 0, .int .u32 0, .int .u8 0, .int .u32 0, .int .u32 0, .int .u32 0, .int .u32 0, .slice none 0 0, .string ⟨#[]⟩, .int .u8 0, .slice none 0 0] 33) := by
  have H := hide h
  clear h
  go_enter Tryz.func23, Tryz.ntmps23
  go_wp2_with fail
  refine (unhide H).mono ?_
  rintro e w5 ⟨v0, v1, v2, v3, v4, v5, v6, v7, v8, v9, v10, v11, v12, err, rfl, hone, hf5, hq⟩
  have hst0 : ∀ (a : Addr) (m : Mode) (W : World), (store a v0 m).run Tryz.prog W = stored Tryz.prog W a v0 m := fun _ _ _ => run_store _ _ _ _ _ (hone v0 (by simp))
  have hst1 : ∀ (a : Addr) (m : Mode) (W : World), (store a v1 m).run Tryz.prog W = stored Tryz.prog W a v1 m := fun _ _ _ => run_store _ _ _ _ _ (hone v1 (by simp))
  have hst2 : ∀ (a : Addr) (m : Mode) (W : World), (store a v2 m).run Tryz.prog W = stored Tryz.prog W a v2 m := fun _ _ _ => run_store _ _ _ _ _ (hone v2 (by simp))
  have hst3 : ∀ (a : Addr) (m : Mode) (W : World), (store a v3 m).run Tryz.prog W = stored Tryz.prog W a v3 m := fun _ _ _ => run_store _ _ _ _ _ (hone v3 (by simp))
  have hst4 : ∀ (a : Addr) (m : Mode) (W : World), (store a v4 m).run Tryz.prog W = stored Tryz.prog W a v4 m := fun _ _ _ => run_store _ _ _ _ _ (hone v4 (by simp))
  have hst5 : ∀ (a : Addr) (m : Mode) (W : World), (store a v5 m).run Tryz.prog W = stored Tryz.prog W a v5 m := fun _ _ _ => run_store _ _ _ _ _ (hone v5 (by simp))
  have hst6 : ∀ (a : Addr) (m : Mode) (W : World), (store a v6 m).run Tryz.prog W = stored Tryz.prog W a v6 m := fun _ _ _ => run_store _ _ _ _ _ (hone v6 (by simp))
  have hst7 : ∀ (a : Addr) (m : Mode) (W : World), (store a v7 m).run Tryz.prog W = stored Tryz.prog W a v7 m := fun _ _ _ => run_store _ _ _ _ _ (hone v7 (by simp))
  have hst8 : ∀ (a : Addr) (m : Mode) (W : World), (store a v8 m).run Tryz.prog W = stored Tryz.prog W a v8 m := fun _ _ _ => run_store _ _ _ _ _ (hone v8 (by simp))
  have hst9 : ∀ (a : Addr) (m : Mode) (W : World), (store a v9 m).run Tryz.prog W = stored Tryz.prog W a v9 m := fun _ _ _ => run_store _ _ _ _ _ (hone v9 (by simp))
  have hst10 : ∀ (a : Addr) (m : Mode) (W : World), (store a v10 m).run Tryz.prog W = stored Tryz.prog W a v10 m := fun _ _ _ => run_store _ _ _ _ _ (hone v10 (by simp))
  have hst11 : ∀ (a : Addr) (m : Mode) (W : World), (store a v11 m).run Tryz.prog W = stored Tryz.prog W a v11 m := fun _ _ _ => run_store _ _ _ _ _ (hone v11 (by simp))
  have hst12 : ∀ (a : Addr) (m : Mode) (W : World), (store a v12 m).run Tryz.prog W = stored Tryz.prog W a v12 m := fun _ _ _ => run_store _ _ _ _ _ (hone v12 (by simp))
  have hrb5 : w5.heap[w.heap.size]? = some (.cells #[.int .u32 0, .int .u32 0, .int .u32 0, .int .u32 0, .int .u8 0, .int .u32 0, .int .u32 0, .int .u32 0, .int .u32 0, .slice none 0 0, .string ⟨#[]⟩, .int .u8 0, .slice none 0 0] 33) := (hf5.block w.heap.size (by simp) (fun h => h)).trans (heap_alloc_new _ _)
  have hr05 : w5.cell? ⟨w.heap.size, 0, none⟩ = some (.int .u32 0) := by simp [World.cell?, hrb5]
  have hr15 : w5.cell? ⟨w.heap.size, 1, none⟩ = some (.int .u32 0) := by simp [World.cell?, hrb5]
  have hr25 : w5.cell? ⟨w.heap.size, 2, none⟩ = some (.int .u32 0) := by simp [World.cell?, hrb5]
  have hr35 : w5.cell? ⟨w.heap.size, 3, none⟩ = some (.int .u32 0) := by simp [World.cell?, hrb5]
  have hr45 : w5.cell? ⟨w.heap.size, 4, none⟩ = some (.int .u8 0) := by simp [World.cell?, hrb5]
  have hr55 : w5.cell? ⟨w.heap.size, 5, none⟩ = some (.int .u32 0) := by simp [World.cell?, hrb5]
  have hr65 : w5.cell? ⟨w.heap.size, 6, none⟩ = some (.int .u32 0) := by simp [World.cell?, hrb5]
  have hr75 : w5.cell? ⟨w.heap.size, 7, none⟩ = some (.int .u32 0) := by simp [World.cell?, hrb5]
  have hr85 : w5.cell? ⟨w.heap.size, 8, none⟩ = some (.int .u32 0) := by simp [World.cell?, hrb5]
  have hr95 : w5.cell? ⟨w.heap.size, 9, none⟩ = some (.slice none 0 0) := by simp [World.cell?, hrb5]
  have hr105 : w5.cell? ⟨w.heap.size, 10, none⟩ = some (.string ⟨#[]⟩) := by simp [World.cell?, hrb5]
  have hr115 : w5.cell? ⟨w.heap.size, 11, none⟩ = some (.int .u8 0) := by simp [World.cell?, hrb5]
  have hr125 : w5.cell? ⟨w.heap.size, 12, none⟩ = some (.slice none 0 0) := by simp [World.cell?, hrb5]
  have hrz5 : ∀ i, w5.frozen? ⟨w.heap.size, i, none⟩ = false := fun i => by simp [World.frozen?, hrb5]
  have hrl5 := lt_of_cell hr05
  have H5 := hide (And.intro hf5 (And.intro hq hrb5))
  clear hf5 hq hone hrb5
  go_wp2_with fail
  refine bodyPost_ret (v := .tuple #[.agg #[v0, v1, v2, v3, v4, v5, v6, v7, v8, v9, v10, v11, v12], err]) (by simp [results, Tryz.results23, go_sem, hr05, hr15, hr25, hr35, hr45, hr55, hr65, hr75, hr85, hr95, hr105, hr115, hr125]) rfl ?_
  have hf05 : Fr (fun _ => False) w w5 := (box1 w _).trans (unhide H5).1 (fun _ _ h => h)
  exact ⟨_, _, rfl, w5, (unhide H5).2.1, (((((((((((((Fr.refl (fun k => k = w.heap.size) w5).setCell (.inl rfl) _).setCell (.inl rfl) _).setCell (.inl rfl) _).setCell (.inl rfl) _).setCell (.inl rfl) _).setCell (.inl rfl) _).setCell (.inl rfl) _).setCell (.inl rfl) _).setCell (.inl rfl) _).setCell (.inl rfl) _).setCell (.inl rfl) _).setCell (.inl rfl) _).setCell (.inl rfl) _, fun F => (((((((((((((Stp.refl w5 F (fun k _ => k = w.heap.size)).trans (Stp.set w.heap.size 0 _) (fun k j _ h => h.1)).trans (Stp.set w.heap.size 1 _) (fun k j _ h => h.1)).trans (Stp.set w.heap.size 2 _) (fun k j _ h => h.1)).trans (Stp.set w.heap.size 3 _) (fun k j _ h => h.1)).trans (Stp.set w.heap.size 4 _) (fun k j _ h => h.1)).trans (Stp.set w.heap.size 5 _) (fun k j _ h => h.1)).trans (Stp.set w.heap.size 6 _) (fun k j _ h => h.1)).trans (Stp.set w.heap.size 7 _) (fun k j _ h => h.1)).trans (Stp.set w.heap.size 8 _) (fun k j _ h => h.1)).trans (Stp.set w.heap.size 9 _) (fun k j _ h => h.1)).trans (Stp.set w.heap.size 10 _) (fun k j _ h => h.1)).trans (Stp.set w.heap.size 11 _) (fun k j _ h => h.1)).trans (Stp.set w.heap.size 12 _) (fun k j _ h => h.1), (((((((((((((hf05).setCell (.inr (Nat.le_refl _)) _).setCell (.inr (Nat.le_refl _)) _).setCell (.inr (Nat.le_refl _)) _).setCell (.inr (Nat.le_refl _)) _).setCell (.inr (Nat.le_refl _)) _).setCell (.inr (Nat.le_refl _)) _).setCell (.inr (Nat.le_refl _)) _).setCell (.inr (Nat.le_refl _)) _).setCell (.inr (Nat.le_refl _)) _).setCell (.inr (Nat.le_refl _)) _).setCell (.inr (Nat.le_refl _)) _).setCell (.inr (Nat.le_refl _)) _).setCell (.inr (Nat.le_refl _)) _, (unhide H5).2.2⟩
end Go.Proofs.YtgpbkdhldakpmaaGreatDoor

