import Derived.Test.YtedmhpplhbaglaaNtt
namespace Go.Proofs.Ytedmhpplhbaglaa
open Go.RowKit Go.ChangeShapes Go.WideShapes Go.Maps

theorem PX.twoN {W V : World} {d m : Nat} {pl : Int} {v x : Value} {ki a b : Int} (h : PX W V d m pl v ki a b x [.int .i64 0, .slice none 0 0]) (p q : Value) : ((V.setCell ⟨W.heap.size + 1 + 1, 0, none⟩ p).setCell ⟨W.heap.size + 1 + 1, 1, none⟩ q).rangeAt (W.heap.size + 1 + 1) 0 [p, q] := fun j u hu => h.two p q j u hu
set_option maxHeartbeats 2000000 in
set_option maxRecDepth 100000 in
/-- played, Deliver of what is not under way. -/
theorem played_3n (w W : World) (d m : Nat) (pl a b : Int) (ao : Option Addr) (c : Nat) (Rs : List RK) (x : Value) (hN : NS w W d m pl (pks Rs)) (h : RfAt w W (.slice ao Rs.length c) Rs) (hl : Rs.length ≤ 1048575) (ha : (Lit.int .i64 a).wf = true) (hu : und (pks Rs) a = false) :
    Calls Try.prog 17 #[.pointer (some ⟨d, 0, none⟩), .agg #[.int .i64 pl, .slice ao Rs.length c], .agg #[.int .i64 3, .int .i64 a, .int .i64 b, x]] W (PPost w W d m pl Rs.length) := by
  have HX := hide (And.intro hN h)
  have hf3 : Fr (fun _ => False) W (((W.alloc (.cells #[.int .i64 pl, .slice ao Rs.length c] 45)).alloc (.cells #[.int .i64 3, .int .i64 a, .int .i64 b, x] 49)).alloc (.cells #[.int .i64 0, .slice none 0 0] 45)) := ((box2 _ _ _).alloc _)
  have HP := hide (PX.new W d m pl (.slice ao Rs.length c) 3 a b x)
  have HF := hide hf3
  obtain ⟨c0, c1, k0, k1, k2, k3, _, _, _, _⟩ := (unhide HP).cells
  have hpl : (pks Rs).length ≤ 1048576 := by rw [pks_len]; omega
  clear hN h hf3
  go_enter Try.func17, Try.ntmps17
  go_wp2_with fail
  refine (ns_deliver_no d m pl a (pks Rs) w _ ((unhide HX).1.go (unhide HF)) ha hu).mono ?_
  rintro e w1 ⟨rfl, hN1, hf1⟩
  have H1 := hide (And.intro hN1 (And.intro ((unhide HP).fr0 hf1) (((unhide HX).2.fr0 (unhide HF)).fr0 hf1)))
  clear c0 c1 k0 k1 k2 k3
  obtain ⟨c0, c1, k0, k1, k2, k3, z0, z1, _, _⟩ := (unhide H1).2.1.cells
  clear hN1 hf1 HP HF
  have hB2 := (unhide H1).2.1.lt
  have hB0 : W.heap.size < w1.heap.size := by omega
  have hB1 : W.heap.size + 1 < w1.heap.size := by omega
  have hB5 : W.heap.size + 1 + 1 < w1.heap.size := by omega
  have hB3 : ¬ w1.heap.size = W.heap.size := by omega
  have hB4 : ¬ w1.heap.size = W.heap.size + 1 := by omega
  have hB6 : ¬ w1.heap.size = W.heap.size + 1 + 1 := by omega
  go_wp2_with fail
  refine (gunder_any w _ pl a ao c Rs ((unhide H1).2.2.fr0 (box1 _ _)) (by omega)).mono ?_
  rintro e w2 ⟨rfl, hf2⟩
  rw [hu]
  have q0 : w2.cell? ⟨w1.heap.size, 0, none⟩ = some (.int .i64 0) := (hf2.cell (p := ⟨w1.heap.size, 0, none⟩) (by simp) (fun h => h)).trans (World.cell?_alloc_at _ _ _ _ rfl)
  have q1 : w2.cell? ⟨w1.heap.size, 1, none⟩ = some (.int .i64 0) := (hf2.cell (p := ⟨w1.heap.size, 1, none⟩) (by simp) (fun h => h)).trans (World.cell?_alloc_at _ _ _ _ rfl)
  have q2 : w2.cell? ⟨w1.heap.size, 2, none⟩ = some (.int .i64 0) := (hf2.cell (p := ⟨w1.heap.size, 2, none⟩) (by simp) (fun h => h)).trans (World.cell?_alloc_at _ _ _ _ rfl)
  have q3 : w2.cell? ⟨w1.heap.size, 3, none⟩ = some (.slice none 0 0) := (hf2.cell (p := ⟨w1.heap.size, 3, none⟩) (by simp) (fun h => h)).trans (World.cell?_alloc_at _ _ _ _ rfl)
  have H2 := hide (And.intro (((unhide H1).1.go (box1 _ _)).go hf2) (And.intro (((unhide H1).2.1.fr0 (box1 _ _)).fr0 hf2) (((unhide H1).2.2.fr0 (box1 _ _)).fr0 hf2)))
  clear c0 c1 k0 k1 k2 k3
  obtain ⟨c0, c1, k0, k1, k2, k3, _, _, _, _⟩ := (unhide H2).2.1.cells
  obtain ⟨y0, y1, y2, y3⟩ := (unhide H2).2.1.zcells
  have HK : Hid (∀ W', Fr (fun k => k = W.heap.size + 1 + 1) w2 W' → W'.cell? ⟨W.heap.size, 0, none⟩ = some (.int .i64 pl) ∧ W'.cell? ⟨W.heap.size, 1, none⟩ = some (.slice ao Rs.length c) ∧ W'.cell? ⟨w1.heap.size, 0, none⟩ = some (.int .i64 0) ∧ W'.cell? ⟨w1.heap.size, 1, none⟩ = some (.int .i64 0) ∧ W'.cell? ⟨w1.heap.size, 2, none⟩ = some (.int .i64 0) ∧ W'.cell? ⟨w1.heap.size, 3, none⟩ = some (.slice none 0 0)) := fun W' hf => ⟨(hf.cell (p := ⟨W.heap.size, 0, none⟩) (lt_of_cell c0) (by show ¬ W.heap.size = W.heap.size + 1 + 1; omega)).trans c0, (hf.cell (p := ⟨W.heap.size, 1, none⟩) (lt_of_cell c1) (by show ¬ W.heap.size = W.heap.size + 1 + 1; omega)).trans c1, (hf.cell (p := ⟨w1.heap.size, 0, none⟩) (lt_of_cell q0) hB6).trans q0, (hf.cell (p := ⟨w1.heap.size, 1, none⟩) (lt_of_cell q1) hB6).trans q1, (hf.cell (p := ⟨w1.heap.size, 2, none⟩) (lt_of_cell q2) hB6).trans q2, (hf.cell (p := ⟨w1.heap.size, 3, none⟩) (lt_of_cell q3) hB6).trans q3⟩
  clear hf2 H1
  go_wp2_with fail
  go_region_held3 (fun W' => W'.cell? ⟨W.heap.size, 0, none⟩ = some (.int .i64 pl) ∧ W'.cell? ⟨W.heap.size, 1, none⟩ = some (.slice ao Rs.length c) ∧ W'.cell? ⟨w1.heap.size, 0, none⟩ = some (.int .i64 0) ∧ W'.cell? ⟨w1.heap.size, 1, none⟩ = some (.int .i64 0) ∧ W'.cell? ⟨w1.heap.size, 2, none⟩ = some (.int .i64 0) ∧ W'.cell? ⟨w1.heap.size, 3, none⟩ = some (.slice none 0 0))
    (first | exact ⟨c0, c1, q0, q1, q2, q3⟩ | exact (unhide HK) _ (two_fr w2 _ _ _))
    (fail)
  have hfin := (unhide H2).2.1.done (unhide H2).1 (unhide H2).2.2 (two_fr w2 (W.heap.size + 1 + 1) (.int .i64 pl) (.slice ao Rs.length c)) (unhide HX).1.dl (unhide HX).1.ml (unhide HX).1.fr.size
  have HE := hide (And.intro ((unhide H2).2.1.two (.int .i64 pl) (.slice ao Rs.length c)) hfin)
  clear hfin H2 HK y0 y1 y2 y3 c0 c1 k0 k1 k2 k3 q0 q1 q2 q3
  go_wp2_with fail
  (try simp only [Exit.inBlock, Exit.then])
  refine bodyPost_ret (results_cellt rfl _ _ (W.heap.size + 1 + 1) 0 [.int .i64 pl, .slice ao Rs.length c] _ _ rfl rfl (unhide HE).1 Try.underlying45 rfl (by kernel_rfl)) rfl ?_
  exact ⟨ao, c, Rs, by simp, (unhide HE).2.1, by simpa using (unhide HE).2.2.1, by simp, (unhide HE).2.2.2⟩
set_option maxHeartbeats 2000000 in
set_option maxRecDepth 100000 in
/-- played, Deliver of a packet that is under way. -/
theorem played_3y (w W : World) (d m : Nat) (pl b : Int) (ao : Option Addr) (c : Nat) (Rs : List RK) (x : Value) (hN : NS w W d m pl (pks Rs)) (h : RfAt w W (.slice ao Rs.length c) Rs) (hl : Rs.length ≤ 1048575) (k : Nat) (y : RK) (hk : Rs[k]? = some y) (hy : y.1.gone = 0) :
    Calls Try.prog 17 #[.pointer (some ⟨d, 0, none⟩), .agg #[.int .i64 pl, .slice ao Rs.length c], .agg #[.int .i64 3, .int .i64 ((k : Int) + 1), .int .i64 b, x]] W (PPost w W d m pl Rs.length) := by
  have hu : und (pks Rs) ((k : Int) + 1) = true := by rw [und_nat, pks_at hk]; simp [hy]
  have hkl := (List.getElem?_eq_some_iff.1 hk).1
  have HX := hide (And.intro hN h)
  have hf3 : Fr (fun _ => False) W (((W.alloc (.cells #[.int .i64 pl, .slice ao Rs.length c] 45)).alloc (.cells #[.int .i64 3, .int .i64 ((k : Int) + 1), .int .i64 b, x] 49)).alloc (.cells #[.int .i64 0, .slice none 0 0] 45)) := ((box2 _ _ _).alloc _)
  have HP := hide (PX.new W d m pl (.slice ao Rs.length c) 3 ((k : Int) + 1) b x)
  have HF := hide hf3
  obtain ⟨c0, c1, k0, k1, k2, k3, _, _, _, _⟩ := (unhide HP).cells
  have hpl : (pks Rs).length ≤ 1048576 := by rw [pks_len]; omega
  clear hN h hf3
  go_enter Try.func17, Try.ntmps17
  go_wp2_with fail
  refine (ns_deliver d m k pl (pks Rs) y.1 w _ ((unhide HX).1.go (unhide HF)) (pks_at hk) hy hpl _ rfl).mono ?_
  rintro e w1 ⟨qo, qc, rfl, hv1, hN1, hf1⟩
  have H1 := hide (And.intro hN1 (And.intro ((unhide HP).frN hf1 (unhide HX).1.dl (unhide HX).1.ml) (((unhide HX).2.fr0 (unhide HF)).net ((unhide HX).1.go (unhide HF)) hf1)))
  clear c0 c1 k0 k1 k2 k3
  obtain ⟨c0, c1, k0, k1, k2, k3, z0, z1, _, _⟩ := (unhide H1).2.1.cells
  clear hN1 hf1 HP HF
  have hB2 := (unhide H1).2.1.lt
  have hB0 : W.heap.size < w1.heap.size := by omega
  have hB1 : W.heap.size + 1 < w1.heap.size := by omega
  have hB5 : W.heap.size + 1 + 1 < w1.heap.size := by omega
  have hB3 : ¬ w1.heap.size = W.heap.size := by omega
  have hB4 : ¬ w1.heap.size = W.heap.size + 1 := by omega
  have hB6 : ¬ w1.heap.size = W.heap.size + 1 + 1 := by omega
  have HQ := hide (own_src hv1)
  clear hv1
  go_wp2_with fail
  refine (gunder_any w _ pl ((k : Int) + 1) ao c Rs ((unhide H1).2.2.fr0 (box1 _ _)) (by omega)).mono ?_
  rintro e w2 ⟨rfl, hf2⟩
  rw [hu]
  have q0 : w2.cell? ⟨w1.heap.size, 0, none⟩ = some (.int .i64 ((k : Int) + 1)) := (hf2.cell (p := ⟨w1.heap.size, 0, none⟩) (by simp) (fun h => h)).trans (World.cell?_alloc_at _ _ _ _ rfl)
  have q1 : w2.cell? ⟨w1.heap.size, 1, none⟩ = some (.int .i64 y.1.f) := (hf2.cell (p := ⟨w1.heap.size, 1, none⟩) (by simp) (fun h => h)).trans (World.cell?_alloc_at _ _ _ _ rfl)
  have q2 : w2.cell? ⟨w1.heap.size, 2, none⟩ = some (.int .i64 y.1.t) := (hf2.cell (p := ⟨w1.heap.size, 2, none⟩) (by simp) (fun h => h)).trans (World.cell?_alloc_at _ _ _ _ rfl)
  have q3 : w2.cell? ⟨w1.heap.size, 3, none⟩ = some (.slice qo y.1.b.length qc) := (hf2.cell (p := ⟨w1.heap.size, 3, none⟩) (by simp) (fun h => h)).trans (World.cell?_alloc_at _ _ _ _ rfl)
  have HQ2 := hide ((unhide HQ).fr ((box1 _ _).trans hf2 (fun _ _ h => h)) (fun _ _ _ _ _ h => h))
  have H2 := hide (And.intro (((unhide H1).1.go (box1 _ _)).go hf2) (And.intro (((unhide H1).2.1.fr0 (box1 _ _)).fr0 hf2) (((unhide H1).2.2.fr0 (box1 _ _)).fr0 hf2)))
  clear c0 c1 k0 k1 k2 k3
  obtain ⟨c0, c1, k0, k1, k2, k3, _, _, _, _⟩ := (unhide H2).2.1.cells
  obtain ⟨y0, y1, y2, y3⟩ := (unhide H2).2.1.zcells
  obtain ⟨g, rfl, r0, r1, r2, r3, r4, _⟩ := (unhide H2).2.2.at_ hk
  have hB7 : ¬ g = W.heap.size + 1 + 1 := fun e => by
    obtain ⟨cur, h1⟩ := own_blk (unhide H2).2.2.row rfl
    rw [e, show w2.heap[W.heap.size + 1 + 1]? = _ from (unhide H2).2.1.z] at h1
    simp at h1
  have hcap : Rs.length ≤ c := by
    rcases (unhide H2).2.2.row.2 with ⟨e, _⟩ | ⟨g', c', cur, e, _, _, hc, _⟩
    · cases e
    · simp only [Value.slice.injEq] at e; omega
  have hsy := (unhide HX).2.src y (List.mem_of_getElem? hk)
  have HG : Hid (∀ W', Fr (fun _ => False) w2 W' → Calls Try.prog 28 #[.agg #[.int .i64 pl, .slice (some ⟨g, 0, none⟩) Rs.length c], .int .i64 ((k : Int) + 1), .int .i64 1] W' fun e w' => ∃ ao' c', e = .returned (.agg #[.int .i64 pl, .slice ao' Rs.length c']) ∧ RfAt w w' (.slice ao' Rs.length c') (Rs.set k ({ y.1 with gone := 1 }, y.2)) ∧ Fr (fun _ => False) w2 w') := fun W' hf => by
    refine (ggone_any w W' pl _ c k 1 Rs y ((unhide H2).2.2.fr0 hf) hk (by omega) (Nat.le_trans (unhide H2).1.fr.size hf.size)).mono ?_
    rintro e w' ⟨ao', c', rfl, hR, hf'⟩
    exact ⟨ao', c', rfl, hR, hf.trans hf' (fun _ _ h => h)⟩
  have HI : Hid (∀ W', Fr (fun _ => False) w2 W' → Calls Try.prog 29 #[.agg #[.int .i64 ((k : Int) + 1), .int .i64 y.1.f, .int .i64 y.1.t, .slice qo y.1.b.length qc], .int .i64 ((k : Int) + 1), .agg #[.int .i64 y.1.f, .int .i64 y.1.t, .slice y.2.1 y.1.b.length y.2.2, .int .i64 (y.1.gone : Nat), .bool y.1.cp]] W' fun e w' => e = .returned (.bool true) ∧ Fr (fun _ => False) w2 w' ∧ Fr (fun _ => False) W' w') := fun W' hf => by
    refine (is_any ((k : Int) + 1) y.1.f y.1.t _ _ y.1.b y.1.gone y.1.cp W' ((unhide HQ2).fr hf (fun _ _ _ _ _ h => h)) ((hsy.1.fr (unhide H2).1.fr (fun _ _ _ _ _ h => h)).fr hf (fun _ _ _ _ _ h => h)) hsy.2).mono ?_
    rintro e w' ⟨rfl, hf'⟩
    exact ⟨rfl, hf.trans hf' (fun _ _ h => h), hf'⟩
  have HN : Hid (NS w w2 d m pl (pks (Rs.set k ({ y.1 with gone := 1 }, y.2)))) := by rw [pks_set]; exact (unhide H2).1
  have HZ : Hid (∀ W', Fr (fun _ => False) w2 W' → PX W W' d m pl (.slice (some ⟨g, 0, none⟩) Rs.length c) 3 ((k : Int) + 1) b x [.int .i64 0, .slice none 0 0]) := fun W' hf => (unhide H2).2.1.fr0 hf
  clear hf2 H1 H2 HQ HQ2 hsy hy hk
  generalize hRS : Rs.set k ({ y.1 with gone := 1 }, y.2) = RS at *
  have hRl : RS.length = Rs.length := by rw [← hRS]; simp
  have HRL := hide hRl
  clear hRS hRl
  generalize y.1.f = yf at *
  generalize y.1.t = yt at *
  generalize y.1.b = bl at *
  generalize y.1.gone = yg at *
  generalize y.1.cp = yp at *
  generalize y.2.1 = ya at *
  generalize y.2.2 = yc at *
  have i1 : (k : Int) + 1 - 1 = (k : Int) := by omega
  have i2 : IntKind.i64.wrap ((k : Int) + 1 - 1) = (k : Int) := by rw [i1]; exact wrap_le k (by omega)
  have i3 : (0 : Int) ≤ (k : Int) := by omega
  have i4 : (k : Int) < (Rs.length : Int) := by omega
  have i5 : ((k : Int)).toNat = k := by omega
  have i6 : wrap64 ((k : Int) + 1 - 1) = (k : Int) := by rw [i1]; unfold wrap64; omega
  have i7 : IntKind.i64.wrap (k : Int) = (k : Int) := by rw [i1] at i2; exact i2
  have HK : Hid (∀ W', Fr (fun k => k = W.heap.size + 1 + 1) w2 W' → W'.cell? ⟨W.heap.size, 0, none⟩ = some (.int .i64 pl) ∧ W'.cell? ⟨W.heap.size, 1, none⟩ = some (.slice (some ⟨g, 0, none⟩) Rs.length c) ∧ W'.cell? ⟨W.heap.size + 1, 1, none⟩ = some (.int .i64 ((k : Int) + 1)) ∧ W'.cell? ⟨w1.heap.size, 0, none⟩ = some (.int .i64 ((k : Int) + 1)) ∧ W'.cell? ⟨w1.heap.size, 1, none⟩ = some (.int .i64 yf) ∧ W'.cell? ⟨w1.heap.size, 2, none⟩ = some (.int .i64 yt) ∧ W'.cell? ⟨w1.heap.size, 3, none⟩ = some (.slice qo bl.length qc) ∧ W'.cell? ⟨g, k * 5, none⟩ = some (.int .i64 yf) ∧ W'.cell? ⟨g, k * 5 + 1, none⟩ = some (.int .i64 yt) ∧ W'.cell? ⟨g, k * 5 + 2, none⟩ = some (.slice ya bl.length yc) ∧ W'.cell? ⟨g, k * 5 + 3, none⟩ = some (.int .i64 (yg : Nat)) ∧ W'.cell? ⟨g, k * 5 + 4, none⟩ = some (.bool yp)) := fun W' hf => ⟨(hf.cell (p := ⟨W.heap.size, 0, none⟩) (lt_of_cell c0) (by show ¬ W.heap.size = W.heap.size + 1 + 1; omega)).trans c0, (hf.cell (p := ⟨W.heap.size, 1, none⟩) (lt_of_cell c1) (by show ¬ W.heap.size = W.heap.size + 1 + 1; omega)).trans c1, (hf.cell (p := ⟨W.heap.size + 1, 1, none⟩) (lt_of_cell k1) (by show ¬ W.heap.size + 1 = W.heap.size + 1 + 1; omega)).trans k1, (hf.cell (p := ⟨w1.heap.size, 0, none⟩) (lt_of_cell q0) hB6).trans q0, (hf.cell (p := ⟨w1.heap.size, 1, none⟩) (lt_of_cell q1) hB6).trans q1, (hf.cell (p := ⟨w1.heap.size, 2, none⟩) (lt_of_cell q2) hB6).trans q2, (hf.cell (p := ⟨w1.heap.size, 3, none⟩) (lt_of_cell q3) hB6).trans q3, (hf.cell (p := ⟨g, k * 5, none⟩) (lt_of_cell r0) hB7).trans r0, (hf.cell (p := ⟨g, k * 5 + 1, none⟩) (lt_of_cell r1) hB7).trans r1, (hf.cell (p := ⟨g, k * 5 + 2, none⟩) (lt_of_cell r2) hB7).trans r2, (hf.cell (p := ⟨g, k * 5 + 3, none⟩) (lt_of_cell r3) hB7).trans r3, (hf.cell (p := ⟨g, k * 5 + 4, none⟩) (lt_of_cell r4) hB7).trans r4⟩
  have HK0 : Hid (∀ W', Fr (fun _ => False) w2 W' → W'.cell? ⟨W.heap.size, 0, none⟩ = some (.int .i64 pl) ∧ W'.cell? ⟨W.heap.size, 1, none⟩ = some (.slice (some ⟨g, 0, none⟩) Rs.length c) ∧ W'.cell? ⟨W.heap.size + 1, 1, none⟩ = some (.int .i64 ((k : Int) + 1)) ∧ W'.cell? ⟨w1.heap.size, 0, none⟩ = some (.int .i64 ((k : Int) + 1)) ∧ W'.cell? ⟨w1.heap.size, 1, none⟩ = some (.int .i64 yf) ∧ W'.cell? ⟨w1.heap.size, 2, none⟩ = some (.int .i64 yt) ∧ W'.cell? ⟨w1.heap.size, 3, none⟩ = some (.slice qo bl.length qc) ∧ W'.cell? ⟨g, k * 5, none⟩ = some (.int .i64 yf) ∧ W'.cell? ⟨g, k * 5 + 1, none⟩ = some (.int .i64 yt) ∧ W'.cell? ⟨g, k * 5 + 2, none⟩ = some (.slice ya bl.length yc) ∧ W'.cell? ⟨g, k * 5 + 3, none⟩ = some (.int .i64 (yg : Nat)) ∧ W'.cell? ⟨g, k * 5 + 4, none⟩ = some (.bool yp)) := fun W' hf => (unhide HK) W' (hf.mono (fun _ _ h => h.elim))
  go_wp2_with fail
  go_region_held3 (fun W' => W'.cell? ⟨W.heap.size, 0, none⟩ = some (.int .i64 pl) ∧ W'.cell? ⟨W.heap.size, 1, none⟩ = some (.slice (some ⟨g, 0, none⟩) Rs.length c) ∧ W'.cell? ⟨W.heap.size + 1, 1, none⟩ = some (.int .i64 ((k : Int) + 1)) ∧ W'.cell? ⟨w1.heap.size, 0, none⟩ = some (.int .i64 ((k : Int) + 1)) ∧ W'.cell? ⟨w1.heap.size, 1, none⟩ = some (.int .i64 yf) ∧ W'.cell? ⟨w1.heap.size, 2, none⟩ = some (.int .i64 yt) ∧ W'.cell? ⟨w1.heap.size, 3, none⟩ = some (.slice qo bl.length qc) ∧ W'.cell? ⟨g, k * 5, none⟩ = some (.int .i64 yf) ∧ W'.cell? ⟨g, k * 5 + 1, none⟩ = some (.int .i64 yt) ∧ W'.cell? ⟨g, k * 5 + 2, none⟩ = some (.slice ya bl.length yc) ∧ W'.cell? ⟨g, k * 5 + 3, none⟩ = some (.int .i64 (yg : Nat)) ∧ W'.cell? ⟨g, k * 5 + 4, none⟩ = some (.bool yp))
    (first | exact ⟨c0, c1, k1, q0, q1, q2, q3, r0, r1, r2, r3, r4⟩ | exact (unhide HK0) _ hf3 | exact (unhide HK0) _ hf4 | exact (unhide HK) _ ((hf4.mono (fun _ _ h => h.elim)).trans (two_frN _ _ _ _) (fun _ _ h => h)) | exact (unhide HK) _ ((hf3.mono (fun _ _ h => h.elim)).trans (two_frN _ _ _ _) (fun _ _ h => h)))
    (first
      | (go_at_call 28; refine ((unhide HG) _ (by first | exact (Fr.refl _ _).drew | exact hf4)).mono ?_; rintro e w3 ⟨ao', c', rfl, hR3, hf3⟩; clear HG; obtain ⟨y0, y1, y2, y3⟩ := ((unhide HZ) _ hf3).zcells; have HR3 := hide hR3; clear hR3)
      | (go_at_call 29; refine ((unhide HI) _ (by first | exact (Fr.refl _ _).drew | exact hf3)).mono ?_; rintro e w4 ⟨rfl, hf4, hf4b⟩; clear HI; obtain ⟨y0, y1, y2, y3⟩ := ((unhide HZ) _ hf4).zcells))
  have hP4 := (unhide HZ) _ hf4
  have hfin := hP4.done ((unhide HN).go hf4) ((unhide HR3).fr0 hf4b) (two_frN w4 (W.heap.size + 1 + 1) (.int .i64 pl) (.slice ao' Rs.length c')) (unhide HX).1.dl (unhide HX).1.ml (unhide HX).1.fr.size
  have HE := hide (And.intro (hP4.twoN (.int .i64 pl) (.slice ao' Rs.length c')) hfin)
  clear hfin hP4 HN HK HK0 HZ HR3 hf3 hf4 hf4b y0 y1 y2 y3 c0 c1 k0 k1 k2 k3 q0 q1 q2 q3 r0 r1 r2 r3 r4
  go_wp2_with fail
  (try simp only [Exit.inBlock, Exit.then])
  refine bodyPost_ret (results_cellt rfl _ _ (W.heap.size + 1 + 1) 0 [.int .i64 pl, .slice ao' Rs.length c'] _ _ rfl rfl (unhide HE).1 Try.underlying45 rfl (by kernel_rfl)) rfl ?_
  exact ⟨ao', c', RS, by rw [unhide HRL]; rfl, (unhide HE).2.1, by rw [unhide HRL]; exact (unhide HE).2.2.1, by rw [unhide HRL]; omega, (unhide HE).2.2.2⟩
end Go.Proofs.Ytedmhpplhbaglaa
