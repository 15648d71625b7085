import Derived.Test.YtedmhpplhbaglaaNts
import Derived.Test.YtedmhpplhbaglaaNsb
namespace Go.Proofs.Ytedmhpplhbaglaa
open Go.RowKit Go.ChangeShapes Go.WideShapes Go.Maps

theorem RfAt.net {w0 w W W' : World} {d m : Nat} {pl : Int} {ps : List PK} {v : Value} {Rs : List RK} (h : RfAt w0 W v Rs) (hN : NS w W d m pl ps) (hf : Fr (fun k => k = d ∨ k = m) W W') : RfAt w0 W' v Rs := h.fr hf (fun k hk e => by
  obtain ⟨sv, T, h1, _⟩ := hN.at_
  obtain ⟨D, h2, _⟩ := h1.map
  obtain ⟨es, cl, h3⟩ := ownsMap_blk h2
  obtain ⟨cur, h4⟩ := own_blk h.row hk
  rcases e with rfl | rfl
  · rw [h1.blk] at h4; simp at h4
  · rw [h3] at h4; cases h4)
theorem ns_send_bad2 (d m : Nat) (pl f t : Int) (ps : List PK) (x : Value) (w W : World) (h : NS w W d m pl ps) (hb : isP pl f = false ∨ isP pl t = false) :
    Calls Try.prog 9 #[.pointer (some ⟨d, 0, none⟩), .int .i64 f, .int .i64 t, x] W fun e w' => e = .returned (.tuple #[.int .i64 0, .int .i64 1]) ∧ NS w w' d m pl ps ∧ Fr (fun _ => False) W w' := by
  refine (ns_send_bad d m pl f t ps x w W h hb).mono ?_
  rintro e w' ⟨rfl, rfl⟩
  exact ⟨rfl, h, Fr.refl _ _⟩
theorem two_fr (V : World) (g : Nat) (x y : Value) : Fr (fun k => k = g) V ((V.setCell ⟨g, 0, none⟩ x).setCell ⟨g, 1, none⟩ y).drew := (((Fr.refl (fun k => k = g) V).setCell (p := ⟨g, 0, none⟩) (.inl rfl) _).setCell (p := ⟨g, 1, none⟩) (.inl rfl) _).drew
theorem two_frN (V : World) (g : Nat) (x y : Value) : Fr (fun k => k = g) V ((V.setCell ⟨g, 0, none⟩ x).setCell ⟨g, 1, none⟩ y) := ((Fr.refl (fun k => k = g) V).setCell (p := ⟨g, 0, none⟩) (.inl rfl) _).setCell (p := ⟨g, 1, none⟩) (.inl rfl) _
theorem PX.two {W V : World} {d m : Nat} {pl : Int} {v x : Value} {ki a b : Int} (h : PX W V d m pl v ki a b x [.int .i64 0, .slice none 0 0]) (p q : Value) : ((V.setCell ⟨W.heap.size + 1 + 1, 0, none⟩ p).setCell ⟨W.heap.size + 1 + 1, 1, none⟩ q).drew.rangeAt (W.heap.size + 1 + 1) 0 [p, q] := by
  have hz : V.heap[W.heap.size + 1 + 1]? = some (.cells #[.int .i64 0, .slice none 0 0] 45) := h.z
  have h2 := blkset (blkset hz 0 p) 1 q
  intro j u hu
  simp only [World.cell?]
  rw [show ((V.setCell ⟨W.heap.size + 1 + 1, 0, none⟩ p).setCell ⟨W.heap.size + 1 + 1, 1, none⟩ q).drew.heap[W.heap.size + 1 + 1]? = _ from h2]
  rcases j with _ | _ | j
  · simpa using hu
  · simpa using hu
  · simp at hu
theorem PX.zcells {W V : World} {d m : Nat} {pl : Int} {v x : Value} {ki a b : Int} (h : PX W V d m pl v ki a b x [.int .i64 0, .slice none 0 0]) : V.cell? ⟨W.heap.size + 1 + 1, 0, none⟩ = some (.int .i64 0) ∧ V.cell? ⟨W.heap.size + 1 + 1, 1, none⟩ = some (.slice none 0 0) ∧ V.frozen? ⟨W.heap.size + 1 + 1, 0, none⟩ = false ∧ V.frozen? ⟨W.heap.size + 1 + 1, 1, none⟩ = false := by
  have hz : V.heap[W.heap.size + 1 + 1]? = _ := h.z
  exact ⟨cell_of_blk hz rfl, cell_of_blk hz rfl, by simp [World.frozen?, hz], by simp [World.frozen?, hz]⟩
set_option maxHeartbeats 2000000 in
set_option maxRecDepth 100000 in
/-- played, Drop of a packet that is under way. -/
theorem played_4y (w W : World) (d m : Nat) (pl b : Int) (ao : Option Addr) (c : Nat) (Rs : List RK) (x : Value) (hN : NS w W d m pl (pks Rs)) (h : RfAt w W (.slice ao Rs.length c) Rs) (hl : Rs.length ≤ 1048575) (k : Nat) (y : RK) (hk : Rs[k]? = some y) (hy : y.1.gone = 0) :
    Calls Try.prog 17 #[.pointer (some ⟨d, 0, none⟩), .agg #[.int .i64 pl, .slice ao Rs.length c], .agg #[.int .i64 4, .int .i64 ((k : Int) + 1), .int .i64 b, x]] W (PPost w W d m pl Rs.length) := by
  have hu : und (pks Rs) ((k : Int) + 1) = true := by rw [und_nat, pks_at hk]; simp [hy]
  have HX := hide (And.intro hN h)
  have hf3 : Fr (fun _ => False) W (((W.alloc (.cells #[.int .i64 pl, .slice ao Rs.length c] 45)).alloc (.cells #[.int .i64 4, .int .i64 ((k : Int) + 1), .int .i64 b, x] 49)).alloc (.cells #[.int .i64 0, .slice none 0 0] 45)) := ((box2 _ _ _).alloc _)
  have HP := hide (PX.new W d m pl (.slice ao Rs.length c) 4 ((k : Int) + 1) b x)
  have HF := hide hf3
  obtain ⟨c0, c1, k0, k1, k2, k3, _, _, _, _⟩ := (unhide HP).cells
  have hpl : (pks Rs).length ≤ 1048576 := by rw [pks_len]; omega
  clear hN h hf3
  go_enter Try.func17, Try.ntmps17
  go_wp2_with fail
  refine (ns_drop d m k pl (pks Rs) y.1 w _ ((unhide HX).1.go (unhide HF)) (pks_at hk) hy hpl _ rfl).mono ?_
  rintro e w1 ⟨rfl, hN1, hf1⟩
  have H1 := hide (And.intro hN1 (And.intro ((unhide HP).frN hf1 (unhide HX).1.dl (unhide HX).1.ml) (((unhide HX).2.fr0 (unhide HF)).net ((unhide HX).1.go (unhide HF)) hf1)))
  clear c0 c1 k0 k1 k2 k3
  obtain ⟨c0, c1, k0, k1, k2, k3, z0, z1, _, _⟩ := (unhide H1).2.1.cells
  clear hN1 hf1 HP HF
  go_wp2_with fail
  refine (gunder_any w w1 pl ((k : Int) + 1) ao c Rs (unhide H1).2.2 (by omega)).mono ?_
  rintro e w2 ⟨rfl, hf2⟩
  rw [hu]
  have H2 := hide (And.intro ((unhide H1).1.go hf2) (And.intro ((unhide H1).2.1.fr0 hf2) ((unhide H1).2.2.fr0 hf2)))
  clear c0 c1 k0 k1 k2 k3
  obtain ⟨c0, c1, k0, k1, k2, k3, _, _, _, _⟩ := (unhide H2).2.1.cells
  clear hf2 H1
  go_wp2_with fail
  refine (ggone_any w w2 pl ao c k 2 Rs y (unhide H2).2.2 hk (by omega) (unhide H2).1.fr.size).mono ?_
  rintro e w3 ⟨ao', c', rfl, hR3, hf3⟩
  have H3 := hide (And.intro (show NS w w3 d m pl (pks (Rs.set k ({ y.1 with gone := 2 }, y.2))) by rw [pks_set]; exact (unhide H2).1.go hf3) (And.intro ((unhide H2).2.1.fr0 hf3) hR3))
  clear hR3 hf3 H2 hk hy
  obtain ⟨V, hrV, hgV, hfV⟩ := (unhide H3).2.1.put pl ao' Rs.length c'
  have hfin := (unhide H3).2.1.done (unhide H3).1 (unhide H3).2.2 hfV (unhide HX).1.dl (unhide HX).1.ml (unhide HX).1.fr.size
  have HV := hide hrV
  have HE := hide (And.intro hgV hfin)
  clear hrV hgV hfV hfin H3
  go_wp2_with (refine wpList_stN rfl 45 (.tmp 6) (.tmp 205) rfl _ _ rfl rfl (unhide HV) ?_)
  (try simp only [Exit.inBlock, Exit.then])
  refine bodyPost_ret (results_cellt rfl _ _ (W.heap.size + 2) 0 [.int .i64 pl, .slice ao' (Rs.length) c'] _ _ rfl rfl (unhide HE).1 Try.underlying45 rfl (by kernel_rfl)) rfl ?_
  exact ⟨ao', c', Rs.set k ({ y.1 with gone := 2 }, y.2), by simp, (unhide HE).2.1, by simpa using (unhide HE).2.2.1, by simp, (unhide HE).2.2.2⟩
set_option maxHeartbeats 2000000 in
set_option maxRecDepth 100000 in
/-- played, Send from or to no place. -/
theorem played_1a (w W : World) (d m : Nat) (pl a b : Int) (ao : Option Addr) (c : Nat) (Rs : List RK) (x : Value) (hN : NS w W d m pl (pks Rs)) (h : RfAt w W (.slice ao Rs.length c) Rs) (hl : Rs.length ≤ 1048575) (h1 : a < 0) :
    Calls Try.prog 17 #[.pointer (some ⟨d, 0, none⟩), .agg #[.int .i64 pl, .slice ao Rs.length c], .agg #[.int .i64 1, .int .i64 a, .int .i64 b, x]] W (PPost w W d m pl Rs.length) := by
  have HX := hide (And.intro hN h)
  have hf3 : Fr (fun _ => False) W (((W.alloc (.cells #[.int .i64 pl, .slice ao Rs.length c] 45)).alloc (.cells #[.int .i64 1, .int .i64 a, .int .i64 b, x] 49)).alloc (.cells #[.int .i64 0, .slice none 0 0] 45)) := ((box2 _ _ _).alloc _)
  have HP := hide (PX.new W d m pl (.slice ao Rs.length c) 1 a b x)
  have HF := hide hf3
  obtain ⟨c0, c1, k0, k1, k2, k3, _, _, _, _⟩ := (unhide HP).cells
  have hpl : (pks Rs).length ≤ 1048576 := by rw [pks_len]; omega
  have hb : isP pl a = false ∨ isP pl b = false := by simp [isP]; omega
  clear hN h hf3
  go_enter Try.func17, Try.ntmps17
  go_wp2_with fail
  refine (ns_send_bad2 d m pl a b (pks Rs) _ w _ ((unhide HX).1.go (unhide HF)) hb).mono ?_
  rintro e w1 ⟨rfl, hN1, hf1⟩
  clear hb
  have H2 := hide (And.intro hN1 (And.intro ((unhide HP).fr0 hf1) (((unhide HX).2.fr0 (unhide HF)).fr0 hf1)))
  clear c0 c1 k0 k1 k2 k3
  obtain ⟨c0, c1, k0, k1, k2, k3, z0, z1, _, _⟩ := (unhide H2).2.1.cells
  clear hN1 hf1 HP HF
  obtain ⟨V, hrV, hgV, hfV⟩ := (unhide H2).2.1.put pl ao Rs.length c
  have hfin := (unhide H2).2.1.done (unhide H2).1 (unhide H2).2.2 hfV (unhide HX).1.dl (unhide HX).1.ml (unhide HX).1.fr.size
  have HV := hide hrV
  have HE := hide (And.intro hgV hfin)
  clear hrV hgV hfV hfin H2
  go_wp2_with (refine wpList_stN rfl 45 (.tmp 6) (.tmp 63) rfl _ _ rfl rfl (unhide HV) ?_)
  (try simp only [Exit.inBlock, Exit.then])
  refine bodyPost_ret (results_cellt rfl _ _ (W.heap.size + 2) 0 [.int .i64 pl, .slice ao (Rs.length) c] _ _ rfl rfl (unhide HE).1 Try.underlying45 rfl (by kernel_rfl)) rfl ?_
  exact ⟨ao, c, Rs, by simp, (unhide HE).2.1, by simpa using (unhide HE).2.2.1, by simp, (unhide HE).2.2.2⟩
set_option maxHeartbeats 2000000 in
set_option maxRecDepth 100000 in
/-- played, Send from or to no place. -/
theorem played_1b (w W : World) (d m : Nat) (pl a b : Int) (ao : Option Addr) (c : Nat) (Rs : List RK) (x : Value) (hN : NS w W d m pl (pks Rs)) (h : RfAt w W (.slice ao Rs.length c) Rs) (hl : Rs.length ≤ 1048575) (h1 : ¬ a < 0) (h2 : a ≥ pl) :
    Calls Try.prog 17 #[.pointer (some ⟨d, 0, none⟩), .agg #[.int .i64 pl, .slice ao Rs.length c], .agg #[.int .i64 1, .int .i64 a, .int .i64 b, x]] W (PPost w W d m pl Rs.length) := by
  have HX := hide (And.intro hN h)
  have hf3 : Fr (fun _ => False) W (((W.alloc (.cells #[.int .i64 pl, .slice ao Rs.length c] 45)).alloc (.cells #[.int .i64 1, .int .i64 a, .int .i64 b, x] 49)).alloc (.cells #[.int .i64 0, .slice none 0 0] 45)) := ((box2 _ _ _).alloc _)
  have HP := hide (PX.new W d m pl (.slice ao Rs.length c) 1 a b x)
  have HF := hide hf3
  obtain ⟨c0, c1, k0, k1, k2, k3, _, _, _, _⟩ := (unhide HP).cells
  have hpl : (pks Rs).length ≤ 1048576 := by rw [pks_len]; omega
  have hb : isP pl a = false ∨ isP pl b = false := by simp [isP]; omega
  clear hN h hf3
  go_enter Try.func17, Try.ntmps17
  go_wp2_with fail
  refine (ns_send_bad2 d m pl a b (pks Rs) _ w _ ((unhide HX).1.go (unhide HF)) hb).mono ?_
  rintro e w1 ⟨rfl, hN1, hf1⟩
  clear hb
  have H2 := hide (And.intro hN1 (And.intro ((unhide HP).fr0 hf1) (((unhide HX).2.fr0 (unhide HF)).fr0 hf1)))
  clear c0 c1 k0 k1 k2 k3
  obtain ⟨c0, c1, k0, k1, k2, k3, z0, z1, _, _⟩ := (unhide H2).2.1.cells
  clear hN1 hf1 HP HF
  obtain ⟨V, hrV, hgV, hfV⟩ := (unhide H2).2.1.put pl ao Rs.length c
  have hfin := (unhide H2).2.1.done (unhide H2).1 (unhide H2).2.2 hfV (unhide HX).1.dl (unhide HX).1.ml (unhide HX).1.fr.size
  have HV := hide hrV
  have HE := hide (And.intro hgV hfin)
  clear hrV hgV hfV hfin H2
  go_wp2_with (refine wpList_stN rfl 45 (.tmp 6) (.tmp 63) rfl _ _ rfl rfl (unhide HV) ?_)
  (try simp only [Exit.inBlock, Exit.then])
  refine bodyPost_ret (results_cellt rfl _ _ (W.heap.size + 2) 0 [.int .i64 pl, .slice ao (Rs.length) c] _ _ rfl rfl (unhide HE).1 Try.underlying45 rfl (by kernel_rfl)) rfl ?_
  exact ⟨ao, c, Rs, by simp, (unhide HE).2.1, by simpa using (unhide HE).2.2.1, by simp, (unhide HE).2.2.2⟩
set_option maxHeartbeats 2000000 in
set_option maxRecDepth 100000 in
/-- played, Send from or to no place. -/
theorem played_1c (w W : World) (d m : Nat) (pl a b : Int) (ao : Option Addr) (c : Nat) (Rs : List RK) (x : Value) (hN : NS w W d m pl (pks Rs)) (h : RfAt w W (.slice ao Rs.length c) Rs) (hl : Rs.length ≤ 1048575) (h1 : ¬ a < 0) (h2 : ¬ a ≥ pl) (h3 : b < 0) :
    Calls Try.prog 17 #[.pointer (some ⟨d, 0, none⟩), .agg #[.int .i64 pl, .slice ao Rs.length c], .agg #[.int .i64 1, .int .i64 a, .int .i64 b, x]] W (PPost w W d m pl Rs.length) := by
  have HX := hide (And.intro hN h)
  have hf3 : Fr (fun _ => False) W (((W.alloc (.cells #[.int .i64 pl, .slice ao Rs.length c] 45)).alloc (.cells #[.int .i64 1, .int .i64 a, .int .i64 b, x] 49)).alloc (.cells #[.int .i64 0, .slice none 0 0] 45)) := ((box2 _ _ _).alloc _)
  have HP := hide (PX.new W d m pl (.slice ao Rs.length c) 1 a b x)
  have HF := hide hf3
  obtain ⟨c0, c1, k0, k1, k2, k3, _, _, _, _⟩ := (unhide HP).cells
  have hpl : (pks Rs).length ≤ 1048576 := by rw [pks_len]; omega
  have hb : isP pl a = false ∨ isP pl b = false := by simp [isP]; omega
  clear hN h hf3
  go_enter Try.func17, Try.ntmps17
  go_wp2_with fail
  refine (ns_send_bad2 d m pl a b (pks Rs) _ w _ ((unhide HX).1.go (unhide HF)) hb).mono ?_
  rintro e w1 ⟨rfl, hN1, hf1⟩
  clear hb
  have H2 := hide (And.intro hN1 (And.intro ((unhide HP).fr0 hf1) (((unhide HX).2.fr0 (unhide HF)).fr0 hf1)))
  clear c0 c1 k0 k1 k2 k3
  obtain ⟨c0, c1, k0, k1, k2, k3, z0, z1, _, _⟩ := (unhide H2).2.1.cells
  clear hN1 hf1 HP HF
  obtain ⟨V, hrV, hgV, hfV⟩ := (unhide H2).2.1.put pl ao Rs.length c
  have hfin := (unhide H2).2.1.done (unhide H2).1 (unhide H2).2.2 hfV (unhide HX).1.dl (unhide HX).1.ml (unhide HX).1.fr.size
  have HV := hide hrV
  have HE := hide (And.intro hgV hfin)
  clear hrV hgV hfV hfin H2
  go_wp2_with (refine wpList_stN rfl 45 (.tmp 6) (.tmp 63) rfl _ _ rfl rfl (unhide HV) ?_)
  (try simp only [Exit.inBlock, Exit.then])
  refine bodyPost_ret (results_cellt rfl _ _ (W.heap.size + 2) 0 [.int .i64 pl, .slice ao (Rs.length) c] _ _ rfl rfl (unhide HE).1 Try.underlying45 rfl (by kernel_rfl)) rfl ?_
  exact ⟨ao, c, Rs, by simp, (unhide HE).2.1, by simpa using (unhide HE).2.2.1, by simp, (unhide HE).2.2.2⟩
set_option maxHeartbeats 2000000 in
set_option maxRecDepth 100000 in
/-- played, Send from or to no place. -/
theorem played_1d (w W : World) (d m : Nat) (pl a b : Int) (ao : Option Addr) (c : Nat) (Rs : List RK) (x : Value) (hN : NS w W d m pl (pks Rs)) (h : RfAt w W (.slice ao Rs.length c) Rs) (hl : Rs.length ≤ 1048575) (h1 : ¬ a < 0) (h2 : ¬ a ≥ pl) (h3 : ¬ b < 0) (h4 : b ≥ pl) :
    Calls Try.prog 17 #[.pointer (some ⟨d, 0, none⟩), .agg #[.int .i64 pl, .slice ao Rs.length c], .agg #[.int .i64 1, .int .i64 a, .int .i64 b, x]] W (PPost w W d m pl Rs.length) := by
  have HX := hide (And.intro hN h)
  have hf3 : Fr (fun _ => False) W (((W.alloc (.cells #[.int .i64 pl, .slice ao Rs.length c] 45)).alloc (.cells #[.int .i64 1, .int .i64 a, .int .i64 b, x] 49)).alloc (.cells #[.int .i64 0, .slice none 0 0] 45)) := ((box2 _ _ _).alloc _)
  have HP := hide (PX.new W d m pl (.slice ao Rs.length c) 1 a b x)
  have HF := hide hf3
  obtain ⟨c0, c1, k0, k1, k2, k3, _, _, _, _⟩ := (unhide HP).cells
  have hpl : (pks Rs).length ≤ 1048576 := by rw [pks_len]; omega
  have hb : isP pl a = false ∨ isP pl b = false := by simp [isP]; omega
  clear hN h hf3
  go_enter Try.func17, Try.ntmps17
  go_wp2_with fail
  refine (ns_send_bad2 d m pl a b (pks Rs) _ w _ ((unhide HX).1.go (unhide HF)) hb).mono ?_
  rintro e w1 ⟨rfl, hN1, hf1⟩
  clear hb
  have H2 := hide (And.intro hN1 (And.intro ((unhide HP).fr0 hf1) (((unhide HX).2.fr0 (unhide HF)).fr0 hf1)))
  clear c0 c1 k0 k1 k2 k3
  obtain ⟨c0, c1, k0, k1, k2, k3, z0, z1, _, _⟩ := (unhide H2).2.1.cells
  clear hN1 hf1 HP HF
  obtain ⟨V, hrV, hgV, hfV⟩ := (unhide H2).2.1.put pl ao Rs.length c
  have hfin := (unhide H2).2.1.done (unhide H2).1 (unhide H2).2.2 hfV (unhide HX).1.dl (unhide HX).1.ml (unhide HX).1.fr.size
  have HV := hide hrV
  have HE := hide (And.intro hgV hfin)
  clear hrV hgV hfV hfin H2
  go_wp2_with (refine wpList_stN rfl 45 (.tmp 6) (.tmp 63) rfl _ _ rfl rfl (unhide HV) ?_)
  (try simp only [Exit.inBlock, Exit.then])
  refine bodyPost_ret (results_cellt rfl _ _ (W.heap.size + 2) 0 [.int .i64 pl, .slice ao (Rs.length) c] _ _ rfl rfl (unhide HE).1 Try.underlying45 rfl (by kernel_rfl)) rfl ?_
  exact ⟨ao, c, Rs, by simp, (unhide HE).2.1, by simpa using (unhide HE).2.2.1, by simp, (unhide HE).2.2.2⟩
set_option maxHeartbeats 2000000 in
set_option maxRecDepth 100000 in
/-- played, Send. -/
theorem played_1y (w W : World) (d m : Nat) (pl a b : Int) (ao : Option Addr) (c : Nat) (Rs : List RK) (xo : Option Addr) (xc : Nat) (l : List Nat) (hN : NS w W d m pl (pks Rs)) (h : RfAt w W (.slice ao Rs.length c) Rs) (hl : Rs.length ≤ 1048575) (h1 : ¬ a < 0) (h2 : ¬ a ≥ pl) (h3 : ¬ b < 0) (h4 : ¬ b ≥ pl) (hx : Src w (.slice xo l.length xc) l) (hll : l.length ≤ 1048576) (hxl : l = [] ∨ ∀ g o n c, Value.slice xo l.length xc = .slice (some ⟨g, o, none⟩) n c → g < w.heap.size) :
    Calls Try.prog 17 #[.pointer (some ⟨d, 0, none⟩), .agg #[.int .i64 pl, .slice ao Rs.length c], .agg #[.int .i64 1, .int .i64 a, .int .i64 b, .slice xo l.length xc]] W (PPost w W d m pl Rs.length) := by
  have HX := hide (And.intro hN h)
  have hf3 : Fr (fun _ => False) W (((W.alloc (.cells #[.int .i64 pl, .slice ao Rs.length c] 45)).alloc (.cells #[.int .i64 1, .int .i64 a, .int .i64 b, (.slice xo l.length xc)] 49)).alloc (.cells #[.int .i64 0, .slice none 0 0] 45)) := ((box2 _ _ _).alloc _)
  have HP := hide (PX.new W d m pl (.slice ao Rs.length c) 1 a b (.slice xo l.length xc))
  have HF := hide hf3
  obtain ⟨c0, c1, k0, k1, k2, k3, _, _, _, _⟩ := (unhide HP).cells
  have hpl : (pks Rs).length ≤ 1048576 := by rw [pks_len]; omega
  have hpa : isP pl a = true := by simp [isP]; omega
  have hpb : isP pl b = true := by simp [isP]; omega
  have HSX := hide (And.intro hx hxl)
  have HSW : Hid (∀ W', Fr (fun k => k = d) (((W.alloc (.cells #[.int .i64 pl, .slice ao Rs.length c] 45)).alloc (.cells #[.int .i64 1, .int .i64 a, .int .i64 b, .slice xo l.length xc] 49)).alloc (.cells #[.int .i64 0, .slice none 0 0] 45)) W' → Src W' (.slice xo l.length xc) l) := fun W' hf => by
    rcases hxl with rfl | hxl
    · exact hx.none
    · exact (hx.fr ((unhide HX).1.go (unhide HF)).fr (fun _ _ _ _ _ h => h)).fr hf (fun g o n c e => by have := hxl g o n c e; have := (unhide HX).1.d; show ¬ g = d; omega)
  clear hN h hf3 hx hxl
  go_enter Try.func17, Try.ntmps17
  go_wp2_with fail
  refine (ns_sendS d m pl a b (pks Rs) (.slice xo l.length xc) l w _ ((unhide HX).1.go (unhide HF)) hpa hpb (unhide HSW) hll hpl ((Rs.length : Int) + 1) (by rw [pks_len])).mono ?_
  rintro e w1 ⟨rfl, hN1, hf1⟩
  have H1 := hide (And.intro hN1 (And.intro ((unhide HP).frN hf1 (unhide HX).1.dl (unhide HX).1.ml) (((unhide HX).2.fr0 (unhide HF)).net ((unhide HX).1.go (unhide HF)) hf1)))
  clear c0 c1 k0 k1 k2 k3
  obtain ⟨c0, c1, k0, k1, k2, k3, z0, z1, _, _⟩ := (unhide H1).2.1.cells
  clear hN1 hf1 HP HF
  clear hpa hpb
  go_wp2_with fail
  refine (gput_any w w1 pl ao c Rs (⟨a, b, l, 0, false⟩, xo, xc) (unhide H1).2.2 ⟨(unhide HSX).1, hll⟩ (by omega) (unhide H1).1.fr.size).mono ?_
  rintro e w2 ⟨ao', c', rfl, hR2, hf2⟩
  obtain ⟨V, hrV, hPV, hfV⟩ := ((unhide H1).2.1.fr0 hf2).set ao' (Rs.length + 1) c'
  have hNV : NS w V d m pl (pks (Rs ++ [(⟨a, b, l, 0, false⟩, xo, xc)])) := by
    have hN2 := (unhide H1).1.go hf2
    have e1 : pks (Rs ++ [(⟨a, b, l, 0, false⟩, xo, xc)]) = pks Rs ++ [⟨a, b, l, 0, false⟩] := by simp [pks]
    rw [e1]
    have := (unhide HX).1.dl
    have := (unhide HX).1.ml
    have := (unhide HX).1.fr.size
    exact hN2.box hfV ((unhide H1).2.1.fr0 hf2).n (no8_2 pl _ (fun z => by simp)) (by omega) (by omega) (by omega)
  have hRV := hR2.box hfV ((unhide H1).2.1.fr0 hf2).n (by decide)
  have HV := hide hrV
  have H2 := hide (And.intro hNV (And.intro hPV hRV))
  clear c0 c1 k0 k1 k2 k3
  obtain ⟨c0, c1, k0, k1, k2, k3, _, _, _, _⟩ := hPV.cells
  obtain ⟨y0, y1, y2, y3⟩ := hPV.zcells
  clear hrV hPV hfV hNV hRV hR2 hf2 H1
  go_wp2_with (refine wpList_stN rfl 45 (.tmp 4) (.tmp 78) rfl _ _ rfl rfl (unhide HV) ?_)
  clear HV
  have HK : Hid (∀ W', Fr (fun k => k = W.heap.size + 1 + 1) V W' → W'.cell? ⟨W.heap.size, 0, none⟩ = some (.int .i64 pl) ∧ W'.cell? ⟨W.heap.size, 1, none⟩ = some (.slice ao' (Rs.length + 1) c')) := fun W' hf => ⟨(hf.cell (p := ⟨W.heap.size, 0, none⟩) (lt_of_cell c0) (by show ¬ W.heap.size = W.heap.size + 1 + 1; omega)).trans c0, (hf.cell (p := ⟨W.heap.size, 1, none⟩) (lt_of_cell c1) (by show ¬ W.heap.size = W.heap.size + 1 + 1; omega)).trans c1⟩
  have hq : ((Rs.length : Int) + 1 == (Rs.length : Int) + 1) = true := by simp
  go_region_held3 (fun W' => W'.cell? ⟨W.heap.size, 0, none⟩ = some (.int .i64 pl) ∧ W'.cell? ⟨W.heap.size, 1, none⟩ = some (.slice ao' (Rs.length + 1) c'))
    (first | exact ⟨c0, c1⟩ | exact (unhide HK) _ (two_fr V _ _ _))
    (fail)
  have hfin := (unhide H2).2.1.done (unhide H2).1 (unhide H2).2.2 (two_fr V (W.heap.size + 1 + 1) (.int .i64 pl) (.slice ao' (Rs.length + 1) c')) (unhide HX).1.dl (unhide HX).1.ml (unhide HX).1.fr.size
  have HE := hide (And.intro ((unhide H2).2.1.two (.int .i64 pl) (.slice ao' (Rs.length + 1) c')) hfin)
  clear hfin H2 HK y0 y1 y2 y3 c0 c1 k0 k1 k2 k3
  go_wp2_with fail
  (try simp only [Exit.inBlock, Exit.then])
  refine bodyPost_ret (results_cellt rfl _ _ (W.heap.size + 1 + 1) 0 [.int .i64 pl, .slice ao' (Rs.length + 1) c'] _ _ rfl rfl (unhide HE).1 Try.underlying45 rfl (by kernel_rfl)) rfl ?_
  exact ⟨ao', c', Rs ++ [(⟨a, b, l, 0, false⟩, xo, xc)], by simp, (unhide HE).2.1, by simpa using (unhide HE).2.2.1, by simp, (unhide HE).2.2.2⟩
set_option maxHeartbeats 2000000 in
set_option maxRecDepth 100000 in
/-- played, Copy of what is not under way. -/
theorem played_2n (w W : World) (d m : Nat) (pl a b : Int) (ao : Option Addr) (c : Nat) (Rs : List RK) (x : Value) (hN : NS w W d m pl (pks Rs)) (h : RfAt w W (.slice ao Rs.length c) Rs) (hl : Rs.length ≤ 1048575) (ha : (Lit.int .i64 a).wf = true) (hu : und (pks Rs) a = false) :
    Calls Try.prog 17 #[.pointer (some ⟨d, 0, none⟩), .agg #[.int .i64 pl, .slice ao Rs.length c], .agg #[.int .i64 2, .int .i64 a, .int .i64 b, x]] W (PPost w W d m pl Rs.length) := by
  have HX := hide (And.intro hN h)
  have hf3 : Fr (fun _ => False) W (((W.alloc (.cells #[.int .i64 pl, .slice ao Rs.length c] 45)).alloc (.cells #[.int .i64 2, .int .i64 a, .int .i64 b, x] 49)).alloc (.cells #[.int .i64 0, .slice none 0 0] 45)) := ((box2 _ _ _).alloc _)
  have HP := hide (PX.new W d m pl (.slice ao Rs.length c) 2 a b x)
  have HF := hide hf3
  obtain ⟨c0, c1, k0, k1, k2, k3, _, _, _, _⟩ := (unhide HP).cells
  have hpl : (pks Rs).length ≤ 1048576 := by rw [pks_len]; omega
  clear hN h hf3
  go_enter Try.func17, Try.ntmps17
  go_wp2_with fail
  refine (ns_copy_no d m pl a (pks Rs) w _ ((unhide HX).1.go (unhide HF)) ha hu).mono ?_
  rintro e w1 ⟨rfl, hN1, hf1⟩
  have H1 := hide (And.intro hN1 (And.intro ((unhide HP).fr0 hf1) (((unhide HX).2.fr0 (unhide HF)).fr0 hf1)))
  clear c0 c1 k0 k1 k2 k3
  obtain ⟨c0, c1, k0, k1, k2, k3, z0, z1, _, _⟩ := (unhide H1).2.1.cells
  clear hN1 hf1 HP HF
  go_wp2_with fail
  refine (gunder_any w w1 pl a ao c Rs (unhide H1).2.2 (by omega)).mono ?_
  rintro e w2 ⟨rfl, hf2⟩
  rw [hu]
  have H2 := hide (And.intro ((unhide H1).1.go hf2) (And.intro ((unhide H1).2.1.fr0 hf2) ((unhide H1).2.2.fr0 hf2)))
  clear c0 c1 k0 k1 k2 k3
  obtain ⟨c0, c1, k0, k1, k2, k3, _, _, _, _⟩ := (unhide H2).2.1.cells
  clear hf2 H1
  obtain ⟨V, hrV, hgV, hfV⟩ := (unhide H2).2.1.put pl ao Rs.length c
  have hfin := (unhide H2).2.1.done (unhide H2).1 (unhide H2).2.2 hfV (unhide HX).1.dl (unhide HX).1.ml (unhide HX).1.fr.size
  have HV := hide hrV
  have HE := hide (And.intro hgV hfin)
  clear hrV hgV hfV hfin H2
  go_wp2_with (refine wpList_stN rfl 45 (.tmp 6) (.tmp 103) rfl _ _ rfl rfl (unhide HV) ?_)
  (try simp only [Exit.inBlock, Exit.then])
  refine bodyPost_ret (results_cellt rfl _ _ (W.heap.size + 2) 0 [.int .i64 pl, .slice ao (Rs.length) c] _ _ rfl rfl (unhide HE).1 Try.underlying45 rfl (by kernel_rfl)) rfl ?_
  exact ⟨ao, c, Rs, by simp, (unhide HE).2.1, by simpa using (unhide HE).2.2.1, by simp, (unhide HE).2.2.2⟩
set_option maxHeartbeats 2000000 in
set_option maxRecDepth 100000 in
/-- played, Copy of a packet that is under way. -/
theorem played_2y (w W : World) (d m : Nat) (pl b : Int) (ao : Option Addr) (c : Nat) (Rs : List RK) (x : Value) (hN : NS w W d m pl (pks Rs)) (h : RfAt w W (.slice ao Rs.length c) Rs) (hl : Rs.length ≤ 1048575) (k : Nat) (y : RK) (hk : Rs[k]? = some y) (hy : y.1.gone = 0) :
    Calls Try.prog 17 #[.pointer (some ⟨d, 0, none⟩), .agg #[.int .i64 pl, .slice ao Rs.length c], .agg #[.int .i64 2, .int .i64 ((k : Int) + 1), .int .i64 b, x]] W (PPost w W d m pl Rs.length) := by
  have hu : und (pks Rs) ((k : Int) + 1) = true := by rw [und_nat, pks_at hk]; simp [hy]
  have hkl := (List.getElem?_eq_some_iff.1 hk).1
  have HX := hide (And.intro hN h)
  have hf3 : Fr (fun _ => False) W (((W.alloc (.cells #[.int .i64 pl, .slice ao Rs.length c] 45)).alloc (.cells #[.int .i64 2, .int .i64 ((k : Int) + 1), .int .i64 b, x] 49)).alloc (.cells #[.int .i64 0, .slice none 0 0] 45)) := ((box2 _ _ _).alloc _)
  have HP := hide (PX.new W d m pl (.slice ao Rs.length c) 2 ((k : Int) + 1) b x)
  have HF := hide hf3
  obtain ⟨c0, c1, k0, k1, k2, k3, _, _, _, _⟩ := (unhide HP).cells
  have hpl : (pks Rs).length ≤ 1048576 := by rw [pks_len]; omega
  clear hN h hf3
  go_enter Try.func17, Try.ntmps17
  go_wp2_with fail
  refine (ns_copy d m k pl (pks Rs) y.1 w _ ((unhide HX).1.go (unhide HF)) (pks_at hk) hy hpl _ ((Rs.length : Int) + 1) rfl (by rw [pks_len])).mono ?_
  rintro e w1 ⟨rfl, hN1, hf1⟩
  have H1 := hide (And.intro hN1 (And.intro ((unhide HP).frN hf1 (unhide HX).1.dl (unhide HX).1.ml) (((unhide HX).2.fr0 (unhide HF)).net ((unhide HX).1.go (unhide HF)) hf1)))
  clear c0 c1 k0 k1 k2 k3
  obtain ⟨c0, c1, k0, k1, k2, k3, z0, z1, _, _⟩ := (unhide H1).2.1.cells
  clear hN1 hf1 HP HF
  go_wp2_with fail
  refine (gunder_any w w1 pl ((k : Int) + 1) ao c Rs (unhide H1).2.2 (by omega)).mono ?_
  rintro e w2 ⟨rfl, hf2⟩
  rw [hu]
  have H2 := hide (And.intro ((unhide H1).1.go hf2) (And.intro ((unhide H1).2.1.fr0 hf2) ((unhide H1).2.2.fr0 hf2)))
  clear c0 c1 k0 k1 k2 k3
  obtain ⟨c0, c1, k0, k1, k2, k3, _, _, _, _⟩ := (unhide H2).2.1.cells
  clear hf2 H1
  obtain ⟨g, rfl, r0, r1, r2, r3, r4, _⟩ := (unhide H2).2.2.at_ hk
  have hgl : g < w2.heap.size := lt_of_cell r0
  have hB2 := (unhide H2).2.1.lt
  have hB0 : W.heap.size < w2.heap.size := by omega
  have hB1 : W.heap.size + 1 < w2.heap.size := by omega
  have hB3 : ¬ w2.heap.size = W.heap.size := by omega
  have hB4 : ¬ w2.heap.size = W.heap.size + 1 := by omega
  have hsy := (unhide HX).2.src y (List.mem_of_getElem? hk)
  have hcap : Rs.length ≤ c := by
    rcases (unhide H2).2.2.row.2 with ⟨e, _⟩ | ⟨g', c', cur, e, _, _, hc, _⟩
    · cases e
    · simp only [Value.slice.injEq] at e; omega
  have HY : Hid (∀ o, Calls Try.prog 26 #[.agg #[.int .i64 pl, .slice (some ⟨g, 0, none⟩) Rs.length c], .agg #[.int .i64 y.1.f, .int .i64 y.1.t, .slice y.2.1 y.1.b.length y.2.2, .int .i64 (y.1.gone : Nat), .bool true]] (w2.alloc o) fun e w' => ∃ ao' c', e = .returned (.agg #[.int .i64 pl, .slice ao' (Rs.length + 1) c']) ∧ NS w w' d m pl (pks (Rs ++ [({ y.1 with cp := true }, y.2)])) ∧ PX W w' d m pl (.slice (some ⟨g, 0, none⟩) Rs.length c) 2 ((k : Int) + 1) b x [.int .i64 0, .slice none 0 0] ∧ RfAt w w' (.slice ao' (Rs.length + 1) c') (Rs ++ [({ y.1 with cp := true }, y.2)])) := fun o => by
    refine (gput_any w (w2.alloc o) pl (some ⟨g, 0, none⟩) c Rs ({ y.1 with cp := true }, y.2) ((unhide H2).2.2.fr0 (box1 _ _)) hsy (by omega) (Nat.le_trans (unhide H2).1.fr.size (box1 w2 o).size)).mono ?_
    rintro e w' ⟨ao', c', rfl, hR, hf⟩
    have e1 : pks (Rs ++ [({ y.1 with cp := true }, y.2)]) = pks Rs ++ [{ y.1 with cp := true }] := by simp [pks]
    exact ⟨ao', c', rfl, by rw [e1]; exact ((unhide H2).1.go (box1 _ _)).go hf, ((unhide H2).2.1.fr0 (box1 _ _)).fr0 hf, hR⟩
  clear hk hy H2 hsy
  generalize y.1.f = yf at *
  generalize y.1.t = yt at *
  generalize y.1.b.length = yl at *
  generalize y.1.gone = yg at *
  generalize y.1.cp = yp at *
  generalize y.2.1 = ya at *
  generalize y.2.2 = yc at *
  go_wp2_with fail
  refine ((unhide HY) _).mono ?_
  rintro e w3 ⟨ao', c', rfl, hN3, hP3, hR3⟩
  obtain ⟨V, hrV, hPV, hfV⟩ := hP3.set ao' (Rs.length + 1) c'
  have hNV := hN3.box hfV hP3.n (no8_2 pl _ (fun z => by simp)) (by have := (unhide HX).1.dl; omega) (by have := (unhide HX).1.ml; omega) (by have := (unhide HX).1.fr.size; omega)
  have hRV := hR3.box hfV hP3.n (by decide)
  have HV := hide hrV
  have H2 := hide (And.intro hNV (And.intro hPV hRV))
  clear c0 c1 k0 k1 k2 k3
  obtain ⟨c0, c1, k0, k1, k2, k3, _, _, _, _⟩ := hPV.cells
  obtain ⟨y0, y1, y2, y3⟩ := hPV.zcells
  clear hrV hPV hfV hNV hRV hN3 hP3 hR3 HY
  go_wp2_with (refine wpList_stN rfl 45 (.tmp 4) (.tmp 120) rfl _ _ rfl rfl (unhide HV) ?_)
  clear HV
  have HK : Hid (∀ W', Fr (fun k => k = W.heap.size + 1 + 1) V W' → W'.cell? ⟨W.heap.size, 0, none⟩ = some (.int .i64 pl) ∧ W'.cell? ⟨W.heap.size, 1, none⟩ = some (.slice ao' (Rs.length + 1) c')) := fun W' hf => ⟨(hf.cell (p := ⟨W.heap.size, 0, none⟩) (lt_of_cell c0) (by show ¬ W.heap.size = W.heap.size + 1 + 1; omega)).trans c0, (hf.cell (p := ⟨W.heap.size, 1, none⟩) (lt_of_cell c1) (by show ¬ W.heap.size = W.heap.size + 1 + 1; omega)).trans c1⟩
  have hq : ((Rs.length : Int) + 1 == (Rs.length : Int) + 1) = true := by simp
  go_region_held3 (fun W' => W'.cell? ⟨W.heap.size, 0, none⟩ = some (.int .i64 pl) ∧ W'.cell? ⟨W.heap.size, 1, none⟩ = some (.slice ao' (Rs.length + 1) c'))
    (first | exact ⟨c0, c1⟩ | exact (unhide HK) _ (two_fr V _ _ _))
    (fail)
  have hfin := (unhide H2).2.1.done (unhide H2).1 (unhide H2).2.2 (two_fr V (W.heap.size + 1 + 1) (.int .i64 pl) (.slice ao' (Rs.length + 1) c')) (unhide HX).1.dl (unhide HX).1.ml (unhide HX).1.fr.size
  have HE := hide (And.intro ((unhide H2).2.1.two (.int .i64 pl) (.slice ao' (Rs.length + 1) c')) hfin)
  clear hfin H2 HK y0 y1 y2 y3 c0 c1 k0 k1 k2 k3
  go_wp2_with fail
  (try simp only [Exit.inBlock, Exit.then])
  refine bodyPost_ret (results_cellt rfl _ _ (W.heap.size + 1 + 1) 0 [.int .i64 pl, .slice ao' (Rs.length + 1) c'] _ _ rfl rfl (unhide HE).1 Try.underlying45 rfl (by kernel_rfl)) rfl ?_
  exact ⟨ao', c', Rs ++ [({ y.1 with cp := true }, y.2)], by simp, (unhide HE).2.1, by simpa using (unhide HE).2.2.1, by simp, (unhide HE).2.2.2⟩
end Go.Proofs.Ytedmhpplhbaglaa
