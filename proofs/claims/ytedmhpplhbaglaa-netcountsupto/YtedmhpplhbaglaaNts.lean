import Derived.Test.YtedmhpplhbaglaaNtr
namespace Go.Proofs.Ytedmhpplhbaglaa
open Go.RowKit Go.ChangeShapes Go.WideShapes Go.Maps

/-- played's boxes at the size of W, and behind it: the document's net, the call, the answer; nothing else has turned but the net. -/
structure PX (W V : World) (d m : Nat) (pl : Int) (v : Value) (ki a b : Int) (x : Value) (r : List Value) : Prop where
  n : V.heap[W.heap.size]? = some (.cells #[.int .i64 pl, v] 45)
  o : V.heap[W.heap.size + 1]? = some (.cells #[.int .i64 ki, .int .i64 a, .int .i64 b, x] 49)
  z : V.heap[W.heap.size + 2]? = some (.cells r.toArray 45)
  f : Fr (fun k => k = d ∨ k = m) W V
theorem PX.new (W : World) (d m : Nat) (pl : Int) (v : Value) (ki a b : Int) (x : Value) : PX W (((W.alloc (.cells #[.int .i64 pl, v] 45)).alloc (.cells #[.int .i64 ki, .int .i64 a, .int .i64 b, x] 49)).alloc (.cells #[.int .i64 0, .slice none 0 0] 45)) d m pl v ki a b x [.int .i64 0, .slice none 0 0] := by
  refine ⟨?_, ?_, ?_, ((Fr.refl _ _).alloc _).alloc _ |>.alloc _⟩
  · rw [Below.heap_alloc _ _ _ (by simp; omega), Below.heap_alloc _ _ _ (by simp)]
    exact heap_alloc_new W _
  · rw [Below.heap_alloc _ _ _ (by simp)]
    have := heap_alloc_new (W.alloc (.cells #[.int .i64 pl, v] 45)) (.cells #[.int .i64 ki, .int .i64 a, .int .i64 b, x] 49)
    simpa using this
  · have := heap_alloc_new ((W.alloc (.cells #[.int .i64 pl, v] 45)).alloc (.cells #[.int .i64 ki, .int .i64 a, .int .i64 b, x] 49)) (.cells #[.int .i64 0, .slice none 0 0] 45)
    simpa using this
theorem PX.lt {W V : World} {d m : Nat} {pl : Int} {v x : Value} {ki a b : Int} {r : List Value} (h : PX W V d m pl v ki a b x r) : W.heap.size + 2 < V.heap.size := lt_of_block h.z
theorem PX.frN {W V V' : World} {d m : Nat} {pl : Int} {v x : Value} {ki a b : Int} {r : List Value} (h : PX W V d m pl v ki a b x r) (hf : Fr (fun k => k = d ∨ k = m) V V') (hd : d < W.heap.size) (hm : m < W.heap.size) : PX W V' d m pl v ki a b x r := by
  have hl := h.lt
  exact ⟨(hf.block W.heap.size (by omega) (by omega)).trans h.n, (hf.block (W.heap.size + 1) (by omega) (by omega)).trans h.o, (hf.block (W.heap.size + 2) (by omega) (by omega)).trans h.z, h.f.trans hf (fun _ _ h => h)⟩
theorem PX.fr0 {W V V' : World} {d m : Nat} {pl : Int} {v x : Value} {ki a b : Int} {r : List Value} (h : PX W V d m pl v ki a b x r) (hf : Fr (fun _ => False) V V') : PX W V' d m pl v ki a b x r := by
  have hl := h.lt
  exact ⟨(hf.block W.heap.size (by omega) (fun h => h)).trans h.n, (hf.block (W.heap.size + 1) (by omega) (fun h => h)).trans h.o, (hf.block (W.heap.size + 2) (by omega) (fun h => h)).trans h.z, h.f.trans hf (fun _ _ h => h.elim)⟩
theorem PX.cells {W V : World} {d m : Nat} {pl : Int} {v x : Value} {ki a b : Int} {r : List Value} (h : PX W V d m pl v ki a b x r) :
    V.cell? ⟨W.heap.size, 0, none⟩ = some (.int .i64 pl) ∧ V.cell? ⟨W.heap.size, 1, none⟩ = some v ∧ V.cell? ⟨W.heap.size + 1, 0, none⟩ = some (.int .i64 ki) ∧ V.cell? ⟨W.heap.size + 1, 1, none⟩ = some (.int .i64 a) ∧ V.cell? ⟨W.heap.size + 1, 2, none⟩ = some (.int .i64 b) ∧ V.cell? ⟨W.heap.size + 1, 3, none⟩ = some x ∧ V.frozen? ⟨W.heap.size, 0, none⟩ = false ∧ V.frozen? ⟨W.heap.size, 1, none⟩ = false ∧ V.frozen? ⟨W.heap.size + 2, 0, none⟩ = false ∧ V.frozen? ⟨W.heap.size + 2, 1, none⟩ = false :=
  ⟨cell_of_blk h.n rfl, cell_of_blk h.n rfl, cell_of_blk h.o rfl, cell_of_blk h.o rfl, cell_of_blk h.o rfl, cell_of_blk h.o rfl, by simp [World.frozen?, h.n], by simp [World.frozen?, h.n], by simp [World.frozen?, h.z], by simp [World.frozen?, h.z]⟩
/-- The answer stored. -/
theorem PX.put {W V : World} {d m : Nat} {pl : Int} {v x : Value} {ki a b : Int} (h : PX W V d m pl v ki a b x [.int .i64 0, .slice none 0 0]) (p : Int) (ao : Option Addr) (n c : Nat) :
    ∃ V', (Instr.storeAt 45 (.pointer (some ⟨W.heap.size + 2, 0, none⟩)) (.agg #[.int .i64 p, .slice ao n c])).run Try.prog V = .ok () V' ∧ V'.rangeAt (W.heap.size + 2) 0 [.int .i64 p, .slice ao n c] ∧ Fr (fun k => k = W.heap.size + 2) V V' := by
  obtain ⟨V', h1, h2, h3⟩ := st_all (P := Try.prog) (ty := 45) _ [.int .i64 p, .slice ao n c] h.z rfl (by kernel_rfl) (by simp [Value.oneCell'])
  exact ⟨V', h1, range_of_block h2, h3⟩
/-- The document's net stored anew in its box. -/
theorem PX.set {W V : World} {d m : Nat} {pl : Int} {v x : Value} {ki a b : Int} {r : List Value} (h : PX W V d m pl v ki a b x r) (ao : Option Addr) (n c : Nat) :
    ∃ V', (Instr.storeAt 45 (.pointer (some ⟨W.heap.size, 0, none⟩)) (.agg #[.int .i64 pl, .slice ao n c])).run Try.prog V = .ok () V' ∧ PX W V' d m pl (.slice ao n c) ki a b x r ∧ Fr (fun k => k = W.heap.size) V V' := by
  obtain ⟨V', h1, h2, h3⟩ := st_all (P := Try.prog) (ty := 45) [.int .i64 pl, v] [.int .i64 pl, .slice ao n c] h.n rfl (by kernel_rfl) (by simp [Value.oneCell'])
  have hl := h.lt
  exact ⟨V', h1, ⟨h2, (h3.block _ (by omega) (by show ¬ W.heap.size + 1 = W.heap.size; omega)).trans h.o, (h3.block _ (by omega) (by show ¬ W.heap.size + 2 = W.heap.size; omega)).trans h.z, h.f.trans h3 (fun i hi e => by have e' : i = W.heap.size := e; omega)⟩, h3⟩
theorem Src.box {w w' : World} {x : Value} {l : List Nat} {g0 t : Nat} {cs : Array Value} (h : Src w x l) (hf : Fr (fun k => k = g0) w w') (hb : w.heap[g0]? = some (.cells cs t)) (hk : ∀ (j : Nat) z, cs[j]? ≠ some (.int .u8 z)) : Src w' x l := by
  rcases h with h | ⟨g, o, c, hx, hc⟩ | h
  · exact .inl h
  · refine .inr (.inl ⟨g, o, c, hx, fun j v hv => ?_⟩)
    have h1 := hc j v hv
    refine (hf.cell (p := ⟨g, o + j, none⟩) (lt_of_cell h1) (fun e => ?_)).trans h1
    have e' : g = g0 := e
    subst e'
    simp only [World.cell?, hb] at h1
    have hv' : ∃ z, v = .int .u8 z := by
      simp only [cellsOf, List.getElem?_map, Option.map_eq_some_iff] at hv
      obtain ⟨y, _, rfl⟩ := hv
      exact ⟨_, rfl⟩
    obtain ⟨z, rfl⟩ := hv'
    exact hk _ z h1
  · exact .inr (.inr h)
/-- A box is written. -/
theorem NS.box {w W W' : World} {d m : Nat} {pl : Int} {ps : List PK} {g0 t : Nat} {cs : Array Value} (h : NS w W d m pl ps) (hf : Fr (fun k => k = g0) W W') (hb : W.heap[g0]? = some (.cells cs t)) (hk : ∀ (j : Nat) z, cs[j]? ≠ some (.int .u8 z)) (hd : g0 ≠ d) (hm : g0 ≠ m) (hw : w.heap.size ≤ g0) : NS w W' d m pl ps := by
  obtain ⟨sv, T, h1, h2⟩ := h.at_
  obtain ⟨D, h3, h4⟩ := h1.map
  exact ⟨⟨sv, T, ⟨(hf.block d h1.lt.1 (fun e => hd e.symm)).trans h1.blk, ⟨D, ownsMap_keep h3 (hf.block m h1.lt.2 (fun e => hm e.symm)), h4⟩, fun k p hk' hp => (h1.src k p hk' hp).box hf hb hk, h1.own, fun g hg => ⟨(h1.ns g hg).1, (h1.ns g hg).2.1, Nat.lt_of_lt_of_le (h1.ns g hg).2.2 hf.size⟩, h1.lim⟩, h2⟩, h.fr.absorb hf (fun k hk => by cases hk; exact hw), h.d, h.m⟩
theorem no8_2 (p : Int) (v : Value) (hv : ∀ z, v ≠ .int .u8 z) : ∀ (j : Nat) z, (#[Value.int .i64 p, v] : Array Value)[j]? ≠ some (.int .u8 z) := by
  intro j z
  rcases j with _ | _ | j
  · simp
  · simpa using hv z
  · simp
/-- The document's list lies in no box. -/
theorem RfAt.box {w0 W W' : World} {v : Value} {Rs : List RK} {g0 t : Nat} {cs : Array Value} (h : RfAt w0 W v Rs) (hf : Fr (fun k => k = g0) W W') (hb : W.heap[g0]? = some (.cells cs t)) (ht : t ≠ 71) : RfAt w0 W' v Rs := h.fr hf (fun k hk e => by
  have e' : k = g0 := e
  subst e'
  obtain ⟨cur, h1⟩ := own_blk h.row hk
  rw [hb] at h1
  simp at h1
  exact ht h1.2)
/-- What played answers. -/
theorem PX.done {w W V V' : World} {d m : Nat} {pl : Int} {v x : Value} {ki a b : Int} {v' : Value} {Rs : List RK} (h : PX W V d m pl v ki a b x [.int .i64 0, .slice none 0 0]) (hN : NS w V d m pl (pks Rs)) (hR : RfAt w V v' Rs) (hf : Fr (fun k => k = W.heap.size + 2) V V') (hd : d < W.heap.size) (hm : m < W.heap.size) (hw : w.heap.size ≤ W.heap.size) : NS w V' d m pl (pks Rs) ∧ RfAt w V' v' Rs ∧ Fr (fun k => k = d ∨ k = m) W V' :=
  ⟨hN.box hf h.z (no8_2 0 _ (fun z => by simp)) (by omega) (by omega) (by omega), hR.box hf h.z (by decide), h.f.trans hf (fun i hi e => by have e' : i = W.heap.size + 2 := e; omega)⟩
def PPost (w W : World) (d m : Nat) (pl : Int) (n : Nat) (e : Ending) (w' : World) : Prop := ∃ ao c Rs, e = .returned (.tuple #[.agg #[.int .i64 pl, .slice ao (List.length Rs) c], .bool true]) ∧ NS w w' d m pl (pks Rs) ∧ RfAt w w' (.slice ao Rs.length c) Rs ∧ Rs.length ≤ n + 1 ∧ Fr (fun k => k = d ∨ k = m) W w'
theorem pks_set (Rs : List RK) (k : Nat) (x : RK) (g : Nat) : pks (Rs.set k ({ x.1 with gone := g }, x.2)) = (pks Rs).set k { x.1 with gone := g } := by simp [pks, List.map_set]
theorem pks_get {Rs : List RK} {k : Nat} {p : PK} (h : (pks Rs)[k]? = some p) : ∃ x, Rs[k]? = some x ∧ x.1 = p := by
  rw [pks, List.getElem?_map] at h
  exact Option.map_eq_some_iff.1 h
set_option maxHeartbeats 2000000 in
set_option maxRecDepth 100000 in
/-- played, Drop of what is not under way. -/
theorem played_4n (w W : World) (d m : Nat) (pl a b : Int) (ao : Option Addr) (c : Nat) (Rs : List RK) (x : Value) (hN : NS w W d m pl (pks Rs)) (h : RfAt w W (.slice ao Rs.length c) Rs) (hl : Rs.length ≤ 1048576) (ha : (Lit.int .i64 a).wf = true) (hu : und (pks Rs) a = false) :
    Calls Try.prog 17 #[.pointer (some ⟨d, 0, none⟩), .agg #[.int .i64 pl, .slice ao Rs.length c], .agg #[.int .i64 4, .int .i64 a, .int .i64 b, x]] W (PPost w W d m pl Rs.length) := by
  have HX := hide (And.intro hN h)
  have hf3 : Fr (fun _ => False) W (((W.alloc (.cells #[.int .i64 pl, .slice ao Rs.length c] 45)).alloc (.cells #[.int .i64 4, .int .i64 a, .int .i64 b, x] 49)).alloc (.cells #[.int .i64 0, .slice none 0 0] 45)) := ((box2 _ _ _).alloc _)
  have HP := hide (PX.new W d m pl (.slice ao Rs.length c) 4 a b x)
  have HF := hide hf3
  obtain ⟨c0, c1, k0, k1, k2, k3, _, _, _, _⟩ := (unhide HP).cells
  clear hN h hf3
  go_enter Try.func17, Try.ntmps17
  go_wp2_with fail
  refine (ns_drop_no d m pl a (pks Rs) w _ ((unhide HX).1.go (unhide HF)) ha hu).mono ?_
  rintro e w1 ⟨rfl, hN1, hf1⟩
  have H1 := hide (And.intro hN1 (And.intro ((unhide HP).fr0 hf1) (((unhide HX).2.fr0 (unhide HF)).fr0 hf1)))
  obtain ⟨c0, c1, k0, k1, k2, k3, _, _, _, _⟩ := (unhide H1).2.1.cells
  clear hN1 hf1 HP HF
  go_wp2_with fail
  refine (gunder_any w w1 pl a ao c Rs (unhide H1).2.2 hl).mono ?_
  rintro e w2 ⟨rfl, hf2⟩
  rw [hu]
  have hP2 := (unhide H1).2.1.fr0 hf2
  obtain ⟨c0, c1, k0, k1, k2, k3, _, _, _, _⟩ := hP2.cells
  obtain ⟨V, hrV, hgV, hfV⟩ := hP2.put pl ao Rs.length c
  have hN2 := (unhide H1).1.go hf2
  have hR2 := (unhide H1).2.2.fr0 hf2
  have hfin := hP2.done hN2 hR2 hfV (unhide HX).1.dl (unhide HX).1.ml (unhide HX).1.fr.size
  have HV := hide hrV
  have HF2 := hide (And.intro hgV hfin)
  clear hP2 hrV hgV hfV hN2 hR2 hfin hf2 H1
  go_wp2_with (refine wpList_stN rfl 45 (.tmp 6) (.tmp 199) rfl _ _ rfl rfl (unhide HV) ?_)
  (try simp only [Exit.inBlock, Exit.then])
  refine bodyPost_ret (results_cellt rfl _ _ (W.heap.size + 2) 0 [.int .i64 pl, .slice ao Rs.length c] _ _ rfl rfl (unhide HF2).1 Try.underlying45 rfl (by kernel_rfl)) rfl ?_
  exact ⟨ao, c, Rs, rfl, (unhide HF2).2.1, (unhide HF2).2.2.1, by omega, (unhide HF2).2.2.2⟩
end Go.Proofs.Ytedmhpplhbaglaa
