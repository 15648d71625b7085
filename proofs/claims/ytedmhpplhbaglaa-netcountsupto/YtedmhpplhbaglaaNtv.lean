import Derived.Test.YtedmhpplhbaglaaNtt
namespace Go.Proofs.Ytedmhpplhbaglaa
open Go.RowKit Go.ChangeShapes Go.WideShapes Go.Maps

/-- What Act.put leaves of lists written out. -/
theorem nrm {α : Type} : (∀ (l : List α) (i : Nat) (h : i < l.toArray.size), l.toArray[i]'h = l[i]'(by simpa using h)) ∧ (∀ (a : α) (l : List α) (h : 0 < (a :: l).length), (a :: l)[0]'h = a) ∧ (∀ (a : α) (l : List α) (i : Nat) (h : i + 1 < (a :: l).length), (a :: l)[i + 1]'h = l[i]'(by simpa using h)) ∧ (∀ (l : List α) (i : Nat) (v : α), l.toArray.setIfInBounds i v = (l.set i v).toArray) ∧ (∀ (a b : α) (l : List α), (a :: l).set 0 b = b :: l) ∧ (∀ (a b : α) (l : List α) (i : Nat), (a :: l).set (i + 1) b = a :: l.set i b) :=
  ⟨fun _ _ _ => rfl, fun _ _ _ => rfl, fun _ _ _ _ => rfl, fun _ _ _ => List.setIfInBounds_toArray .., fun _ _ _ => rfl, fun _ _ _ _ => rfl⟩
/-- An operation of a region that only reads, taken first. -/
theorem wtk {P : Program} {md : Region.Mode} {ops : Array Oper} {Q : Exit → Act → World → Prop} {S : World → Prop} {i : Nat} {oi : Oper} {v : Value} {fuel : Nat} {listed : Array Bool} {a : Act} {w : World} (hi : ops[i]? = some oi) (hy : YieldsIf P ops S oi v a) (hS : S w)
    (h : wpAnyH P md ops Q S fuel (listed.setIfInBounds i true) (a.put oi.dst v) w) (hs : Region.noSelect ops = true := by kernel_rfl) (hf : Region.free md ops listed i = true := by kernel_rfl) (hr : (Region.ready md ops listed).contains i = true := by kernel_rfl) (hQ : ∀ c a w, Q (.panic c) (a.put oi.dst v) w → Q (.panic c) a w := by exact fun _ _ _ h => h) : wpAnyH P md ops Q S (fuel + 1) listed a w := wpAnyH_take hi hs hf hr hQ hy hS h
/-- The same, its value reckoned by the way. -/
theorem wtk2 {P : Program} {md : Region.Mode} {ops : Array Oper} {Q : Exit → Act → World → Prop} {S : World → Prop} {i : Nat} {oi : Oper} {v : Value} {fuel : Nat} {listed : Array Bool} {a : Act} {w : World} (hi : ops[i]? = some oi) (hS : S w)
    (h : wpAnyH P md ops Q S fuel (listed.setIfInBounds i true) (a.put oi.dst v) w) (hy : YieldsIf P ops S oi v a := by refine Or.inl ⟨by rfl, ?_⟩; intro w hSw; (try dsimp only at hSw); go_simp; (try with_reducible rfl)) (hs : Region.noSelect ops = true := by kernel_rfl) (hf : Region.free md ops listed i = true := by kernel_rfl) (hr : (Region.ready md ops listed).contains i = true := by kernel_rfl) (hQ : ∀ c a w, Q (.panic c) (a.put oi.dst v) w → Q (.panic c) a w := by exact fun _ _ _ h => h) : wpAnyH P md ops Q S (fuel + 1) listed a w := wpAnyH_take hi hs hf hr hQ hy hS h
/-- The first ones lost on the way to a place. -/
def rl (a : Int) (j : Nat) (Rs : List RK) : List RK := Rs.mapIdx fun i x => if i < j then (lostTo a x.1, x.2) else x
theorem rl_len (a : Int) (j : Nat) (Rs : List RK) : (rl a j Rs).length = Rs.length := by simp [rl]
theorem rl_at (a : Int) (j i : Nat) (Rs : List RK) : (rl a j Rs)[i]? = Rs[i]?.map fun x => if i < j then (lostTo a x.1, x.2) else x := by simp [rl]
theorem rl_zero (a : Int) (Rs : List RK) : rl a 0 Rs = Rs := by
  refine List.ext_getElem? fun i => ?_
  rw [rl_at]
  simp
theorem rl_end (a : Int) (Rs : List RK) : pks (rl a Rs.length Rs) = (pks Rs).map (lostTo a) := by
  refine List.ext_getElem? fun i => ?_
  rw [pks, List.getElem?_map, rl_at, pks, List.getElem?_map, List.getElem?_map]
  cases e : Rs[i]? with
  | none => rfl
  | some x => simp [(List.getElem?_eq_some_iff.1 e).1]
theorem rl_step (a : Int) (j : Nat) (Rs : List RK) (x : RK) (hx : Rs[j]? = some x) : rl a (j + 1) Rs = (rl a j Rs).set j (lostTo a x.1, x.2) := by
  have hj := (List.getElem?_eq_some_iff.1 hx).1
  refine List.ext_getElem? fun i => ?_
  rw [rl_at, List.getElem?_set, rl_at, rl_len]
  by_cases e : j = i
  · subst e
    rw [if_pos rfl, if_pos hj, hx]
    simp
  · rw [if_neg e]
    cases Rs[i]? with
    | none => rfl
    | some y =>
      simp only [Option.map_some]
      by_cases h1 : i < j
      · rw [if_pos h1, if_pos (by omega)]
      · rw [if_neg h1, if_neg (by omega)]
theorem rl_same (l : List RK) (j : Nat) (x : RK) (hx : l[j]? = some x) : l.set j x = l := by
  refine List.ext_getElem? fun i => ?_
  rw [List.getElem?_set]
  split
  · next e => subst e; split <;> simp_all
  · rfl
theorem rl_here (a : Int) (j : Nat) (Rs : List RK) (x : RK) (hx : Rs[j]? = some x) : (rl a j Rs)[j]? = some x := by rw [rl_at, hx]; simp
def lk (a : Int) (j : Nat) (Rs : List RK) : Nat := loseN a ((pks Rs).take j)
theorem lk_step (a : Int) (j : Nat) (Rs : List RK) (x : RK) (hx : Rs[j]? = some x) : lk a (j + 1) Rs = lk a j Rs + (if x.1.gone = 0 ∧ x.1.t = a then 1 else 0) := by
  unfold lk loseN
  rw [take_cnt _ _ _ _ (pks_at hx)]
  simp
theorem lk_end (a : Int) (Rs : List RK) : lk a Rs.length Rs = loseN a (pks Rs) := by
  unfold lk
  rw [List.take_of_length_le (by rw [pks_len]; exact Nat.le_refl _)]
theorem lk_le (a : Int) (j : Nat) (Rs : List RK) : lk a j Rs ≤ Rs.length := by
  have := List.countP_le_length (p := fun p : PK => decide (p.gone = 0 ∧ p.t = a)) (l := (pks Rs).take j)
  rw [List.length_take, pks_len] at this
  unfold lk loseN
  omega
set_option maxHeartbeats 2000000 in
set_option maxRecDepth 100000 in
/-- played, Lose. -/
theorem played_5 (w W : World) (d m : Nat) (pl a b : Int) (ao : Option Addr) (c : Nat) (Rs : List RK) (x : Value) (hN : NS w W d m pl (pks Rs)) (h : RfAt w W (.slice ao Rs.length c) Rs) (hl : Rs.length ≤ 1048575)  :
    Calls Try.prog 17 #[.pointer (some ⟨d, 0, none⟩), .agg #[.int .i64 pl, .slice ao Rs.length c], .agg #[.int .i64 5, .int .i64 a, .int .i64 b, x]] W (PPost w W d m pl Rs.length) := by
  have HX := hide (And.intro hN h)
  have hf3 : Fr (fun _ => False) W (((W.alloc (.cells #[.int .i64 pl, .slice ao Rs.length c] 45)).alloc (.cells #[.int .i64 5, .int .i64 a, .int .i64 b, x] 49)).alloc (.cells #[.int .i64 0, .slice none 0 0] 45)) := ((box2 _ _ _).alloc _)
  have HP := hide (PX.new W d m pl (.slice ao Rs.length c) 5 a b x)
  have HF := hide hf3
  obtain ⟨c0, c1, k0, k1, k2, k3, _, _, _, _⟩ := (unhide HP).cells
  have hpl : (pks Rs).length ≤ 1048576 := by rw [pks_len]; omega
  clear hN h hf3
  go_enter Try.func17, Try.ntmps17
  go_wp2_with fail
  go_loopw [16, 17] (fun cv iv wr => ∃ (j : Nat) (ao' : Option Addr) (c' : Nat), j ≤ Rs.length ∧ iv = .int .i64 ((j : Int) + 1) ∧ cv = .int .i64 (lk a j Rs : Nat) ∧ PX W wr d m pl (.slice ao' Rs.length c') 5 a b x [.int .i64 0, .slice none 0 0] ∧ RfAt w wr (.slice ao' Rs.length c') (rl a j Rs) ∧ NS w wr d m pl (pks Rs)) (fun _ iv _ => Rs.length + 1 - (intOf iv).toNat)
  case atStart => exact ⟨0, ao, c, Nat.zero_le _, rfl, rfl, unhide HP, by rw [rl_zero]; exact (unhide HX).2.fr0 (unhide HF), (unhide HX).1.go (unhide HF)⟩
  case round =>
    clear c0 c1 k0 k1 k2 k3
    obtain ⟨j, ao', c', hj, rfl, rfl, hP, hR, hN⟩ := hrel
    rename World => wr
    obtain ⟨c0, c1, k0, k1, k2, k3, z0, z1, _, _⟩ := hP.cells
    have H1 := hide (And.intro hN (And.intro hP hR))
    have hlj := lk_le a j Rs
    have hBw := hP.lt
    clear hP hR hN
    by_cases hlt : j < Rs.length
    · have hle : (j : Int) + 1 ≤ (Rs.length : Int) := by omega
      have hx := List.getElem?_eq_getElem hlt
      have hxr := rl_here a j Rs _ hx
      have hRl : (rl a j Rs).length = Rs.length := rl_len a j Rs
      have hR1 : RfAt w wr (.slice ao' (rl a j Rs).length c') (rl a j Rs) := by rw [hRl]; exact (unhide H1).2.2
      have hst := rl_step a j Rs _ hx
      have hlk := lk_step a j Rs _ hx
      have hu : und (pks (rl a j Rs)) ((j : Int) + 1) = decide (Rs[j].1.gone = 0) := by
        rw [und_nat, pks_at hxr]
        by_cases hG : Rs[j].1.gone = 0 <;> simp [hG]
      obtain ⟨g, rfl, _, r1, _, _, _, _⟩ := hR1.at_ hxr
      have HU : Hid (∀ W', Fr (fun _ => False) wr W' → Calls Try.prog 27 #[.agg #[.int .i64 pl, .slice (some ⟨g, 0, none⟩) Rs.length c'], .int .i64 ((j : Int) + 1)] W' fun e w' => e = .returned (.bool (decide (Rs[j].1.gone = 0))) ∧ Fr (fun _ => False) wr w') := fun W' hf => by
        have h1 := gunder_any w W' pl ((j : Int) + 1) (some ⟨g, 0, none⟩) c' (rl a j Rs) (hR1.fr0 hf) (by omega)
        rw [hRl, hu] at h1
        refine h1.mono ?_
        rintro e w' ⟨rfl, hf'⟩
        exact ⟨rfl, hf.trans hf' (fun _ _ h => h)⟩
      have hcap : Rs.length ≤ c' := by
        rcases (unhide H1).2.2.row.2 with ⟨e, _⟩ | ⟨g', c', cur, e, _, _, hc, _⟩
        · cases e
        · simp only [Value.slice.injEq] at e; omega
      have HR1 := hide hR1
      have HK : Hid (∀ W', Fr (fun _ => False) wr W' → W'.cell? ⟨W.heap.size, 0, none⟩ = some (.int .i64 pl) ∧ W'.cell? ⟨W.heap.size, 1, none⟩ = some (.slice (some ⟨g, 0, none⟩) Rs.length c') ∧ W'.cell? ⟨W.heap.size + 1, 1, none⟩ = some (.int .i64 a) ∧ W'.cell? ⟨g, j * 5 + 1, none⟩ = some (.int .i64 Rs[j].1.t)) := fun W' hf => ⟨(hf.cell (p := ⟨W.heap.size, 0, none⟩) (lt_of_cell c0) (fun h => h)).trans c0, (hf.cell (p := ⟨W.heap.size, 1, none⟩) (lt_of_cell c1) (fun h => h)).trans c1, (hf.cell (p := ⟨W.heap.size + 1, 1, none⟩) (lt_of_cell k1) (fun h => h)).trans k1, (hf.cell (p := ⟨g, j * 5 + 1, none⟩) (lt_of_cell r1) (fun h => h)).trans r1⟩
      clear hR1 hu
      generalize hG : Rs[j].1.gone = G at *
      generalize hT : Rs[j].1.t = xt at *
      by_cases hG0 : G = 0
      · rw [decide_eq_true hG0] at HU
        have i1 : (j : Int) + 1 - 1 = (j : Int) := by omega
        have i2 : IntKind.i64.wrap ((j : Int) + 1 - 1) = (j : Int) := by rw [i1]; exact wrap_le j (by omega)
        have i3 : (0 : Int) ≤ (j : Int) := by omega
        have i4 : (j : Int) < (Rs.length : Int) := by omega
        have i5 : ((j : Int)).toNat = j := by omega
        have i6 : wrap64 ((j : Int) + 1 - 1) = (j : Int) := by rw [i1]; unfold wrap64; omega
        have i7 : IntKind.i64.wrap (j : Int) = (j : Int) := by rw [i1] at i2; exact i2
        by_cases ht : xt = a
        · have hlo : lostTo a Rs[j].1 = { Rs[j].1 with gone := 2 } := by simp [lostTo, hG, hG0, hT, ht]
          rw [hlo] at hst
          rw [if_pos ⟨hG0, ht⟩] at hlk
          have HS := hide (And.intro hst hlk)
          have HG : Hid (∀ W', Fr (fun _ => False) wr W' → Calls Try.prog 28 #[.agg #[.int .i64 pl, .slice (some ⟨g, 0, none⟩) Rs.length c'], .int .i64 ((j : Int) + 1), .int .i64 2] W' fun e w' => ∃ ao2 c2, e = .returned (.agg #[.int .i64 pl, .slice ao2 Rs.length c2]) ∧ RfAt w w' (.slice ao2 Rs.length c2) (rl a (j + 1) Rs) ∧ Fr (fun _ => False) wr w') := fun W' hf => by
            have h1 := ggone_any w W' pl (some ⟨g, 0, none⟩) c' j 2 (rl a j Rs) _ ((unhide HR1).fr0 hf) hxr (by omega) (Nat.le_trans (unhide H1).1.fr.size hf.size)
            rw [hRl, ← hst] at h1
            refine h1.mono ?_
            rintro e w' ⟨ao2, c2, rfl, hR, hf'⟩
            exact ⟨ao2, c2, rfl, hR, hf.trans hf' (fun _ _ h => h)⟩
          have e1 : (xt == a) = true := by simp [ht]
          clear hst hlk hlo hG0 ht hxr hx hG hT hRl HR1
          go_wp2_with fail
          go_region_held3 (fun W' => W'.cell? ⟨W.heap.size, 0, none⟩ = some (.int .i64 pl) ∧ W'.cell? ⟨W.heap.size, 1, none⟩ = some (.slice (some ⟨g, 0, none⟩) Rs.length c') ∧ W'.cell? ⟨W.heap.size + 1, 1, none⟩ = some (.int .i64 a) ∧ W'.cell? ⟨g, j * 5 + 1, none⟩ = some (.int .i64 xt))
            (first | exact ⟨c0, c1, k1, r1⟩ | exact (unhide HK) _ (unhide H2))
            (first | (go_at_call 27; refine ((unhide HU) _ (Fr.refl _ _).drew).mono ?_; rintro e w2 ⟨rfl, hf2⟩; have H2 := hide hf2; clear hf2))
          obtain ⟨c0, c1, _, _⟩ := (unhide HK) _ (unhide H2)
          go_wp2_with fail
          refine ((unhide HG) _ (unhide H2)).mono ?_
          rintro e w3 ⟨ao2, c2, rfl, hR3, hf3⟩
          obtain ⟨V, hrV, hPV, hfV⟩ := ((unhide H1).2.1.fr0 hf3).set ao2 Rs.length c2
          have hNV := ((unhide H1).1.go hf3).box hfV ((unhide H1).2.1.fr0 hf3).n (no8_2 pl _ (fun z => by simp)) (by have := (unhide HX).1.dl; omega) (by have := (unhide HX).1.ml; omega) (by have := (unhide HX).1.fr.size; omega)
          have hRV := hR3.box hfV ((unhide H1).2.1.fr0 hf3).n (by decide)
          have HV := hide hrV
          have H3 := hide (And.intro hNV (And.intro hPV hRV))
          clear hrV hPV hfV hNV hRV hR3 hf3 HG HU H2
          go_wp2_with (refine wpList_stN rfl 45 (.tmp 4) (.tmp 234) rfl _ _ rfl rfl (unhide HV) ?_)
          go_roundw
          case rel => exact ⟨j + 1, ao2, c2, by omega, by go_num, by rw [(unhide HS).2]; rfl, (unhide H3).2.1, (unhide H3).2.2, (unhide H3).1⟩
          case measure => simp [intOf]; omega
        · have hlo : lostTo a Rs[j].1 = Rs[j].1 := lost_other (by rw [hT]; exact ht)
          rw [hlo, rl_same _ _ _ hxr] at hst
          rw [if_neg (fun h => ht h.2), Nat.add_zero] at hlk
          have HS := hide (And.intro hst hlk)
          have e1 : (xt == a) = false := by simp [ht]
          clear hst hlk hlo hG0 ht hxr hx hG hT hRl HR1
          go_wp2_with fail
          go_region_held3 (fun W' => W'.cell? ⟨W.heap.size, 0, none⟩ = some (.int .i64 pl) ∧ W'.cell? ⟨W.heap.size, 1, none⟩ = some (.slice (some ⟨g, 0, none⟩) Rs.length c') ∧ W'.cell? ⟨W.heap.size + 1, 1, none⟩ = some (.int .i64 a) ∧ W'.cell? ⟨g, j * 5 + 1, none⟩ = some (.int .i64 xt))
            (first | exact ⟨c0, c1, k1, r1⟩ | exact (unhide HK) _ (unhide H2))
            (first | (go_at_call 27; refine ((unhide HU) _ (Fr.refl _ _).drew).mono ?_; rintro e w2 ⟨rfl, hf2⟩; have H2 := hide hf2; clear hf2))
          go_wp2_with fail
          go_roundw
          case rel => exact ⟨j + 1, some ⟨g, 0, none⟩, c', by omega, by go_num, by simp [(unhide HS).2], (unhide H1).2.1.fr0 (unhide H2), by rw [(unhide HS).1]; exact (unhide H1).2.2.fr0 (unhide H2), (unhide H1).1.go (unhide H2)⟩
          case measure => simp [intOf]; omega
      · rw [decide_eq_false hG0] at HU
        have hlo : lostTo a Rs[j].1 = Rs[j].1 := lost_gone (by rw [hG]; exact hG0)
        rw [hlo, rl_same _ _ _ hxr] at hst
        rw [if_neg (fun h => hG0 h.1), Nat.add_zero] at hlk
        have HS := hide (And.intro hst hlk)
        clear hst hlk hlo hG0 hxr hx hG hT hRl
        go_wp2_with fail
        refine wp_region_noPanic ?_
        refine wp_region_held_drew (S := fun W' => W'.cell? ⟨W.heap.size, 0, none⟩ = some (.int .i64 pl) ∧ W'.cell? ⟨W.heap.size, 1, none⟩ = some (.slice (some ⟨g, 0, none⟩) Rs.length c') ∧ W'.cell? ⟨W.heap.size + 1, 1, none⟩ = some (.int .i64 a) ∧ W'.cell? ⟨g, j * 5 + 1, none⟩ = some (.int .i64 xt)) (by kernel_rfl) ⟨c0, c1, k1, r1⟩ (fun hHeld => ?_)
        refine wtk2 (i := 0) rfl hHeld ?_
        (try simp only [Act.put, nrm])
        refine wtk2 (i := 1) rfl hHeld ?_
        (try simp only [Act.put, nrm])
        refine wpAnyH_ready (rs := [2]) (by kernel_rfl) (by simp) ?_
        refine AllReadyH.cons rfl (fun K hK => ?_) AllReadyH.nil
        go_simp
        refine ((unhide HU) _ (Fr.refl _ _).drew).mono ?_
        rintro e w2 ⟨rfl, hf2⟩
        have H2 := hide hf2
        clear hf2
        go_simp
        refine hK.out _ _ ((unhide HK) _ (unhide H2)) (fun hHeld => ?_)
        (try simp only [Act.put, nrm])
        refine wtk2 (i := 3) rfl hHeld ?_
        (try simp only [Act.put, nrm])
        refine wtk (i := 4) (v := undef) rfl (Or.inr ⟨by rfl, rfl⟩) hHeld ?_
        (try simp only [Act.put, nrm])
        refine wtk (i := 5) (v := undef) rfl (Or.inr ⟨by rfl, rfl⟩) hHeld ?_
        (try simp only [Act.put, nrm])
        refine wtk (i := 6) (v := undef) rfl (Or.inr ⟨by rfl, rfl⟩) hHeld ?_
        (try simp only [Act.put, nrm])
        refine wtk (i := 7) (v := undef) rfl (Or.inr ⟨by rfl, rfl⟩) hHeld ?_
        (try simp only [Act.put, nrm])
        refine wtk (i := 8) (v := undef) rfl (Or.inr ⟨by rfl, rfl⟩) hHeld ?_
        (try simp only [Act.put, nrm])
        refine wtk (i := 9) (v := undef) rfl (Or.inr ⟨by rfl, rfl⟩) hHeld ?_
        (try simp only [Act.put, nrm])
        refine wtk (i := 10) (v := undef) rfl (Or.inr ⟨by rfl, rfl⟩) hHeld ?_
        (try simp only [Act.put, nrm])
        refine wtk (i := 11) (v := undef) rfl (Or.inr ⟨by rfl, rfl⟩) hHeld ?_
        (try simp only [Act.put, nrm])
        refine wtk (i := 12) (v := undef) rfl (Or.inr ⟨by rfl, rfl⟩) hHeld ?_
        (try simp only [Act.put, nrm])
        refine wtk (i := 13) (v := undef) rfl (Or.inr ⟨by rfl, rfl⟩) hHeld ?_
        (try simp only [Act.put, nrm])
        refine wtk2 (i := 14) rfl hHeld ?_
        (try simp only [Act.put, nrm])
        refine wpAnyH_done (by kernel_rfl) ?_ _
        refine NoPanic.normal ?_
        go_wp2_with fail
        go_roundw
        case rel => exact ⟨j + 1, some ⟨g, 0, none⟩, c', by omega, by go_num, by simp [(unhide HS).2], (unhide H1).2.1.fr0 (unhide H2), by rw [(unhide HS).1]; exact (unhide H1).2.2.fr0 (unhide H2), (unhide H1).1.go (unhide H2)⟩
        case measure => simp [intOf]; omega
    · obtain rfl : j = Rs.length := by omega
      have hnle : ¬ (Rs.length : Int) + 1 ≤ (Rs.length : Int) := by omega
      have e1 := lk_end a Rs
      rw [e1]
      obtain ⟨y0, y1, y2, y3⟩ := (unhide H1).2.1.zcells
      have HLo : Hid (∀ W', Fr (fun _ => False) wr W' → Calls Try.prog 15 #[.pointer (some ⟨d, 0, none⟩), .int .i64 a] W' fun e w' => e = .returned (.int .i64 (loseN a (pks Rs) : Nat)) ∧ NS w w' d m pl (pks (rl a Rs.length Rs)) ∧ PX W w' d m pl (.slice ao' Rs.length c') 5 a b x [.int .i64 0, .slice none 0 0] ∧ RfAt w w' (.slice ao' Rs.length c') (rl a Rs.length Rs)) := fun W' hf => by
        refine (ns_lose d m pl a (pks Rs) w W' ((unhide H1).1.go hf) hpl).mono ?_
        rintro e w' ⟨rfl, hN, hf'⟩
        exact ⟨rfl, by rw [rl_end]; exact hN, ((unhide H1).2.1.fr0 hf).frN hf' (unhide HX).1.dl (unhide HX).1.ml, ((unhide H1).2.2.fr0 hf).net ((unhide H1).1.go hf) hf'⟩
      have e2 : (((loseN a (pks Rs) : Nat) : Int) == ((loseN a (pks Rs) : Nat) : Int)) = true := beq_self_eq_true _
      have hloN : loseN a (pks Rs) ≤ 1048576 := by rw [← e1]; omega
      clear e1 hlj
      generalize loseN a (pks Rs) = LN at *
      go_wp2_with fail
      go_region_held3 (fun W' => W'.cell? ⟨W.heap.size, 0, none⟩ = some (.int .i64 pl) ∧ W'.cell? ⟨W.heap.size, 1, none⟩ = some (.slice ao' Rs.length c') ∧ W'.cell? ⟨W.heap.size + 1, 1, none⟩ = some (.int .i64 a))
        (first | exact ⟨c0, c1, k1⟩ | exact ⟨x0, x1, x2⟩ | exact HK3 _ (two_frN _ _ _ _) | exact HK3 _ (two_fr _ _ _ _))
        (first | (go_at_call 15; refine ((unhide HLo) _ (Fr.refl _ _).drew).mono ?_; rintro e w3 ⟨rfl, hN3, hP3, hR3⟩; obtain ⟨x0, x1, _, x2, _, _, _, _, _, _⟩ := hP3.cells; obtain ⟨v0, v1, v2, v3⟩ := hP3.zcells; have H3 := hide (And.intro hN3 (And.intro hP3 hR3)); clear hN3 hP3 hR3; have HK3 : ∀ W', Fr (fun k => k = W.heap.size + 1 + 1) w3 W' → W'.cell? ⟨W.heap.size, 0, none⟩ = some (.int .i64 pl) ∧ W'.cell? ⟨W.heap.size, 1, none⟩ = some (.slice ao' Rs.length c') ∧ W'.cell? ⟨W.heap.size + 1, 1, none⟩ = some (.int .i64 a) := fun W' hf => ⟨(hf.cell (p := ⟨W.heap.size, 0, none⟩) (lt_of_cell x0) (by show ¬ W.heap.size = W.heap.size + 1 + 1; omega)).trans x0, (hf.cell (p := ⟨W.heap.size, 1, none⟩) (lt_of_cell x1) (by show ¬ W.heap.size = W.heap.size + 1 + 1; omega)).trans x1, (hf.cell (p := ⟨W.heap.size + 1, 1, none⟩) (lt_of_cell x2) (by show ¬ W.heap.size + 1 = W.heap.size + 1 + 1; omega)).trans x2⟩))
      have hfin := (unhide H3).2.1.done (unhide H3).1 (unhide H3).2.2 (two_frN w3 (W.heap.size + 1 + 1) (.int .i64 pl) (.slice ao' Rs.length c')) (unhide HX).1.dl (unhide HX).1.ml (unhide HX).1.fr.size
      have HE := hide (And.intro ((unhide H3).2.1.two (.int .i64 pl) (.slice ao' Rs.length c')) hfin)
      clear hfin H3 HK3 y0 y1 y2 y3 v0 v1 v2 v3 x0 x1 x2 c0 c1 k0 k1 k2 k3
      go_wp2_with fail
      (try simp only [Exit.inBlock, Exit.then])
      refine bodyPost_ret (results_cellt rfl _ _ (W.heap.size + 1 + 1) 0 [.int .i64 pl, .slice ao' Rs.length c'] _ _ rfl rfl (unhide HE).1 Try.underlying45 rfl (by kernel_rfl)) rfl ?_
      exact ⟨ao', c', rl a Rs.length Rs, by rw [rl_len]; rfl, (unhide HE).2.1, by rw [rl_len]; exact (unhide HE).2.2.1, by rw [rl_len]; omega, (unhide HE).2.2.2⟩
end Go.Proofs.Ytedmhpplhbaglaa
