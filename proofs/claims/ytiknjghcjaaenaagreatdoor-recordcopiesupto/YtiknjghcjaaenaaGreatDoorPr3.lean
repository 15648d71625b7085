import Derived.Test.YtiknjghcjaaenaaGreatDoorPr2
namespace Go.Proofs.YtiknjghcjaaenaaGreatDoor
open Go.RowKit Go.Shelf
theorem drew_cell (w : World) (a : Addr) : w.drew.cell? a = w.cell? a := rfl
set_option maxHeartbeats 4000000 in
set_option maxRecDepth 100000 in
theorem insert_grow (g c : Nat) (l : List Nat) (k p vb : Nat) (w : World) (hv : w.ownsRow 0 31 1 (.slice (some ⟨g, 0, none⟩) l.length c) l.length (ncells l)) (hx : w.heap[vb]? = some (.cells #[.int .u32 (k : Nat)] 31)) (hp : p < l.length) (hroom : c < l.length + 1) (hcl : l.length ≤ c) (hl : l.length ≤ 4294967296) :
  Calls Tryz.prog 100 #[.slice (some ⟨g, 0, none⟩) l.length c, .int .i64 (p : Nat), .slice (some ⟨vb, 0, none⟩) 1 1] w fun e w' => ∃ G, e = .returned (.slice (some ⟨w.heap.size, 0, none⟩) (l.length + 1) G) ∧ w'.ownsRow 0 31 1 (.slice (some ⟨w.heap.size, 0, none⟩) (l.length + 1) G) (l.length + 1) (ncells (l.take p ++ k :: l.drop p)) ∧ Fr (fun _ => False) w w' := by
 obtain ⟨i0, hi, hz0, hz1, hz2⟩ := info_parts Tryz.infoU
 obtain ⟨cur, hb, hcs, hcm, hsome, hfz, hcell⟩ := cell_lt hv
 have hgl : g < w.heap.size := lt_of_block hb
 have hvl : vb < w.heap.size := lt_of_block hx
 have hkk : (l.length : Int) + 1 - (p : Int) = ((l.length + 1 - p : Nat) : Int) := by omega
 have hik : p + (l.length + 1 - p) = l.length + 1 := by omega
 have hold : (Builtin.firstCells i0.size p (.slice (some ⟨g, 0, none⟩) p c)).run Tryz.prog w.drew = .ok ((ncells l).take p).toArray w.drew := by
  rw [hz1]
  exact run_firstCells_some w.drew 1 p ⟨g, 0, none⟩ p c ((ncells l).take p) (by rw [List.length_take, ncells_len]; omega) (fun j u hj => by
   rw [addr_add, Nat.zero_add]
   rw [List.getElem?_take] at hj
   split at hj
   ·exact hcell j u hj
   ·cases hj)
 obtain ⟨G, hG⟩ : ∃ G, G = grownCap w (l.length + 1) c 31 := ⟨_, rfl⟩
 obtain ⟨ROW, hROW⟩ : ∃ ROW : Array Value, ROW = ((ncells l).take p).toArray ++ Builtin.zeroCells (Value.int .u32 0).cells (l.length + 1 - p) ++ Builtin.zeroCells (Value.int .u32 0).cells (G - (l.length + 1)) := ⟨_, rfl⟩
 obtain ⟨W1, hW1⟩ : ∃ W1, W1 = w.drew.alloc (.cells ROW 31) := ⟨_, rfl⟩
 have happ : (Builtin.append_ #[24, 3] 24 #[.slice (some ⟨g, 0, none⟩) p c, .int .i64 ((l.length : Int) + 1 - (p : Int))]).run Tryz.prog w = .ok (.slice (some ⟨w.heap.size, 0, none⟩) (l.length + 1) G) W1 := by
  have h := Lib.run_append_grow_zeros w 24 3 24 31 i0 _ .i64 .i64 Tryz.underlying24 Tryz.underlying3 hi hz0 (some ⟨g, 0, none⟩) p c ((ncells l).take p) hold (l.length + 1 - p) (by omega) (by omega) (by omega) (by omega) (by rw [hz2]; omega) (by rw [hz2, hik]; exact growslice_fits hroom (by omega))
  rw [hik, ← hG, ← hROW, ← hW1] at h
  rw [hkk]
  exact h
 have hGn : l.length + 1 ≤ G := by rw [hG]; exact grownCap_ge w _ _ _
 have hGm : G ≤ maxLen := by rw [hG]; exact grownCap_le_maxLen w _ _ _ (by unfold maxLen; omega)
 have hRs : ROW.size = G := by
  rw [hROW]
  simp [Builtin.zeroCells, Value.cells, ncells_len]
  omega
 have hB1 : W1.heap[w.heap.size]? = some (.cells ROW 31) := by rw [hW1]; exact Array.getElem?_push_size
 have f01 : Fr (fun _ => False) w W1 := by rw [hW1]; exact (Fr.refl _ _).drew.alloc _
 have hR : ∀ j, j < p → W1.cell? ⟨w.heap.size, j, none⟩ = (ncells l)[j]? := fun j hj => by
  have h1 : j < (ncells l).length := by rw [ncells_len]; omega
  simp only [World.cell?, hB1]
  rw [hROW, Array.append_assoc, Array.getElem?_append_left (by simp [ncells_len]; omega)]
  simp [hj, h1]
 have hN : ∀ j, j < G → (W1.cell? ⟨w.heap.size, j, none⟩).isSome = true := fun j hj => by
  have h1 : j < ROW.size := by omega
  simp [World.cell?, hB1, h1]
 have hNf : ∀ j, W1.frozen? ⟨w.heap.size, j, none⟩ = false := fun j => by simp [World.frozen?, hB1]
 obtain ⟨W2, hW2⟩ : ∃ W2, W2 = W1.setCells w.heap.size p [.int .u32 (k : Nat)] := ⟨_, rfl⟩
 have hcpA : (Builtin.copy_ #[24, 24] 3 #[.slice (some ⟨w.heap.size, p, none⟩) (l.length + 1 - p) (G - p), .slice (some ⟨vb, 0, none⟩) 1 1]).run Tryz.prog W1 = .ok (goInt 1) W2 := by
  rw [hW2]
  refine run_cp W1 _ w.heap.size p _ _ ⟨vb, 0, none⟩ 1 1 [.int .u32 (k : Nat)] (by simp only [Nat.min_def, List.length_singleton]; split <;> omega) (fun j u hu => ?_) (fun j hj => hN _ (by simp at hj; omega)) (fun j hj => hNf _) (fun u hu => by simp at hu; subst hu; rfl)
  rcases j with _ | j
  ·simp at hu; subst hu
   refine (f01.cell (p := ⟨vb, 0, none⟩) hvl (fun h => h)).trans ?_
   simp [World.cell?, hx]
  ·simp at hu
 obtain ⟨cur2, hb2, hs2, hf2⟩ := setCells_block w.heap.size [.int .u32 (k : Nat)] p W1 ROW 31 hB1
 rw [← hW2] at hb2 hf2
 have hc2 : ∀ j, j < p + 1 → W2.cell? ⟨w.heap.size, j, none⟩ = if j < p then (ncells l)[j]? else some (.int .u32 (k : Nat)) := fun j hj => by
  rw [hW2]
  by_cases h1 : j < p
  ·rw [if_pos h1, World.cell?_setCells_out _ _ _ _ ⟨w.heap.size, j, none⟩ (fun _ _ => .inl h1), hR j h1]
  ·obtain rfl : j = p := by omega
   rw [if_neg h1]
   have := World.cell?_setCells_in w.heap.size [.int .u32 (k : Nat)] j W1 (fun i hi => hN _ (by simp at hi; omega)) 0 (by simp)
   simpa using this
 have hN2 : ∀ j, j < G → (W2.cell? ⟨w.heap.size, j, none⟩).isSome = true := fun j hj => by
  have h1 : j < cur2.size := by omega
  simp [World.cell?, hb2, h1]
 obtain ⟨D, hD⟩ : ∃ D, D = (ncells l).drop p := ⟨_, rfl⟩
 have hDl : D.length = l.length - p := by rw [hD, List.length_drop, ncells_len]
 obtain ⟨W3, hW3⟩ : ∃ W3, W3 = W2.drew.setCells w.heap.size (p + 1) D := ⟨_, rfl⟩
 have f02 : Fr (fun _ => False) w W2 := f01.absorb hf2 (fun i hi => by omega)
 have hcpB : (Builtin.copy_ #[24, 24] 3 #[.slice (some ⟨w.heap.size, p + 1, none⟩) (l.length - p) (G - (p + 1)), .slice (some ⟨g, p, none⟩) (l.length - p) (c - p)]).run Tryz.prog W2.drew = .ok (goInt D.length) W3 := by
  rw [hW3]
  exact run_cp W2.drew _ w.heap.size (p + 1) _ _ ⟨g, p, none⟩ _ _ D (by rw [hDl]; simp only [Nat.min_def]; split <;> omega) (fun j u hu => by
   rw [addr_add, drew_cell]
   rw [hD, List.getElem?_drop] at hu
   exact (f02.cell (p := ⟨g, p + j, none⟩) hgl (fun h => h)).trans (hcell _ u hu)) (fun j hj => hN2 _ (by omega)) (fun j hj => by show W2.frozen? _ = false; simp [World.frozen?, hb2]) (fun u hu => ncells_one l u (by rw [hD] at hu; exact List.mem_of_mem_drop hu))
 obtain ⟨cur3, hb3, hs3, hf3⟩ := setCells_block w.heap.size D (p + 1) W2.drew cur2 31 hb2
 rw [← hW3] at hb3 hf3
 have HE : Hid (∃ G', Ending.returned (Value.slice (some ⟨w.heap.size, 0, none⟩) (l.length + 1) G) = .returned (.slice (some ⟨w.heap.size, 0, none⟩) (l.length + 1) G') ∧ W3.ownsRow 0 31 1 (.slice (some ⟨w.heap.size, 0, none⟩) (l.length + 1) G') (l.length + 1) (ncells (l.take p ++ k :: l.drop p)) ∧ Fr (fun _ => False) w W3) := by
  refine ⟨G, rfl, own_of_cells hb3 (by omega) hGn hGm (by simp [ncells]; omega) (fun j hj => ?_), (f02.drew).absorb hf3 (fun i hi => by omega)⟩
  rw [ins_cells l k p j (by omega), hW3]
  by_cases h1 : j < p + 1
  ·rw [World.cell?_setCells_out _ _ _ _ ⟨w.heap.size, j, none⟩ (fun _ _ => .inl h1), drew_cell, hc2 j h1]
   by_cases h2 : j < p
   ·rw [if_pos h2, if_pos h2]
   ·rw [if_neg h2, if_neg h2, if_pos (by omega)]
  ·rw [if_neg (by omega), if_neg (by omega)]
   have := World.cell?_setCells_in w.heap.size D (p + 1) W2.drew (fun i hi => hN2 _ (by omega)) (j - (p + 1)) (by omega)
   rw [show p + 1 + (j - (p + 1)) = j by omega] at this
   rw [this, ← List.getElem?_eq_getElem, hD, List.getElem?_drop, show p + (j - (p + 1)) = j - 1 by omega]
 have hnl : l.length ≤ 9223372036854775806 := by omega
 have hG63 : G ≤ 9223372036854775807 := by simp only [maxLen] at hGm; omega
 clear hW1 hW2 hW3 hD hDl hc2 hR hN hNf hN2 hb2 hs2 hf2 hb3 hs3 hf3 hb hcs hcm hsome hfz hcell hv hx hB1 f01 f02 hRs hROW hG hold hkk hik hi hz0 hz1 hz2 hGm
 generalize ncells (l.take p ++ k :: l.drop p) = XS at *
 generalize l.length = n at *
 have hw1 : IntKind.i64.wrap ((p : Int) + 1) = (p : Int) + 1 := by rw [IntKind.wrap_i64]; omega
 have hw2 : IntKind.i64.wrap ((n : Int) + 1) = (n : Int) + 1 := by rw [IntKind.wrap_i64]; omega
 have hw3 : IntKind.i64.wrap ((n : Int) + 1 - (p : Int)) = (n : Int) + 1 - (p : Int) := by rw [IntKind.wrap_i64]; omega
 have hb1 : (0 : Int) ≤ (p : Int) + 1 := by omega
 have htn : ((p : Int) + 1).toNat = p + 1 := by omega
 have hb2 : ¬ (G = p + 1) := by omega
 have hb2' : ¬ (G = p) := by omega
 have hb3 : (p : Int) ≤ (n : Int) + 1 := by omega
 have hb3' : (p : Int) ≤ (n : Int) := by omega
 have hb3c : (p : Int) ≤ (c : Int) := by omega
 have hb4 : ¬ (c = p) := by omega
 have hb5 : ¬ (p : Int) = (n : Int) := by omega
 have hb6 : (c : Int) < (n : Int) + 1 := by omega
 go_enter Tryz.func100, Tryz.ntmps100
 go_wp2_with (at_builtin; refine wpList_app rfl _ _ 24 3 rfl _ _ _ rfl rfl happ ?_)
 go_region
 go_wp2_with fail
 go_ret
 exact unhide HE
theorem insert_any (v : Value) (l : List Nat) (k p vb : Nat) (w : World) (hv : w.ownsRow 0 31 1 v l.length (ncells l)) (hx : w.heap[vb]? = some (.cells #[.int .u32 (k : Nat)] 31)) (hne : v.ownBlock ≠ some vb) (hp : p ≤ l.length) (hl : l.length ≤ 4294967296) :
  Calls Tryz.prog 100 #[v, .int .i64 (p : Nat), .slice (some ⟨vb, 0, none⟩) 1 1] w fun e w' => ∃ v', e = .returned v' ∧ w'.ownsRow 0 31 1 v' (l.length + 1) (ncells (l.take p ++ k :: l.drop p)) ∧ Fr (fun g => v.ownBlock = some g) w w' ∧ ∀ g, v'.ownBlock = some g → v.ownBlock = some g ∨ w.heap.size ≤ g := by
 rcases Nat.eq_or_lt_of_le hp with rfl | h1
 ·rw [List.take_length, List.drop_length]
  exact insert_end v l k vb w hv hx hl
 ·obtain ⟨g, c, rfl, hnc, _⟩ := hv.form (by omega)
  by_cases hr : l.length + 1 ≤ c
  ·refine (insert_room g c l k p vb w hv hx (fun e => hne (by rw [e]; rfl)) h1 hr).mono ?_
   rintro e w' ⟨rfl, h2, h3⟩
   exact ⟨_, rfl, h2, h3.mono (fun i _ hi => by rw [hi]; rfl), fun i hi => .inl hi⟩
  ·have hcl : l.length ≤ c := by
    rcases hv.2 with ⟨h, _⟩ | ⟨g', c', cur, h, _, _, hnc, _⟩
    ·cases h
    ·cases h; exact hnc
   refine (insert_grow g c l k p vb w hv hx h1 (by omega) hcl hl).mono ?_
   rintro e w' ⟨G, rfl, h2, h3⟩
   exact ⟨_, rfl, h2, h3.mono (fun i _ hi => hi.elim), fun i hi => .inr (by cases hi; exact Nat.le_refl _)⟩
theorem insN_pos {k : Nat} : ∀ {l : List Nat}, ¬ k ∈ l → insN k l = l.take (posN k l) ++ k :: l.drop (posN k l)
 | [], _ => rfl
 | x :: r, h => by
  have h1 : ¬ k = x := fun e => h (by simp [e])
  have h2 : ¬ k ∈ r := fun e => h (by simp [e])
  unfold insN posN
  by_cases hx : x < k
  ·rw [if_neg (by omega), if_neg h1, if_pos hx, insN_pos h2]
   rfl
  ·rw [if_pos (by omega), if_neg hx]
   rfl
theorem insN_in {k : Nat} : ∀ {l : List Nat}, k ∈ l → l.Pairwise (· < ·) → insN k l = l
 | [], h, _ => by cases h
 | x :: r, h, hp => by
  obtain ⟨h1, h2⟩ := List.pairwise_cons.1 hp
  unfold insN
  rcases List.mem_cons.1 h with rfl | h
  ·rw [if_neg (by omega), if_pos rfl]
  ·have := h1 k h
   rw [if_neg (by omega), if_neg (by omega), insN_in h h2]
set_option maxHeartbeats 1000000 in
set_option maxRecDepth 100000 in
theorem grant_any (g o n cap k : Nat) (xs : List Value) (gv : Value) (G : List Nat) (w : World) (hr : w.ownsRow 0 87 5 (.slice (some ⟨g, 0, none⟩) n cap) n xs) (ho : xs[o + 3]? = some gv) (hg : w.ownsRow 0 31 1 gv G.length (ncells G)) (hs : G.Pairwise (· < ·)) (hl : G.length ≤ 4294967296) :
  Calls Tryz.prog 87 #[.pointer (some ⟨g, o, none⟩), .int .u32 (k : Nat)] w fun e w' => e = .returned (.tuple #[]) ∧ ∃ gv', w'.ownsRow 0 87 5 (.slice (some ⟨g, 0, none⟩) n cap) n (xs.set (o + 3) gv') ∧ w'.ownsRow 0 31 1 gv' (insN k G).length (ncells (insN k G)) ∧ Fr (fun b => b = g ∨ gv.ownBlock = some b) w w' ∧ ∀ b, gv'.ownBlock = some b → gv.ownBlock = some b ∨ w.heap.size ≤ b := by
 have hlo : o + 3 < n * 5 := by
  have h1 := (List.getElem?_eq_some_iff.1 ho).1
  have h2 := hr.1
  omega
 have hc : w.cell? ⟨g, o + 3, none⟩ = some gv := (hr.cellAt (o + 3) hlo).trans ho
 have hz : w.frozen? ⟨g, o + 3, none⟩ = false := hr.frozenAt _
 have hgl : g < w.heap.size := lt_of_cell hc
 have HB := hide (bsearch_any gv G k w (own_us hg) hs (by omega))
 obtain ⟨xo, xc, hx⟩ := own_formX hg
 have HH := hide (And.intro hr (And.intro ho (And.intro hg hs)))
 by_cases hk : k ∈ G
 ·rw [decide_eq_true hk] at HB
  have HE := hide (insN_in hk hs)
  rw [hx] at hc HB
  clear hr ho hg hs hk
  go_enter Tryz.func87, Tryz.ntmps87
  go_wp2_with fail
  refine (unhide HB).mono ?_
  rintro e w' ⟨rfl, rfl⟩
  clear HB
  go_wp2_with fail
  go_end0
  obtain ⟨hr, ho, hg, hs⟩ := unhide HH
  refine ⟨rfl, gv, ?_, by rw [unhide HE]; exact hg, Fr.refl _ _, fun b hb => .inl hb⟩
  rw [show xs.set (o + 3) gv = xs from set_id ho]
  exact hr
 ·rw [decide_eq_false hk] at HB
  have HE := hide (insN_pos hk)
  have HI : Hid (Calls Tryz.prog 100 #[gv, .int .i64 ((posN k G : Nat) : Int), .slice (some ⟨w.heap.size, 0, none⟩) 1 1] (w.alloc (.cells #[.int .u32 (k : Nat)] 31)) fun e w' => ∃ v', e = .returned v' ∧ w'.ownsRow 0 31 1 v' (G.length + 1) (ncells (G.take (posN k G) ++ k :: G.drop (posN k G))) ∧ Fr (fun b => gv.ownBlock = some b) (w.alloc (.cells #[.int .u32 (k : Nat)] 31)) w' ∧ ∀ b, v'.ownBlock = some b → gv.ownBlock = some b ∨ (w.alloc (.cells #[.int .u32 (k : Nat)] 31)).heap.size ≤ b) := insert_any gv G k (posN k G) w.heap.size _ (hg.alloc _) Array.getElem?_push_size (fun e => by have := (hg.lt _ e).2; omega) (posN_le k G) hl
  obtain ⟨W1, hW1⟩ : ∃ W1, W1 = w.alloc (.cells #[.int .u32 (k : Nat)] 31) := ⟨_, rfl⟩
  have HF1 : Hid (Fr (fun _ => False) w W1) := by rw [hW1]; exact box1 w _
  generalize posN k G = p at *
  rw [hx] at hc HB HI
  rw [← hW1] at HI
  clear hr ho hg hs hk
  go_enter Tryz.func87, Tryz.ntmps87
  go_wp2_with fail
  refine (unhide HB).mono ?_
  rintro e w' ⟨rfl, hw⟩
  obtain rfl := hw.symm
  clear HB
  go_wp2_with fail
  rw [← hW1]
  clear hW1
  refine (unhide HI).mono ?_
  rintro e w2 ⟨v', rfl, h1, h2, h3⟩
  obtain ⟨xo2, xc2, rfl⟩ := own_formX h1
  have f2 : Fr (fun b => gv.ownBlock = some b) w w2 := ((unhide HF1).mono (fun _ _ h => h.elim)).trans (by rw [hx]; exact h2) (fun _ _ h => h)
  obtain ⟨hr, ho, hg, hs⟩ := unhide HH
  have hgn : ¬ gv.ownBlock = some g := fun e => own_ne hg hr (by decide) g e rfl
  have hbk := f2.block g hgl hgn
  have hr2 := ownsRow_of_block hr (fun b hb => by cases hb; exact hbk)
  have hlen : (insN k G).length = G.length + 1 := by rw [unhide HE]; simp; omega
  have H2 := hide (And.intro hr2 (And.intro (show w2.ownsRow 0 31 1 (.slice xo2 (G.length + 1) xc2) (insN k G).length (ncells (insN k G)) by rw [hlen, unhide HE]; exact h1) (And.intro f2 (show ∀ b, (Value.slice xo2 (G.length + 1) xc2).ownBlock = some b → gv.ownBlock = some b ∨ w.heap.size ≤ b from fun b hb => by
   rcases h3 b hb with h | h
   ·exact .inl (by rw [hx]; exact h)
   ·have := (unhide HF1).size
    exact .inr (by omega)))))
  have hc2 : w2.cell? ⟨g, o + 3, none⟩ = some (.slice xo G.length xc) := by rw [f2.cell (p := ⟨g, o + 3, none⟩) hgl hgn]; exact hc
  have hz2 : w2.frozen? ⟨g, o + 3, none⟩ = false := hr2.frozenAt _
  clear h1 h2 h3 f2 hr ho hg hs hgn hbk hr2 hlen hc hz
  go_wp2_with fail
  go_end0
  obtain ⟨hr2, h1, f2, h3⟩ := unhide H2
  obtain ⟨hr, ho, hg, hs⟩ := unhide HH
  refine ⟨rfl, _, own_set hr2 rfl (o + 3) _, ownsRow_of_block h1 (fun b hb => heap_setCell_other w2 ⟨g, o + 3, none⟩ b _ (fun e => ?_)), (f2.mono (fun b _ h => .inr h)).setCell (.inl (.inl rfl)) _, h3⟩
  subst e
  exact own_ne h1 hr2 (by decide) _ hb rfl
theorem break_end {w w2 w3 W8 : World} {b : Nat} {s : RM} {q : RW} {M : Nat → Prop} {r : RQ} {i : Nat} {c : CM} {g cap : Nat} {G' : List Nat} {gv' : Value} (h : RsAt w b s q M) (hc : s.C[i]? = some c) (hcv : q.cv = .slice (some ⟨g, 0, none⟩) s.C.length cap) (h2 : CB w w2 w.heap.size r)
  (r3 : w3.ownsRow 0 87 5 q.cv s.C.length ((ccells q 0 s.C).set (i * 5 + 3) gv')) (g3 : w3.ownsRow 0 31 1 gv' G'.length (ncells G')) (f3 : Fr (fun k => k = g ∨ (q.gv i).ownBlock = some k) w2 w3) (n3 : ∀ k, gv'.ownBlock = some k → (q.gv i).ownBlock = some k ∨ w2.heap.size ≤ k)
  (h8 : Fr (fun k => k = w.heap.size + 1) w3 W8) :
  RsTo w W8 b s ⟨s.S, s.C.set i ⟨c.wa, c.ow, c.sl, G', c.V⟩⟩ q M := by
 have hg : q.cv.ownBlock = some g := by rw [hcv]; rfl
 have hgl : g < w.heap.size := h.lt g (h.mc g hg)
 have hs2 : w.heap.size + 1 < w2.heap.size := lt_of_block h2.a
 have f28 : Fr (fun k => k = g ∨ (q.gv i).ownBlock = some k ∨ k = w.heap.size + 1) w2 W8 := (f3.mono (fun k _ hk => hk.imp id .inl)).trans h8 (fun _ _ h => .inr (.inr h))
 have f08 : Fr (fun k => q.cv.ownBlock = some k ∨ (q.gv i).ownBlock = some k ∨ (q.vv i).ownBlock = some k) w W8 := (h2.f.mono (fun _ _ h => h.elim)).trans f28 (fun k hk hx => by
  rcases hx with rfl | hx | hx
  ·exact .inl hg
  ·exact .inr (.inl hx)
  ·omega)
 have hch : W8.ownsRow 0 87 5 q.cv s.C.length ((ccells q 0 s.C).set (i * 5 + 3) gv') := ownsRow_of_block r3 (fun k hk => h8.block k (r3.lt k hk).2 (fun hx => by rw [hg] at hk; cases hk; omega))
 have hgl2 : ∀ k, (q.gv i).ownBlock = some k → k < w.heap.size := fun k hk => h.lt k (h.mg i c hc k hk)
 have hgr : W8.ownsRow 0 31 1 gv' G'.length (ncells G') := ownsRow_of_block g3 (fun k hk => h8.block k (g3.lt k hk).2 (fun hx => by
  rcases n3 k hk with h1 | h1
  ·have := hgl2 k h1; omega
  ·omega))
 have hve : W8.ownsRow 0 110 4 (q.vv i) c.V.length (vcells (q.fv i) 0 c.V) := ownsRow_of_block ((h.fr h2.f).ve i c hc) (fun k hk => f28.block k ((h.fr h2.f).lt k (h.mv i c hc k hk)) (fun hx => by
  rcases hx with rfl | hx | hx
  ·exact own_ne (h.ve i c hc) h.ch (by decide) k hk hg
  ·exact own_ne (h.ve i c hc) (h.gr i c hc) (by decide) k hk hx
  ·have := h.lt k (h.mv i c hc k hk); omega))
 have hSM : ∀ k, (q.cv.ownBlock = some k ∨ (q.gv i).ownBlock = some k ∨ (q.vv i).ownBlock = some k) → M k := fun k hk => by
  rcases hk with hk | hk | hk
  ·exact h.mc k hk
  ·exact h.mg i c hc k hk
  ·exact h.mv i c hc k hk
 have hgn : ∀ k, gv'.ownBlock = some k → (q.gv i).ownBlock = some k ∨ w.heap.size ≤ k := fun k hk => (n3 k hk).imp id (fun h => by omega)
 have hMM : ∀ k, (M k ∨ gv'.ownBlock = some k ∨ (q.vv i).ownBlock = some k) → M k ∨ w.heap.size ≤ k := fun k hk => by
  rcases hk with hk | hk | hk
  ·exact .inl hk
  ·rcases hgn k hk with h1 | h1
   ·exact .inl (h.mg i c hc k h1)
   ·exact .inr h1
  ·exact .inl (h.mv i c hc k hk)
 have hput := h.put hc ⟨c.wa, c.ow, c.sl, G', c.V⟩ gv' (q.vv i) (q.fv i) f08 (by rw [cput_g (c' := ⟨c.wa, c.ow, c.sl, G', c.V⟩) hc rfl rfl rfl]; exact hch) hgr hve (fun j v hv => (h.fl i c j v hc hv).more f08 hSM hMM) hgn (fun k hk => .inl hk)
 exact ⟨_, _, hput, hMM, fun k hk => (RW.uses_put hc _ _ _ _ hk).elim .inl (fun ⟨j, u, hu, ho⟩ => .inl (.inr ⟨i, c, j, u, hc, hu, ho⟩)), f08.mono (fun k _ hk => hSM k hk)⟩
set_option maxHeartbeats 4000000 in
set_option maxRecDepth 100000 in
theorem break_any (b : Nat) (s : RM) (q : RW) (M : Nat → Prop) (r : RQ) (xo : Option Addr) (xn xc : Nat) (place i : Nat) (c : CM) (w : World) (h : RsAt w b s q M) (hfv : r.fv = .slice xo xn xc) (hS : s.S.length ≤ 140737488355328) (hl : s.C.length ≤ 256) (hc : s.C[i]? = some c) (hrc : r.rc = i + 1) (hG : c.G.length ≤ 140737488355328) (hGs : c.G.Pairwise (· < ·)) (hGl : c.G.length ≤ 4294967296) :
  Calls Tryz.prog 63 #[.pointer (some ⟨b, 0, none⟩), r.v, .int .u32 (place : Nat)] w fun e w' => OpPost w b s q M 0 0 (s.break r c) e w' := by
 obtain ⟨W1, hW1⟩ : ∃ W1, W1 = (w.alloc (.cells r.cs 41)).alloc (.cells #[.int .u32 0, .int .u32 0, .int .u8 0, .int .u32 0, .int .u32 0, .slice none 0 0, .slice none 0 0] 45) := ⟨_, rfl⟩
 have hCB : CB w W1 w.heap.size r := by rw [hW1]; exact CB.new w r
 obtain ⟨g, ccap, hcv, _⟩ := h.chart hc
 obtain ⟨so, sc, hse⟩ := h.st.form
 obtain ⟨go, gc, hge⟩ := own_formX (h.gr i c hc)
 have HCt : Hid (∀ W, Fr (fun _ => False) w W → Calls Tryz.prog 72 #[.pointer (some ⟨b, 0, none⟩), .int .u32 (r.rc : Nat)] W fun e w' => e = .returned (.pointer (some ⟨g, i * 5, none⟩)) ∧ w' = W) := fun W hW => by rw [hrc]; exact chart_any b i c s q M W (h.fr hW) hc hl g ccap hcv
 have HSh : Hid (∀ W, Fr (fun _ => False) w W → Calls Tryz.prog 77 #[.pointer (some ⟨g, i * 5, none⟩)] W fun e w' => e = .returned (.agg #[.int .u32 (c.wa : Nat), .int .u32 (c.ow : Nat), .bool c.sl, .slice go c.G.length gc]) ∧ Fr (fun _ => False) W w') := fun W hW => by
  obtain ⟨g2, cc2, hcv2, k0, k1, k2, k3, k4, kz⟩ := (h.fr hW).chart hc
  rw [hcv] at hcv2
  cases hcv2
  rw [← hge]
  exact sheet_any g (i * 5) c.wa c.ow c.sl (q.gv i) go c.G.length gc W hge k0 k1 k2 k3
 have HP : Hid (∀ W, Fr (fun _ => False) w W → Calls Tryz.prog 86 #[.slice so s.S.length sc, .agg #[.int .u32 (c.wa : Nat), .int .u32 (c.ow : Nat), .bool c.sl, .slice go c.G.length gc], .int .u32 (r.ac : Nat), .string r.rs] W fun e w' => e = .returned (.int .u8 ((brCode s.S r.ac c r.rs : Nat) : Int)) ∧ Fr (fun _ => False) W w') := fun W hW => by
  rw [← hse, ← hge]
  exact pbreak_any q.sv s.S c.wa c.ow c.sl (q.gv i) c.G r.ac r.rs W ((h.fr hW).st) hS (own_us ((h.fr hW).gr i c hc)) hG
 have HSt : Hid (∀ W, Fr (fun _ => False) w W → W.cell? ⟨b, 0, none⟩ = some (.slice so s.S.length sc)) := fun W hW => by rw [← hse]; exact (h.fr hW).cells.1
 have HC := hide hCB
 have HH := hide h
 have HS : Hid (∀ W, CB w W w.heap.size r → W.cell? ⟨b, 0, none⟩ = some (.slice so s.S.length sc) ∧ W.cell? ⟨w.heap.size, 2, none⟩ = some (.int .u32 (r.ac : Nat)) ∧ W.cell? ⟨w.heap.size, 9, none⟩ = some (.string r.rs)) := fun W hW => ⟨(unhide HSt) W hW.f, hW.cells.2.2.1, hW.cells.2.2.2.2.2.2.2.2.2⟩
 have HR4 : Hid (∀ W, CB w W w.heap.size r → W.cell? ⟨w.heap.size, 4, none⟩ = some (.int .u32 (r.rc : Nat)) ∧ W.cell? ⟨w.heap.size, 5, none⟩ = some (.int .u32 (r.ve : Nat)) ∧ W.cell? ⟨w.heap.size, 2, none⟩ = some (.int .u32 (r.ac : Nat))) := fun W hW => ⟨hW.cells.2.2.2.2.1, hW.cells.2.2.2.2.2.1, hW.cells.2.2.1⟩
 have HRf : Hid (∀ (cd : Nat) W, Calls Tryz.prog 36 #[.int .u8 (cd : Nat)] W fun e w' => e = .returned (.agg #[.int .u32 0, .int .u32 0, .int .u8 (cd : Nat), .int .u32 0, .int .u32 0, .slice none 0 0, .slice none 0 0]) ∧ Fr (fun _ => False) W w') := fun cd W => refusal_any cd W
 have HE0 : Hid (brCode s.S r.ac c r.rs ≠ 0 → s.break r c = (s, RA.no (brCode s.S r.ac c r.rs))) := fun h => by simp [RM.break, h]
 have HE1 : Hid (brCode s.S r.ac c r.rs = 0 → s.break r c = (⟨s.S, s.C.set i ⟨c.wa, c.ow, c.sl, insN r.ac c.G, c.V⟩⟩, ⟨0, r.rc, 0, [], []⟩)) := fun h => by rw [RM.break, if_neg (by simp [h]), show r.rc - 1 = i by omega]
 generalize s.break r c = X at *
 generalize brCode s.S r.ac c r.rs = code at *
 have HGr : Hid (∀ W, CB w W w.heap.size r → Calls Tryz.prog 87 #[.pointer (some ⟨g, i * 5, none⟩), .int .u32 (r.ac : Nat)] W fun e w' => e = .returned (.tuple #[]) ∧ ((w'.heap[w.heap.size]? = some (.cells r.cs 41) ∧ w'.heap[w.heap.size + 1]? = some (.cells (AN.no 0).cs.toArray 45)) ∧ ∀ W8, Fr (fun k => k = w.heap.size + 1) w' W8 → RsTo w W8 b s ⟨s.S, s.C.set i ⟨c.wa, c.ow, c.sl, insN r.ac c.G, c.V⟩⟩ q M)) := fun W hW => by
  have hr := (h.fr hW.f).ch
  have hr' := hr
  rw [hcv] at hr'
  have hat := (ccells_at q s.C 0 i c hc).2.2.2.1
  rw [Nat.zero_add] at hat
  refine (grant_any g (i * 5) s.C.length ccap r.ac (ccells q 0 s.C) (q.gv i) c.G W hr' hat ((h.fr hW.f).gr i c hc) hGs hGl).mono ?_
  rintro e w3 ⟨rfl, gv', r3, g3, f3, n3⟩
  rw [← hcv] at r3
  have hgl : g < w.heap.size := h.lt g (h.mc g (by rw [hcv]; rfl))
  have hno : ∀ k, w.heap.size ≤ k → ¬ (k = g ∨ (q.gv i).ownBlock = some k) := fun k hk hx => by
   rcases hx with hx | hx
   ·omega
   ·have := h.lt k (h.mg i c hc k hx); omega
  refine ⟨rfl, ⟨(f3.block _ (lt_of_block hW.r) (hno _ (Nat.le_refl _))).trans hW.r, (f3.block _ (lt_of_block hW.a) (hno _ (by omega))).trans hW.a⟩, fun W8 h8 => break_end h hc hcv hW r3 g3 f3 n3 h8⟩
 clear hGs hGl
 obtain ⟨d3, d4, _⟩ := (unhide HR4) _ (unhide HC)
 simp only [RQ.v, RQ.cs] at *
 rw [hfv] at hW1 ⊢
 clear hCB h hse hge hc hrc hG
 go_enter Tryz.func63, Tryz.ntmps63
 go_wp2_with fail
 rw [← hW1]
 clear hW1
 go_wp2_with fail
 refine ((unhide HCt) _ (unhide HC).f).mono ?_
 rintro e w' ⟨rfl, rfl⟩
 clear d3 d4
 go_wp2_with fail
 go_region_held3 (fun W => W.cell? ⟨b, 0, none⟩ = some (.slice so s.S.length sc) ∧ W.cell? ⟨w.heap.size, 2, none⟩ = some (.int .u32 (r.ac : Nat)) ∧ W.cell? ⟨w.heap.size, 9, none⟩ = some (.string r.rs))
  (first | exact (unhide HS) _ ((unhide HC).step (Fr.refl _ _).drew) | exact (unhide HS) _ (unhide H1) | exact (unhide HS) _ (unhide H2))
  (first
   | (go_at_call 77; refine ((unhide HSh) _ ((unhide HC).step (Fr.refl _ _).drew).f).mono ?_; rintro e w1 ⟨rfl, hf1⟩; have H1 := hide (((unhide HC).step (Fr.refl _ _).drew).step hf1); clear hf1)
   | (go_at_call 86; refine ((unhide HP) _ (unhide H1).f).mono ?_; rintro e w2 ⟨rfl, hf2⟩; have H2 := hide ((unhide H1).step hf2); clear hf2))
 all_goals
  by_cases hz : code = 0
  ·subst hz
   obtain ⟨d3, _, d5⟩ := (unhide HR4) _ (unhide H2)
   have HX := hide ((unhide HE1) (by trivial))
   clear HRf HP HS HSt HC HCt HSh HR4 H1 HE0 HE1
   go_wp2_with fail
   refine ((unhide HGr) _ (unhide H2)).mono ?_
   rintro e w3 ⟨rfl, ⟨b3, a3⟩, hfin⟩
   have HFN := hide hfin
   have d4 : w3.cell? ⟨w.heap.size, 4, none⟩ = some (.int .u32 (r.rc : Nat)) := by simp only [World.cell?, b3]; rfl
   obtain ⟨e0, e1, e2, e3, e4, e5, e6, y0, y1, y2, y3, y4, y5, y6⟩ := ansc a3
   clear b3 a3 hfin d3 d5 HGr
   go_wp2_with fail
   refine bodyPost_ret (results_cell_mid rfl _ _ (w.heap.size + 1) 0 [.int .u32 0, .int .u32 0, .int .u8 0, .int .u32 (r.rc : Nat), .int .u32 0, .slice none 0 0, .slice none 0 0] _ rfl ?_ Tryz.underlying45 rfl (by kernel_rfl)) rfl ?_
   ·intro j v hv
    rcases j with _ | _ | _ | _ | _ | _ | _ | j
    ·simp at hv; subst hv; go_simp
    ·simp at hv; subst hv; go_simp
    ·simp at hv; subst hv; go_simp
    ·simp at hv; subst hv; go_simp
    ·simp at hv; subst hv; go_simp
    ·simp at hv; subst hv; go_simp
    ·simp at hv; subst hv; go_simp
    ·simp at hv
   ·rw [unhide HX]; exact OpPost.put rfl ((unhide HFN) _ (set7_fr _ _ _ _ _ _ _ _ _))
  ·have hc' : ((code : Int) != 0) = true := by rw [bne_iff_ne]; omega
   have HX := hide ((unhide HE0) hz)
   clear HP HS HSt HC HCt HSh HR4 H1 HGr HE0 HE1
   go_wp2_with fail
   refine ((unhide HRf) code _).mono ?_
   rintro e w3 ⟨rfl, hf3⟩
   have h3 := (unhide H2).step hf3
   obtain ⟨e0, e1, e2, e3, e4, e5, e6, z0, z1, z2, z3, z4, z5, z6⟩ := h3.ans
   have H3 := hide h3.f
   clear h3 hf3
   go_wp2_with fail
   (try simp only [Exit.inBlock, Exit.then])
   refine bodyPost_ret (results_cell_mid rfl _ _ (w.heap.size + 1) 0 [.int .u32 0, .int .u32 0, .int .u8 ((code : Nat) : Int), .int .u32 0, .int .u32 0, .slice none 0 0, .slice none 0 0] _ rfl ?_ Tryz.underlying45 rfl (by kernel_rfl)) rfl ?_
   ·intro j v hv
    rcases j with _ | _ | _ | _ | _ | _ | _ | j
    ·simp at hv; subst hv; go_simp
    ·simp at hv; subst hv; go_simp
    ·simp at hv; subst hv; go_simp
    ·simp at hv; subst hv; go_simp
    ·simp at hv; subst hv; go_simp
    ·simp at hv; subst hv; go_simp
    ·simp at hv; subst hv; go_simp
    ·simp at hv
   ·rw [unhide HX]; refine OpPost.no rfl ?_
    repeat refine Fr.setCell ?_ (.inr (by simp)) _
    exact unhide H3
theorem Tryz.infoVe : (Tryz.prog.info? 110).map (fun i => (i.zero, i.size, i.bytes)) = some (some (.agg #[.int .u32 0, .int .u32 0, .slice none 0 0, .bool false]), 4, 40) := by kernel_rfl
theorem app_version (w : World) (x : Nat) (v : Value) (n : Nat) (xs : List Value) (a b c d : Value) (h : w.ownsRow 0 110 4 v n xs) (hn : n ≤ 1000000) (hx : w.heap[x]? = some (.cells #[a, b, c, d] 110)) (h1 : ∀ u ∈ [a, b, c, d], u.oneCell' = true) :
  ∃ ao cap w', (Builtin.append_ #[85, 85] 85 #[v, .slice (some ⟨x, 0, none⟩) 1 1]).run Tryz.prog w = .ok (.slice ao (n + 1) cap) w' ∧ w'.ownsRow 0 110 4 (.slice ao (n + 1) cap) (n + 1) (xs ++ [a, b, c, d]) ∧ Fr (fun g => v.ownBlock = some g) w w' ∧
   ∀ g, (Value.slice ao (n + 1) cap).ownBlock = some g → v.ownBlock = some g ∨ w.heap.size ≤ g := by
 obtain ⟨i0, hi, hz0, hz1, hz2⟩ := info_parts Tryz.infoVe
 obtain ⟨v', w', hr, h2, h3, _, h5⟩ := run_append_own_at (P := Tryz.prog) (w := w) 0 85 85 110 i0 (.agg #[.int .u32 0, .int .u32 0, .slice none 0 0, .bool false]) 4 40 Tryz.underlying85 hi hz0 hz1 hz2 rfl (by decide) v n xs h ⟨x, 0, none⟩ 1 1 [a, b, c, d] rfl (fun j u hu => by
  rw [addr_add, Nat.zero_add]
  simp only [World.cell?, hx]
  simpa using hu) h1 (by simp only [maxLen]; omega) (by omega) (Nat.zero_le _)
 obtain ⟨ao, cap, rfl⟩ := own_formX h2
 refine ⟨ao, cap, w', hr, h2, (Fr.refl _ _).grown h3 (fun g hg => .inl hg), fun g hg => ?_⟩
 rcases h5 with e | e
 ·rw [e] at hg; exact .inl hg
 ·rw [e] at hg; cases hg; exact .inr (Nat.le_refl _)
theorem amend_end {w w2 Wd w4 W8 : World} {b : Nat} {s : RM} {q : RW} {M : Nat → Prop} {r : RQ} {i : Nat} {c : CM} {g cap place : Nat} {F' : List F5} {fv nv : Value} (h : RsAt w b s q M) (hc : s.C[i]? = some c) (hcv : q.cv = .slice (some ⟨g, 0, none⟩) s.C.length cap) (h2 : CB w w2 w.heap.size r) (ho : OwF w2 w.heap.size fv F')
  (hWd : Wd = w2.drew.alloc (.cells #[.int .u32 (r.ac : Nat), .int .u32 (place : Nat), fv, .bool false] 110))
  (r4 : w4.ownsRow 0 110 4 nv (c.V.length + 1) (vcells (q.fv i) 0 c.V ++ [.int .u32 (r.ac : Nat), .int .u32 (place : Nat), fv, .bool false])) (f4 : Fr (fun k => (q.vv i).ownBlock = some k) Wd w4) (n4 : ∀ k, nv.ownBlock = some k → (q.vv i).ownBlock = some k ∨ Wd.heap.size ≤ k)
  (h8 : Fr (fun k => k = g ∨ k = w.heap.size + 1) w4 W8) (hch : W8.ownsRow 0 87 5 q.cv s.C.length ((ccells q 0 s.C).set (i * 5 + 4) nv)) :
  RsTo w W8 b s ⟨s.S, s.C.set i ⟨c.wa, c.ow, c.sl, c.G, c.V ++ [⟨r.ac, place, F', false⟩]⟩⟩ q M := by
 have hg : q.cv.ownBlock = some g := by rw [hcv]; rfl
 have hgl : g < w.heap.size := h.lt g (h.mc g hg)
 have hs2 : w.heap.size + 1 < w2.heap.size := lt_of_block h2.a
 have f2d : Fr (fun _ => False) w2 Wd := by rw [hWd]; exact (Fr.refl _ _).drew.alloc _
 have f0d : Fr (fun _ => False) w Wd := h2.f.trans f2d (fun _ _ h => h)
 have f04 : Fr (fun k => (q.vv i).ownBlock = some k) w w4 := (f0d.mono (fun _ _ h => h.elim)).trans f4 (fun _ _ h => h)
 have f07 : Fr (fun k => q.cv.ownBlock = some k ∨ (q.vv i).ownBlock = some k) w W8 := (f04.mono (fun _ _ h => .inr h)).trans h8 (fun k hk hx => by
  rcases hx with rfl | hx
  ·exact .inl hg
  ·omega)
 have f08 : Fr (fun k => q.cv.ownBlock = some k ∨ (q.gv i).ownBlock = some k ∨ (q.vv i).ownBlock = some k) w W8 := f07.mono (fun k _ hk => hk.imp id .inr)
 have hvl : ∀ k, (q.vv i).ownBlock = some k → k < w.heap.size := fun k hk => h.lt k (h.mv i c hc k hk)
 have hsd := f0d.size
 have hsd2 := f2d.size
 have hve : W8.ownsRow 0 110 4 nv (c.V.length + 1) (vcells (q.fv i) 0 c.V ++ [.int .u32 (r.ac : Nat), .int .u32 (place : Nat), fv, .bool false]) := ownsRow_of_block r4 (fun k hk => h8.block k (r4.lt k hk).2 (fun hx => by
  rcases hx with rfl | hx
  ·rcases n4 k hk with h1 | h1
   ·exact own_ne (h.ve i c hc) h.ch (by decide) k h1 hg
   ·omega
  ·rcases n4 k hk with h1 | h1
   ·have := hvl k h1; omega
   ·omega))
 have hgr : W8.ownsRow 0 31 1 (q.gv i) c.G.length (ncells c.G) := ownsRow_of_block (h.gr i c hc) (fun k hk => f07.block k (h.lt k (h.mg i c hc k hk)) (fun hx => by
  rcases hx with hx | hx
  ·exact own_ne (h.gr i c hc) h.ch (by decide) k hk hx
  ·exact own_ne (h.gr i c hc) (h.ve i c hc) (by decide) k hk hx))
 have hod : OwF Wd w.heap.size fv F' := OwF.fr ho f2d (fun _ _ h => h)
 have hoF : OwF W8 w.heap.size fv F' := by
  refine ownsRow_of_block hod (fun k hk => ?_)
  have h1 := (hod.lt k hk).1
  have h3 := (hod.lt k hk).2
  have e4 := f4.block k h3 (fun hx => by have := hvl k hx; omega)
  rw [← e4]
  refine h8.block k (Nat.lt_of_lt_of_le h3 f4.size) (fun hx => ?_)
  rcases hx with hx | hx
  ·omega
  ·subst hx
   exact blk_ne hod ((f2d.block _ hs2 (fun h => h)).trans h2.a) (by decide) hk
 have hSM : ∀ k, (q.cv.ownBlock = some k ∨ (q.gv i).ownBlock = some k ∨ (q.vv i).ownBlock = some k) → M k := fun k hk => by
  rcases hk with hk | hk | hk
  ·exact h.mc k hk
  ·exact h.mg i c hc k hk
  ·exact h.mv i c hc k hk
 have hnv : ∀ k, nv.ownBlock = some k → (q.vv i).ownBlock = some k ∨ w.heap.size ≤ k := fun k hk => (n4 k hk).imp id (fun h => by omega)
 have hMM : ∀ k, (M k ∨ (q.gv i).ownBlock = some k ∨ nv.ownBlock = some k) → M k ∨ w.heap.size ≤ k := fun k hk => by
  rcases hk with hk | hk | hk
  ·exact .inl hk
  ·exact .inl (h.mg i c hc k hk)
  ·rcases hnv k hk with h1 | h1
   ·exact .inl (h.mv i c hc k h1)
   ·exact .inr h1
 have ev : vcells (fun j => if j = c.V.length then fv else q.fv i j) 0 (c.V ++ [⟨r.ac, place, F', false⟩]) = vcells (q.fv i) 0 c.V ++ [.int .u32 (r.ac : Nat), .int .u32 (place : Nat), fv, .bool false] := by
  rw [vcells_app, vcells_off (q.fv i) _ c.V 0 (fun j _ hj => if_neg (by omega)), Nat.zero_add, if_pos rfl]
 have hput := h.put hc ⟨c.wa, c.ow, c.sl, c.G, c.V ++ [⟨r.ac, place, F', false⟩]⟩ (q.gv i) nv (fun j => if j = c.V.length then fv else q.fv i j) f08 (by rw [cput_v (q := q) (c' := CM.mk c.wa c.ow c.sl c.G (c.V ++ [VM.mk r.ac place F' false])) hc rfl rfl rfl]; exact hch) hgr (by rw [ev, List.length_append, List.length_singleton]; exact hve) (fun j u hu => by
  by_cases hj : j = c.V.length
  ·subst hj
   rw [List.getElem?_append_right (Nat.le_refl _), Nat.sub_self] at hu
   simp at hu
   subst hu
   rw [if_pos rfl]
   refine hoF.fdm (fun k hk hM => ?_)
   have h1 := (hoF.lt k hk).1
   rcases hM with hM | hM | hM
   ·have := h.lt k hM; omega
   ·have := h.lt k (h.mg i c hc k hM); omega
   ·exact own_ne hoF hve (by decide) k hk hM
  ·rw [if_neg hj]
   have hj2 : j < c.V.length := by
    have := (List.getElem?_eq_some_iff.1 hu).1
    simp at this
    omega
   rw [List.getElem?_append_left hj2] at hu
   exact (h.fl i c j u hc hu).more f08 hSM hMM) (fun k hk => .inl hk) hnv
 refine ⟨_, _, hput, hMM, fun k hk => (RW.uses_put hc _ _ _ _ hk).elim .inl (fun ⟨j, u, hu, o, n, m, e, h0⟩ => ?_), f08.mono (fun k _ hk => hSM k hk)⟩
 change (if j = c.V.length then fv else q.fv i j) = _ at e
 by_cases hj : j = c.V.length
 ·rw [if_pos hj] at e
  exact .inr (hoF.lt k (by rw [e]; rfl)).1
 ·rw [if_neg hj] at e
  have hj2 : j < c.V.length := by
   have := (List.getElem?_eq_some_iff.1 hu).1
   simp at this
   omega
  rw [List.getElem?_append_left hj2] at hu
  exact .inl (.inr ⟨i, c, j, u, hc, hu, o, n, m, e, h0⟩)
set_option linter.unusedSimpArgs false in
set_option maxHeartbeats 4000000 in
set_option maxRecDepth 100000 in
theorem amend_any (b : Nat) (s : RM) (q : RW) (M : Nat → Prop) (r : RQ) (xo : Option Addr) (xn xc : Nat) (place i : Nat) (c : CM) (w : World) (h : RsAt w b s q M) (hfv : r.fv = .slice xo xn xc) (hS : s.S.length ≤ 140737488355328) (hl : s.C.length ≤ 256) (hc : s.C[i]? = some c) (hrc : r.rc = i + 1) (hG : c.G.length ≤ 140737488355328) (F : List F5) (hF : FdC w w.heap.size r.fv F) (hFl : F.length ≤ 32) (hFo : ∀ f ∈ F, FOk f) (hFu : ∀ f ∈ F, f.u < 256) (hgu : GU w) (hV1 : 1 ≤ c.V.length) (hV : c.V.length ≤ 64) (hnl : c.now.length ≤ 32) (hnu : ∀ f ∈ c.now, f.u < 256) :
  Calls Tryz.prog 58 #[.pointer (some ⟨b, 0, none⟩), r.v, .int .u32 (place : Nat)] w fun e w' => OpPost w b s q M 0 0 (s.amend r c F place) e w' := by
 obtain ⟨W1, hW1⟩ : ∃ W1, W1 = (w.alloc (.cells r.cs 41)).alloc (.cells #[.int .u32 0, .int .u32 0, .int .u8 0, .int .u32 0, .int .u32 0, .slice none 0 0, .slice none 0 0] 45) := ⟨_, rfl⟩
 have hCB : CB w W1 w.heap.size r := by rw [hW1]; exact CB.new w r
 obtain ⟨g, ccap, hcv, _⟩ := h.chart hc
 obtain ⟨so, sc, hse⟩ := h.st.form
 obtain ⟨go, gc, hge⟩ := own_formX (h.gr i c hc)
 have HCt : Hid (∀ W, Fr (fun _ => False) w W → Calls Tryz.prog 72 #[.pointer (some ⟨b, 0, none⟩), .int .u32 (r.rc : Nat)] W fun e w' => e = .returned (.pointer (some ⟨g, i * 5, none⟩)) ∧ w' = W) := fun W hW => by rw [hrc]; exact chart_any b i c s q M W (h.fr hW) hc hl g ccap hcv
 have HSh : Hid (∀ W, Fr (fun _ => False) w W → Calls Tryz.prog 77 #[.pointer (some ⟨g, i * 5, none⟩)] W fun e w' => e = .returned (.agg #[.int .u32 (c.wa : Nat), .int .u32 (c.ow : Nat), .bool c.sl, .slice go c.G.length gc]) ∧ Fr (fun _ => False) W w') := fun W hW => by
  obtain ⟨g2, cc2, hcv2, k0, k1, k2, k3, k4, kz⟩ := (h.fr hW).chart hc
  rw [hcv] at hcv2
  cases hcv2
  rw [← hge]
  exact sheet_any g (i * 5) c.wa c.ow c.sl (q.gv i) go c.G.length gc W hge k0 k1 k2 k3
 have HP : Hid (∀ W, Fr (fun _ => False) w W → Calls Tryz.prog 76 #[.slice so s.S.length sc, .agg #[.int .u32 (c.wa : Nat), .int .u32 (c.ow : Nat), .bool c.sl, .slice go c.G.length gc], .int .u32 (r.ac : Nat), .slice xo xn xc] W fun e w' => e = .returned (.int .u8 ((amCode s.S r.ac c F : Nat) : Int)) ∧ Fr (fun _ => False) W w') := fun W hW => by
  rw [← hse, ← hge, ← hfv]
  exact pamend_any q.sv s.S c.wa c.ow c.sl (q.gv i) c.G r.ac r.fv F W ((h.fr hW).st) hS (own_us ((h.fr hW).gr i c hc)) hG (hF.f.fr hW) (by omega)
 have HSt : Hid (∀ W, Fr (fun _ => False) w W → W.cell? ⟨b, 0, none⟩ = some (.slice so s.S.length sc)) := fun W hW => by rw [← hse]; exact (h.fr hW).cells.1
 have HC := hide hCB
 have HH := hide h
 have HS : Hid (∀ W, CB w W w.heap.size r → W.cell? ⟨b, 0, none⟩ = some (.slice so s.S.length sc) ∧ W.cell? ⟨w.heap.size, 2, none⟩ = some (.int .u32 (r.ac : Nat)) ∧ W.cell? ⟨w.heap.size, 8, none⟩ = some (.slice xo xn xc)) := fun W hW => ⟨(unhide HSt) W hW.f, hW.cells.2.2.1, by rw [← hfv]; exact hW.cells.2.2.2.2.2.2.2.2.1⟩
 have HR4 : Hid (∀ W, CB w W w.heap.size r → W.cell? ⟨w.heap.size, 4, none⟩ = some (.int .u32 (r.rc : Nat)) ∧ W.cell? ⟨w.heap.size, 5, none⟩ = some (.int .u32 (r.ve : Nat)) ∧ W.cell? ⟨w.heap.size, 2, none⟩ = some (.int .u32 (r.ac : Nat))) := fun W hW => ⟨hW.cells.2.2.2.2.1, hW.cells.2.2.2.2.2.1, hW.cells.2.2.1⟩
 have HRf : Hid (∀ (cd : Nat) W, Calls Tryz.prog 36 #[.int .u8 (cd : Nat)] W fun e w' => e = .returned (.agg #[.int .u32 0, .int .u32 0, .int .u8 (cd : Nat), .int .u32 0, .int .u32 0, .slice none 0 0, .slice none 0 0]) ∧ Fr (fun _ => False) W w') := fun cd W => refusal_any cd W
 have HE0 : Hid (amCode s.S r.ac c F ≠ 0 → s.amend r c F place = (s, RA.no (amCode s.S r.ac c F))) := fun h => by simp [RM.amend, h]
 have HE1 : Hid (amCode s.S r.ac c F = 0 → r.ve = 0 → s.amend r c F place = (s, RA.no 4)) := fun h h1 => by simp [RM.amend, h, h1]
 have HE2 : Hid (amCode s.S r.ac c F = 0 → c.V.length < r.ve → s.amend r c F place = (s, RA.no 4)) := fun h h1 => by simp [RM.amend, h, h1]
 have HE3 : Hid (amCode s.S r.ac c F = 0 → ¬ r.ve = 0 → r.ve ≤ c.V.length → ¬ r.ve = c.V.length → s.amend r c F place = (s, RA.no 7)) := fun h h1 h2 h3 => by rw [RM.amend, if_neg (by simp [h]), if_neg (by omega), if_pos h3]
 have HE4 : Hid (amCode s.S r.ac c F = 0 → r.ve = c.V.length → (64 ≤ c.V.length ∨ 32 < (c.mrg F).length) → s.amend r c F place = (s, RA.no 9)) := fun h h1 h2 => by rw [RM.amend, if_neg (by simp [h]), if_neg (by omega), if_neg (by simp [h1]), if_pos h2]
 have HE5 : Hid (amCode s.S r.ac c F = 0 → r.ve = c.V.length → ¬ (64 ≤ c.V.length ∨ 32 < (c.mrg F).length) → remU c.now F = true → s.amend r c F place = (s, RA.no 10)) := fun h h1 h2 h3 => by rw [RM.amend, if_neg (by simp [h]), if_neg (by omega), if_neg (by simp [h1]), if_neg h2, if_pos h3]
 have HE6 : Hid (amCode s.S r.ac c F = 0 → r.ve = c.V.length → ¬ (64 ≤ c.V.length ∨ 32 < (c.mrg F).length) → remU c.now F = false → s.amend r c F place = (⟨s.S, s.C.set i ⟨c.wa, c.ow, c.sl, c.G, c.V ++ [⟨r.ac, place, c.mrg F, false⟩]⟩⟩, ⟨0, r.rc, c.V.length + 1, [], []⟩)) := fun h h1 h2 h3 => by rw [RM.amend, if_neg (by simp [h]), if_neg (by omega), if_neg (by simp [h1]), if_neg h2, if_neg (by simp [h3]), show r.rc - 1 = i by omega]
 generalize s.amend r c F place = X at *
 generalize amCode s.S r.ac c F = code at *
 obtain ⟨j, hj⟩ : ∃ j, c.V.length = j + 1 := ⟨c.V.length - 1, by omega⟩
 obtain ⟨v, hv⟩ : ∃ v, c.V[j]? = some v := ⟨c.V[j], List.getElem?_eq_getElem (by omega)⟩
 have hnow : c.now = v.F := by rw [CM.now, show c.V.length - 1 = j by omega, hv]; rfl
 obtain ⟨vg, vc, hve0, _⟩ := h.version hc hv
 obtain ⟨xo2, xc2, ex⟩ := (h.fl i c j v hc hv).f.form
 have HV4 : Hid (∀ W, Fr (fun _ => False) w W → W.cell? ⟨g, i * 5 + 4, none⟩ = some (.slice (some ⟨vg, 0, none⟩) c.V.length vc)) := fun W hW => by
  obtain ⟨g2, cc2, hcv2, k0, k1, k2, k3, k4, kz⟩ := (h.fr hW).chart hc
  rw [hcv] at hcv2
  cases hcv2
  rw [← hve0]
  exact k4
 have HLa : Hid (∀ W, Fr (fun _ => False) w W → Calls Tryz.prog 74 #[.pointer (some ⟨g, i * 5, none⟩)] W fun e w' => e = .returned (.int .u32 (c.V.length : Nat)) ∧ w' = W) := fun W hW => last_any g (i * 5) c.V.length _ vc W ((unhide HV4) W hW) (by omega)
 have HHas : Hid (∀ W, Fr (fun _ => False) w W → Calls Tryz.prog 78 #[.pointer (some ⟨g, i * 5, none⟩), .int .u32 (r.ve : Nat)] W fun e w' => e = .returned (.bool (decide (1 ≤ r.ve) && decide (r.ve ≤ c.V.length))) ∧ w' = W) := fun W hW => chas_any g (i * 5) c.V.length r.ve _ vc W ((unhide HV4) W hW) (by omega)
 have HCV : Hid (∀ W, Fr (fun _ => False) w W → Calls Tryz.prog 73 #[.pointer (some ⟨g, i * 5, none⟩), .int .u32 (c.V.length : Nat)] W fun e w' => e = .returned (.pointer (some ⟨vg, j * 4, none⟩)) ∧ w' = W) := fun W hW => by
  have h1 := (unhide HV4) W hW
  rw [hj] at h1 ⊢
  exact version_any g (i * 5) (j + 1) j vg vc W h1 (by omega) (by omega)
 have HVf : Hid (∀ W, Fr (fun _ => False) w W → W.cell? ⟨vg, j * 4 + 2, none⟩ = some (.slice xo2 v.F.length xc2)) := fun W hW => by
  obtain ⟨vg3, cc3, e3, k0, k1, k2, k3, kz⟩ := (h.fr hW).version hc hv
  rw [hve0] at e3
  cases e3
  rw [← ex]
  exact k2
 have HMg : Hid (∀ W, Fr (fun _ => False) w W → Calls Tryz.prog 75 #[.slice xo2 v.F.length xc2, .slice xo xn xc] W fun e w' => ∃ x, e = .returned x ∧ OwF w' W.heap.size x (c.mrg F) ∧ Fr (fun _ => False) W w') := fun W hW => by
  have hw := (h.fr hW).fl i c j v hc hv
  rw [← ex, ← hfv, CM.mrg, hnow]
  exact merged_any (q.fv i j) r.fv v.F F W ⟨hw.f, fun g o n c e h0 => hw.ltg e h0, hw.c, hw.z⟩ ⟨hF.f.fr hW, fun g o n c e h0 => Nat.lt_of_lt_of_le (hF.b g o n c e h0) hW.size, hF.c, hF.z⟩ (by rw [hnow] at hnl; omega) hFo
 have HRm : Hid (∀ W, Fr (fun _ => False) w W → Calls Tryz.prog 79 #[.slice xo2 v.F.length xc2, .slice xo xn xc] W fun e w' => e = .returned (.bool (remU c.now F)) ∧ Fr (fun _ => False) W w') := fun W hW => by
  have hw := (h.fr hW).fl i c j v hc hv
  rw [← ex, ← hfv, hnow]
  exact remeasures_any (q.fv i j) r.fv v.F F W hw.f (hF.f.fr hW) (by rw [hnow] at hnl; omega) (by omega) (fun f hf => by
   rcases List.mem_append.1 hf with hf | hf
   ·exact hnu f (by rw [hnow]; exact hf)
   ·exact hFu f hf) (hgu.fr hW)
 have HHc := hide (And.intro hc (And.intro hcv hve0))
 have HD8 : Hid (∀ W, CB w W w.heap.size r → W.cell? ⟨w.heap.size, 8, none⟩ = some (.slice xo xn xc)) := fun W hW => by rw [← hfv]; exact hW.cells.2.2.2.2.2.2.2.2.1
 obtain ⟨MF, hMF⟩ : ∃ MF, c.mrg F = MF := ⟨_, rfl⟩
 obtain ⟨rm, hrm⟩ : ∃ rm, remU c.now F = rm := ⟨_, rfl⟩
 rw [hMF] at HMg
 rw [hrm] at HRm
 simp only [hMF] at HE4 HE5 HE6
 simp only [hrm] at HE5 HE6
 have hL := hV
 clear hF hFl hFo hFu hgu hV1 hV hnl hnu hj hv hnow hve0 ex hMF hrm hcv
 obtain ⟨d3, d4, _⟩ := (unhide HR4) _ (unhide HC)
 simp only [RQ.v, RQ.cs] at *
 rw [hfv] at hW1 ⊢
 clear hCB h hse hge hc hrc hG
 go_enter Tryz.func58, Tryz.ntmps58
 go_wp2_with fail
 rw [← hW1]
 clear hW1
 go_wp2_with fail
 refine ((unhide HCt) _ (unhide HC).f).mono ?_
 rintro e w' ⟨rfl, hw⟩
 obtain rfl := hw.symm
 clear hw
 clear d3 d4
 go_wp2_with fail
 refine ((unhide HLa) _ (unhide HC).f).mono ?_
 rintro e w5 ⟨rfl, hw⟩
 obtain rfl := hw.symm
 clear hw
 go_wp2_with fail
 refine ((unhide HCV) _ (unhide HC).f).mono ?_
 rintro e w5 ⟨rfl, hw⟩
 obtain rfl := hw.symm
 clear hw
 have v2 := (unhide HVf) _ (unhide HC).f
 have d8 := ((unhide HS) _ (unhide HC)).2.2
 go_wp2_with fail
 refine ((unhide HMg) _ (unhide HC).f).mono ?_
 rintro e w5 ⟨x5, rfl, ho5, hf5⟩
 obtain ⟨ao5, cap5, rfl⟩ := own_formX ho5
 have HO5 := hide (ownsRow_base ho5 (unhide HC).f.size)
 have HC5 := hide ((unhide HC).step hf5)
 clear ho5 hf5 HC v2 d8 HMg HCV
 have HC := HC5
 clear HC5
 go_wp2_with fail
 go_region_held3 (fun W => W.cell? ⟨b, 0, none⟩ = some (.slice so s.S.length sc) ∧ W.cell? ⟨w.heap.size, 2, none⟩ = some (.int .u32 (r.ac : Nat)) ∧ W.cell? ⟨w.heap.size, 8, none⟩ = some (.slice xo xn xc))
  (first | exact (unhide HS) _ ((unhide HC).step (Fr.refl _ _).drew) | exact (unhide HS) _ (unhide H1) | exact (unhide HS) _ (unhide H2))
  (first
   | (go_at_call 77; refine ((unhide HSh) _ ((unhide HC).step (Fr.refl _ _).drew).f).mono ?_; rintro e w1 ⟨rfl, hf1⟩; have H1 := hide (((unhide HC).step (Fr.refl _ _).drew).step hf1); have G1 := hide ((Fr.refl (fun _ => False) _).drew.trans hf1 (fun _ _ h => h)); clear hf1)
   | (go_at_call 76; refine ((unhide HP) _ (unhide H1).f).mono ?_; rintro e w2 ⟨rfl, hf2⟩; have H2 := hide ((unhide H1).step hf2); have G2 := hide ((unhide G1).trans hf2 (fun _ _ h => h)); clear hf2))
 all_goals
  clear HP HS HSt HC HCt HSh H1 G1
  have HO2 := hide (OwF.fr (unhide HO5) (unhide G2) (fun _ _ h => h))
  clear HO5 G2
  by_cases hz : code = 0
  ·subst hz
   obtain ⟨d3, d4, _⟩ := (unhide HR4) _ (unhide H2)
   have HB := hide ((unhide HHas) w2 (unhide H2).f)
   clear HHas
   by_cases h1 : r.ve = 0
   ·rw [h1, show (decide (1 ≤ 0) && decide (0 ≤ c.V.length)) = false from rfl] at HB
    rw [h1] at d4
    have HX := hide ((unhide HE1) (by trivial) h1)
    clear HE0 HE1 HE2 HE3 HE4 HE5 HE6 HVf HRm HV4 HLa
    go_wp2_with fail
    refine (unhide HB).mono ?_
    rintro e w' ⟨rfl, rfl⟩
    clear HB
    go_wp2_with fail
    refine ((unhide HRf) 4 _).mono ?_
    rintro e w3 ⟨rfl, hf3⟩
    have h3 := (unhide H2).step hf3
    obtain ⟨e0, e1, e2, e3, e4, e5, e6, z0, z1, z2, z3, z4, z5, z6⟩ := h3.ans
    have H3 := hide h3.f
    clear h3 hf3
    go_wp2_with fail
    (try simp only [Exit.inBlock, Exit.then])
    refine bodyPost_ret (results_cell_mid rfl _ _ (w.heap.size + 1) 0 [.int .u32 0, .int .u32 0, .int .u8 ((4 : Nat) : Int), .int .u32 0, .int .u32 0, .slice none 0 0, .slice none 0 0] _ rfl ?_ Tryz.underlying45 rfl (by kernel_rfl)) rfl ?_
    ·intro j v hv
     rcases j with _ | _ | _ | _ | _ | _ | _ | j
     ·simp at hv; subst hv; go_simp
     ·simp at hv; subst hv; go_simp
     ·simp at hv; subst hv; go_simp
     ·simp at hv; subst hv; go_simp
     ·simp at hv; subst hv; go_simp
     ·simp at hv; subst hv; go_simp
     ·simp at hv; subst hv; go_simp
     ·simp at hv
    ·rw [unhide HX]; refine OpPost.no rfl ?_
     repeat refine Fr.setCell ?_ (.inr (by simp)) _
     exact unhide H3
   ·by_cases h2 : r.ve ≤ c.V.length
    ·rw [decide_eq_true (by omega : 1 ≤ r.ve), decide_eq_true h2, Bool.true_and] at HB
     by_cases h3 : r.ve = c.V.length
     ·have HS5 : Hid (∀ W, CB w W w.heap.size r → W.cell? ⟨w.heap.size, 5, none⟩ = some (.int .u32 (c.V.length : Nat))) := fun W hW => by rw [← h3]; exact ((unhide HR4) W hW).2.1
      rw [h3] at d4 HB
      have H3 := hide h3
      clear h1 h2 h3 HE0 HE1 HE2 HE3
      go_wp2_with fail
      refine (unhide HB).mono ?_
      rintro e w' ⟨rfl, hw⟩
      obtain rfl := hw.symm
      clear HB hw
      go_wp2_with fail
      go_region_held3 (fun W => W.cell? ⟨w.heap.size, 5, none⟩ = some (.int .u32 (c.V.length : Nat)))
       (exact (unhide HS5) _ ((unhide H2).step (Fr.refl _ _).drew))
       (first | (go_at_call 74; refine ((unhide HLa) _ ((unhide H2).step (Fr.refl _ _).drew).f).mono ?_; rintro e w' ⟨rfl, hw⟩; obtain rfl := hw.symm; clear hw))
      all_goals
       have H2' := hide ((unhide H2).step (Fr.refl _ _).drew)
       have HO2' := hide (OwF.fr (unhide HO2) (Fr.refl (fun _ => False) _).drew (fun _ _ h => h))
       clear H2 HO2 HS5 HLa d3 d4
       have H2 := H2'
       have HO2 := HO2'
       clear H2' HO2'
       have k4 := (unhide HV4) _ (unhide H2).f
       by_cases h4 : 64 ≤ c.V.length
       ·have HX := hide ((unhide HE4) (by trivial) (unhide H3) (.inl h4))
        have hk : (64 : Int) ≤ (c.V.length : Int) := by omega
        clear HE4 HE5 HE6 HVf HRm HV4
        go_wp2_with fail
        refine ((unhide HRf) 9 _).mono ?_
        rintro e w3 ⟨rfl, hf3⟩
        have h3 := (unhide H2).step hf3
        obtain ⟨e0, e1, e2, e3, e4, e5, e6, z0, z1, z2, z3, z4, z5, z6⟩ := h3.ans
        have H3 := hide h3.f
        clear h3 hf3
        go_wp2_with fail
        (try simp only [Exit.inBlock, Exit.then])
        refine bodyPost_ret (results_cell_mid rfl _ _ (w.heap.size + 1) 0 [.int .u32 0, .int .u32 0, .int .u8 ((9 : Nat) : Int), .int .u32 0, .int .u32 0, .slice none 0 0, .slice none 0 0] _ rfl ?_ Tryz.underlying45 rfl (by kernel_rfl)) rfl ?_
        ·intro j v hv
         rcases j with _ | _ | _ | _ | _ | _ | _ | j
         ·simp at hv; subst hv; go_simp
         ·simp at hv; subst hv; go_simp
         ·simp at hv; subst hv; go_simp
         ·simp at hv; subst hv; go_simp
         ·simp at hv; subst hv; go_simp
         ·simp at hv; subst hv; go_simp
         ·simp at hv; subst hv; go_simp
         ·simp at hv
        ·rw [unhide HX]; refine OpPost.no rfl ?_
         repeat refine Fr.setCell ?_ (.inr (by simp)) _
         exact unhide H3
       ·have hk : ¬ (64 : Int) ≤ (c.V.length : Int) := by omega
        by_cases h5 : 32 < MF.length
        ·have HX := hide ((unhide HE4) (by trivial) (unhide H3) (.inr h5))
         have hm : (32 : Int) < (MF.length : Int) := by omega
         clear HE4 HE5 HE6 HVf HRm HV4
         go_wp2_with fail
         refine ((unhide HRf) 9 _).mono ?_
         rintro e w3 ⟨rfl, hf3⟩
         have h3 := (unhide H2).step hf3
         obtain ⟨e0, e1, e2, e3, e4, e5, e6, z0, z1, z2, z3, z4, z5, z6⟩ := h3.ans
         have H3 := hide h3.f
         clear h3 hf3
         go_wp2_with fail
         (try simp only [Exit.inBlock, Exit.then])
         refine bodyPost_ret (results_cell_mid rfl _ _ (w.heap.size + 1) 0 [.int .u32 0, .int .u32 0, .int .u8 ((9 : Nat) : Int), .int .u32 0, .int .u32 0, .slice none 0 0, .slice none 0 0] _ rfl ?_ Tryz.underlying45 rfl (by kernel_rfl)) rfl ?_
         ·intro j v hv
          rcases j with _ | _ | _ | _ | _ | _ | _ | j
          ·simp at hv; subst hv; go_simp
          ·simp at hv; subst hv; go_simp
          ·simp at hv; subst hv; go_simp
          ·simp at hv; subst hv; go_simp
          ·simp at hv; subst hv; go_simp
          ·simp at hv; subst hv; go_simp
          ·simp at hv; subst hv; go_simp
          ·simp at hv
         ·rw [unhide HX]; refine OpPost.no rfl ?_
          repeat refine Fr.setCell ?_ (.inr (by simp)) _
          exact unhide H3
        ·have hm : ¬ (32 : Int) < (MF.length : Int) := by omega
         have d8 := (unhide HD8) _ (unhide H2)
         have HN : Hid (¬ (64 ≤ c.V.length ∨ 32 < MF.length)) := by show ¬ _; omega
         go_wp2_with fail
         refine ((unhide HRm) _ (unhide H2).f).mono ?_
         rintro e w6 ⟨rfl, hf6⟩
         have H6 := hide ((unhide H2).step hf6)
         have HO6 := hide (OwF.fr (unhide HO2) hf6 (fun _ _ h => h))
         clear hf6 H2 HO2 k4 d8
         have H2 := H6
         have HO2 := HO6
         clear H6 HO6
         cases rm with
         | true =>
          have HX := hide ((unhide HE5) (by trivial) (unhide H3) (unhide HN) (by trivial))
          clear HE4 HE5 HE6 HVf HRm HV4
          go_wp2_with fail
          refine ((unhide HRf) 10 _).mono ?_
          rintro e w3 ⟨rfl, hf3⟩
          have h3 := (unhide H2).step hf3
          obtain ⟨e0, e1, e2, e3, e4, e5, e6, z0, z1, z2, z3, z4, z5, z6⟩ := h3.ans
          have H3 := hide h3.f
          clear h3 hf3
          go_wp2_with fail
          (try simp only [Exit.inBlock, Exit.then])
          refine bodyPost_ret (results_cell_mid rfl _ _ (w.heap.size + 1) 0 [.int .u32 0, .int .u32 0, .int .u8 ((10 : Nat) : Int), .int .u32 0, .int .u32 0, .slice none 0 0, .slice none 0 0] _ rfl ?_ Tryz.underlying45 rfl (by kernel_rfl)) rfl ?_
          ·intro j v hv
           rcases j with _ | _ | _ | _ | _ | _ | _ | j
           ·simp at hv; subst hv; go_simp
           ·simp at hv; subst hv; go_simp
           ·simp at hv; subst hv; go_simp
           ·simp at hv; subst hv; go_simp
           ·simp at hv; subst hv; go_simp
           ·simp at hv; subst hv; go_simp
           ·simp at hv; subst hv; go_simp
           ·simp at hv
          ·rw [unhide HX]; refine OpPost.no rfl ?_
           repeat refine Fr.setCell ?_ (.inr (by simp)) _
           exact unhide H3
         | false =>
          have HX := hide ((unhide HE6) (by trivial) (unhide H3) (unhide HN) (by trivial))
          obtain ⟨N1, hN1⟩ : ∃ N1, N1 = c.V.length + 1 := ⟨_, rfl⟩
          rw [← hN1] at HX
          obtain ⟨hc, hcv, hve0⟩ := unhide HHc
          have hh := unhide HH
          have h2 := unhide H2
          have hsz6 : w.heap.size + 1 < w6.heap.size := lt_of_block h2.a
          have hgl : g < w.heap.size := hh.lt g (hh.mc g (by rw [hcv]; rfl))
          obtain ⟨Wd, hWd⟩ : ∃ Wd, Wd = w6.drew.alloc (.cells #[.int .u32 (r.ac : Nat), .int .u32 (place : Nat), .slice ao5 MF.length cap5, .bool false] 110) := ⟨_, rfl⟩
          have f6d : Fr (fun _ => False) w6 Wd := by rw [hWd]; exact (Fr.refl _ _).drew.alloc _
          have hrow : Wd.ownsRow 0 110 4 (.slice (some ⟨vg, 0, none⟩) c.V.length vc) c.V.length (vcells (q.fv i) 0 c.V) := by rw [← hve0]; exact (hh.fr (h2.f.trans f6d (fun _ _ h => h))).ve i c hc
          obtain ⟨ao7, cap7, w7, hr7, ho7, hf7, hn7⟩ := app_version Wd w6.heap.size (.slice (some ⟨vg, 0, none⟩) c.V.length vc) c.V.length (vcells (q.fv i) 0 c.V) (.int .u32 (r.ac : Nat)) (.int .u32 (place : Nat)) (.slice ao5 MF.length cap5) (.bool false) hrow (by omega) (by rw [hWd]; exact Array.getElem?_push_size) (fun u hu => by simp at hu; rcases hu with rfl | rfl | rfl | rfl <;> rfl)
          rw [← hve0] at hf7 hn7
          have hvl : ∀ k, (q.vv i).ownBlock = some k → k < w.heap.size := fun k hk => hh.lt k (hh.mv i c hc k hk)
          have f67 : Fr (fun k => (q.vv i).ownBlock = some k) w6 w7 := (f6d.mono (fun _ _ h => h.elim)).trans hf7 (fun _ _ h => h)
          have rc7 : w7.ownsRow 0 87 5 q.cv s.C.length (ccells q 0 s.C) := ownsRow_of_block (hh.fr h2.f).ch (fun k hk => f67.block k ((hh.fr h2.f).lt k (hh.mc k hk)) (fun hx => own_ne (hh.ve i c hc) hh.ch (by decide) k hx hk))
          have b7 := (f67.block w.heap.size (lt_of_block h2.r) (fun hx => by have := hvl _ hx; omega)).trans h2.r
          have a7 := (f67.block (w.heap.size + 1) (lt_of_block h2.a) (fun hx => by have := hvl _ hx; omega)).trans h2.a
          have c7 : w7.cell? ⟨g, i * 5 + 4, none⟩ = some (.slice (some ⟨vg, 0, none⟩) c.V.length vc) := (f67.cell (p := ⟨g, i * 5 + 4, none⟩) (Nat.lt_of_lt_of_le hgl h2.f.size) (fun hx => own_ne (hh.ve i c hc) hh.ch (by decide) g hx (by rw [hcv]; rfl))).trans ((unhide HV4) _ h2.f)
          have z7 : w7.frozen? ⟨g, i * 5 + 4, none⟩ = false := by rw [hcv] at rc7; exact rc7.frozenAt _
          have d7 : w7.cell? ⟨w.heap.size, 2, none⟩ = some (.int .u32 (r.ac : Nat)) := by simp only [World.cell?, b7]; rfl
          have HFIN : Hid (∀ W8, Fr (fun k => k = g ∨ k = w.heap.size + 1) w7 W8 → W8.ownsRow 0 87 5 q.cv s.C.length ((ccells q 0 s.C).set (i * 5 + 4) (.slice ao7 (c.V.length + 1) cap7)) → RsTo w W8 b s ⟨s.S, s.C.set i ⟨c.wa, c.ow, c.sl, c.G, c.V ++ [⟨r.ac, place, MF, false⟩]⟩⟩ q M) := fun W8 h8 hch => amend_end hh hc hcv h2 (unhide HO2) hWd ho7 hf7 hn7 h8 hch
          have HS15 : Hid (∀ W, Fr (fun _ => False) w6 W → W.cell? ⟨g, i * 5 + 4, none⟩ = some (.slice (some ⟨vg, 0, none⟩) c.V.length vc) ∧ W.cell? ⟨w.heap.size, 2, none⟩ = some (.int .u32 (r.ac : Nat))) := fun W hW => ⟨(unhide HV4) W (h2.f.trans hW (fun _ _ h => h)), (h2.step hW).cells.2.2.1⟩
          have HS7 := hide (And.intro c7 d7)
          have HE9 : Hid (∀ W9, W9 = w7.setCell ⟨g, i * 5 + 4, none⟩ (.slice ao7 N1 cap7) → ∃ W8, (Instr.storeAt 45 (.pointer (some ⟨w.heap.size + 1, 0, none⟩)) (.agg #[.int .u32 0, .int .u32 0, .int .u8 0, .int .u32 (r.rc : Nat), .int .u32 (N1 : Nat), .slice none 0 0, .slice none 0 0])).run Tryz.prog W9.drew = .ok () W8 ∧ W8.heap[w.heap.size + 1]? = some (.cells [Value.int .u32 0, .int .u32 0, .int .u8 0, .int .u32 (r.rc : Nat), .int .u32 (N1 : Nat), .slice none 0 0, .slice none 0 0].toArray 45) ∧ RsTo w W8 b s ⟨s.S, s.C.set i ⟨c.wa, c.ow, c.sl, c.G, c.V ++ [⟨r.ac, place, MF, false⟩]⟩⟩ q M ∧ W9.drew.cell? ⟨w.heap.size, 4, none⟩ = some (.int .u32 (r.rc : Nat)) ∧ Calls Tryz.prog 74 #[.pointer (some ⟨g, i * 5, none⟩)] W9.drew fun e w' => e = .returned (.int .u32 (N1 : Nat)) ∧ w' = W9.drew) := fun W9 hW9 => by
           have a9 : W9.heap[w.heap.size + 1]? = some (.cells (AN.no 0).cs.toArray 45) := by rw [hW9]; exact (heap_setCell_other w7 ⟨g, i * 5 + 4, none⟩ _ _ (by show w.heap.size + 1 ≠ g; omega)).trans a7
           have b9 : W9.heap[w.heap.size]? = some (.cells r.cs 41) := by rw [hW9]; exact (heap_setCell_other w7 ⟨g, i * 5 + 4, none⟩ _ _ (by show w.heap.size ≠ g; omega)).trans b7
           have r9 : W9.ownsRow 0 87 5 q.cv s.C.length ((ccells q 0 s.C).set (i * 5 + 4) (.slice ao7 N1 cap7)) := by rw [hW9]; exact own_set rc7 hcv (i * 5 + 4) _
           have f9 : Fr (fun k => k = g ∨ k = w.heap.size + 1) w7 W9 := by rw [hW9]; exact (Fr.refl _ _).setCell (.inl (.inl rfl)) _
           have c9 : W9.cell? ⟨g, i * 5 + 4, none⟩ = some (.slice ao7 N1 cap7) := by rw [hW9]; exact World.cell?_setCell_same _ _ _ c7
           obtain ⟨W8, hst, hb8, hf8⟩ := ans_put (W := W9.drew) a9 (.int .u32 0) (.int .u32 0) (.int .u8 0) (.int .u32 (r.rc : Nat)) (.int .u32 (N1 : Nat)) (.slice none 0 0) (.slice none 0 0) (fun u hu => by simp at hu; rcases hu with rfl | rfl | rfl | rfl | rfl | rfl | rfl <;> rfl)
           refine ⟨W8, hst, hb8, (unhide HFIN) W8 (f9.drew.trans hf8 (fun _ _ h => .inr h)) ?_, ?_, last_any g (i * 5) N1 ao7 cap7 W9.drew c9 (by omega)⟩
           ·rw [← hN1]
            exact ownsRow_of_block r9 (fun k hk => hf8.block k (r9.lt k hk).2 (fun hx => by
             have e : g = k := by
              rw [hcv] at hk
              exact Option.some.inj hk
             omega))
           ·show W9.cell? _ = _
            simp only [World.cell?, b9]
            rfl
          rw [hWd, ← hN1] at hr7
          have HR7 := hide hr7
          clear HE4 HE5 HE6 HVf HRm HV4 hN1 hc hcv hve0 hh h2 hsz6 hgl hWd f6d hrow hr7 ho7 hf7 hn7 hvl f67 rc7 b7 a7 c7 d7 HFIN HHc HH H3 HN H2 HO2 HR4 HD8 HRf
          go_wp2_with fail
          refine wp_region_last (n := 14) (m := 14) (S := (fun W => W.cell? ⟨g, i * 5 + 4, none⟩ = some (.slice (some ⟨vg, 0, none⟩) c.V.length vc) ∧ W.cell? ⟨w.heap.size, 2, none⟩ = some (.int .u32 (r.ac : Nat)))) (by kernel_rfl) rfl rfl rfl (by kernel_rfl) (by kernel_rfl) ((unhide HS15) _ (Fr.refl _ _).drew) (fun hHeld => ?_)
          refine wtk2 (i := 0) rfl hHeld ?_
          (try simp only [Act.put, nrm])
          refine wtk2 (i := 1) rfl hHeld ?_
          (try simp only [Act.put, nrm])
          refine wtk2 (i := 2) rfl hHeld ?_
          (try simp only [Act.put, nrm])
          refine wtk2 (i := 3) rfl hHeld ?_
          (try simp only [Act.put, nrm])
          refine wtk2 (i := 4) rfl hHeld ?_
          (try simp only [Act.put, nrm])
          refine wtk2 (i := 5) rfl hHeld ?_
          (try simp only [Act.put, nrm])
          refine wtk2 (i := 6) rfl hHeld ?_
          (try simp only [Act.put, nrm])
          refine wtk2 (i := 7) rfl hHeld ?_
          (try simp only [Act.put, nrm])
          refine wtk2 (i := 8) rfl hHeld ?_
          (try simp only [Act.put, nrm])
          refine wtk2 (i := 9) rfl hHeld ?_
          (try simp only [Act.put, nrm])
          refine wpAnyH_ready (rs := [10]) (by kernel_rfl) (by simp) (AllReadyH.cons rfl (fun K hK => ?_) AllReadyH.nil)
          go_simp
          refine hK.out _ _ ((unhide HS15) _ ((Fr.refl _ _).drew.alloc _)) (fun hHeld => ?_)
          clear hK K
          (try simp only [Act.put, nrm])
          refine wpAnyH_ready (rs := [11]) (by kernel_rfl) (by simp) (AllReadyH.cons rfl (fun K hK => ?_) AllReadyH.nil)
          refine step_app rfl (.tmp 79) (.tmp 85) 85 85 rfl _ _ _ (by simp [Act.eval]) (by simp [Act.eval]) (unhide HR7) ?_
          refine hK.out _ _ (unhide HS7) (fun hHeld => ?_)
          clear hK K
          (try simp only [Act.put, nrm])
          refine wtk2 (i := 12) rfl hHeld ?_
          (try simp only [Act.put, nrm])
          refine wtk2 (i := 13) rfl hHeld ?_
          (try simp only [Act.put, nrm])
          refine wpAnyH_done (by kernel_rfl) ?_ _
          have c7 := (unhide HS7).1
          simp only [lastQ]
          go_simp
          generalize hW9 : w7.setCell ⟨g, i * 5 + 4, none⟩ (.slice ao7 N1 cap7) = W9
          obtain ⟨W8, hst, hb8, hrs, hrc4, hla⟩ := (unhide HE9) W9 hW9.symm
          have HST := hide hst
          have HR8 := hide (range_of_block hb8)
          have HRS := hide hrs
          have HC4 := hide hrc4
          have HLA := hide hla
          clear hW9 hst hb8 hrs hrc4 hla c7 z7 HE9 HS7 HS15 HR7 hHeld
          go_wp2_with fail
          refine wp_region_last (n := 5) (m := 5) (S := (fun W => W.cell? ⟨w.heap.size, 4, none⟩ = some (.int .u32 (r.rc : Nat)))) (by kernel_rfl) rfl rfl rfl (by kernel_rfl) (by kernel_rfl) (unhide HC4) (fun hHeld => ?_)
          refine wtk2 (i := 0) rfl hHeld ?_
          (try simp only [Act.put, nrm])
          refine wtk2 (i := 1) rfl hHeld ?_
          (try simp only [Act.put, nrm])
          refine wtk2 (i := 2) rfl hHeld ?_
          (try simp only [Act.put, nrm])
          refine wpAnyH_ready (rs := [3]) (by kernel_rfl) (by simp) (AllReadyH.cons rfl (fun K hK => ?_) AllReadyH.nil)
          go_simp
          refine (unhide HLA).mono ?_
          rintro e w' ⟨rfl, hw⟩
          obtain rfl := hw.symm
          clear hw
          go_simp
          refine hK.out _ _ (unhide HC4) (fun hHeld => ?_)
          clear hK K
          (try simp only [Act.put, nrm])
          refine wtk2 (i := 4) rfl hHeld ?_
          (try simp only [Act.put, nrm])
          refine wpAnyH_done (by kernel_rfl) ?_ _
          simp only [lastQ]
          refine wp_stN 45 (.tmp 6) (.tmp 93) rfl _ _ (by simp [Act.eval]) (by simp [Act.eval]) (unhide HST) ?_
          (try simp only [Act.put, nrm])
          go_wp2_with fail
          refine bodyPost_ret (results_cell_mid rfl _ _ (w.heap.size + 1) 0 _ _ rfl (unhide HR8) Tryz.underlying45 rfl (by kernel_rfl)) rfl ?_
          rw [unhide HX]
          exact OpPost.put rfl (unhide HRS)
     ·have HX := hide ((unhide HE3) (by trivial) h1 h2 h3)
      have hq : ¬ (r.ve : Int) = (c.V.length : Int) := by omega
      have HS5 : Hid (∀ W, CB w W w.heap.size r → W.cell? ⟨w.heap.size, 5, none⟩ = some (.int .u32 (r.ve : Nat))) := fun W hW => ((unhide HR4) W hW).2.1
      clear HE0 HE1 HE2 HE3 HE4 HE5 HE6 HVf HRm HV4 h3
      go_wp2_with fail
      refine (unhide HB).mono ?_
      rintro e w' ⟨rfl, hw⟩
      obtain rfl := hw.symm
      clear HB hw
      go_wp2_with fail
      go_region_held3 (fun W => W.cell? ⟨w.heap.size, 5, none⟩ = some (.int .u32 (r.ve : Nat)))
       (exact (unhide HS5) _ ((unhide H2).step (Fr.refl _ _).drew))
       (first | (go_at_call 74; refine ((unhide HLa) _ ((unhide H2).step (Fr.refl _ _).drew).f).mono ?_; rintro e w' ⟨rfl, hw⟩; obtain rfl := hw.symm; clear hw))
      all_goals
       have H2' := hide ((unhide H2).step (Fr.refl _ _).drew)
       clear H2 HS5 HLa
       have H2 := H2'
       clear H2'
       go_wp2_with fail
       refine ((unhide HRf) 7 _).mono ?_
       rintro e w3 ⟨rfl, hf3⟩
       have h3 := (unhide H2).step hf3
       obtain ⟨e0, e1, e2, e3, e4, e5, e6, z0, z1, z2, z3, z4, z5, z6⟩ := h3.ans
       have H3 := hide h3.f
       clear h3 hf3
       go_wp2_with fail
       (try simp only [Exit.inBlock, Exit.then])
       refine bodyPost_ret (results_cell_mid rfl _ _ (w.heap.size + 1) 0 [.int .u32 0, .int .u32 0, .int .u8 ((7 : Nat) : Int), .int .u32 0, .int .u32 0, .slice none 0 0, .slice none 0 0] _ rfl ?_ Tryz.underlying45 rfl (by kernel_rfl)) rfl ?_
       ·intro j v hv
        rcases j with _ | _ | _ | _ | _ | _ | _ | j
        ·simp at hv; subst hv; go_simp
        ·simp at hv; subst hv; go_simp
        ·simp at hv; subst hv; go_simp
        ·simp at hv; subst hv; go_simp
        ·simp at hv; subst hv; go_simp
        ·simp at hv; subst hv; go_simp
        ·simp at hv; subst hv; go_simp
        ·simp at hv
       ·rw [unhide HX]; refine OpPost.no rfl ?_
        repeat refine Fr.setCell ?_ (.inr (by simp)) _
        exact unhide H3
    ·rw [decide_eq_false h2, Bool.and_false] at HB
     have HX := hide ((unhide HE2) (by trivial) (by omega))
     clear HE0 HE1 HE2 HE3 HE4 HE5 HE6 HVf HRm HV4 HLa
     go_wp2_with fail
     refine (unhide HB).mono ?_
     rintro e w' ⟨rfl, rfl⟩
     clear HB
     go_wp2_with fail
     refine ((unhide HRf) 4 _).mono ?_
     rintro e w3 ⟨rfl, hf3⟩
     have h3 := (unhide H2).step hf3
     obtain ⟨e0, e1, e2, e3, e4, e5, e6, z0, z1, z2, z3, z4, z5, z6⟩ := h3.ans
     have H3 := hide h3.f
     clear h3 hf3
     go_wp2_with fail
     (try simp only [Exit.inBlock, Exit.then])
     refine bodyPost_ret (results_cell_mid rfl _ _ (w.heap.size + 1) 0 [.int .u32 0, .int .u32 0, .int .u8 ((4 : Nat) : Int), .int .u32 0, .int .u32 0, .slice none 0 0, .slice none 0 0] _ rfl ?_ Tryz.underlying45 rfl (by kernel_rfl)) rfl ?_
     ·intro j v hv
      rcases j with _ | _ | _ | _ | _ | _ | _ | j
      ·simp at hv; subst hv; go_simp
      ·simp at hv; subst hv; go_simp
      ·simp at hv; subst hv; go_simp
      ·simp at hv; subst hv; go_simp
      ·simp at hv; subst hv; go_simp
      ·simp at hv; subst hv; go_simp
      ·simp at hv; subst hv; go_simp
      ·simp at hv
     ·rw [unhide HX]; refine OpPost.no rfl ?_
      repeat refine Fr.setCell ?_ (.inr (by simp)) _
      exact unhide H3
  ·have hc' : ((code : Int) != 0) = true := by rw [bne_iff_ne]; omega
   have HX := hide ((unhide HE0) hz)
   clear HE0 HE1 HE2 HE3 HE4 HE5 HE6 HR4 HHas HVf HRm HV4 HLa
   go_wp2_with fail
   refine ((unhide HRf) code _).mono ?_
   rintro e w3 ⟨rfl, hf3⟩
   have h3 := (unhide H2).step hf3
   obtain ⟨e0, e1, e2, e3, e4, e5, e6, z0, z1, z2, z3, z4, z5, z6⟩ := h3.ans
   have H3 := hide h3.f
   clear h3 hf3
   go_wp2_with fail
   (try simp only [Exit.inBlock, Exit.then])
   refine bodyPost_ret (results_cell_mid rfl _ _ (w.heap.size + 1) 0 [.int .u32 0, .int .u32 0, .int .u8 ((code : Nat) : Int), .int .u32 0, .int .u32 0, .slice none 0 0, .slice none 0 0] _ rfl ?_ Tryz.underlying45 rfl (by kernel_rfl)) rfl ?_
   ·intro j v hv
    rcases j with _ | _ | _ | _ | _ | _ | _ | j
    ·simp at hv; subst hv; go_simp
    ·simp at hv; subst hv; go_simp
    ·simp at hv; subst hv; go_simp
    ·simp at hv; subst hv; go_simp
    ·simp at hv; subst hv; go_simp
    ·simp at hv; subst hv; go_simp
    ·simp at hv; subst hv; go_simp
    ·simp at hv
   ·rw [unhide HX]; refine OpPost.no rfl ?_
    repeat refine Fr.setCell ?_ (.inr (by simp)) _
    exact unhide H3
theorem scells_app (l : List SM) (x : SM) : scells (l ++ [x]) = scells l ++ [.int .u32 (x.au : Nat), .int .u32 (x.ev : Nat), .int .u32 (x.nf : Nat), .bool x.rd] := by simp [scells]
theorem Tryz.infoSu : (Tryz.prog.info? 83).map (fun i => (i.zero, i.size, i.bytes)) = some (some (.agg #[.int .u32 0, .int .u32 0, .int .u32 0, .bool false]), 4, 16) := by kernel_rfl
theorem app_sum (w : World) (base x : Nat) (v : Value) (l : List SM) (y : SM) (h : OwS w base v l) (hb : base ≤ w.heap.size) (hn : l.length ≤ 1000000) (hx : w.heap[x]? = some (.cells #[.int .u32 (y.au : Nat), .int .u32 (y.ev : Nat), .int .u32 (y.nf : Nat), .bool y.rd] 83)) :
  ∃ ao cap w', (Builtin.append_ #[43, 43] 43 #[v, .slice (some ⟨x, 0, none⟩) 1 1]).run Tryz.prog w = .ok (.slice ao (l.length + 1) cap) w' ∧ OwS w' base (.slice ao (l.length + 1) cap) (l ++ [y]) ∧ Fr (fun g => v.ownBlock = some g) w w' := by
 obtain ⟨i0, hi, hz0, hz1, hz2⟩ := info_parts Tryz.infoSu
 obtain ⟨v', w', hr, h2, h3, _, h5⟩ := run_append_own_at (P := Tryz.prog) (w := w) base 43 43 83 i0 (.agg #[.int .u32 0, .int .u32 0, .int .u32 0, .bool false]) 4 16 Tryz.underlying43 hi hz0 hz1 hz2 rfl (by decide) v l.length (scells l) h ⟨x, 0, none⟩ 1 1 [.int .u32 (y.au : Nat), .int .u32 (y.ev : Nat), .int .u32 (y.nf : Nat), .bool y.rd] rfl (fun j u hu => by
  rw [addr_add, Nat.zero_add]
  simp only [World.cell?, hx]
  simpa using hu) (fun u hu => by simp at hu; rcases hu with rfl | rfl | rfl | rfl <;> rfl) (by simp only [maxLen]; omega) (by omega) hb
 obtain ⟨ao, cap, rfl⟩ := own_formX h2
 refine ⟨ao, cap, w', hr, ?_, (Fr.refl _ _).grown h3 (fun g hg => .inl hg)⟩
 unfold OwS
 rw [scells_app, List.length_append, List.length_singleton]
 exact h2
set_option maxHeartbeats 1000000 in
set_option maxRecDepth 100000 in
theorem summary_any (au ev : Nat) (rd : Bool) (xo : Option Addr) (n xc : Nat) (w : World) (hn : n ≤ 1000) : Calls Tryz.prog 84 #[.agg #[.int .u32 (au : Nat), .int .u32 (ev : Nat), .slice xo n xc, .bool rd]] w fun e w' => e = .returned (.agg #[.int .u32 (au : Nat), .int .u32 (ev : Nat), .int .u32 (n : Nat), .bool rd]) ∧ Fr (fun _ => False) w w' := by
 have a2 : IntKind.u32.wrap (n : Int) = (n : Int) := by rw [IntKind.wrap_u32]; omega
 obtain ⟨W1, hW1⟩ : ∃ W1, W1 = (w.alloc (.cells #[.int .u32 (au : Nat), .int .u32 (ev : Nat), .slice xo n xc, .bool rd] 110)).alloc (.cells #[.int .u32 0, .int .u32 0, .int .u32 0, .bool false] 83) := ⟨_, rfl⟩
 have HF : Hid (Fr (fun _ => False) w W1) := by rw [hW1]; exact (box1 w _).trans (box1 _ _) (fun _ _ h => h)
 go_enter Tryz.func84, Tryz.ntmps84
 go_wp2_with fail
 refine bodyPost_ret (results_cell_mid rfl _ _ (w.heap.size + 1) 0 [.int .u32 (au : Nat), .int .u32 (ev : Nat), .int .u32 (n : Nat), .bool rd] _ rfl ?_ Tryz.underlying83 rfl (by kernel_rfl)) rfl ?_
 ·intro j v hv
  rcases j with _ | _ | _ | _ | j
  ·simp at hv; subst hv; go_simp
  ·simp at hv; subst hv; go_simp
  ·simp at hv; subst hv; go_simp
  ·simp at hv; subst hv; go_simp
  ·simp at hv
 ·refine ⟨rfl, ?_⟩
  repeat refine Fr.setCell ?_ (.inr (by simp)) _
  exact (box1 w _).trans (box1 _ _) (fun _ _ h => h)
theorem blk7 {W : World} {g t : Nat} {a0 a1 a2 a3 a4 a5 a6 : Value} (hb : W.heap[g]? = some (.cells #[a0, a1, a2, a3, a4, a5, a6] t)) : W.cell? ⟨g, 0, none⟩ = some a0 ∧ W.cell? ⟨g, 1, none⟩ = some a1 ∧ W.cell? ⟨g, 2, none⟩ = some a2 ∧ W.cell? ⟨g, 3, none⟩ = some a3 ∧ W.cell? ⟨g, 4, none⟩ = some a4 ∧ W.cell? ⟨g, 5, none⟩ = some a5 ∧ W.cell? ⟨g, 6, none⟩ = some a6 := by
 refine ⟨?_, ?_, ?_, ?_, ?_, ?_, ?_⟩ <;> (simp only [World.cell?, hb]; rfl)
structure HI (w wr : World) (r : RQ) (c : CM) (z k : Nat) (hv : Value) : Prop where
 cb : CB w wr w.heap.size r
 zb : wr.heap[z]? = some (.cells #[.int .u32 0, .int .u32 0, .int .u8 0, .int .u32 (r.rc : Nat), .int .u32 (c.V.length : Nat), .slice none 0 0, hv] 45)
 o : OwS wr (z + 1) hv ((c.V.take k).map VM.sum)
 n : w.heap.size + 1 < z
theorem HI.step {w wr W : World} {r : RQ} {c : CM} {z k : Nat} {hv : Value} (h : HI w wr r c z k hv) (hf : Fr (fun _ => False) wr W) : HI w W r c z k hv :=
 ⟨h.cb.step hf, (hf.block z (lt_of_block h.zb) (fun h => h)).trans h.zb, ownsRow_of_block h.o (fun g hg => hf.block g (h.o.lt g hg).2 (fun h => h)), h.n⟩
theorem HI.next {w Wd w7 : World} {r : RQ} {c : CM} {z k : Nat} {hv nv : Value} {v : VM} (h : HI w Wd r c z k hv) (hf : Fr (fun g => hv.ownBlock = some g) Wd w7) (ho : OwS w7 (z + 1) nv ((c.V.take k).map VM.sum ++ [v.sum])) (hk : c.V[k]? = some v) :
  w7.cell? ⟨z, 6, none⟩ = some hv ∧ w7.frozen? ⟨z, 6, none⟩ = false ∧ HI w (w7.setCell ⟨z, 6, none⟩ nv) r c z (k + 1) nv := by
 have hno : ∀ g, g ≤ z → ¬ hv.ownBlock = some g := fun g hg e => by have := (h.o.lt g e).1; omega
 have hn := h.n
 have hsz := h.cb.n
 have z7 := (hf.block z (lt_of_block h.zb) (hno z (Nat.le_refl _))).trans h.zb
 have r7 := (hf.block w.heap.size (lt_of_block h.cb.r) (hno _ (by omega))).trans h.cb.r
 have a7 := (hf.block (w.heap.size + 1) (lt_of_block h.cb.a) (hno _ (by omega))).trans h.cb.a
 refine ⟨by simp only [World.cell?, z7]; rfl, by simp [World.frozen?, z7], ⟨⟨(heap_setCell_other w7 ⟨z, 6, none⟩ _ nv (by show w.heap.size ≠ z; omega)).trans r7, (heap_setCell_other w7 ⟨z, 6, none⟩ _ nv (by show w.heap.size + 1 ≠ z; omega)).trans a7, (h.cb.f.absorb hf (fun i hi => by have := (h.o.lt i hi).1; omega)).setCell (.inr (by show w.heap.size ≤ z; omega)) _, Nat.le_refl _⟩, heap_setCell_same w7 z 6 _ _ nv z7, ?_, hn⟩⟩
 have e : (c.V.take (k + 1)).map VM.sum = (c.V.take k).map VM.sum ++ [v.sum] := by rw [List.take_add_one, hk]; simp
 rw [e]
 exact ownsRow_of_block ho (fun g hg => heap_setCell_other w7 ⟨z, 6, none⟩ g nv (by have := (ho.lt g hg).1; show g ≠ z; omega))
theorem HI.end_ {w wr W8 : World} {r : RQ} {c : CM} {z : Nat} {hv : Value} (h : HI w wr r c z c.V.length hv) (h8 : Fr (fun k => k = w.heap.size + 1) wr W8) (b : Nat) (s : RM) (q : RW) (M : Nat → Prop) : OpD w b s q M (s, ⟨0, r.rc, c.V.length, [], c.V.map VM.sum⟩) (.slice none 0 0) hv W8 := by
 have hn := h.n
 have ho := h.o
 rw [List.take_length] at ho
 exact .inl ⟨rfl, h.cb.f.absorb h8 (fun i hi => by omega), World.ownsRow_nil _ _ _ _, ownsRow_base (ownsRow_of_block ho (fun g hg => h8.block g (ho.lt g hg).2 (fun hk => by have := (ho.lt g hg).1; omega))) (by omega)⟩
set_option linter.unusedSimpArgs false in
set_option maxHeartbeats 4000000 in
set_option maxRecDepth 100000 in
theorem history_any (b : Nat) (s : RM) (q : RW) (M : Nat → Prop) (r : RQ) (xo : Option Addr) (xn xc : Nat) (place i : Nat) (c : CM) (w : World) (h : RsAt w b s q M) (hfv : r.fv = .slice xo xn xc) (hS : s.S.length ≤ 140737488355328) (hl : s.C.length ≤ 256) (hc : s.C[i]? = some c) (hrc : r.rc = i + 1) (hG : c.G.length ≤ 140737488355328) (hV : c.V.length ≤ 64) (hVF : ∀ v ∈ c.V, v.F.length ≤ 1000) :
  Calls Tryz.prog 61 #[.pointer (some ⟨b, 0, none⟩), r.v, .int .u32 (place : Nat)] w fun e w' => OpPost w b s q M 0 0 (s.history r c) e w' := by
 obtain ⟨W1, hW1⟩ : ∃ W1, W1 = (w.alloc (.cells r.cs 41)).alloc (.cells #[.int .u32 0, .int .u32 0, .int .u8 0, .int .u32 0, .int .u32 0, .slice none 0 0, .slice none 0 0] 45) := ⟨_, rfl⟩
 have hCB : CB w W1 w.heap.size r := by rw [hW1]; exact CB.new w r
 obtain ⟨g, ccap, hcv, _⟩ := h.chart hc
 obtain ⟨so, sc, hse⟩ := h.st.form
 obtain ⟨go, gc, hge⟩ := own_formX (h.gr i c hc)
 have HCt : Hid (∀ W, Fr (fun _ => False) w W → Calls Tryz.prog 72 #[.pointer (some ⟨b, 0, none⟩), .int .u32 (r.rc : Nat)] W fun e w' => e = .returned (.pointer (some ⟨g, i * 5, none⟩)) ∧ w' = W) := fun W hW => by rw [hrc]; exact chart_any b i c s q M W (h.fr hW) hc hl g ccap hcv
 have HSh : Hid (∀ W, Fr (fun _ => False) w W → Calls Tryz.prog 77 #[.pointer (some ⟨g, i * 5, none⟩)] W fun e w' => e = .returned (.agg #[.int .u32 (c.wa : Nat), .int .u32 (c.ow : Nat), .bool c.sl, .slice go c.G.length gc]) ∧ Fr (fun _ => False) W w') := fun W hW => by
  obtain ⟨g2, cc2, hcv2, k0, k1, k2, k3, k4, kz⟩ := (h.fr hW).chart hc
  rw [hcv] at hcv2
  cases hcv2
  rw [← hge]
  exact sheet_any g (i * 5) c.wa c.ow c.sl (q.gv i) go c.G.length gc W hge k0 k1 k2 k3
 have HP : Hid (∀ W, Fr (fun _ => False) w W → Calls Tryz.prog 83 #[.slice so s.S.length sc, .agg #[.int .u32 (c.wa : Nat), .int .u32 (c.ow : Nat), .bool c.sl, .slice go c.G.length gc], .int .u32 (r.ac : Nat)] W fun e w' => e = .returned (.int .u8 ((hiCode s.S r.ac c : Nat) : Int)) ∧ Fr (fun _ => False) W w') := fun W hW => by
  rw [← hse, ← hge]
  exact phistory_any q.sv s.S c.wa c.ow c.sl (q.gv i) c.G r.ac W ((h.fr hW).st) hS (own_us ((h.fr hW).gr i c hc)) hG
 have HSt : Hid (∀ W, Fr (fun _ => False) w W → W.cell? ⟨b, 0, none⟩ = some (.slice so s.S.length sc)) := fun W hW => by rw [← hse]; exact (h.fr hW).cells.1
 have HC := hide hCB
 have HH := hide h
 have HS : Hid (∀ W, CB w W w.heap.size r → W.cell? ⟨b, 0, none⟩ = some (.slice so s.S.length sc) ∧ W.cell? ⟨w.heap.size, 2, none⟩ = some (.int .u32 (r.ac : Nat))) := fun W hW => ⟨(unhide HSt) W hW.f, hW.cells.2.2.1⟩
 have HR4 : Hid (∀ W, CB w W w.heap.size r → W.cell? ⟨w.heap.size, 4, none⟩ = some (.int .u32 (r.rc : Nat)) ∧ W.cell? ⟨w.heap.size, 5, none⟩ = some (.int .u32 (r.ve : Nat)) ∧ W.cell? ⟨w.heap.size, 2, none⟩ = some (.int .u32 (r.ac : Nat))) := fun W hW => ⟨hW.cells.2.2.2.2.1, hW.cells.2.2.2.2.2.1, hW.cells.2.2.1⟩
 have HRf : Hid (∀ (cd : Nat) W, Calls Tryz.prog 36 #[.int .u8 (cd : Nat)] W fun e w' => e = .returned (.agg #[.int .u32 0, .int .u32 0, .int .u8 (cd : Nat), .int .u32 0, .int .u32 0, .slice none 0 0, .slice none 0 0]) ∧ Fr (fun _ => False) W w') := fun cd W => refusal_any cd W
 have HE0 : Hid (hiCode s.S r.ac c ≠ 0 → s.history r c = (s, RA.no (hiCode s.S r.ac c))) := fun h => by simp [RM.history, h]
 have HE1 : Hid (hiCode s.S r.ac c = 0 → s.history r c = (s, ⟨0, r.rc, c.V.length, [], c.V.map VM.sum⟩)) := fun h => by simp [RM.history, h]
 generalize s.history r c = X at *
 generalize hiCode s.S r.ac c = code at *
 obtain ⟨vo, vc, hve0⟩ := own_formX (h.ve i c hc)
 have HV4 : Hid (∀ W, Fr (fun _ => False) w W → W.cell? ⟨g, i * 5 + 4, none⟩ = some (.slice vo c.V.length vc)) := fun W hW => by
  obtain ⟨g2, cc2, hcv2, k0, k1, k2, k3, k4, kz⟩ := (h.fr hW).chart hc
  rw [hcv] at hcv2
  cases hcv2
  rw [← hve0]
  exact k4
 have HLa : Hid (∀ W, Fr (fun _ => False) w W → Calls Tryz.prog 74 #[.pointer (some ⟨g, i * 5, none⟩)] W fun e w' => e = .returned (.int .u32 (c.V.length : Nat)) ∧ w' = W) := fun W hW => last_any g (i * 5) c.V.length vo vc W ((unhide HV4) W hW) (by omega)
 have HVk : Hid (∀ k v, c.V[k]? = some v → ∃ vg xo2 xc2, vo = some ⟨vg, 0, none⟩ ∧ v.F.length ≤ 1000 ∧ vg < w.heap.size ∧ ∀ W, Fr (fun _ => False) w W → W.cell? ⟨vg, k * 4, none⟩ = some (.int .u32 (v.au : Nat)) ∧ W.cell? ⟨vg, k * 4 + 1, none⟩ = some (.int .u32 (v.ev : Nat)) ∧ W.cell? ⟨vg, k * 4 + 2, none⟩ = some (.slice xo2 v.F.length xc2) ∧ W.cell? ⟨vg, k * 4 + 3, none⟩ = some (.bool v.rd)) := fun k v hv => by
  obtain ⟨vg, cc2, e1, _⟩ := h.version hc hv
  obtain ⟨xo2, xc2, ex⟩ := (h.fl i c k v hc hv).f.form
  have e2 := hve0
  rw [e1] at e2
  cases e2
  refine ⟨vg, xo2, xc2, rfl, hVF v (List.mem_of_getElem? hv), h.lt vg (h.mv i c hc vg (by rw [e1]; rfl)), fun W hW => ?_⟩
  obtain ⟨vg3, cc3, e3, k0, k1, k2, k3, kz⟩ := (h.fr hW).version hc hv
  rw [e1] at e3
  cases e3
  rw [← ex]
  exact ⟨k0, k1, k2, k3⟩
 clear hve0 hVF
 obtain ⟨d3, d4, _⟩ := (unhide HR4) _ (unhide HC)
 simp only [RQ.v, RQ.cs] at *
 rw [hfv] at hW1 ⊢
 clear hCB h hse hge hc hrc hG
 go_enter Tryz.func61, Tryz.ntmps61
 go_wp2_with fail
 rw [← hW1]
 clear hW1
 go_wp2_with fail
 refine ((unhide HCt) _ (unhide HC).f).mono ?_
 rintro e w' ⟨rfl, rfl⟩
 clear d3 d4
 go_wp2_with fail
 go_region_held3 (fun W => W.cell? ⟨b, 0, none⟩ = some (.slice so s.S.length sc) ∧ W.cell? ⟨w.heap.size, 2, none⟩ = some (.int .u32 (r.ac : Nat)))
  (first | exact (unhide HS) _ ((unhide HC).step (Fr.refl _ _).drew) | exact (unhide HS) _ (unhide H1) | exact (unhide HS) _ (unhide H2))
  (first
   | (go_at_call 77; refine ((unhide HSh) _ ((unhide HC).step (Fr.refl _ _).drew).f).mono ?_; rintro e w1 ⟨rfl, hf1⟩; have H1 := hide (((unhide HC).step (Fr.refl _ _).drew).step hf1); clear hf1)
   | (go_at_call 83; refine ((unhide HP) _ (unhide H1).f).mono ?_; rintro e w2 ⟨rfl, hf2⟩; have H2 := hide ((unhide H1).step hf2); clear hf2))
 all_goals
  clear HP HS HSt HC HCt HSh H1
  by_cases hz : code = 0
  ·subst hz
   have HX := hide ((unhide HE1) (by trivial))
   have HS5 : Hid (∀ W, CB w W w.heap.size r → W.cell? ⟨w.heap.size, 4, none⟩ = some (.int .u32 (r.rc : Nat))) := fun W hW => ((unhide HR4) W hW).1
   clear HE0 HE1 HRf HR4
   obtain ⟨W5, hst5, hb5, hf5⟩ := ans_put (W := w2.drew.alloc (.cells #[.int .u32 0, .int .u32 0, .int .u8 0, .int .u32 0, .int .u32 0, .slice none 0 0, .slice none 0 0] 45)) (g := w2.heap.size) Array.getElem?_push_size (.int .u32 0) (.int .u32 0) (.int .u8 0) (.int .u32 (r.rc : Nat)) (.int .u32 (c.V.length : Nat)) (.slice none 0 0) (.slice none 0 0) (fun u hu => by simp at hu; rcases hu with rfl | rfl | rfl | rfl | rfl | rfl | rfl <;> rfl)
   have HST := hide hst5
   have hsz2 : w.heap.size + 1 < w2.heap.size := lt_of_block (unhide H2).a
   have f25 : Fr (fun _ => False) w2 W5 := ((Fr.refl (fun _ => False) w2).drew.alloc _).absorb hf5 (fun i hi => by omega)
   obtain ⟨z, hzz⟩ : ∃ z, z = w2.heap.size := ⟨_, rfl⟩
   have HI0 : Hid (HI w W5 r c z 0 (.slice none 0 0)) := by
    rw [hzz]
    exact ⟨(unhide H2).step f25, hb5, World.ownsRow_nil _ _ _ _, hsz2⟩
   clear hst5 hb5 hf5 hsz2 f25
   go_wp2_with fail
   refine wp_region_last (n := 6) (m := 6) (S := (fun W => W.cell? ⟨w.heap.size, 4, none⟩ = some (.int .u32 (r.rc : Nat)))) (by kernel_rfl) rfl rfl rfl (by kernel_rfl) (by kernel_rfl) ((unhide HS5) _ ((unhide H2).step (Fr.refl _ _).drew)) (fun hHeld => ?_)
   refine wtk2 (i := 0) rfl hHeld ?_
   (try simp only [Act.put, nrm])
   refine wtk2 (i := 1) rfl hHeld ?_
   (try simp only [Act.put, nrm])
   refine wtk2 (i := 2) rfl hHeld ?_
   (try simp only [Act.put, nrm])
   refine wpAnyH_ready (rs := [3, 5]) (by kernel_rfl) (by simp) (AllReadyH.cons rfl (fun K hK => ?_) (AllReadyH.cons rfl (fun K hK => ?_) AllReadyH.nil))
   focus
    go_simp
    refine ((unhide HLa) _ (((unhide H2).step (Fr.refl _ _).drew)).f).mono ?_
    rintro e w' ⟨rfl, hw⟩
    obtain rfl := hw.symm
    clear hw
    go_simp
    refine hK.out _ _ ((unhide HS5) _ ((unhide H2).step (Fr.refl _ _).drew)) (fun hHeld => ?_)
    clear hK K
    (try simp only [Act.put, nrm])
    refine wtk2 (i := 4) rfl hHeld ?_
    (try simp only [Act.put, nrm])
    refine wpAnyH_ready (rs := [5]) (by kernel_rfl) (by simp) (AllReadyH.cons rfl (fun K hK => ?_) AllReadyH.nil)
    go_simp
    refine hK.out _ _ ((unhide HS5) _ ((unhide H2).step ((Fr.refl _ _).drew.alloc _))) (fun hHeld => ?_)
    clear hK K
    (try simp only [Act.put, nrm])
    refine wpAnyH_done (by kernel_rfl) ?_ _
    simp only [lastQ]
    refine wp_stN 45 (.tmp 9) (.tmp 33) rfl _ _ (by simp [Act.eval]) (by simp [Act.eval]) (unhide HST) ?_
    (try simp only [Act.put, nrm])
   rotate_left
   focus
    go_simp
    refine hK.out _ _ ((unhide HS5) _ ((unhide H2).step ((Fr.refl _ _).drew.alloc _))) (fun hHeld => ?_)
    clear hK K
    (try simp only [Act.put, nrm])
    refine wpAnyH_ready (rs := [3]) (by kernel_rfl) (by simp) (AllReadyH.cons rfl (fun K hK => ?_) AllReadyH.nil)
    go_simp
    refine ((unhide HLa) _ (((unhide H2).step ((Fr.refl _ _).drew.alloc _))).f).mono ?_
    rintro e w' ⟨rfl, hw⟩
    obtain rfl := hw.symm
    clear hw
    go_simp
    refine hK.out _ _ ((unhide HS5) _ ((unhide H2).step ((Fr.refl _ _).drew.alloc _))) (fun hHeld => ?_)
    clear hK K
    (try simp only [Act.put, nrm])
    refine wtk2 (i := 4) rfl hHeld ?_
    (try simp only [Act.put, nrm])
    refine wpAnyH_done (by kernel_rfl) ?_ _
    simp only [lastQ]
    refine wp_stN 45 (.tmp 9) (.tmp 33) rfl _ _ (by simp [Act.eval]) (by simp [Act.eval]) (unhide HST) ?_
    (try simp only [Act.put, nrm])
   all_goals
    have hv4 := (unhide HV4) _ (unhide HI0).cb.f
    rw [← hzz]
    clear HST HS5 HLa hzz
    go_wp2_with fail
    go_loopw [39] (fun kv wr => ∃ k : Nat, k ≤ c.V.length ∧ kv = .int .i64 (k : Nat) ∧ ∃ hv, HI w wr r c z k hv) (fun kv _ => c.V.length - (intOf kv).toNat)
    case atStart => exact ⟨0, Nat.zero_le _, rfl, _, unhide HI0⟩
    case round =>
     obtain ⟨k, hk, rfl, hv, hi⟩ := hrel
     have HIk := hide hi
     by_cases hlt : k < c.V.length
     ·obtain ⟨v, hvk⟩ : ∃ v, c.V[k]? = some v := ⟨c.V[k], List.getElem?_eq_getElem hlt⟩
      obtain ⟨vg, xo2, xc2, rfl, hfl, hvgl, hcells⟩ := (unhide HVk) k v hvk
      obtain ⟨v0, v1, v2, v3⟩ := hcells _ hi.cb.f
      have HVK := hide hvk
      have hkl : (k : Int) < (c.V.length : Int) := by omega
      obtain ⟨W8, hW8⟩ : ∃ W8, W8 = wr.alloc (.cells #[.int .u32 (v.au : Nat), .int .u32 (v.ev : Nat), .slice xo2 v.F.length xc2, .bool v.rd] 110) := ⟨_, rfl⟩
      obtain ⟨zb, hzb⟩ : ∃ zb, zb = wr.heap.size := ⟨_, rfl⟩
      obtain ⟨ho4, hc4, hhv⟩ := own_formX hi.o
      obtain ⟨nk, hnk⟩ : ∃ nk, nk = ((c.V.take k).map VM.sum).length := ⟨_, rfl⟩
      rw [← hnk] at hhv
      have HI8 : Hid (HI w W8 r c z k (.slice ho4 nk hc4)) := by rw [hW8, ← hhv]; exact hi.step (box1 wr _)
      have HB8 : Hid (W8.heap[zb]? = some (.cells #[.int .u32 (v.au : Nat), .int .u32 (v.ev : Nat), .slice xo2 v.F.length xc2, .bool v.rd] 110)) := by rw [hW8, hzb]; exact Array.getElem?_push_size
      have HS9 : Hid (∀ W, Fr (fun _ => False) W8 W → W.cell? ⟨z, 6, none⟩ = some (.slice ho4 nk hc4) ∧ W.cell? ⟨zb, 0, none⟩ = some (.int .u32 (v.au : Nat)) ∧ W.cell? ⟨zb, 1, none⟩ = some (.int .u32 (v.ev : Nat)) ∧ W.cell? ⟨zb, 2, none⟩ = some (.slice xo2 v.F.length xc2) ∧ W.cell? ⟨zb, 3, none⟩ = some (.bool v.rd)) := fun W hW => by
       have e2 := (hW.block zb (lt_of_block (unhide HB8)) (fun h => h)).trans (unhide HB8)
       exact ⟨(blk7 ((unhide HI8).step hW).zb).2.2.2.2.2.2, (blk4 e2).1.1, (blk4 e2).1.2.1, (blk4 e2).1.2.2.1, (blk4 e2).1.2.2.2⟩
      have HSm : Hid (∀ W, Calls Tryz.prog 84 #[.agg #[.int .u32 (v.au : Nat), .int .u32 (v.ev : Nat), .slice xo2 v.F.length xc2, .bool v.rd]] W fun e w' => e = .returned (.agg #[.int .u32 (v.au : Nat), .int .u32 (v.ev : Nat), .int .u32 (v.F.length : Nat), .bool v.rd]) ∧ Fr (fun _ => False) W w') := fun W => summary_any v.au v.ev v.rd xo2 v.F.length xc2 W hfl
      have HAP : Hid (∀ w3, Fr (fun _ => False) W8 w3 → ∃ ao7 cap7 w7, (Builtin.append_ #[43, 43] 43 #[.slice ho4 nk hc4, .slice (some ⟨w3.heap.size, 0, none⟩) 1 1]).run Tryz.prog (w3.alloc (.cells #[.int .u32 (v.au : Nat), .int .u32 (v.ev : Nat), .int .u32 (v.F.length : Nat), .bool v.rd] 83)) = .ok (.slice ao7 (nk + 1) cap7) w7 ∧ (w7.cell? ⟨z, 6, none⟩ = some (.slice ho4 nk hc4) ∧ w7.cell? ⟨zb, 0, none⟩ = some (.int .u32 (v.au : Nat)) ∧ w7.cell? ⟨zb, 1, none⟩ = some (.int .u32 (v.ev : Nat)) ∧ w7.cell? ⟨zb, 2, none⟩ = some (.slice xo2 v.F.length xc2) ∧ w7.cell? ⟨zb, 3, none⟩ = some (.bool v.rd)) ∧ w7.frozen? ⟨z, 6, none⟩ = false ∧ HI w (w7.setCell ⟨z, 6, none⟩ (.slice ao7 (nk + 1) cap7)) r c z (k + 1) (.slice ao7 (nk + 1) cap7)) := fun w3 hw3 => by
       have hd := ((unhide HI8).step hw3).step (box1 w3 (.cells #[.int .u32 (v.au : Nat), .int .u32 (v.ev : Nat), .int .u32 (v.F.length : Nat), .bool v.rd] 83))
       have hl : ((c.V.take k).map VM.sum).length ≤ 1000000 := by simp; omega
       have hzl := lt_of_block hd.zb
       obtain ⟨ao7, cap7, w7, hr7, ho7, hf7⟩ := app_sum _ (z + 1) w3.heap.size (.slice ho4 nk hc4) _ v.sum hd.o (by omega) hl Array.getElem?_push_size
       rw [← hnk] at hr7 ho7
       obtain ⟨c7, z7, hi7⟩ := hd.next hf7 ho7 (unhide HVK)
       have e2 := ((hw3.trans (box1 w3 (.cells #[.int .u32 (v.au : Nat), .int .u32 (v.ev : Nat), .int .u32 (v.F.length : Nat), .bool v.rd] 83)) (fun _ _ h => h)).block zb (lt_of_block (unhide HB8)) (fun h => h)).trans (unhide HB8)
       have e7 := (hf7.block zb (lt_of_block e2) (fun hx => blk_ne hd.o e2 (by decide) hx)).trans e2
       exact ⟨ao7, cap7, w7, hr7, ⟨c7, (blk4 e7).1.1, (blk4 e7).1.2.1, (blk4 e7).1.2.2.1, (blk4 e7).1.2.2.2⟩, z7, hi7⟩
      clear hi hvk hcells hhv hnk hfl HI0 hv4 HIk
      go_wp2_with fail
      rw [← hW8, ← hzb]
      clear hW8 hzb v0 v1 v2 v3
      refine wp_region_last (n := 7) (m := 7) (S := (fun W => W.cell? ⟨z, 6, none⟩ = some (.slice ho4 nk hc4) ∧ W.cell? ⟨zb, 0, none⟩ = some (.int .u32 (v.au : Nat)) ∧ W.cell? ⟨zb, 1, none⟩ = some (.int .u32 (v.ev : Nat)) ∧ W.cell? ⟨zb, 2, none⟩ = some (.slice xo2 v.F.length xc2) ∧ W.cell? ⟨zb, 3, none⟩ = some (.bool v.rd))) (by kernel_rfl) rfl rfl rfl (by kernel_rfl) (by kernel_rfl) ((unhide HS9) _ (Fr.refl _ _).drew) (fun hHeld => ?_)
      refine wtk2 (i := 0) rfl hHeld ?_
      (try simp only [Act.put, nrm])
      refine wtk2 (i := 1) rfl hHeld ?_
      (try simp only [Act.put, nrm])
      refine wtk2 (i := 2) rfl hHeld ?_
      (try simp only [Act.put, nrm])
      refine wpAnyH_ready (rs := [3]) (by kernel_rfl) (by simp) (AllReadyH.cons rfl (fun K hK => ?_) AllReadyH.nil)
      go_simp
      refine ((unhide HSm) _).mono ?_
      rintro e w3 ⟨rfl, hf3⟩
      have H3 := hide ((Fr.refl (fun _ => False) W8).drew.trans hf3 (fun _ _ h => h))
      clear hf3
      obtain ⟨ao7, cap7, w7, hr7, hs7, z7, hi7⟩ := (unhide HAP) w3 (unhide H3)
      have HR7 := hide hr7
      have HS7 := hide hs7
      have HI7 := hide hi7
      clear hr7 hs7 hi7
      go_simp
      refine hK.out _ _ ((unhide HS9) _ (unhide H3)) (fun hHeld => ?_)
      clear hK K
      (try simp only [Act.put, nrm])
      refine wpAnyH_ready (rs := [4]) (by kernel_rfl) (by simp) (AllReadyH.cons rfl (fun K hK => ?_) AllReadyH.nil)
      go_simp
      refine hK.out _ _ ((unhide HS9) _ ((unhide H3).trans (box1 w3 _) (fun _ _ h => h))) (fun hHeld => ?_)
      clear hK K
      (try simp only [Act.put, nrm])
      refine wpAnyH_ready (rs := [5]) (by kernel_rfl) (by simp) (AllReadyH.cons rfl (fun K hK => ?_) AllReadyH.nil)
      refine step_app rfl (.tmp 44) (.tmp 47) 43 43 rfl _ _ _ (by simp [Act.eval]) (by simp [Act.eval]) (unhide HR7) ?_
      refine hK.out _ _ (unhide HS7) (fun hHeld => ?_)
      clear hK K
      (try simp only [Act.put, nrm])
      refine wtk2 (i := 6) rfl hHeld ?_
      (try simp only [Act.put, nrm])
      refine wpAnyH_done (by kernel_rfl) ?_ _
      have c7 := (unhide HS7).1
      simp only [lastQ]
      go_simp
      go_wp2_with fail
      go_roundw
      case rel => exact ⟨k + 1, hlt, by go_num, _, unhide HI7⟩
      case measure => simp [intOf]; omega
     ·obtain rfl : k = c.V.length := by omega
      obtain ⟨c0, c1, c2, c3, c4, c5, c6⟩ := blk7 hi.zb
      obtain ⟨e0, e1, e2, e3, e4, e5, e6, y0, y1, y2, y3, y4, y5, y6⟩ := hi.cb.ans
      obtain ⟨ho4, hc4, rfl⟩ := own_formX hi.o
      obtain ⟨nk, hnk⟩ : ∃ nk, nk = ((c.V.take c.V.length).map VM.sum).length := ⟨_, rfl⟩
      rw [← hnk] at c6 HIk
      clear hi hnk HI0 hv4 HVk HV4
      go_wp2_with fail
      refine bodyPost_ret (results_cell_mid rfl _ _ (w.heap.size + 1) 0 [.int .u32 0, .int .u32 0, .int .u8 0, .int .u32 (r.rc : Nat), .int .u32 (c.V.length : Nat), .slice none 0 0, .slice ho4 nk hc4] _ rfl ?_ Tryz.underlying45 rfl (by kernel_rfl)) rfl ?_
      ·intro j v hv
       rcases j with _ | _ | _ | _ | _ | _ | _ | j
       ·simp at hv; subst hv; go_simp
       ·simp at hv; subst hv; go_simp
       ·simp at hv; subst hv; go_simp
       ·simp at hv; subst hv; go_simp
       ·simp at hv; subst hv; go_simp
       ·simp at hv; subst hv; go_simp
       ·simp at hv; subst hv; go_simp
       ·simp at hv
      ·rw [unhide HX]; exact ⟨_, _, rfl, (unhide HIk).end_ (set7_fr _ _ _ _ _ _ _ _ _) _ _ _ _⟩
  ·have hc' : ((code : Int) != 0) = true := by rw [bne_iff_ne]; omega
   have HX := hide ((unhide HE0) hz)
   clear HR4 HE0 HE1
   go_wp2_with fail
   refine ((unhide HRf) code _).mono ?_
   rintro e w3 ⟨rfl, hf3⟩
   have h3 := (unhide H2).step hf3
   obtain ⟨e0, e1, e2, e3, e4, e5, e6, z0, z1, z2, z3, z4, z5, z6⟩ := h3.ans
   have H3 := hide h3.f
   clear h3 hf3
   go_wp2_with fail
   (try simp only [Exit.inBlock, Exit.then])
   refine bodyPost_ret (results_cell_mid rfl _ _ (w.heap.size + 1) 0 [.int .u32 0, .int .u32 0, .int .u8 ((code : Nat) : Int), .int .u32 0, .int .u32 0, .slice none 0 0, .slice none 0 0] _ rfl ?_ Tryz.underlying45 rfl (by kernel_rfl)) rfl ?_
   ·intro j v hv
    rcases j with _ | _ | _ | _ | _ | _ | _ | j
    ·simp at hv; subst hv; go_simp
    ·simp at hv; subst hv; go_simp
    ·simp at hv; subst hv; go_simp
    ·simp at hv; subst hv; go_simp
    ·simp at hv; subst hv; go_simp
    ·simp at hv; subst hv; go_simp
    ·simp at hv; subst hv; go_simp
    ·simp at hv
   ·rw [unhide HX]; refine OpPost.no rfl ?_
    repeat refine Fr.setCell ?_ (.inr (by simp)) _
    exact unhide H3
theorem create_any (b : Nat) (s : RM) (q : RW) (M : Nat → Prop) (r : RQ) (F : List F5) (place : Nat) (w : World) (h : RsAt w b s q M) (hF : Fds w r.fv F) (hl : F.length ≤ 1000) (hs : ∀ f ∈ F, FOk f) (hS : s.S.length ≤ 140737488355328) (hC : s.C.length ≤ 256) :
  Calls Tryz.prog 57 #[.pointer (some ⟨b, 0, none⟩), r.v, .int .u32 (place : Nat)] w fun e w' => OpPost w b s q M 0 0 (s.create r F place) e w' := by
 obtain ⟨xo, xc, hfv⟩ := hF.form
 by_cases hz : crCode s.S r.ac r.wa r.ow = 0
 ·by_cases hn : s.C.length = 256
  ·have e : s.create r F place = (s, RA.no 9) := by rw [RM.create, if_neg (by simp [hz]), if_pos (by omega)]
   rw [e]
   refine (create_full b s q M r xo _ xc place w h hfv hS hz hn).mono ?_
   rintro e w' ⟨he, hf⟩
   exact OpPost.no he hf
  ·have e : s.create r F place = (⟨s.S, s.C ++ [⟨r.wa, r.ow, false, [], [⟨r.ac, place, F, false⟩]⟩]⟩, ⟨0, s.C.length + 1, 1, [], []⟩) := by rw [RM.create, if_neg (by simp [hz]), if_neg (by omega)]
   rw [e]
   refine (create_ok b s q M r F place w h hF hl hs hS hz (by omega)).mono ?_
   rintro e w' ⟨he, hr⟩
   exact OpPost.put he hr
 ·have e : s.create r F place = (s, RA.no (crCode s.S r.ac r.wa r.ow)) := by rw [RM.create, if_pos hz]
  rw [e]
  refine (create_no b s q M r xo _ xc place w h hfv hS hz).mono ?_
  rintro e w' ⟨he, hf⟩
  exact OpPost.no he hf
theorem FGood.ok {f : F5} (h : FGood f) : FOk f := ⟨by have := h.1; omega, by have := h.2.1; omega⟩
theorem op_any (b : Nat) (s : RM) (q : RW) (M : Nat → Prop) (r : RQ) (F : List F5) (place : Nat) (c : CM) (w : World) (h : RsAt w b s q M) (ho : s.Ok) (hF : FdC w w.heap.size r.fv F) (hfm : r.frm F = true) (hv : ∀ f ∈ F, f.v < 4294967296 ∧ f.u < 256) (hg : GU w) (h0 : ¬ r.rc = 0) (hc : s.C[r.rc - 1]? = some c) (h2 : 2 ≤ r.op) (h7 : r.op ≤ 7) :
  Calls Tryz.prog (opN r.op) #[.pointer (some ⟨b, 0, none⟩), r.v, .int .u32 (place : Nat)] w fun e w' => OpPost w b s q M 0 0 (s.op r c F place) e w' := by
 obtain ⟨xo, xc, hfv⟩ := hF.f.form
 have hk := ho.at hc
 have hrc : r.rc = r.rc - 1 + 1 := by omega
 obtain ⟨hF1, hF2⟩ := RQ.frm_good hfm hv
 have hVF : ∀ v ∈ c.V, v.F.length ≤ 1000 := fun v hv => by have := (hk.F v hv).1; omega
 have hV := hk.V
 have hGl : c.G.length ≤ 4294967296 := by
  have := rise_len c.G 0 (fun k hk' => ⟨Nat.zero_le _, hk.g k hk'⟩) hk.G
  omega
 have : r.op = 2 ∨ r.op = 3 ∨ r.op = 4 ∨ r.op = 5 ∨ r.op = 6 ∨ r.op = 7 := by omega
 rcases this with e | e | e | e | e | e
 ·rw [show s.op r c F place = s.amend r c F place by simp [RM.op, e], e]
  exact amend_any b s q M r xo _ xc place (r.rc - 1) c w h hfv ho.S ho.C hc hrc hk.len F hF hF1 (fun f hf => (hF2 f hf).ok) (fun f hf => (hv f hf).2) hg hk.V1 hV hk.now.1 (fun f hf => (hk.now.2 f hf).2.2.2)
 ·rw [show s.op r c F place = s.read r c by simp [RM.op, e], e]
  by_cases hv0 : r.ve = 0
  ·exact read_A b s q M r xo _ xc place (r.rc - 1) c w h hfv ho.S ho.C hc hrc hk.len (by omega) hVF hv0
  ·exact read_B b s q M r xo _ xc place (r.rc - 1) c w h hfv ho.S ho.C hc hrc hk.len (by omega) hVF hv0
 ·rw [show s.op r c F place = s.redact r c by simp [RM.op, e], e]
  exact redact_any b s q M r xo _ xc place (r.rc - 1) c w h hfv ho.S ho.C hc hrc hk.len (by omega)
 ·rw [show s.op r c F place = s.history r c by simp [RM.op, e], e]
  exact history_any b s q M r xo _ xc place (r.rc - 1) c w h hfv ho.S ho.C hc hrc hk.len hV hVF
 ·rw [show s.op r c F place = s.seal r c by simp [RM.op, e], e]
  exact seal_any b s q M r xo _ xc place (r.rc - 1) c w h hfv ho.S ho.C hc hrc hk.len
 ·rw [show s.op r c F place = s.break r c by simp [RM.op, e], e]
  exact break_any b s q M r xo _ xc place (r.rc - 1) c w h hfv ho.S ho.C hc hrc hk.len hk.G hGl
set_option maxRecDepth 100000 in
theorem formed_0 (cl nu ac rc ve wa ow : Nat) (rs : ByteArray) (xo : Option Addr) (n xc : Nat) (w : World) :
  Calls Tryz.prog 35 #[(RQ.mk cl nu ac 0 rc ve wa ow (.slice xo n xc) rs).v] w fun e w' => e = .returned (.bool false) ∧ Fr (fun _ => False) w w' := by
 simp only [RQ.v]
 go_enter Tryz.func35, Tryz.ntmps35
 go_wp2_with fail
 go_ret
 exact ⟨rfl, box1 w _⟩
set_option maxRecDepth 100000 in
theorem formed_8 (cl nu ac k rc ve wa ow : Nat) (rs : ByteArray) (xo : Option Addr) (n xc : Nat) (w : World) (hk : 8 ≤ k) :
  Calls Tryz.prog 35 #[(RQ.mk cl nu ac k rc ve wa ow (.slice xo n xc) rs).v] w fun e w' => e = .returned (.bool false) ∧ Fr (fun _ => False) w w' := by
 have h1 : ¬ (k : Int) < 1 := by omega
 have h2 : (7 : Int) < (k : Int) := by omega
 simp only [RQ.v]
 go_enter Tryz.func35, Tryz.ntmps35
 go_wp2_with fail
 go_ret
 exact ⟨rfl, box1 w _⟩
theorem RQ.emp_eq (r : RQ) (n : Nat) : r.emp n = decide (r.rc = 0 ∧ r.ve = 0 ∧ r.wa = 0 ∧ r.ow = 0 ∧ n = 0 ∧ r.rs.size = 0) := by
 simp only [RQ.emp, Bool.decide_and]
theorem formed_any (r : RQ) (F : List F5) (w : World) (hx : Fds w r.fv F) (hl : F.length ≤ 140737488355328) (hv : ∀ f ∈ F, f.v < 4294967296 ∧ f.u < 256) :
  Calls Tryz.prog 35 #[r.v] w fun e w' => e = .returned (.bool (r.frm F)) ∧ Fr (fun _ => False) w w' := by
 obtain ⟨cl, nu, ac, op, rc, ve, wa, ow, fv, rs⟩ := r
 obtain ⟨xo, xc, hfv⟩ := hx.form
 simp only at hfv hx
 subst hfv
 have hnil : F.length = 0 → ∀ g, fdsB F g = true := fun e g => by
  obtain rfl := List.length_eq_zero_iff.1 e
  rfl
 rcases op with _ | _ | _ | _ | _ | _ | _ | _ | op
 ·exact (formed_0 cl nu ac rc ve wa ow rs xo _ xc w).mono (fun e w' h => h)
 ·refine (formed_1 cl nu ac rc ve wa ow rs xo _ xc F w hx hl hv).mono ?_
  rintro e w' ⟨rfl, hf⟩
  refine ⟨?_, hf⟩
  rw [RQ.emp_eq]
  simp only [RQ.frm, if_true]
  by_cases h : rc = 0 ∧ ve = 0 ∧ rs.size = 0
  ·simp [h]
  ·rw [decide_eq_false h, decide_eq_false (fun h' => h ⟨h'.1, h'.2.1, h'.2.2.2.2.2⟩)]
   rfl
 ·refine (formed_2 cl nu ac rc ve wa ow rs xo _ xc F w hx hl hv).mono ?_
  rintro e w' ⟨rfl, hf⟩
  refine ⟨?_, hf⟩
  rw [RQ.emp_eq]
  simp only [RQ.frm, if_true]
  by_cases h : wa = 0 ∧ ow = 0 ∧ rs.size = 0
  ·simp [h]
  ·rw [if_neg (by decide), decide_eq_false h, decide_eq_false (fun h' => h ⟨h'.2.2.1, h'.2.2.2.1, h'.2.2.2.2.2⟩)]
   rfl
 ·refine (formed_3 cl nu ac rc ve wa ow rs xo _ xc F w hx hl hv).mono ?_
  rintro e w' ⟨rfl, hf⟩
  refine ⟨?_, hf⟩
  rw [RQ.emp_eq]
  by_cases h : wa = 0 ∧ ow = 0 ∧ F.length = 0 ∧ rs.size = 0
  ·obtain ⟨a1, a2, a3, a4⟩ := h
   simp [RQ.frm, a1, a2, a3, a4, hnil a3]
  ·have e1 : (RQ.mk cl nu ac 3 rc ve wa ow (.slice xo F.length xc) rs).frm F = false := by
    simp only [RQ.frm]
    simpa using h
   rw [show (RQ.mk cl nu ac (3) rc ve wa ow (.slice xo F.length xc) rs).frm F = false from e1]
   congr 1
   congr 1
   rw [Bool.and_eq_false_iff]
   exact .inl (decide_eq_false (fun h' => h ⟨h'.2.2.1, h'.2.2.2.1, h'.2.2.2.2.1, h'.2.2.2.2.2⟩))
 ·refine (formed_4 cl nu ac rc ve wa ow rs xo _ xc F w hx hl hv).mono ?_
  rintro e w' ⟨rfl, hf⟩
  refine ⟨?_, hf⟩
  rw [RQ.emp_eq]
  by_cases h : wa = 0 ∧ ow = 0 ∧ F.length = 0 ∧ rs.size = 0
  ·obtain ⟨a1, a2, a3, a4⟩ := h
   simp [RQ.frm, a1, a2, a3, a4, hnil a3]
  ·have e1 : (RQ.mk cl nu ac 4 rc ve wa ow (.slice xo F.length xc) rs).frm F = false := by
    simp only [RQ.frm]
    simpa using h
   rw [show (RQ.mk cl nu ac (4) rc ve wa ow (.slice xo F.length xc) rs).frm F = false from e1]
   congr 1
   congr 1
   rw [Bool.and_eq_false_iff]
   exact .inl (decide_eq_false (fun h' => h ⟨h'.2.2.1, h'.2.2.2.1, h'.2.2.2.2.1, h'.2.2.2.2.2⟩))
 ·refine (formed_5 cl nu ac rc ve wa ow rs xo _ xc F w hx hl hv).mono ?_
  rintro e w' ⟨rfl, hf⟩
  refine ⟨?_, hf⟩
  rw [RQ.emp_eq]
  by_cases h : ve = 0 ∧ wa = 0 ∧ ow = 0 ∧ F.length = 0 ∧ rs.size = 0
  ·obtain ⟨a0, a1, a2, a3, a4⟩ := h
   simp [RQ.frm, a0, a1, a2, a3, a4, hnil a3]
  ·have e1 : (RQ.mk cl nu ac 5 rc ve wa ow (.slice xo F.length xc) rs).frm F = false := by
    simp only [RQ.frm]
    simpa using h
   rw [show (RQ.mk cl nu ac (5) rc ve wa ow (.slice xo F.length xc) rs).frm F = false from e1]
   congr 1
   congr 1
   rw [Bool.and_eq_false_iff]
   exact .inl (decide_eq_false (fun h' => h ⟨h'.2.1, h'.2.2.1, h'.2.2.2.1, h'.2.2.2.2.1, h'.2.2.2.2.2⟩))
 ·refine (formed_6 cl nu ac rc ve wa ow rs xo _ xc F w hx hl hv).mono ?_
  rintro e w' ⟨rfl, hf⟩
  refine ⟨?_, hf⟩
  rw [RQ.emp_eq]
  by_cases h : wa = 0 ∧ ow = 0 ∧ F.length = 0 ∧ rs.size = 0 ∧ ve ≤ 1
  ·obtain ⟨a1, a2, a3, a4, a5⟩ := h
   simp [RQ.frm, a1, a2, a3, a4, a5, hnil a3]
  ·have e1 : (RQ.mk cl nu ac 6 rc ve wa ow (.slice xo F.length xc) rs).frm F = false := by
    simp only [RQ.frm]
    simpa using h
   rw [show (RQ.mk cl nu ac (6) rc ve wa ow (.slice xo F.length xc) rs).frm F = false from e1]
   congr 1
   congr 1
   rw [Bool.and_eq_false_iff]
   by_cases h6 : ve ≤ 1
   ·exact .inl (decide_eq_false (fun h' => h ⟨h'.2.2.1, h'.2.2.2.1, h'.2.2.2.2.1, h'.2.2.2.2.2, h6⟩))
   ·exact .inr (by simp [h6])
 ·refine (formed_7 cl nu ac rc ve wa ow rs xo _ xc F w hx hl hv).mono ?_
  rintro e w' ⟨rfl, hf⟩
  refine ⟨?_, hf⟩
  rw [RQ.emp_eq]
  by_cases h : ve = 0 ∧ wa = 0 ∧ ow = 0 ∧ F.length = 0 ∧ rs.size ≤ 64
  ·obtain ⟨a0, a1, a2, a3, a4⟩ := h
   simp [RQ.frm, a0, a1, a2, a3, a4, hnil a3, ba_empty]
  ·have e1 : (RQ.mk cl nu ac 7 rc ve wa ow (.slice xo F.length xc) rs).frm F = false := by
    simp only [RQ.frm]
    simpa using h
   rw [show (RQ.mk cl nu ac (7) rc ve wa ow (.slice xo F.length xc) rs).frm F = false from e1]
   congr 1
   congr 1
   rw [Bool.and_eq_false_iff]
   by_cases h6 : rs.size ≤ 64
   ·exact .inl (decide_eq_false (fun h' => h ⟨h'.2.1, h'.2.2.1, h'.2.2.2.1, h'.2.2.2.2.1, h6⟩))
   ·exact .inr (by simp [h6])
 ·refine (formed_8 cl nu ac (op + 8) rc ve wa ow rs xo _ xc w (by omega)).mono ?_
  rintro e w' ⟨rfl, hf⟩
  refine ⟨?_, hf⟩
  simp [RQ.frm]
theorem CB.outside {w W W' : World} {B g : Nat} {r : RQ} (h : CB w W B r) (hg : B + 1 < g) (hf : Fr (fun k => k = g) W W') : CB w W' B r :=
 ⟨(hf.block B (lt_of_block h.r) (by omega)).trans h.r, (hf.block (B + 1) (lt_of_block h.a) (by omega)).trans h.a, h.f.absorb hf (fun i hi => by have := h.n; omega), h.n⟩
theorem stf_put {W : World} {g : Nat} {a0 a1 a2 : Value} (hb : W.heap[g]? = some (.cells #[a0, a1, a2] 33)) (p : P3) :
  ∃ W8, (Instr.storeAt 33 (.pointer (some ⟨g, 0, none⟩)) (pv p)).run Tryz.prog W = .ok () W8 ∧ Fr (fun k => k = g) W W8 := by
 refine ⟨W.setCells g 0 [.int .u32 (p.a : Nat), .int .u32 (p.r : Nat), .int .u32 (p.w : Nat)], run_storeAt_mid W g 0 33 #[.int .u32 (p.a : Nat), .int .u32 (p.r : Nat), .int .u32 (p.w : Nat)] (fun j hj => ?_) (by kernel_rfl) (all_oneCell_toArray (cs := [.int .u32 (p.a : Nat), .int .u32 (p.r : Nat), .int .u32 (p.w : Nat)]) (fun u hu => by simp at hu; rcases hu with rfl | rfl | rfl <;> rfl)), ?_⟩
 ·have hj : j < 3 := hj
  refine ⟨?_, by simp [World.frozen?, hb]⟩
  rcases j with _ | _ | _ | j
  ·simp [World.cell?, hb]
  ·simp [World.cell?, hb]
  ·simp [World.cell?, hb]
  ·omega
 ·have h0 := Fr.refl (fun k => k = g) W
  have h1 := h0.setCell (p := ⟨g, 0, none⟩) (.inl rfl) (.int .u32 (p.a : Nat))
  have h2 := h1.setCell (p := ⟨g, 1, none⟩) (.inl rfl) (.int .u32 (p.r : Nat))
  exact h2.setCell (p := ⟨g, 2, none⟩) (.inl rfl) (.int .u32 (p.w : Nat))
set_option maxRecDepth 100000 in
theorem op_enters (k : Nat) (x y z : Value) (W : World) : (callFunc (opN k) #[x, y, z]).run Tryz.prog W = .ok (.enter (opN k) #[x, y, z]) W := by
 rcases k with _ | _ | _ | _ | _ | _ | _ | k <;> rfl
theorem OpD.form {w w' : World} {b : Nat} {s : RM} {q : RW} {M : Nat → Prop} {x : RM × RA} {fv hv : Value} (h : OpD w b s q M x fv hv w') : (∃ fo fn fc, fv = .slice fo fn fc) ∧ ∃ ho hn hc, hv = .slice ho hn hc := by
 rcases h with ⟨_, _, f2, f3⟩ | ⟨_, _, rfl, rfl, _⟩
 ·obtain ⟨fo, fc, e⟩ := own_formX f2
  obtain ⟨ho, hc, e2⟩ := own_formX f3
  exact ⟨⟨_, _, _, e⟩, _, _, _, e2⟩
 ·exact ⟨⟨_, _, _, rfl⟩, _, _, _, rfl⟩
theorem OpD.kept {w W w' : World} {b B : Nat} {s : RM} {q : RW} {M : Nat → Prop} {x : RM × RA} {fv hv : Value} (h0 : RsAt w b s q M) (h : OpD W b s q M x fv hv w') (hB1 : w.heap.size ≤ B) (hB2 : B < W.heap.size) : w'.heap[B]? = W.heap[B]? := by
 rcases h with ⟨_, f1, _⟩ | ⟨_, _, _, _, _, _, _, _, _, f1⟩
 ·exact f1.block B hB2 (fun h => h)
 ·exact f1.block B hB2 (fun hM => by have := h0.lt B hM; omega)
set_option linter.unusedSimpArgs false in
set_option maxHeartbeats 4000000 in
set_option maxRecDepth 100000 in
theorem answer_any (b : Nat) (s : RM) (q : RW) (M : Nat → Prop) (r : RQ) (F : List F5) (place : Nat) (w : World) (h : RsAt w b s q M) (ho : s.Ok) (hF : FdC w w.heap.size r.fv F) (hFl : F.length ≤ 140737488355328) (hv : ∀ f ∈ F, f.v < 4294967296 ∧ f.u < 256) (hg : GU w) :
  Calls Tryz.prog 22 #[.pointer (some ⟨b, 0, none⟩), r.v, .int .u32 (place : Nat)] w fun e w' => OpPost w b s q M 0 0 (s.step r F place) e w' := by
 obtain ⟨W1, hW1⟩ : ∃ W1, W1 = (w.alloc (.cells r.cs 41)).alloc (.cells #[.int .u32 0, .int .u32 0, .int .u8 0, .int .u32 0, .int .u32 0, .slice none 0 0, .slice none 0 0] 45) := ⟨_, rfl⟩
 have hCB : CB w W1 w.heap.size r := by rw [hW1]; exact CB.new w r
 obtain ⟨xo, xc, hfv⟩ := hF.f.form
 obtain ⟨so, sc, hse⟩ := h.st.form
 have HFm : Hid (∀ W, Fr (fun _ => False) w W → Calls Tryz.prog 35 #[r.v] W fun e w' => e = .returned (.bool (r.frm F)) ∧ Fr (fun _ => False) W w') := fun W hW => formed_any r F W (hF.f.fr hW) hFl hv
 have HFi : Hid (∀ W, Fr (fun _ => False) w W → Calls Tryz.prog 37 #[.slice so s.S.length sc, .int .u32 (r.ac : Nat)] W fun e w' => e = .returned (.tuple #[pv ((perso s.S r.ac).getD p0), .bool (perso s.S r.ac).isSome]) ∧ Fr (fun _ => False) W w') := fun W hW => by rw [← hse]; exact find_any q.sv s.S r.ac W (h.fr hW).st ho.S
 have HHs : Hid (∀ W, Fr (fun _ => False) w W → Calls Tryz.prog 38 #[.pointer (some ⟨b, 0, none⟩), .int .u32 (r.rc : Nat)] W fun e w' => e = .returned (.bool (decide (1 ≤ r.rc) && decide (r.rc ≤ s.C.length))) ∧ w' = W) := fun W hW => shas_any b r.rc s q M W (h.fr hW) ho.C
 have HOp : Hid (∀ W, Calls Tryz.prog 39 #[] W fun e w' => ∃ z, e = .returned (.map (some z)) ∧ w'.heap[z]? = some (.map opsE 7) ∧ Fr (fun _ => False) W w') := fun W => (operations_any W).mono (fun e w' h => ⟨_, h⟩)
 have HRf : Hid (∀ (cd : Nat) W, Calls Tryz.prog 36 #[.int .u8 (cd : Nat)] W fun e w' => e = .returned (.agg #[.int .u32 0, .int .u32 0, .int .u8 (cd : Nat), .int .u32 0, .int .u32 0, .slice none 0 0, .slice none 0 0]) ∧ Fr (fun _ => False) W w') := fun cd W => refusal_any cd W
 have HE0 : Hid (r.frm F = false → s.step r F place = (s, RA.no 2)) := fun h => by rw [RM.step, if_pos h]
 have HE1 : Hid (r.frm F = true → (perso s.S r.ac).isSome = false → s.step r F place = (s, RA.no 1)) := fun h h1 => by rw [RM.step, if_neg (by simp [h]), if_pos h1]
 have HE3 : Hid (r.frm F = true → (perso s.S r.ac).isSome = true → ¬ r.op = 1 → (decide (1 ≤ r.rc) && decide (r.rc ≤ s.C.length)) = false → s.step r F place = (s, RA.no 3)) := fun h h1 h2 h3 => by
  rw [RM.step, if_neg (by simp [h]), if_neg (by simp [h1]), if_neg h2]
  by_cases h4 : r.rc = 0
  ·rw [if_pos h4]
  ·rw [if_neg h4]
   have h5 : ¬ r.rc ≤ s.C.length := fun h6 => by
    rw [decide_eq_true (by omega : 1 ≤ r.rc), decide_eq_true h6] at h3
    cases h3
   rw [List.getElem?_eq_none (by omega)]
 have HDO : Hid (r.frm F = true → (perso s.S r.ac).isSome = true → (r.op = 1 ∨ (decide (1 ≤ r.rc) && decide (r.rc ≤ s.C.length)) = true) → 1 ≤ r.op ∧ r.op ≤ 7 ∧ ∀ W, Fr (fun _ => False) w W → Calls Tryz.prog (opN r.op) #[.pointer (some ⟨b, 0, none⟩), r.v, .int .u32 (place : Nat)] W fun e w' => ∃ fo fn fc ho hn hc, e = .returned (.agg #[.int .u32 0, .int .u32 0, .int .u8 ((s.step r F place).2.co : Nat), .int .u32 ((s.step r F place).2.rc : Nat), .int .u32 ((s.step r F place).2.ve : Nat), .slice fo fn fc, .slice ho hn hc]) ∧ OpD W b s q M (s.step r F place) (.slice fo fn fc) (.slice ho hn hc) w') := fun h1 h2 h3 => by
  have hop : 1 ≤ r.op ∧ r.op ≤ 7 := by
   by_cases h4 : 1 ≤ r.op ∧ r.op ≤ 7
   ·exact h4
   ·exfalso
    unfold RQ.frm at h1
    rw [if_neg (by omega), if_neg (by omega), if_neg (by omega), if_neg (by omega), if_neg (by omega), if_neg (by omega), if_neg (by omega)] at h1
    cases h1
  obtain ⟨hF1, hF2⟩ := RQ.frm_good h1 hv
  refine ⟨hop.1, hop.2, fun W hW => ?_⟩
  refine Calls.mono (R := fun e w' => OpPost W b s q M 0 0 (s.step r F place) e w') ?_ (fun e w' hp => by
   obtain ⟨fv, hv', he, hd⟩ := hp
   obtain ⟨⟨fo, fn, fc, rfl⟩, ho', hn, hc, rfl⟩ := hd.form
   exact ⟨fo, fn, fc, ho', hn, hc, he, hd⟩)
  have hFW : FdC W W.heap.size r.fv F := ⟨hF.f.fr hW, fun g o n c e h0 => Nat.lt_of_lt_of_le (hF.b g o n c e h0) hW.size, hF.c, hF.z⟩
  by_cases h4 : r.op = 1
  ·rw [show s.step r F place = s.create r F place by rw [RM.step, if_neg (by simp [h1]), if_neg (by simp [h2]), if_pos h4], h4]
   exact create_any b s q M r F place W (h.fr hW) hFW.f (by omega) (fun f hf => (hF2 f hf).ok) ho.S ho.C
  ·have h5 := h3.resolve_left h4
   rw [Bool.and_eq_true, decide_eq_true_eq, decide_eq_true_eq] at h5
   obtain ⟨c, hc⟩ : ∃ c, s.C[r.rc - 1]? = some c := ⟨s.C[r.rc - 1], List.getElem?_eq_getElem (by omega)⟩
   rw [show s.step r F place = s.op r c F place by rw [RM.step, if_neg (by simp [h1]), if_neg (by simp [h2]), if_neg h4, if_neg (by omega), hc]]
   exact op_any b s q M r F place c W (h.fr hW) ho hFW h1 hv (hg.fr hW) (by omega) hc (by omega) hop.2
 have HH := hide h
 generalize s.step r F place = X at *
 generalize r.frm F = fm at *
 obtain ⟨pp, hpp⟩ : ∃ pp, (perso s.S r.ac).getD p0 = pp := ⟨_, rfl⟩
 rw [hpp] at HFi
 clear hpp
 generalize (perso s.S r.ac).isSome = fd at *
 generalize (decide (1 ≤ r.rc) && decide (r.rc ≤ s.C.length)) = hs at *
 have HSt : Hid (∀ W, Fr (fun _ => False) w W → W.cell? ⟨b, 0, none⟩ = some (.slice so s.S.length sc)) := fun W hW => by rw [← hse]; exact (h.fr hW).cells.1
 have HC := hide hCB
 have HS3 : Hid (∀ W, CB w W w.heap.size r → W.cell? ⟨b, 0, none⟩ = some (.slice so s.S.length sc) ∧ W.cell? ⟨w.heap.size, 2, none⟩ = some (.int .u32 (r.ac : Nat))) := fun W hW => ⟨(unhide HSt) W hW.f, hW.cells.2.2.1⟩
 have HR : Hid (∀ W, CB w W w.heap.size r → W.cell? ⟨w.heap.size, 3, none⟩ = some (.int .u8 (r.op : Nat)) ∧ W.cell? ⟨w.heap.size, 4, none⟩ = some (.int .u32 (r.rc : Nat))) := fun W hW => ⟨hW.cells.2.2.2.1, hW.cells.2.2.2.2.1⟩
 have HR10 : Hid (∀ W, CB w W w.heap.size r → W.cell? ⟨w.heap.size, 0, none⟩ = some (.int .u32 (r.cl : Nat)) ∧ W.cell? ⟨w.heap.size, 1, none⟩ = some (.int .u32 (r.nu : Nat)) ∧ W.cell? ⟨w.heap.size, 2, none⟩ = some (.int .u32 (r.ac : Nat)) ∧ W.cell? ⟨w.heap.size, 3, none⟩ = some (.int .u8 (r.op : Nat)) ∧ W.cell? ⟨w.heap.size, 4, none⟩ = some (.int .u32 (r.rc : Nat)) ∧ W.cell? ⟨w.heap.size, 5, none⟩ = some (.int .u32 (r.ve : Nat)) ∧ W.cell? ⟨w.heap.size, 6, none⟩ = some (.int .u32 (r.wa : Nat)) ∧ W.cell? ⟨w.heap.size, 7, none⟩ = some (.int .u32 (r.ow : Nat)) ∧ W.cell? ⟨w.heap.size, 8, none⟩ = some (.slice xo F.length xc) ∧ W.cell? ⟨w.heap.size, 9, none⟩ = some (.string r.rs)) := fun W hW => by rw [← hfv]; exact hW.cells
 simp only [RQ.v, RQ.cs] at *
 rw [hfv] at hW1 HFm HDO ⊢
 clear hCB h hse hF hFl hv hg ho
 go_enter Tryz.func22, Tryz.ntmps22
 go_wp2_with fail
 rw [← hW1]
 clear hW1
 refine ((unhide HFm) _ (unhide HC).f).mono ?_
 rintro e w2 ⟨rfl, hf2⟩
 have H2 := hide ((unhide HC).step hf2)
 clear hf2 HC HFm
 cases fm with
 | false =>
  have HX := hide ((unhide HE0) (by trivial))
  clear HE0 HE1 HE3 HDO HFi HHs HOp HSt HS3 HR HR10
  go_wp2_with fail
  refine ((unhide HRf) 2 _).mono ?_
  rintro e w3 ⟨rfl, hf3⟩
  have h3 := (unhide H2).step hf3
  obtain ⟨e0, e1, e2, e3, e4, e5, e6, z0, z1, z2, z3, z4, z5, z6⟩ := h3.ans
  have H3 := hide h3.f
  clear h3 hf3
  go_wp2_with fail
  (try simp only [Exit.inBlock, Exit.then])
  refine bodyPost_ret (results_cell_mid rfl _ _ (w.heap.size + 1) 0 [.int .u32 0, .int .u32 0, .int .u8 ((2 : Nat) : Int), .int .u32 0, .int .u32 0, .slice none 0 0, .slice none 0 0] _ rfl ?_ Tryz.underlying45 rfl (by kernel_rfl)) rfl ?_
  ·intro j v hv
   rcases j with _ | _ | _ | _ | _ | _ | _ | j
   ·simp at hv; subst hv; go_simp
   ·simp at hv; subst hv; go_simp
   ·simp at hv; subst hv; go_simp
   ·simp at hv; subst hv; go_simp
   ·simp at hv; subst hv; go_simp
   ·simp at hv; subst hv; go_simp
   ·simp at hv; subst hv; go_simp
   ·simp at hv
  ·rw [unhide HX]; refine OpPost.no rfl ?_
   repeat refine Fr.setCell ?_ (.inr (by simp)) _
   exact unhide H3
 | true =>
  go_wp2_with fail
  refine wp_region_noPanic ?_
  refine wp_region_held_drew (S := (fun W => W.cell? ⟨b, 0, none⟩ = some (.slice so s.S.length sc) ∧ W.cell? ⟨w.heap.size, 2, none⟩ = some (.int .u32 (r.ac : Nat)))) (by kernel_rfl) ((unhide HS3) _ ((unhide H2).step (Fr.refl _ _).drew)) (fun hHeld => ?_)
  refine wtk2 (i := 0) rfl hHeld ?_
  (try simp only [Act.put, nrm])
  refine wtk2 (i := 1) rfl hHeld ?_
  (try simp only [Act.put, nrm])
  refine wtk2 (i := 2) rfl hHeld ?_
  (try simp only [Act.put, nrm])
  refine wtk2 (i := 3) rfl hHeld ?_
  (try simp only [Act.put, nrm])
  refine wtk2 (i := 4) rfl hHeld ?_
  (try simp only [Act.put, nrm])
  refine wtk2 (i := 5) rfl hHeld ?_
  (try simp only [Act.put, nrm])
  refine wpAnyH_ready (rs := [6, 10]) (by kernel_rfl) (by simp) (AllReadyH.cons rfl (fun K hK => ?_) (AllReadyH.cons rfl (fun K hK => ?_) AllReadyH.nil))
  focus
   go_simp
   refine ((unhide HFi) _ ((unhide H2).step (Fr.refl _ _).drew).f).mono ?_
   rintro e w3 ⟨rfl, hf3⟩
   have H3 := hide (((unhide H2).step (Fr.refl _ _).drew).step hf3)
   have HF3 := hide hf3
   clear hf3
   go_simp
   refine hK.out _ _ ((unhide HS3) _ (unhide H3)) (fun hHeld => ?_)
   clear hK K
   (try simp only [Act.put, nrm])
   refine wtk2 (i := 7) rfl hHeld ?_
   (try simp only [Act.put, nrm])
   refine wtk2 (i := 8) rfl hHeld ?_
   (try simp only [Act.put, nrm])
   refine wtk2 (i := 9) rfl hHeld ?_
   (try simp only [Act.put, nrm])
   refine wpAnyH_ready (rs := [10]) (by kernel_rfl) (by simp) (AllReadyH.cons rfl (fun K hK => ?_) AllReadyH.nil)
   go_simp
   refine hK.out _ _ ((unhide HS3) _ ((unhide H3).step (box1 w3 _))) (fun hHeld => ?_)
   clear hK K
   (try simp only [Act.put, nrm])
   obtain ⟨W8, hst, hf8⟩ := stf_put (W := w3.alloc (.cells #[.int .u32 0, .int .u32 0, .int .u32 0] 33)) (g := w3.heap.size) Array.getElem?_push_size pp
   have HST := hide hst
   have H8 := hide ((unhide H3).step ((box1 w3 _).absorb hf8 (fun i hi => by omega)))
   clear hst hf8
   refine wpAnyH_ready (rs := [11]) (by kernel_rfl) (by simp) (AllReadyH.cons rfl (fun K hK => ?_) AllReadyH.nil)
   refine step_stN rfl 33 (.tmp 7) (.tmp 22) rfl _ _ (by simp [Act.eval]) (by simp [Act.eval]) (unhide HST) ?_
   refine hK.out _ _ ((unhide HS3) _ (unhide H8)) (fun hHeld => ?_)
   clear hK K
   (try simp only [Act.put, nrm])
   refine wtk2 (i := 12) rfl hHeld ?_
   (try simp only [Act.put, nrm])
   refine wpAnyH_done (by kernel_rfl) ?_ _
   refine NoPanic.normal ?_
  rotate_left
  focus
   go_simp
   refine hK.out _ _ ((unhide HS3) _ ((unhide H2).step ((Fr.refl _ _).drew.alloc _))) (fun hHeld => ?_)
   clear hK K
   (try simp only [Act.put, nrm])
   refine wpAnyH_ready (rs := [6]) (by kernel_rfl) (by simp) (AllReadyH.cons rfl (fun K hK => ?_) AllReadyH.nil)
   go_simp
   refine ((unhide HFi) _ ((unhide H2).step ((Fr.refl _ _).drew.alloc _)).f).mono ?_
   rintro e w3 ⟨rfl, hf3⟩
   have H3 := hide (((unhide H2).step ((Fr.refl _ _).drew.alloc _)).step hf3)
   have HF3 := hide hf3
   clear hf3
   go_simp
   refine hK.out _ _ ((unhide HS3) _ (unhide H3)) (fun hHeld => ?_)
   clear hK K
   (try simp only [Act.put, nrm])
   refine wtk2 (i := 7) rfl hHeld ?_
   (try simp only [Act.put, nrm])
   refine wtk2 (i := 8) rfl hHeld ?_
   (try simp only [Act.put, nrm])
   refine wtk2 (i := 9) rfl hHeld ?_
   (try simp only [Act.put, nrm])
   obtain ⟨W8, hst, hf8⟩ := stf_put (W := w3) (g := w2.heap.size) (((unhide HF3).block w2.heap.size (by simp) (fun h => h)).trans Array.getElem?_push_size) pp
   have HST := hide hst
   have H8 := hide ((unhide H3).outside (lt_of_block (unhide H2).a) hf8)
   clear hst hf8
   refine wpAnyH_ready (rs := [11]) (by kernel_rfl) (by simp) (AllReadyH.cons rfl (fun K hK => ?_) AllReadyH.nil)
   refine step_stN rfl 33 (.tmp 7) (.tmp 22) rfl _ _ (by simp [Act.eval]) (by simp [Act.eval]) (unhide HST) ?_
   refine hK.out _ _ ((unhide HS3) _ (unhide H8)) (fun hHeld => ?_)
   clear hK K
   (try simp only [Act.put, nrm])
   refine wtk2 (i := 12) rfl hHeld ?_
   (try simp only [Act.put, nrm])
   refine wpAnyH_done (by kernel_rfl) ?_ _
   refine NoPanic.normal ?_
  all_goals
   clear HST H3 HF3 H2
   have H2 := H8
   clear H8
   cases fd with
   | false =>
    have HX := hide ((unhide HE1) (by trivial) (by trivial))
    clear HE0 HE1 HE3 HDO HFi HHs HOp HSt HS3 HR HR10
    go_wp2_with fail
    refine ((unhide HRf) 1 _).mono ?_
    rintro e w3 ⟨rfl, hf3⟩
    have h3 := (unhide H2).step hf3
    obtain ⟨e0, e1, e2, e3, e4, e5, e6, z0, z1, z2, z3, z4, z5, z6⟩ := h3.ans
    have H3 := hide h3.f
    clear h3 hf3
    go_wp2_with fail
    (try simp only [Exit.inBlock, Exit.then])
    refine bodyPost_ret (results_cell_mid rfl _ _ (w.heap.size + 1) 0 [.int .u32 0, .int .u32 0, .int .u8 ((1 : Nat) : Int), .int .u32 0, .int .u32 0, .slice none 0 0, .slice none 0 0] _ rfl ?_ Tryz.underlying45 rfl (by kernel_rfl)) rfl ?_
    ·intro j v hv
     rcases j with _ | _ | _ | _ | _ | _ | _ | j
     ·simp at hv; subst hv; go_simp
     ·simp at hv; subst hv; go_simp
     ·simp at hv; subst hv; go_simp
     ·simp at hv; subst hv; go_simp
     ·simp at hv; subst hv; go_simp
     ·simp at hv; subst hv; go_simp
     ·simp at hv; subst hv; go_simp
     ·simp at hv
    ·rw [unhide HX]; refine OpPost.no rfl ?_
     repeat refine Fr.setCell ?_ (.inr (by simp)) _
     exact unhide H3
   | true =>
    obtain ⟨d3, d4⟩ := (unhide HR) _ (unhide H2)
    have HS8 : Hid (∀ W, CB w W w.heap.size r → W.cell? ⟨w.heap.size, 3, none⟩ = some (.int .u8 (r.op : Nat))) := fun W hW => ((unhide HR) W hW).1
    by_cases hop : r.op = 1
    ·have hdo := (unhide HDO) (by trivial) (by trivial) (.inl hop)
     rw [hop] at d3
     have H4 := H2
     clear H2 hop
     obtain ⟨h1, h7, hdo⟩ := hdo
     obtain ⟨N, hN⟩ : ∃ N, opN r.op = N := ⟨_, rfl⟩
     have he : ∀ x y z W, (callFunc N #[x, y, z]).run Tryz.prog W = .ok (.enter N #[x, y, z]) W := fun x y z W => by rw [← hN]; exact op_enters r.op x y z W
     rw [hN] at hdo
     have HD := hide hdo
     have HLk : Hid (∀ W z, W.heap[z]? = some (.map opsE 7) → (Instr.lookup 97 (.map (some z)) (.int .u8 (r.op : Nat)) false).run Tryz.prog W = .ok (.func (.func N) #[] #[]) W) := fun W z hz => by rw [← hN]; exact ops_at W z r.op h1 h7 hz
     clear hdo hN h1 h7 HE0 HE1 HE3 HDO HFi HHs HRf HSt HS3
     go_wp2_with fail
     refine wp_region_noPanic ?_
     refine wp_region_held_drew (S := (fun W => W.cell? ⟨w.heap.size, 3, none⟩ = some (.int .u8 (r.op : Nat)))) (by kernel_rfl) ((unhide HS8) _ ((unhide H4).step (Fr.refl _ _).drew)) (fun hHeld => ?_)
     refine wtk2 (i := 1) rfl hHeld ?_
     (try simp only [Act.put, nrm])
     refine wtk2 (i := 2) rfl hHeld ?_
     (try simp only [Act.put, nrm])
     refine wpAnyH_ready (rs := [0]) (by kernel_rfl) (by simp) (AllReadyH.cons rfl (fun K hK => ?_) AllReadyH.nil)
     go_simp
     refine ((unhide HOp) _).mono ?_
     rintro e w5 ⟨z, rfl, hm5, hf5⟩
     have H5 := hide (((unhide H4).step (Fr.refl _ _).drew).step hf5)
     have hlk := (unhide HLk) w5 z hm5
     clear hf5 hm5
     go_simp
     refine hK.out _ _ ((unhide HS8) _ (unhide H5)) (fun hHeld => ?_)
     clear hK K
     (try simp only [Act.put, nrm])
     refine wpAnyH_ready (rs := [3]) (by kernel_rfl) (by simp) (AllReadyH.cons rfl (fun K hK => ?_) AllReadyH.nil)
     go_simp
     refine hK.out _ _ ((unhide HS8) _ (unhide H5)) (fun hHeld => ?_)
     clear hK K
     (try simp only [Act.put, nrm])
     refine wtk2 (i := 4) rfl hHeld ?_
     (try simp only [Act.put, nrm])
     refine wpAnyH_done (by kernel_rfl) ?_ _
     refine NoPanic.normal ?_
     obtain ⟨q0, q1, q2, q3, q4, q5, q6, q7, q8, q9⟩ := (unhide HR10) _ (unhide H5)
     clear hlk HLk HOp HR
     go_wp2_with fail
     refine ((unhide HD) _ (unhide H5).f).mono ?_
     rintro e w7 ⟨fo, fn, fc, ho, hn, hc, rfl, hd⟩
     have a7 := (OpD.kept (unhide HH) hd (B := w.heap.size + 1) (by omega) (lt_of_block (unhide H5).a)).trans (unhide H5).a
     have HD7 := hide hd
     obtain ⟨e0, e1, e2, e3, e4, e5, e6, y0, y1, y2, y3, y4, y5, y6⟩ := ansc a7
     clear a7 hd HD q0 q1 q2 q3 q4 q5 q6 q7 q8 q9 he
     go_wp2_with fail
     refine bodyPost_ret (results_cell_mid rfl _ _ (w.heap.size + 1) 0 [.int .u32 0, .int .u32 0, .int .u8 (X.2.co : Nat), .int .u32 (X.2.rc : Nat), .int .u32 (X.2.ve : Nat), .slice fo fn fc, .slice ho hn hc] _ rfl ?_ Tryz.underlying45 rfl (by kernel_rfl)) rfl ?_
     ·intro j v hv
      rcases j with _ | _ | _ | _ | _ | _ | _ | j
      ·simp at hv; subst hv; go_simp
      ·simp at hv; subst hv; go_simp
      ·simp at hv; subst hv; go_simp
      ·simp at hv; subst hv; go_simp
      ·simp at hv; subst hv; go_simp
      ·simp at hv; subst hv; go_simp
      ·simp at hv; subst hv; go_simp
      ·simp at hv
     ·exact ⟨_, _, rfl, OpD.out (unhide HH) (unhide H5).f (B := w.heap.size + 1) (by omega) (lt_of_block (unhide H5).a) (unhide HD7) (set7_fr _ _ _ _ _ _ _ _ _)⟩
    ·have hq : ¬ (r.op : Int) = 1 := by omega
     go_wp2_with fail
     refine ((unhide HHs) _ (unhide H2).f).mono ?_
     rintro e w' ⟨rfl, hw⟩
     obtain rfl := hw.symm
     clear hw
     cases hs with
     | false =>
      have HX := hide ((unhide HE3) (by trivial) (by trivial) hop (by trivial))
      clear HE0 HE1 HE3 HDO HFi HHs HOp HSt HS3 HR HR10 HS8
      go_wp2_with fail
      refine ((unhide HRf) 3 _).mono ?_
      rintro e w3 ⟨rfl, hf3⟩
      have h3 := (unhide H2).step hf3
      obtain ⟨e0, e1, e2, e3, e4, e5, e6, z0, z1, z2, z3, z4, z5, z6⟩ := h3.ans
      have H3 := hide h3.f
      clear h3 hf3
      go_wp2_with fail
      (try simp only [Exit.inBlock, Exit.then])
      refine bodyPost_ret (results_cell_mid rfl _ _ (w.heap.size + 1) 0 [.int .u32 0, .int .u32 0, .int .u8 ((3 : Nat) : Int), .int .u32 0, .int .u32 0, .slice none 0 0, .slice none 0 0] _ rfl ?_ Tryz.underlying45 rfl (by kernel_rfl)) rfl ?_
      ·intro j v hv
       rcases j with _ | _ | _ | _ | _ | _ | _ | j
       ·simp at hv; subst hv; go_simp
       ·simp at hv; subst hv; go_simp
       ·simp at hv; subst hv; go_simp
       ·simp at hv; subst hv; go_simp
       ·simp at hv; subst hv; go_simp
       ·simp at hv; subst hv; go_simp
       ·simp at hv; subst hv; go_simp
       ·simp at hv
      ·rw [unhide HX]; refine OpPost.no rfl ?_
       repeat refine Fr.setCell ?_ (.inr (by simp)) _
       exact unhide H3
     | true =>
      have hdo := (unhide HDO) (by trivial) (by trivial) (.inr (by trivial))
      have H4 := H2
      clear H2 hop d3 d4
      obtain ⟨h1, h7, hdo⟩ := hdo
      obtain ⟨N, hN⟩ : ∃ N, opN r.op = N := ⟨_, rfl⟩
      have he : ∀ x y z W, (callFunc N #[x, y, z]).run Tryz.prog W = .ok (.enter N #[x, y, z]) W := fun x y z W => by rw [← hN]; exact op_enters r.op x y z W
      rw [hN] at hdo
      have HD := hide hdo
      have HLk : Hid (∀ W z, W.heap[z]? = some (.map opsE 7) → (Instr.lookup 97 (.map (some z)) (.int .u8 (r.op : Nat)) false).run Tryz.prog W = .ok (.func (.func N) #[] #[]) W) := fun W z hz => by rw [← hN]; exact ops_at W z r.op h1 h7 hz
      clear hdo hN h1 h7 HE0 HE1 HE3 HDO HFi HHs HRf HSt HS3
      go_wp2_with fail
      refine wp_region_noPanic ?_
      refine wp_region_held_drew (S := (fun W => W.cell? ⟨w.heap.size, 3, none⟩ = some (.int .u8 (r.op : Nat)))) (by kernel_rfl) ((unhide HS8) _ ((unhide H4).step (Fr.refl _ _).drew)) (fun hHeld => ?_)
      refine wtk2 (i := 1) rfl hHeld ?_
      (try simp only [Act.put, nrm])
      refine wtk2 (i := 2) rfl hHeld ?_
      (try simp only [Act.put, nrm])
      refine wpAnyH_ready (rs := [0]) (by kernel_rfl) (by simp) (AllReadyH.cons rfl (fun K hK => ?_) AllReadyH.nil)
      go_simp
      refine ((unhide HOp) _).mono ?_
      rintro e w5 ⟨z, rfl, hm5, hf5⟩
      have H5 := hide (((unhide H4).step (Fr.refl _ _).drew).step hf5)
      have hlk := (unhide HLk) w5 z hm5
      clear hf5 hm5
      go_simp
      refine hK.out _ _ ((unhide HS8) _ (unhide H5)) (fun hHeld => ?_)
      clear hK K
      (try simp only [Act.put, nrm])
      refine wpAnyH_ready (rs := [3]) (by kernel_rfl) (by simp) (AllReadyH.cons rfl (fun K hK => ?_) AllReadyH.nil)
      go_simp
      refine hK.out _ _ ((unhide HS8) _ (unhide H5)) (fun hHeld => ?_)
      clear hK K
      (try simp only [Act.put, nrm])
      refine wtk2 (i := 4) rfl hHeld ?_
      (try simp only [Act.put, nrm])
      refine wpAnyH_done (by kernel_rfl) ?_ _
      refine NoPanic.normal ?_
      obtain ⟨q0, q1, q2, q3, q4, q5, q6, q7, q8, q9⟩ := (unhide HR10) _ (unhide H5)
      clear hlk HLk HOp HR
      go_wp2_with fail
      refine ((unhide HD) _ (unhide H5).f).mono ?_
      rintro e w7 ⟨fo, fn, fc, ho, hn, hc, rfl, hd⟩
      have a7 := (OpD.kept (unhide HH) hd (B := w.heap.size + 1) (by omega) (lt_of_block (unhide H5).a)).trans (unhide H5).a
      have HD7 := hide hd
      obtain ⟨e0, e1, e2, e3, e4, e5, e6, y0, y1, y2, y3, y4, y5, y6⟩ := ansc a7
      clear a7 hd HD q0 q1 q2 q3 q4 q5 q6 q7 q8 q9 he
      go_wp2_with fail
      refine bodyPost_ret (results_cell_mid rfl _ _ (w.heap.size + 1) 0 [.int .u32 0, .int .u32 0, .int .u8 (X.2.co : Nat), .int .u32 (X.2.rc : Nat), .int .u32 (X.2.ve : Nat), .slice fo fn fc, .slice ho hn hc] _ rfl ?_ Tryz.underlying45 rfl (by kernel_rfl)) rfl ?_
      ·intro j v hv
       rcases j with _ | _ | _ | _ | _ | _ | _ | j
       ·simp at hv; subst hv; go_simp
       ·simp at hv; subst hv; go_simp
       ·simp at hv; subst hv; go_simp
       ·simp at hv; subst hv; go_simp
       ·simp at hv; subst hv; go_simp
       ·simp at hv; subst hv; go_simp
       ·simp at hv; subst hv; go_simp
       ·simp at hv
      ·exact ⟨_, _, rfl, OpD.out (unhide HH) (unhide H5).f (B := w.heap.size + 1) (by omega) (lt_of_block (unhide H5).a) (unhide HD7) (set7_fr _ _ _ _ _ _ _ _ _)⟩
end Go.Proofs.YtiknjghcjaaenaaGreatDoor
