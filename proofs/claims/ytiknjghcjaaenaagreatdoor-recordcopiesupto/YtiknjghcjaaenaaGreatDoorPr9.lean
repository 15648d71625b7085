import Derived.Test.YtiknjghcjaaenaaGreatDoorPr2
import Derived.Test.YtiknjghcjaaenaaGreatDoorPr3
import Derived.Test.YtiknjghcjaaenaaGreatDoorPr1
import Derived.Test.YtiknjghcjaaenaaGreatDoorPr5
import Derived.Test.YtiknjghcjaaenaaGreatDoorPr4
import Derived.Test.YtiknjghcjaaenaaGreatDoorPr8
import Derived.Test.YtiknjghcjaaenaaGreatDoorPr6
import Derived.Deep.Cut
import Derived.Deep.CutRange
namespace Go.Proofs.YtiknjghcjaaenaaGreatDoor
open Go.RowKit Go.Shelf
theorem Tryz.nu1 (a : Addr) (n c : Nat) (w : World) : (binOp .eql 24 (.slice (some a) n c) (.slice none 0 0)).run Tryz.prog w = .ok (.bool false) w := by kernel_rfl
theorem Tryz.nu0 (n c : Nat) (w : World) : (binOp .eql 24 (.slice none n c) (.slice none 0 0)).run Tryz.prog w = .ok (.bool true) w := by kernel_rfl
set_option maxRecDepth 100000 in
theorem uclone_any (x : Value) (n : Nat) (xs : List Value) (w : World) (hx : w.ownsRow 0 31 1 x n xs) (h1 : ∀ u ∈ xs, u.oneCell' = true) (hl : n ≤ 4294967296) :
  Calls Tryz.prog 51 #[x] w fun e w' => ∃ v, e = .returned v ∧ w'.ownsRow w.heap.size 31 1 v n xs ∧ Fr (fun _ => False) w w' := by
 rcases hx.2 with ⟨rfl, rfl⟩ | ⟨g, cap, cur, rfl, hgb⟩
 ·have n0 := Tryz.nu0
  have hxs : xs = [] := by have := hx.1; simpa using this
  subst hxs
  clear hx h1
  go_enter Tryz.func51, Tryz.ntmps51
  go_wp2_with fail
  go_ret
  exact ⟨_, rfl, World.ownsRow_nil _ _ _ _, Fr.refl _ _⟩
 ·obtain ⟨i0, hi, hz0, hz1, hz2⟩ := info_parts Tryz.infoU
  have hlen := hx.1
  have hxa : (w.alloc (.cells #[] 31)).ownsRow 0 31 1 (.slice (some ⟨g, 0, none⟩) n cap) n xs := hx.alloc _
  obtain ⟨v', w2, hr, h2, h3, _, h5⟩ := run_append_own_at (P := Tryz.prog) (w := w.alloc (.cells #[] 31)) w.heap.size 24 24 31 i0 (.int .u32 0) 1 4 Tryz.underlying24 hi hz0 hz1 hz2 rfl (by decide) (.slice (some ⟨w.heap.size, 0, none⟩) 0 0) 0 [] (World.ownsRow_made w #[] 0 (Nat.le_refl _) (Nat.zero_le _) rfl) ⟨g, 0, none⟩ n cap xs hlen (fun j u hu => by
   have hj := (List.getElem?_eq_some_iff.1 hu).1
   rw [addr_add, Nat.zero_add, hxa.cellAt j (by omega)]
   exact hu) h1 (by simp only [maxLen]; omega) (by omega) (by simp)
  simp only [Nat.zero_add, List.nil_append] at h2
  obtain ⟨ao, cap2, rfl⟩ := own_formX h2
  have HR := hide hr
  have HA := hide (And.intro h2 h3)
  clear hr h2 h3 h5 hx hxa hgb
  have n1 := Tryz.nu1
  go_enter Tryz.func51, Tryz.ntmps51
  go_wp2_with (at_builtin; refine wpList_app rfl _ _ 24 24 rfl _ _ _ rfl rfl (unhide HR) ?_)
  go_ret
  exact ⟨_, rfl, (unhide HA).1, (box1 w _).grown (unhide HA).2 (fun k hk => by cases hk; exact .inr (Nat.le_refl _))⟩
theorem Tryz.nv1 (a : Addr) (n c : Nat) (w : World) : (binOp .eql 85 (.slice (some a) n c) (.slice none 0 0)).run Tryz.prog w = .ok (.bool false) w := by kernel_rfl
theorem Tryz.nv0 (n c : Nat) (w : World) : (binOp .eql 85 (.slice none n c) (.slice none 0 0)).run Tryz.prog w = .ok (.bool true) w := by kernel_rfl
set_option maxRecDepth 100000 in
theorem vclone_any (x : Value) (n : Nat) (xs : List Value) (w : World) (hx : w.ownsRow 0 110 4 x n xs) (h1 : ∀ u ∈ xs, u.oneCell' = true) (hl : n ≤ 4294967296) :
  Calls Tryz.prog 52 #[x] w fun e w' => ∃ v, e = .returned v ∧ w'.ownsRow w.heap.size 110 4 v n xs ∧ Fr (fun _ => False) w w' := by
 rcases hx.2 with ⟨rfl, rfl⟩ | ⟨g, cap, cur, rfl, hgb⟩
 ·have n0 := Tryz.nv0
  have hxs : xs = [] := by have := hx.1; simpa using this
  subst hxs
  clear hx h1
  go_enter Tryz.func52, Tryz.ntmps52
  go_wp2_with fail
  go_ret
  exact ⟨_, rfl, World.ownsRow_nil _ _ _ _, Fr.refl _ _⟩
 ·obtain ⟨i0, hi, hz0, hz1, hz2⟩ := info_parts Tryz.infoVe
  have hlen := hx.1
  have hxa : (w.alloc (.cells #[] 110)).ownsRow 0 110 4 (.slice (some ⟨g, 0, none⟩) n cap) n xs := hx.alloc _
  obtain ⟨v', w2, hr, h2, h3, _, h5⟩ := run_append_own_at (P := Tryz.prog) (w := w.alloc (.cells #[] 110)) w.heap.size 85 85 110 i0 (.agg #[.int .u32 0, .int .u32 0, .slice none 0 0, .bool false]) 4 40 Tryz.underlying85 hi hz0 hz1 hz2 rfl (by decide) (.slice (some ⟨w.heap.size, 0, none⟩) 0 0) 0 [] (World.ownsRow_made w #[] 0 (Nat.le_refl _) (Nat.zero_le _) rfl) ⟨g, 0, none⟩ n cap xs hlen (fun j u hu => by
   have hj := (List.getElem?_eq_some_iff.1 hu).1
   rw [addr_add, Nat.zero_add, hxa.cellAt j (by omega)]
   exact hu) h1 (by simp only [maxLen]; omega) (by omega) (by simp)
  simp only [Nat.zero_add, List.nil_append] at h2
  obtain ⟨ao, cap2, rfl⟩ := own_formX h2
  have HR := hide hr
  have HA := hide (And.intro h2 h3)
  clear hr h2 h3 h5 hx hxa hgb
  have n1 := Tryz.nv1
  go_enter Tryz.func52, Tryz.ntmps52
  go_wp2_with (at_builtin; refine wpList_app rfl _ _ 85 85 rfl _ _ _ rfl rfl (unhide HR) ?_)
  go_ret
  exact ⟨_, rfl, (unhide HA).1, (box1 w _).grown (unhide HA).2 (fun k hk => by cases hk; exact .inr (Nat.le_refl _))⟩
def upd (f : Nat → Value) (k : Nat) (y : Value) : Nat → Value := fun j => if j = k then y else f j
theorem vcells_ext (f g : Nat → Value) : ∀ (V : List VM) (j : Nat), (∀ i, j ≤ i → f i = g i) → vcells f j V = vcells g j V
 | [], _, _ => rfl
 | v :: r, j, h => by
  simp only [vcells]
  rw [h j (Nat.le_refl _), vcells_ext f g r (j + 1) (fun i hi => h i (by omega))]
theorem vcells_set (f : Nat → Value) (y : Value) : ∀ (V : List VM) (j k : Nat), k < V.length → (vcells f j V).set (k * 4 + 2) y = vcells (upd f (j + k) y) j V
 | [], _, _, h => by simp at h
 | v :: r, j, 0, _ => by
  simp only [vcells, Nat.add_zero, Nat.zero_mul, Nat.zero_add, List.set_cons_succ, List.set_cons_zero]
  rw [show upd f j y j = y by simp [upd], vcells_ext (upd f j y) f r (j + 1) (fun i hi => by unfold upd; rw [if_neg (by omega)])]
 | v :: r, j, k + 1, h => by
  have ih := vcells_set f y r (j + 1) k (by simpa using h)
  rw [show j + 1 + k = j + (k + 1) by omega] at ih
  simp only [vcells]
  rw [show (k + 1) * 4 + 2 = k * 4 + 2 + 1 + 1 + 1 + 1 by omega]
  simp only [List.set_cons_succ]
  rw [ih, show upd f (j + (k + 1)) y j = f j by unfold upd; rw [if_neg (by omega)]]
theorem vcells_one (f : Nat → Value) : ∀ (V : List VM) (j : Nat), (∀ i, i < V.length → (f (j + i)).oneCell' = true) → ∀ u ∈ vcells f j V, u.oneCell' = true
 | [], _, _, u, hu => by cases hu
 | v :: r, j, h, u, hu => by
  simp only [vcells, List.mem_cons] at hu
  rcases hu with rfl | rfl | rfl | rfl | hu
  ·rfl
  ·rfl
  ·exact h 0 (by simp)
  ·rfl
  ·exact vcells_one f r (j + 1) (fun i hi => by have := h (i + 1) (by simpa using hi); rw [show j + (i + 1) = j + 1 + i by omega] at this; exact this) u hu
theorem chart_put {W : World} {g : Nat} {a0 a1 a2 a3 a4 : Value} (hb : W.heap[g]? = some (.cells #[a0, a1, a2, a3, a4] 87)) (c0 c1 c2 c3 c4 : Value) (h1 : ∀ v ∈ [c0, c1, c2, c3, c4], v.oneCell' = true) :
  ∃ W8, (Instr.storeAt 87 (.pointer (some ⟨g, 0, none⟩)) (.agg #[c0, c1, c2, c3, c4])).run Tryz.prog W = .ok () W8 ∧ W8.heap[g]? = some (.cells #[c0, c1, c2, c3, c4] 87) ∧ Fr (fun k => k = g) W W8 := by
 refine ⟨W.setCells g 0 [c0, c1, c2, c3, c4], run_storeAt_mid W g 0 87 #[c0, c1, c2, c3, c4] (fun j hj => ?_) (by kernel_rfl) (all_oneCell_toArray (cs := [c0, c1, c2, c3, c4]) h1), ?_, ?_⟩
 ·have hj : j < 5 := hj
  refine ⟨?_, by simp [World.frozen?, hb]⟩
  rcases j with _ | _ | _ | _ | _ | j
  ·simp [World.cell?, hb]
  ·simp [World.cell?, hb]
  ·simp [World.cell?, hb]
  ·simp [World.cell?, hb]
  ·simp [World.cell?, hb]
  ·omega
 ·have k0 := heap_setCell_same W g 0 _ 87 c0 hb
  have k1 := heap_setCell_same _ g 1 _ 87 c1 k0
  have k2 := heap_setCell_same _ g 2 _ 87 c2 k1
  have k3 := heap_setCell_same _ g 3 _ 87 c3 k2
  have k4 := heap_setCell_same _ g 4 _ 87 c4 k3
  simp only [List.setIfInBounds_toArray, List.set_cons_zero, List.set_cons_succ] at k4
  exact k4
 ·exact (((((Fr.refl (fun k => k = g) W).setCell (p := ⟨g, 0, none⟩) (.inl rfl) c0).setCell (p := ⟨g, 1, none⟩) (.inl rfl) c1).setCell (p := ⟨g, 2, none⟩) (.inl rfl) c2).setCell (p := ⟨g, 3, none⟩) (.inl rfl) c3).setCell (p := ⟨g, 4, none⟩) (.inl rfl) c4
structure CJ (w wr : World) (wa ow : Nat) (sl : Bool) (gv vv : Value) (G : List Nat) (V : List VM) (f fk : Nat → Value) (k : Nat) : Prop where
 b : wr.heap[w.heap.size]? = some (.cells #[.int .u32 (wa : Nat), .int .u32 (ow : Nat), .bool sl, gv, vv] 87)
 c : wr.heap[w.heap.size + 1]? = some (.cells #[.int .u32 0, .int .u32 0, .bool false, .slice none 0 0, .slice none 0 0] 87)
 g : wr.ownsRow (w.heap.size + 2) 31 1 gv G.length (ncells G)
 v : wr.ownsRow (w.heap.size + 2) 110 4 vv V.length (vcells fk 0 V)
 d : ∀ j u, j < k → V[j]? = some u → OwF wr (w.heap.size + 2) (fk j) u.F
 e : ∀ j, k ≤ j → fk j = f j
 f : Fr (fun _ => False) w wr
theorem CJ.fr {w wr W : World} {wa ow : Nat} {sl : Bool} {gv vv : Value} {G : List Nat} {V : List VM} {f fk : Nat → Value} {k : Nat} (h : CJ w wr wa ow sl gv vv G V f fk k) (hf : Fr (fun _ => False) wr W) : CJ w W wa ow sl gv vv G V f fk k :=
 ⟨(hf.block _ (lt_of_block h.b) (fun h => h)).trans h.b, (hf.block _ (lt_of_block h.c) (fun h => h)).trans h.c, ownsRow_of_block h.g (fun g hg => hf.block g (h.g.lt g hg).2 (fun h => h)), ownsRow_of_block h.v (fun g hg => hf.block g (h.v.lt g hg).2 (fun h => h)), fun j u hj hu => ownsRow_of_block (h.d j u hj hu) (fun g hg => hf.block g ((h.d j u hj hu).lt g hg).2 (fun h => h)), h.e, h.f.trans hf (fun _ _ h => h)⟩
theorem CJ.next {w wr : World} {wa ow : Nat} {sl : Bool} {gv y : Value} {G : List Nat} {V : List VM} {f fk : Nat → Value} {k vg vc : Nat} {u : VM} (h : CJ w wr wa ow sl gv (.slice (some ⟨vg, 0, none⟩) V.length vc) G V f fk k) (hu : V[k]? = some u) (hy : OwF wr (w.heap.size + 2) y u.F) : CJ w (wr.setCell ⟨vg, k * 4 + 2, none⟩ y) wa ow sl gv (.slice (some ⟨vg, 0, none⟩) V.length vc) G V f (upd fk k y) (k + 1) := by
 have hk : k < V.length := (List.getElem?_eq_some_iff.1 hu).1
 have hf : Fr (fun i => i = vg) wr (wr.setCell ⟨vg, k * 4 + 2, none⟩ y) := (Fr.refl (fun i => i = vg) wr).setCell (p := ⟨vg, k * 4 + 2, none⟩) (.inl rfl) y
 have hvg : w.heap.size + 2 ≤ vg := (h.v.lt vg rfl).1
 have hv := own_set h.v rfl (k * 4 + 2) y
 rw [vcells_set fk y V 0 k hk, Nat.zero_add] at hv
 refine ⟨(hf.block _ (lt_of_block h.b) (by omega)).trans h.b, (hf.block _ (lt_of_block h.c) (by omega)).trans h.c, ownsRow_of_block h.g (fun g hg => hf.block g (h.g.lt g hg).2 (fun e => own_ne h.g h.v (by decide) g hg (by rw [e]; rfl))), hv, fun j u' hj hu' => ?_, fun j hj => ?_, h.f.absorb hf (fun i hi => by omega)⟩
 ·by_cases hjk : j = k
  ·subst hjk
   rw [hu] at hu'
   cases hu'
   rw [show upd fk j y j = y by simp [upd]]
   exact ownsRow_of_block hy (fun g hg => hf.block g (hy.lt g hg).2 (fun e => own_ne hy h.v (by decide) g hg (by rw [e]; rfl)))
  ·rw [show upd fk k y j = fk j by unfold upd; rw [if_neg hjk]]
   have hd := h.d j u' (by omega) hu'
   exact ownsRow_of_block hd (fun g hg => hf.block g (hd.lt g hg).2 (fun e => own_ne hd h.v (by decide) g hg (by rw [e]; rfl)))
 ·rw [show upd fk k y j = fk j by unfold upd; rw [if_neg (by omega)]]
  exact h.e j (by omega)
set_option maxHeartbeats 4000000 in
set_option maxRecDepth 100000 in
theorem ccopied_any (wa ow : Nat) (sl : Bool) (gv vv : Value) (G : List Nat) (V : List VM) (f : Nat → Value) (M : Nat → Prop) (w : World) (hg : w.ownsRow 0 31 1 gv G.length (ncells G)) (hv : w.ownsRow 0 110 4 vv V.length (vcells f 0 V)) (hf : ∀ j u, V[j]? = some u → FdM w M (f j) u.F ∧ u.F.length ≤ 1000) (hG : G.length ≤ 4294967296) (hV : V.length ≤ 64) :
  Calls Tryz.prog 32 #[.agg #[.int .u32 (wa : Nat), .int .u32 (ow : Nat), .bool sl, gv, vv]] w fun e w' => ∃ gv' vv' f', e = .returned (.agg #[.int .u32 (wa : Nat), .int .u32 (ow : Nat), .bool sl, gv', vv']) ∧ w'.ownsRow w.heap.size 31 1 gv' G.length (ncells G) ∧ w'.ownsRow w.heap.size 110 4 vv' V.length (vcells f' 0 V) ∧ (∀ j u, V[j]? = some u → OwF w' w.heap.size (f' j) u.F) ∧ Fr (fun _ => False) w w' := by
 obtain ⟨B, hB⟩ : ∃ B, B = w.heap.size := ⟨_, rfl⟩
 obtain ⟨go, gc, rfl⟩ := own_formX hg
 obtain ⟨vo, vc0, rfl⟩ := own_formX hv
 obtain ⟨W1, hW1⟩ : ∃ W1, W1 = (w.alloc (.cells #[.int .u32 (wa : Nat), .int .u32 (ow : Nat), .bool sl, .slice go G.length gc, .slice vo V.length vc0] 87)).alloc (.cells #[.int .u32 0, .int .u32 0, .bool false, .slice none 0 0, .slice none 0 0] 87) := ⟨_, rfl⟩
 have f1 : Fr (fun _ => False) w W1 := by rw [hW1]; exact (box1 w _).alloc _
 have kB : W1.heap[B]? = some (.cells #[.int .u32 (wa : Nat), .int .u32 (ow : Nat), .bool sl, .slice go G.length gc, .slice vo V.length vc0] 87) := by rw [hW1, hB]; exact ((box1 _ _).block _ (by simp) (fun h => h)).trans Array.getElem?_push_size
 have kC : W1.heap[B + 1]? = some (.cells #[.int .u32 0, .int .u32 0, .bool false, .slice none 0 0, .slice none 0 0] 87) := by rw [hW1, hB]; exact heap_two w _ _
 have hsz1 : W1.heap.size = B + 2 := by rw [hW1, hB]; simp
 have HFd : Hid (∀ j u, V[j]? = some u → FdM w M (f j) u.F ∧ u.F.length ≤ 1000) := hf
 have HU := hide (uclone_any _ G.length (ncells G) W1 (ownsRow_of_block hg (fun g hg' => f1.block g (hg.lt g hg').2 (fun h => h))) (ncells_one G) hG)
 have HV : Hid (∀ W, Fr (fun k => k = B) W1 W → Calls Tryz.prog 52 #[.slice vo V.length vc0] W fun e w' => ∃ v, e = .returned v ∧ w'.ownsRow W.heap.size 110 4 v V.length (vcells f 0 V) ∧ Fr (fun _ => False) W w') := fun W hW => vclone_any _ V.length (vcells f 0 V) W (ownsRow_of_block (ownsRow_of_block hv (fun g hg' => f1.block g (hv.lt g hg').2 (fun h => h))) (fun g hg' => hW.block g (Nat.lt_of_lt_of_le (hv.lt g hg').2 f1.size) (fun e => by have := (hv.lt g hg').2; omega))) (vcells_one f V 0 (fun i hi => by
  obtain ⟨u, hu⟩ : ∃ u, V[i]? = some u := ⟨_, List.getElem?_eq_getElem hi⟩
  obtain ⟨a, b, e⟩ := (hf i u hu).1.f.form
  rw [Nat.zero_add, e]
  rfl)) (by omega)
 have F1 := hide f1
 have KB := hide (And.intro kB (And.intro kC hsz1))
 have b3 : W1.cell? ⟨B, 3, none⟩ = some (.slice go G.length gc) := by simp [World.cell?, kB]
 clear hg hv hf f1 kB kC hsz1
 go_enter Tryz.func32, Tryz.ntmps32
 go_wp2_with fail
 rw [← hW1]
 (try rw [← hB])
 have HB := hide hB
 clear hW1 hB
 go_wp2_with fail
 refine (unhide HU).mono ?_
 rintro e w2 ⟨gv', rfl, ho2, hf2⟩
 obtain ⟨go', gc', rfl⟩ := own_formX ho2
 have kB2 := (hf2.block B (lt_of_block (unhide KB).1) (fun h => h)).trans (unhide KB).1
 have kC2 := (hf2.block (B + 1) (lt_of_block (unhide KB).2.1) (fun h => h)).trans (unhide KB).2.1
 have hs2 := hf2.size
 obtain ⟨W3, hW3⟩ : ∃ W3, W3 = w2.setCell ⟨B, 3, none⟩ (.slice go' G.length gc') := ⟨_, rfl⟩
 have f3 : Fr (fun k => k = B) w2 W3 := by rw [hW3]; exact (Fr.refl (fun k => k = B) w2).setCell (p := ⟨B, 3, none⟩) (.inl rfl) _
 have kB3 := heap_setCell_same w2 B 3 _ 87 (.slice go' G.length gc') kB2
 simp only [List.setIfInBounds_toArray, List.set_cons_zero, List.set_cons_succ] at kB3
 rw [← hW3] at kB3
 have kC3 := (f3.block (B + 1) (lt_of_block kC2) (by omega)).trans kC2
 have hl1 := (unhide KB).2.2
 have ho3 := ownsRow_of_block ho2 (fun g hg => f3.block g (ho2.lt g hg).2 (fun e => by have h1 : W1.heap.size ≤ g := (ho2.lt g hg).1; omega))
 have f13 : Fr (fun k => k = B) W1 W3 := (hf2.mono (fun _ _ h => h.elim)).trans f3 (fun _ _ h => h)
 have c3 : w2.cell? ⟨B, 3, none⟩ = some (.slice go G.length gc) := by simp [World.cell?, kB2]
 have y3 : w2.frozen? ⟨B, 3, none⟩ = false := by simp [World.frozen?, kB2]
 have d4 : w2.cell? ⟨B, 4, none⟩ = some (.slice vo V.length vc0) := by simp [World.cell?, kB2]
 have HV3 := hide ((unhide HV) W3 f13)
 have H3 := hide (And.intro kB3 (And.intro kC3 (And.intro ho3 (And.intro f13 (show B + 2 ≤ W3.heap.size by have := f3.size; omega)))))
 have HL1 := hide hl1
 clear ho2 hf2 kB2 kC2 hs2 f3 kB3 kC3 ho3 f13 HU HV b3 hl1
 go_wp2_with fail
 rw [← hW3]
 clear hW3 c3 y3
 refine (unhide HV3).mono ?_
 rintro e w4 ⟨vv', rfl, ho4, hf4⟩
 obtain ⟨vo', vc', rfl⟩ := own_formX ho4
 have kB4 := (hf4.block B (lt_of_block (unhide H3).1) (fun h => h)).trans (unhide H3).1
 have kC4 := (hf4.block (B + 1) (lt_of_block (unhide H3).2.1) (fun h => h)).trans (unhide H3).2.1
 obtain ⟨W5, hW5⟩ : ∃ W5, W5 = w4.setCell ⟨B, 4, none⟩ (.slice vo' V.length vc') := ⟨_, rfl⟩
 have f5 : Fr (fun k => k = B) w4 W5 := by rw [hW5]; exact (Fr.refl (fun k => k = B) w4).setCell (p := ⟨B, 4, none⟩) (.inl rfl) _
 have kB5 := heap_setCell_same w4 B 4 _ 87 (.slice vo' V.length vc') kB4
 simp only [List.setIfInBounds_toArray, List.set_cons_zero, List.set_cons_succ] at kB5
 rw [← hW5] at kB5
 have hCJ : Hid (CJ w W5 wa ow sl (.slice go' G.length gc') (.slice vo' V.length vc') G V f f 0) := by
  have h3s := (unhide H3).2.2.2.2
  have hl1 := unhide HL1
  have ho3 := (unhide H3).2.2.1
  have hg4 := ownsRow_of_block ho3 (fun g hg => hf4.block g (ho3.lt g hg).2 (fun h => h))
  have hg5 := ownsRow_of_block hg4 (fun g hg => f5.block g (hg4.lt g hg).2 (fun e => by have h1 : W1.heap.size ≤ g := (hg4.lt g hg).1; omega))
  have hv5 := ownsRow_of_block ho4 (fun g hg => f5.block g (ho4.lt g hg).2 (fun e => by have h1 : W3.heap.size ≤ g := (ho4.lt g hg).1; omega))
  have hB := unhide HB
  refine ⟨by rw [← hB]; exact kB5, by rw [← hB]; exact (f5.block (B + 1) (lt_of_block kC4) (by omega)).trans kC4, ownsRow_base hg5 (by omega), ownsRow_base hv5 (by omega), fun j u hj => (by omega), fun _ _ => rfl, ?_⟩
  have h13 := (unhide H3).2.2.2.1
  exact ((((unhide F1).absorb h13 (fun k hk => by omega)).trans hf4 (fun _ _ h => h)).absorb f5 (fun k hk => by omega))
 have c4 : w4.cell? ⟨B, 4, none⟩ = some (.slice vo V.length vc0) := by simp [World.cell?, kB4]
 have y4 : w4.frozen? ⟨B, 4, none⟩ = false := by simp [World.frozen?, kB4]
 have e4 : W5.cell? ⟨B, 4, none⟩ = some (.slice vo' V.length vc') := by simp [World.cell?, kB5]
 clear ho4 hf4 kB4 kC4 f5 kB5 HV3 H3 HL1 KB d4
 go_wp2_with fail
 rw [← hW5]
 clear hW5 c4 y4 e4
 go_loopw [16] (fun kv wr => ∃ (k : Nat) (fk : Nat → Value), k ≤ V.length ∧ kv = .int .i64 (k : Nat) ∧ CJ w wr wa ow sl (.slice go' G.length gc') (.slice vo' V.length vc') G V f fk k) (fun kv _ => V.length - (intOf kv).toNat)
 case atStart => exact ⟨0, f, Nat.zero_le _, rfl, unhide hCJ⟩
 case round =>
  clear hCJ
  obtain ⟨k, fk, hk, rfl, hcj⟩ := hrel
  by_cases hlt : k < V.length
  ·obtain ⟨u, hu⟩ : ∃ u, V[k]? = some u := ⟨_, List.getElem?_eq_getElem hlt⟩
   obtain ⟨vg, vc2, he, _, _⟩ := hcj.v.form (by omega)
   cases he
   obtain ⟨q0, q1, q2, q3⟩ := vcells_at fk V 0 k u hu
   rw [Nat.zero_add, hcj.e k (Nat.le_refl _)] at q2
   have v0 := (hcj.v.cellAt (k * 4) (by omega)).trans q0
   have v1 := (hcj.v.cellAt (k * 4 + 1) (by omega)).trans q1
   have v2 := (hcj.v.cellAt (k * 4 + 2) (by omega)).trans q2
   have v3 := (hcj.v.cellAt (k * 4 + 3) (by omega)).trans q3
   obtain ⟨hfm, hfl⟩ := (unhide HFd) k u hu
   obtain ⟨au, ev, F, rd⟩ := u
   simp only at v0 v1 v2 v3 hfm hfl
   obtain ⟨xo2, xc2, hfk⟩ := hfm.f.form
   rw [hfk] at v2 hfm
   obtain ⟨z, hz⟩ : ∃ z, z = wr.heap.size := ⟨_, rfl⟩
   obtain ⟨W6, hW6⟩ : ∃ W6, W6 = wr.alloc (.cells #[.int .u32 (au : Nat), .int .u32 (ev : Nat), .slice xo2 F.length xc2, .bool rd] 110) := ⟨_, rfl⟩
   have f6 : Fr (fun _ => False) wr W6 := by rw [hW6]; exact box1 wr _
   have kz : W6.heap[z]? = some (.cells #[.int .u32 (au : Nat), .int .u32 (ev : Nat), .slice xo2 F.length xc2, .bool rd] 110) := by rw [hW6, hz]; exact Array.getElem?_push_size
   have HC6 := hide (hcj.fr f6)
   have HS6 : Hid (∀ W, Fr (fun _ => False) W6 W → W.cell? ⟨B, 4, none⟩ = some (.slice (some ⟨vg, 0, none⟩) V.length vc') ∧ W.cell? ⟨z, 2, none⟩ = some (.slice xo2 F.length xc2)) := fun W hW => by
    have h1 := ((unhide HC6).fr hW).b
    rw [← unhide HB] at h1
    have h2 := (hW.block z (lt_of_block kz) (fun h => h)).trans kz
    exact ⟨by simp [World.cell?, h1], by simp [World.cell?, h2]⟩
   have HCl : Hid (∀ W, Fr (fun _ => False) W6 W → Calls Tryz.prog 53 #[.slice xo2 F.length xc2] W fun e w' => ∃ v, e = .returned v ∧ OwF w' W.heap.size v F ∧ Fr (fun _ => False) W w') := fun W hW => fclone_any _ F W ⟨hfm.f.fr ((unhide HC6).f.trans hW (fun _ _ h => h)), fun g o n c e h0 => by
    cases e
    obtain ⟨_, _, e, c0, _⟩ := (hfm.f.fr ((unhide HC6).f.trans hW (fun _ _ h => h))).at_ 0 h0
    cases e
    exact lt_of_cell c0, hfm.c, hfm.z⟩ hfl
   have HUU := hide hu
   have hkl : (k : Int) < (V.length : Int) := by omega
   have hlt' := hide hlt
   clear hcj q0 q1 q2 q3 hfm hfl hfk f6 kz hk hu hlt
   go_wp2_with fail
   rw [← hW6]
   (try rw [← hz])
   clear hW6 hz v0 v1 v2 v3
   refine wp_region_last (n := 8) (m := 8) (S := (fun W => W.cell? ⟨B, 4, none⟩ = some (.slice (some ⟨vg, 0, none⟩) V.length vc') ∧ W.cell? ⟨z, 2, none⟩ = some (.slice xo2 F.length xc2))) (by kernel_rfl) rfl rfl rfl (by kernel_rfl) (by kernel_rfl) ((unhide HS6) _ (Fr.refl _ _).drew) (fun hHeld => ?_)
   refine wtk2 (i := 0) rfl hHeld ?_
   (try simp only [Act.put, nrm])
   refine wtk2 (i := 1) rfl hHeld ?_
   (try simp only [Act.put, nrm])
   refine wtk2 (i := 2) rfl hHeld ?_
   (try simp only [Act.put, nrm])
   refine wtk2 (i := 3) rfl hHeld ?_
   (try simp only [Act.put, nrm])
   refine wtk2 (i := 4) rfl hHeld ?_
   (try simp only [Act.put, nrm])
   refine wpAnyH_ready (rs := [5]) (by kernel_rfl) (by simp) (AllReadyH.cons rfl (fun K hK => ?_) AllReadyH.nil)
   go_simp
   refine ((unhide HCl) _ (Fr.refl _ _).drew).mono ?_
   rintro e w7 ⟨y, rfl, hy, f7⟩
   have f67 := (Fr.refl (fun _ => False) W6).drew.trans f7 (fun _ _ h => h)
   obtain ⟨yo, yc, rfl⟩ := own_formX hy
   have hc7 := (unhide HC6).fr f67
   have hN := hc7.next (unhide HUU) (ownsRow_base hy (by have h1 := lt_of_block (unhide HC6).c; have h2 : W6.drew.heap.size = W6.heap.size := rfl; omega))
   have HN := hide hN
   have x2 : w7.cell? ⟨vg, k * 4 + 2, none⟩ = some (.slice xo2 F.length xc2) ∨ True := .inr trivial
   have hz7 : w7.frozen? ⟨vg, k * 4 + 2, none⟩ = false := hc7.v.frozenAt _
   have hx7 : ∃ u0, w7.cell? ⟨vg, k * 4 + 2, none⟩ = some u0 := by
    rw [hc7.v.cellAt (k * 4 + 2) (by have := unhide hlt'; omega)]
    exact ⟨_, List.getElem?_eq_getElem (by rw [vcells_len]; have := unhide hlt'; omega)⟩
   obtain ⟨u0, hx7⟩ := hx7
   have F67 := hide f67
   clear hy f7 f67 hc7 hN x2
   go_simp
   refine hK.out _ _ ((unhide HS6) _ (unhide F67)) (fun hHeld => ?_)
   clear hK K
   (try simp only [Act.put, nrm])
   refine wtk2 (i := 6) rfl hHeld ?_
   (try simp only [Act.put, nrm])
   refine wtk2 (i := 7) rfl hHeld ?_
   (try simp only [Act.put, nrm])
   refine wpAnyH_done (by kernel_rfl) ?_ _
   simp only [lastQ]
   go_simp
   clear hHeld hx7 hz7 HS6 HCl HC6 HUU F67
   have hlt := unhide hlt'
   go_wp2_with fail
   go_roundw
   case rel => exact ⟨k + 1, _, hlt, by go_num, unhide HN⟩
   case measure => simp [intOf]; omega
  ·obtain rfl : k = V.length := by omega
   have hcb := hcj.b
   have hcc := hcj.c
   rw [← unhide HB] at hcb hcc
   have p0 : wr.cell? ⟨B, 0, none⟩ = some (.int .u32 (wa : Nat)) := by simp [World.cell?, hcb]
   have p1 : wr.cell? ⟨B, 1, none⟩ = some (.int .u32 (ow : Nat)) := by simp [World.cell?, hcb]
   have p2 : wr.cell? ⟨B, 2, none⟩ = some (.bool sl) := by simp [World.cell?, hcb]
   have p3 : wr.cell? ⟨B, 3, none⟩ = some (.slice go' G.length gc') := by simp [World.cell?, hcb]
   have p4 : wr.cell? ⟨B, 4, none⟩ = some (.slice vo' V.length vc') := by simp [World.cell?, hcb]
   obtain ⟨W8, st8, k8, f8⟩ := chart_put hcc (.int .u32 (wa : Nat)) (.int .u32 (ow : Nat)) (.bool sl) (.slice go' G.length gc') (.slice vo' V.length vc') (fun u hu => by simp at hu; rcases hu with rfl | rfl | rfl | rfl | rfl <;> rfl)
   have HST := hide st8
   have HR8 := hide (range_of_block k8)
   have hBe := unhide HB
   have HE := hide (show W8.ownsRow w.heap.size 31 1 (.slice go' G.length gc') G.length (ncells G) ∧ W8.ownsRow w.heap.size 110 4 (.slice vo' V.length vc') V.length (vcells fk 0 V) ∧ (∀ j u, V[j]? = some u → OwF W8 w.heap.size (fk j) u.F) ∧ Fr (fun _ => False) w W8 from ⟨ownsRow_base (ownsRow_of_block hcj.g (fun g hg => f8.block g (hcj.g.lt g hg).2 (fun e => by have h1 := (hcj.g.lt g hg).1; omega))) (by omega), ownsRow_base (ownsRow_of_block hcj.v (fun g hg => f8.block g (hcj.v.lt g hg).2 (fun e => by have h1 := (hcj.v.lt g hg).1; omega))) (by omega), fun j u hu => by
    have hd := hcj.d j u (List.getElem?_eq_some_iff.1 hu).1 hu
    exact ownsRow_base (ownsRow_of_block hd (fun g hg => f8.block g (hd.lt g hg).2 (fun e => by have h1 : w.heap.size + 2 ≤ g := (hd.lt g hg).1; omega))) (by omega), hcj.f.absorb f8 (fun k hk => by omega)⟩)
   clear hcj hcb hcc st8 k8 f8 hk hBe
   go_wp2_with (refine wpList_stN rfl 87 (.tmp 2) (.tmp 30) rfl _ _ rfl rfl (unhide HST) ?_)
   refine bodyPost_ret (results_cell_mid rfl _ _ (B + 1) 0 [.int .u32 (wa : Nat), .int .u32 (ow : Nat), .bool sl, .slice go' G.length gc', .slice vo' V.length vc'] _ rfl (unhide HR8) Tryz.underlying87 rfl (by kernel_rfl)) rfl ?_
   exact ⟨_, _, fk, rfl, (unhide HE).1, (unhide HE).2.1, (unhide HE).2.2.1, (unhide HE).2.2.2⟩
theorem RsAt.addG {w w' : World} {b : Nat} {s : RM} {q : RW} {M : Nat → Prop} (h : RsAt w b s q M) (c' : CM) (cv' g' v' : Value) (f' : Nat → Value)
  (hf : Fr (fun k => q.cv.ownBlock = some k ∨ k = b) w w')
  (hb : w'.heap[b]? = some (.cells #[q.sv, cv'] 66))
  (hch : w'.ownsRow 0 87 5 cv' (s.C ++ [c']).length (ccells (q.put s.C.length g' v' f') 0 (s.C ++ [c'])))
  (hgr : w'.ownsRow 0 31 1 g' c'.G.length (ncells c'.G))
  (hve : w'.ownsRow 0 110 4 v' c'.V.length (vcells f' 0 c'.V))
  (hfl : ∀ j v, c'.V[j]? = some v → FdM w' (fun k => M k ∨ cv'.ownBlock = some k ∨ v'.ownBlock = some k ∨ g'.ownBlock = some k) (f' j) v.F)
  (hcv : ∀ k, cv'.ownBlock = some k → q.cv.ownBlock = some k ∨ w.heap.size ≤ k) (hv : ∀ k, v'.ownBlock = some k → w.heap.size ≤ k) (hgn : ∀ k, g'.ownBlock = some k → w.heap.size ≤ k) :
  RsAt w' b ⟨s.S, s.C ++ [c']⟩ ⟨q.sv, cv', (q.put s.C.length g' v' f').gv, (q.put s.C.length g' v' f').vv, (q.put s.C.length g' v' f').fv⟩ (fun k => M k ∨ cv'.ownBlock = some k ∨ v'.ownBlock = some k ∨ g'.ownBlock = some k) := by
 have hSM : ∀ k, (q.cv.ownBlock = some k ∨ k = b) → M k := fun k hk => by
  rcases hk with hk | rfl
  ·exact h.mc k hk
  ·exact h.mb
 have hMM : ∀ k, (M k ∨ cv'.ownBlock = some k ∨ v'.ownBlock = some k ∨ g'.ownBlock = some k) → M k ∨ w.heap.size ≤ k := fun k hk => by
  rcases hk with hk | hk | hk | hk
  ·exact .inl hk
  ·rcases hcv k hk with h1 | h1
   ·exact .inl (h.mc k h1)
   ·exact .inr h1
  ·exact .inr (hv k hk)
  ·exact .inr (hgn k hk)
 have hget : ∀ j d, (s.C ++ [c'])[j]? = some d → (j = s.C.length ∧ d = c') ∨ (j ≠ s.C.length ∧ s.C[j]? = some d) := fun j d hd => by
  by_cases hj : j < s.C.length
  ·rw [List.getElem?_append_left hj] at hd
   exact .inr ⟨by omega, hd⟩
  ·rw [List.getElem?_append_right (by omega)] at hd
   obtain ⟨h1, h2⟩ := List.getElem?_eq_some_iff.1 hd
   simp only [List.length_singleton] at h1
   have h3 : j = s.C.length := by omega
   refine .inl ⟨h3, ?_⟩
   subst h3
   simpa using h2.symm
 have eg : ∀ j, j ≠ s.C.length → (q.put s.C.length g' v' f').gv j = q.gv j := fun j hj => if_neg hj
 have ev : ∀ j, j ≠ s.C.length → (q.put s.C.length g' v' f').vv j = q.vv j := fun j hj => if_neg hj
 have ef : ∀ j, j ≠ s.C.length → (q.put s.C.length g' v' f').fv j = q.fv j := fun j hj => if_neg hj
 have eg' : (q.put s.C.length g' v' f').gv s.C.length = g' := if_pos rfl
 have ev' : (q.put s.C.length g' v' f').vv s.C.length = v' := if_pos rfl
 have ef' : (q.put s.C.length g' v' f').fv s.C.length = f' := if_pos rfl
 have tgc : ∀ j d, s.C[j]? = some d → ∀ g, (q.gv j).ownBlock = some g → q.cv.ownBlock ≠ some g := fun j d hd => own_ne (h.gr j d hd) h.ch (by decide)
 have tvc : ∀ j d, s.C[j]? = some d → ∀ g, (q.vv j).ownBlock = some g → q.cv.ownBlock ≠ some g := fun j d hd => own_ne (h.ve j d hd) h.ch (by decide)
 refine ⟨hb, ?_, ?_, ?_, ?_, ?_, ?_, .inl h.mb, fun g hg1 => .inr (.inl hg1), ?_, ?_, ?_, ?_, ?_⟩
 ·exact h.st.frM hf (fun g o n c1 e h0 hk => h.sm g o n c1 e h0 (hSM g hk))
 ·intro g o n c1 e h0 hk
  rcases hMM g hk with h1 | h1
  ·exact h.sm g o n c1 e h0 h1
  ·have := h.st.ltg e h0
   omega
 ·have e : ∀ (C : List CM) (i0 : Nat), ccells ⟨q.sv, cv', (q.put s.C.length g' v' f').gv, (q.put s.C.length g' v' f').vv, (q.put s.C.length g' v' f').fv⟩ i0 C = ccells (q.put s.C.length g' v' f') i0 C := by
   intro C
   induction C with
   | nil => intro _; rfl
   | cons x r ih => intro i0; simp only [ccells]; rw [ih]
  rw [e]
  exact hch
 ·intro j d hd
  rcases hget j d hd with ⟨rfl, rfl⟩ | ⟨hj, hd⟩
  ·show w'.ownsRow 0 _ 1 ((q.put s.C.length g' v' f').gv s.C.length) _ _
   rw [eg']; exact hgr
  ·show w'.ownsRow 0 _ 1 ((q.put s.C.length g' v' f').gv j) _ _
   rw [eg j hj]
   refine ownsRow_of_block (h.gr j d hd) (fun g hg1 => hf.block g (h.lt g (h.mg j d hd g hg1)) (fun hk => ?_))
   rcases hk with hk | rfl
   ·exact tgc j d hd g hg1 hk
   ·exact blk_ne (h.gr j d hd) h.blk (by decide) hg1
 ·intro j d hd
  rcases hget j d hd with ⟨rfl, rfl⟩ | ⟨hj, hd⟩
  ·show w'.ownsRow 0 _ 4 ((q.put s.C.length g' v' f').vv s.C.length) _ (vcells ((q.put s.C.length g' v' f').fv s.C.length) 0 _)
   rw [ev', ef']; exact hve
  ·show w'.ownsRow 0 _ 4 ((q.put s.C.length g' v' f').vv j) _ (vcells ((q.put s.C.length g' v' f').fv j) 0 _)
   rw [ev j hj, ef j hj]
   refine ownsRow_of_block (h.ve j d hd) (fun g hg1 => hf.block g (h.lt g (h.mv j d hd g hg1)) (fun hk => ?_))
   rcases hk with hk | rfl
   ·exact tvc j d hd g hg1 hk
   ·exact blk_ne (h.ve j d hd) h.blk (by decide) hg1
 ·intro j d k v hd hv1
  rcases hget j d hd with ⟨rfl, rfl⟩ | ⟨hj, hd⟩
  ·show FdM w' _ ((q.put s.C.length g' v' f').fv s.C.length k) _
   rw [ef']; exact hfl k v hv1
  ·show FdM w' _ ((q.put s.C.length g' v' f').fv j k) _
   rw [ef j hj]
   exact (h.fl j d k v hd hv1).more hf hSM hMM
 ·intro j d hd g (hg1 : ((q.put s.C.length g' v' f').gv j).ownBlock = some g)
  rcases hget j d hd with ⟨rfl, rfl⟩ | ⟨hj, hd⟩
  ·rw [eg'] at hg1; exact .inr (.inr (.inr hg1))
  ·rw [eg j hj] at hg1; exact .inl (h.mg j d hd g hg1)
 ·intro j d hd g (hg1 : ((q.put s.C.length g' v' f').vv j).ownBlock = some g)
  rcases hget j d hd with ⟨rfl, rfl⟩ | ⟨hj, hd⟩
  ·rw [ev'] at hg1; exact .inr (.inr (.inl hg1))
  ·rw [ev j hj] at hg1; exact .inl (h.mv j d hd g hg1)
 ·intro j k d d2 hd hd2 hjk g (hg1 : ((q.put s.C.length g' v' f').gv j).ownBlock = some g) (hg2 : ((q.put s.C.length g' v' f').gv k).ownBlock = some g)
  rcases hget j d hd with ⟨rfl, rfl⟩ | ⟨hj, hd'⟩
  ·rcases hget k d2 hd2 with ⟨rfl, rfl⟩ | ⟨hk, hd2'⟩
   ·exact hjk rfl
   ·rw [eg'] at hg1; rw [eg k hk] at hg2
    have h1 := hgn g hg1
    have := h.lt g (h.mg k d2 hd2' g hg2)
    omega
  ·rcases hget k d2 hd2 with ⟨rfl, rfl⟩ | ⟨hk, hd2'⟩
   ·rw [eg'] at hg2; rw [eg j hj] at hg1
    have h1 := hgn g hg2
    have := h.lt g (h.mg j d hd' g hg1)
    omega
   ·rw [eg j hj] at hg1; rw [eg k hk] at hg2
    exact h.ag j k d d2 hd' hd2' hjk g hg1 hg2
 ·intro j k d d2 hd hd2 hjk g (hg1 : ((q.put s.C.length g' v' f').vv j).ownBlock = some g) (hg2 : ((q.put s.C.length g' v' f').vv k).ownBlock = some g)
  rcases hget j d hd with ⟨rfl, rfl⟩ | ⟨hj, hd'⟩
  ·rcases hget k d2 hd2 with ⟨rfl, rfl⟩ | ⟨hk, hd2'⟩
   ·exact hjk rfl
   ·rw [ev'] at hg1; rw [ev k hk] at hg2
    have h1 := hv g hg1
    have := h.lt g (h.mv k d2 hd2' g hg2)
    omega
  ·rcases hget k d2 hd2 with ⟨rfl, rfl⟩ | ⟨hk, hd2'⟩
   ·rw [ev'] at hg2; rw [ev j hj] at hg1
    have h1 := hv g hg2
    have := h.lt g (h.mv j d hd' g hg1)
    omega
   ·rw [ev j hj] at hg1; rw [ev k hk] at hg2
    exact h.av j k d d2 hd' hd2' hjk g hg1 hg2
 ·intro k hk
  rcases hk with hk | hk | hk | hk
  ·exact Nat.lt_of_lt_of_le (h.lt k hk) hf.size
  ·exact (hch.lt k hk).2
  ·exact (hve.lt k hk).2
  ·exact (hgr.lt k hk).2
theorem RW.uses_addG {q : RW} {s : RM} (c' : CM) (cv g' v : Value) (f : Nat → Value) {k : Nat} (h : RW.uses ⟨q.sv, cv, (q.put s.C.length g' v f).gv, (q.put s.C.length g' v f).vv, (q.put s.C.length g' v f).fv⟩ ⟨s.S, s.C ++ [c']⟩ k) : q.uses s k ∨ ∃ j u, c'.V[j]? = some u ∧ ∃ o n m, f j = .slice (some ⟨k, o, none⟩) n m ∧ 0 < n := by
 rcases h with h | ⟨j, d, jj, u, hd, hu, ho⟩
 ·exact .inl (.inl h)
 ·have ho' : ∃ o n m, (q.put s.C.length g' v f).fv j jj = .slice (some ⟨k, o, none⟩) n m ∧ 0 < n := ho
  by_cases hj : j < s.C.length
  ·have hd' : (s.C ++ [c'])[j]? = some d := hd
   rw [List.getElem?_append_left hj] at hd'
   have e : (q.put s.C.length g' v f).fv j = q.fv j := if_neg (by omega)
   rw [e] at ho'
   exact .inl (.inr ⟨j, d, jj, u, hd', hu, ho'⟩)
  ·have hd' : (s.C ++ [c'])[j]? = some d := hd
   rw [List.getElem?_append_right (by omega)] at hd'
   obtain ⟨h1, h2⟩ := List.getElem?_eq_some_iff.1 hd'
   simp only [List.length_singleton] at h1
   have h3 : j = s.C.length := by omega
   subst h3
   have h4 : d = c' := by simpa using h2.symm
   subst h4
   have e : (q.put s.C.length g' v f).fv s.C.length = f := if_pos rfl
   rw [e] at ho'
   exact .inr ⟨jj, u, hu, ho'⟩
theorem run_append_nil_none {P : Program} {w : World} (t ty e : TypeId) (i : TypeInfo) (c : Nat) (ht : P.underlying t = some (.slice e)) (hi : P.info? e = some i) : (Builtin.append_ #[t, t] ty #[.slice none 0 0, .slice none 0 c]).run P w = .ok (.slice none 0 0) w := by
 simp [Builtin.append_, run_underlying ht, sizeOf, typeInfo, hi, Builtin.lenOf, Builtin.firstCells]
theorem app_stfX (w : World) (x : Value) (l : List P3) (hx : Stf w x l) (hl : l.length ≤ 1000000) :
  ∃ v w', (Builtin.append_ #[22, 22] 22 #[.slice none 0 0, x]).run Tryz.prog w = .ok v w' ∧ w'.ownsRow w.heap.size 33 3 v l.length (pcells l) ∧ Fr (fun _ => False) w w' := by
 obtain ⟨xo, xc, rfl⟩ := hx.form
 cases xo with
 | none =>
  obtain ⟨i0, hi, hz0, hz1, hz2⟩ := info_parts Tryz.infoStf
  have h0 : l = [] := by
   rcases hx with ⟨_, _, _, h⟩ | ⟨g, o, c, h, _⟩
   ·exact h
   ·cases h
  subst h0
  exact ⟨.slice none 0 0, w, run_append_nil_none (P := Tryz.prog) 22 22 33 i0 xc Tryz.underlying22 hi, World.ownsRow_nil _ _ _ _, Fr.refl _ _⟩
 | some a => exact app_stf w _ l hx (fun n c e => by cases e) hl
set_option maxRecDepth 100000 in
theorem newX_B (x : Value) (S : List P3) (w : World) (hx : Stf w x S) (hl : S.length ≤ 1000000) :
  Calls Tryz.prog 8 #[x] w fun e w' => ∃ b, e = .returned (.pointer (some ⟨b, 0, none⟩)) ∧ RsB w' b (fun k => w.heap.size ≤ k ∧ k < w'.heap.size) ⟨S, []⟩ ∧ Fr (fun _ => False) w w' := by
 obtain ⟨v, w1, hr, ho, hf⟩ := app_stfX w x S hx hl
 obtain ⟨xo, xc, rfl⟩ := hx.form
 obtain ⟨vo, vc, rfl⟩ := own_formX ho
 have HR := hide hr
 have H1 := hide (And.intro ho hf)
 clear hr ho hf hx
 go_enter Tryz.func8, Tryz.ntmps8
 go_wp2_with (at_builtin; refine wpList_app rfl _ _ 22 22 rfl _ _ _ rfl rfl (unhide HR) ?_; clear HR)
 go_ret
 have hbx := box1 w1 (.cells #[.slice vo S.length vc, .slice none 0 0] 66)
 have hs1 := (unhide H1).2.size
 have hown : ∀ g o n c, Value.slice vo S.length vc = .slice (some ⟨g, o, none⟩) n c → w.heap.size ≤ g ∧ g < w1.heap.size := fun g o n c e => (unhide H1).1.lt g (by rw [e]; rfl)
 refine ⟨w1.heap.size, rfl, ⟨⟨.slice vo S.length vc, .slice none 0 0, fun _ => .slice none 0 0, fun _ => .slice none 0 0, fun _ _ => .slice none 0 0⟩, fun k => k = w1.heap.size, ⟨Array.getElem?_push_size, (own_stf (unhide H1).1).fr hbx, fun g o n c e h0 hM => ?_, World.ownsRow_nil _ _ _ _, fun i c hc => (by simp at hc), fun i c hc => (by simp at hc), fun i c j v hc => (by simp at hc), rfl, fun g hg => (by cases hg), fun i c hc => (by simp at hc), fun i c hc => (by simp at hc), fun i j c d hc => (by simp at hc), fun i j c d hc => (by simp at hc), fun k hk => (by subst hk; simp)⟩, fun k hk => ?_, fun k hk => ?_⟩, (unhide H1).2.trans hbx (fun _ _ h => h)⟩
 ·have := (hown g o n c e).2
  omega
 ·subst hk
  exact ⟨hs1, by simp⟩
 ·rcases hk with ⟨o, n, c, e, _⟩ | ⟨i, c, j, v, hc, _⟩
  ·have := hown k o n c e
   exact ⟨this.1, by simp; omega⟩
  ·simp at hc
theorem copy_end {wr W7 Wb w4 W8 : World} {b B : Nat} {S : List P3} {D : List CM} {q : RW} {M : Nat → Prop} {c : CM} {g' v' nv : Value} {f' : Nat → Value} (h : RsAt wr b ⟨S, D⟩ q M)
  (hf : Fr (fun _ => False) wr W7) (hg : W7.ownsRow wr.heap.size 31 1 g' c.G.length (ncells c.G)) (hv : W7.ownsRow wr.heap.size 110 4 v' c.V.length (vcells f' 0 c.V)) (ho : ∀ j u, c.V[j]? = some u → OwF W7 wr.heap.size (f' j) u.F)
  (fWb : Fr (fun _ => False) W7 Wb)
  (h4o : w4.ownsRow 0 87 5 nv (D.length + 1) (ccells q 0 D ++ [.int .u32 (c.wa : Nat), .int .u32 (c.ow : Nat), .bool c.sl, g', v'])) (h4f : Fr (fun g => q.cv.ownBlock = some g) Wb w4) (h4b : ∀ g, nv.ownBlock = some g → q.cv.ownBlock = some g ∨ Wb.heap.size ≤ g)
  (h8 : Fr (fun k => k = b) w4 W8) (hb8 : W8.heap[b]? = some (.cells #[q.sv, nv] 66)) (hM : ∀ k, M k → B ≤ k) (hU : ∀ k, q.uses ⟨S, D⟩ k → B ≤ k) (hB : B ≤ wr.heap.size) :
  (∃ q2 M2, RsAt W8 b ⟨S, D ++ [c]⟩ q2 M2 ∧ (∀ k, M2 k → B ≤ k) ∧ (∀ k, q2.uses ⟨S, D ++ [c]⟩ k → B ≤ k)) ∧ Fr (fun k => B ≤ k) wr W8 := by
 have f0b : Fr (fun _ => False) wr Wb := hf.trans fWb (fun _ _ h => h)
 have hbl := h.lt b h.mb
 have hcl : ∀ g, q.cv.ownBlock = some g → g < wr.heap.size := fun g hg => h.lt g (h.mc g hg)
 have f04 : Fr (fun g => q.cv.ownBlock = some g) wr w4 := (f0b.mono (fun _ _ h => h.elim)).trans h4f (fun _ _ h => h)
 have f08 : Fr (fun k => q.cv.ownBlock = some k ∨ k = b) wr W8 := (f04.mono (fun _ _ h => .inl h)).trans h8 (fun i hi h => .inr h)
 have b4 : w4.heap[b]? = some (.cells #[q.sv, q.cv] 66) := (f04.block b hbl (blk_ne h.ch h.blk (by decide))).trans h.blk
 have keep : ∀ {e size n : Nat} {v : Value} {xs : List Value}, W7.ownsRow wr.heap.size e size v n xs → W8.ownsRow wr.heap.size e size v n xs := fun {e size n v xs} hr => by
  refine ownsRow_of_block hr (fun g hg => ?_)
  have h1 := (hr.lt g hg).1
  have h2 := (hr.lt g hg).2
  have e3 := fWb.block g h2 (fun h => h)
  have e4 := h4f.block g (Nat.lt_of_lt_of_le h2 fWb.size) (fun hk => by have := hcl _ hk; omega)
  rw [← e3, ← e4]
  exact h8.block g (Nat.lt_of_lt_of_le (Nat.lt_of_lt_of_le h2 fWb.size) h4f.size) (fun hk => by omega)
 have hg8 := keep hg
 have hv8 := keep hv
 have ho8 : ∀ j u, c.V[j]? = some u → OwF W8 wr.heap.size (f' j) u.F := fun j u hu => keep (ho j u hu)
 have hch : W8.ownsRow 0 87 5 nv (D.length + 1) (ccells q 0 D ++ [.int .u32 (c.wa : Nat), .int .u32 (c.ow : Nat), .bool c.sl, g', v']) := ownsRow_of_block h4o (fun g hg => h8.block g (h4o.lt g hg).2 (fun hk => by subst hk; exact blk_ne h4o b4 (by decide) hg))
 have hnv : ∀ k, nv.ownBlock = some k → q.cv.ownBlock = some k ∨ wr.heap.size ≤ k := fun k hk => (h4b k hk).imp id (fun h1 => Nat.le_trans f0b.size h1)
 have hvv : ∀ k, v'.ownBlock = some k → wr.heap.size ≤ k := fun k hk => (hv8.lt k hk).1
 have hgg : ∀ k, g'.ownBlock = some k → wr.heap.size ≤ k := fun k hk => (hg8.lt k hk).1
 have hadd := h.addG (w' := W8) c nv g' v' f' f08 hb8
  (by
   show W8.ownsRow 0 87 5 nv (D ++ [c]).length (ccells (q.put D.length g' v' f') 0 (D ++ [c]))
   rw [ccells_app, Nat.zero_add, ccells_off q D.length _ _ _ D 0 (.inr (by omega)), List.length_append, List.length_singleton]
   simp only [RW.put, if_true]
   exact hch)
  (ownsRow_base hg8 (Nat.zero_le _)) (ownsRow_base hv8 (Nat.zero_le _)) (fun j v hv => by
   have hoF := ho8 j v hv
   refine hoF.fdm (fun g hg hM => ?_)
   have h1 : wr.heap.size ≤ g := (hoF.lt g hg).1
   rcases hM with hM | hM | hM | hM
   ·have := h.lt g hM; omega
   ·exact own_ne hoF hch (by decide) g hg hM
   ·exact own_ne hoF hv8 (by decide) g hg hM
   ·exact own_ne hoF hg8 (by decide) g hg hM) hnv hvv hgg
 refine ⟨⟨_, _, hadd, fun k hk => ?_, fun k hk => ?_⟩, f08.mono (fun k _ hk => ?_)⟩
 ·rcases hk with hk | hk | hk | hk
  ·exact hM k hk
  ·rcases hnv k hk with h1 | h1
   ·exact hM k (h.mc k h1)
   ·omega
  ·have := hvv k hk; omega
  ·have := hgg k hk; omega
 ·rcases RW.uses_addG _ _ _ _ _ hk with h1 | ⟨j, u, hu, o, n, m, e, _⟩
  ·exact hU k h1
  ·have : wr.heap.size ≤ k := ((ho8 j u hu).lt k (by rw [e]; rfl)).1
   omega
 ·rcases hk with hk | rfl
  ·exact hM k (h.mc k hk)
  ·exact hM k h.mb
set_option maxHeartbeats 4000000 in
set_option maxRecDepth 100000 in
theorem rcopy_any (b : Nat) (T : Nat → Prop) (s : RM) (w : World) (h : RsB w b T s) (hS : s.S.length ≤ 1000000) (hok : s.Ok) :
  Calls Tryz.prog 19 #[.pointer (some ⟨b, 0, none⟩)] w fun e w' => ∃ b', e = .returned (.pointer (some ⟨b', 0, none⟩)) ∧ RsB w' b' (fun k => w.heap.size ≤ k ∧ k < w'.heap.size) s ∧ Fr (fun _ => False) w w' := by
 obtain ⟨q, M, h, _, _⟩ := h
 obtain ⟨so, sc, hse⟩ := h.st.form
 obtain ⟨co, cc, hce⟩ := own_formX h.ch
 have HN := hide (newX_B q.sv s.S w h.st hS)
 have c0 : w.cell? ⟨b, 0, none⟩ = some (.slice so s.S.length sc) := by rw [← hse]; exact h.cells.1
 have HSV : Hid (∀ W, Fr (fun _ => False) w W → RsAt W b s q M) := fun W hW => h.fr hW
 have HCE := hide hce
 have HOK := hide hok
 have hC := hok.C
 rw [hse] at HN
 clear h hse hce hok
 go_enter Tryz.func19, Tryz.ntmps19
 go_wp2_with fail
 refine (unhide HN).mono ?_
 rintro e w1 ⟨b1, rfl, ⟨q1, M1, h1, m1, u1⟩, hf1⟩
 have c1 : w1.cell? ⟨b, 1, none⟩ = some (.slice co s.C.length cc) := by rw [← unhide HCE]; exact ((unhide HSV) w1 hf1).cells.2.1
 have HI := hide (show RsAt w1 b1 ⟨s.S, s.C.take 0⟩ q1 M1 ∧ (∀ k, M1 k → w.heap.size ≤ k) ∧ (∀ k, q1.uses ⟨s.S, s.C.take 0⟩ k → w.heap.size ≤ k) ∧ Fr (fun _ => False) w w1 from ⟨h1, fun k hk => (m1 k hk).1, fun k hk => (u1 k hk).1, hf1⟩)
 clear h1 m1 u1 hf1 HN c0
 go_wp2_with fail
 clear c1
 go_loopw [16] (fun kv wr => ∃ (k : Nat) (q' : RW) (M' : Nat → Prop), k ≤ s.C.length ∧ kv = .int .i64 (k : Nat) ∧ RsAt wr b1 ⟨s.S, s.C.take k⟩ q' M' ∧ (∀ i, M' i → w.heap.size ≤ i) ∧ (∀ i, q'.uses ⟨s.S, s.C.take k⟩ i → w.heap.size ≤ i) ∧ Fr (fun _ => False) w wr) (fun kv _ => s.C.length - (intOf kv).toNat)
 case atStart => exact ⟨0, q1, M1, Nat.zero_le _, rfl, unhide HI⟩
 case round =>
  clear HI
  obtain ⟨k, q', M', hk, rfl, hr, hM, hU, hf⟩ := hrel
  by_cases hlt : k < s.C.length
  ·obtain ⟨c, hc⟩ : ∃ c, s.C[k]? = some c := ⟨_, List.getElem?_eq_getElem hlt⟩
   have hcm := List.mem_of_getElem? hc
   have h0 := (unhide HSV) wr hf
   have hch := h0.ch
   rw [unhide HCE] at hch
   obtain ⟨cg, cc2, he, _, _⟩ := hch.form (by omega)
   cases he
   obtain ⟨p0, p1, p2, p3, p4⟩ := ccells_at q s.C 0 k c hc
   rw [Nat.zero_add] at p3 p4
   obtain ⟨go, gc, hge⟩ := own_formX (h0.gr k c hc)
   obtain ⟨vo, vc, hve⟩ := own_formX (h0.ve k c hc)
   rw [hge] at p3
   rw [hve] at p4
   have v0 := (hch.cellAt (k * 5) (by omega)).trans p0
   have v1 := (hch.cellAt (k * 5 + 1) (by omega)).trans p1
   have v2 := (hch.cellAt (k * 5 + 2) (by omega)).trans p2
   have v3 := (hch.cellAt (k * 5 + 3) (by omega)).trans p3
   have v4 := (hch.cellAt (k * 5 + 4) (by omega)).trans p4
   have htk : (s.C.take k).length = k := by rw [List.length_take]; omega
   obtain ⟨co', cc', hcv⟩ := own_formX hr.ch
   have hcv : q'.cv = .slice co' k cc' := by rw [hcv]; show Value.slice co' (s.C.take k).length cc' = _; rw [htk]
   obtain ⟨z, hz⟩ : ∃ z, z = wr.heap.size := ⟨_, rfl⟩
   obtain ⟨W6, hW6⟩ : ∃ W6, W6 = wr.alloc (.cells #[.int .u32 (c.wa : Nat), .int .u32 (c.ow : Nat), .bool c.sl, .slice go c.G.length gc, .slice vo c.V.length vc] 87) := ⟨_, rfl⟩
   have f6 : Fr (fun _ => False) wr W6 := by rw [hW6]; exact box1 wr _
   have kz : W6.heap[z]? = some (.cells #[.int .u32 (c.wa : Nat), .int .u32 (c.ow : Nat), .bool c.sl, .slice go c.G.length gc, .slice vo c.V.length vc] 87) := by rw [hW6, hz]; exact Array.getElem?_push_size
   have HR := hide (And.intro hr (And.intro hM (And.intro hU (And.intro hf (And.intro f6 (And.intro kz (And.intro hz hcv)))))))
   have HS6 : Hid (∀ W, Fr (fun _ => False) W6 W → W.cell? ⟨b1, 1, none⟩ = some (.slice co' k cc') ∧ W.cell? ⟨z, 0, none⟩ = some (.int .u32 (c.wa : Nat)) ∧ W.cell? ⟨z, 1, none⟩ = some (.int .u32 (c.ow : Nat)) ∧ W.cell? ⟨z, 2, none⟩ = some (.bool c.sl) ∧ W.cell? ⟨z, 3, none⟩ = some (.slice go c.G.length gc) ∧ W.cell? ⟨z, 4, none⟩ = some (.slice vo c.V.length vc)) := fun W hW => by
    have h1 := (hr.fr (f6.trans hW (fun _ _ h => h))).cells.2.1
    rw [hcv] at h1
    have h2 := (hW.block z (lt_of_block kz) (fun h => h)).trans kz
    exact ⟨h1, by simp [World.cell?, h2], by simp [World.cell?, h2], by simp [World.cell?, h2], by simp [World.cell?, h2], by simp [World.cell?, h2]⟩
   have HCl : Hid (∀ W, Fr (fun _ => False) W6 W → Calls Tryz.prog 32 #[.agg #[.int .u32 (c.wa : Nat), .int .u32 (c.ow : Nat), .bool c.sl, .slice go c.G.length gc, .slice vo c.V.length vc]] W fun e w' => ∃ gv' vv' f', e = .returned (.agg #[.int .u32 (c.wa : Nat), .int .u32 (c.ow : Nat), .bool c.sl, gv', vv']) ∧ w'.ownsRow W.heap.size 31 1 gv' c.G.length (ncells c.G) ∧ w'.ownsRow W.heap.size 110 4 vv' c.V.length (vcells f' 0 c.V) ∧ (∀ j u, c.V[j]? = some u → OwF w' W.heap.size (f' j) u.F) ∧ Fr (fun _ => False) W w') := fun W hW => by
    have h1 := h0.fr (f6.trans hW (fun _ _ h => h))
    have hco := (unhide HOK).c c hcm
    have hgl := rise_len c.G 0 (fun k hk => ⟨Nat.zero_le _, hco.g k hk⟩) hco.G
    have r1 := h1.gr k c hc
    have r2 := h1.ve k c hc
    rw [hge] at r1
    rw [hve] at r2
    exact ccopied_any c.wa c.ow c.sl _ _ c.G c.V (q.fv k) M W r1 r2 (fun j u hu => ⟨h1.fl k c j u hc hu, by have := (hco.F u (List.mem_of_getElem? hu)).1; omega⟩) (by omega) hco.V
   have HUU := hide (And.intro hc htk)
   have hkl : (k : Int) < (s.C.length : Int) := by omega
   have hlt' := hide hlt
   clear hr hM hU hf hcm h0 hch p0 p1 p2 p3 p4 hge hve f6 kz hk hc hlt htk hcv
   go_wp2_with fail
   rw [← hW6]
   (try rw [← hz])
   clear hW6 hz v0 v1 v2 v3 v4
   refine wp_region_last (n := 11) (m := 11) (S := (fun W => W.cell? ⟨b1, 1, none⟩ = some (.slice co' k cc') ∧ W.cell? ⟨z, 0, none⟩ = some (.int .u32 (c.wa : Nat)) ∧ W.cell? ⟨z, 1, none⟩ = some (.int .u32 (c.ow : Nat)) ∧ W.cell? ⟨z, 2, none⟩ = some (.bool c.sl) ∧ W.cell? ⟨z, 3, none⟩ = some (.slice go c.G.length gc) ∧ W.cell? ⟨z, 4, none⟩ = some (.slice vo c.V.length vc))) (by kernel_rfl) rfl rfl rfl (by kernel_rfl) (by kernel_rfl) ((unhide HS6) _ (Fr.refl _ _).drew) (fun hHeld => ?_)
   refine wtk2 (i := 0) rfl hHeld ?_
   (try simp only [Act.put, nrm])
   refine wtk2 (i := 1) rfl hHeld ?_
   (try simp only [Act.put, nrm])
   refine wtk2 (i := 2) rfl hHeld ?_
   (try simp only [Act.put, nrm])
   refine wtk2 (i := 3) rfl hHeld ?_
   (try simp only [Act.put, nrm])
   refine wtk2 (i := 4) rfl hHeld ?_
   (try simp only [Act.put, nrm])
   refine wtk2 (i := 5) rfl hHeld ?_
   (try simp only [Act.put, nrm])
   refine wpAnyH_ready (rs := [6]) (by kernel_rfl) (by simp) (AllReadyH.cons rfl (fun K hK => ?_) (AllReadyH.nil))
   go_simp
   refine ((unhide HCl) _ (Fr.refl _ _).drew).mono ?_
   rintro e w7 ⟨g7, v7, f', rfl, hg7, hv7, ho7, f7⟩
   have f67 := (Fr.refl (fun _ => False) W6).drew.trans f7 (fun _ _ h => h)
   obtain ⟨go', gc', rfl⟩ := own_formX hg7
   obtain ⟨vo', vc', rfl⟩ := own_formX hv7
   have h6s : W6.drew.heap.size = W6.heap.size := rfl
   obtain ⟨hr, hM, hU, hf, f6, kz, hz, hcv⟩ := unhide HR
   have f07 : Fr (fun _ => False) wr w7 := f6.trans f67 (fun _ _ h => h)
   have h7s : wr.heap.size ≤ W6.heap.size := f6.size
   obtain ⟨Wb, hWb⟩ : ∃ Wb, Wb = w7.alloc (.cells #[.int .u32 (c.wa : Nat), .int .u32 (c.ow : Nat), .bool c.sl, .slice go' c.G.length gc', .slice vo' c.V.length vc'] 87) := ⟨_, rfl⟩
   have f7b : Fr (fun _ => False) w7 Wb := by rw [hWb]; exact box1 w7 _
   have hrow : Wb.ownsRow 0 87 5 (.slice co' k cc') k (ccells q' 0 (s.C.take k)) := by
    have h1 := (hr.fr (f07.trans f7b (fun _ _ h => h))).ch
    rw [hcv] at h1
    rw [show k = (s.C.take k).length from (unhide HUU).2.symm] at h1 ⊢
    simpa only [(unhide HUU).2] using h1
   obtain ⟨ao2, cap2, w4, hr4, ho4, hf4, hbk4⟩ := app_chart Wb w7.heap.size (.slice co' k cc') k (ccells q' 0 (s.C.take k)) (.int .u32 (c.wa : Nat)) (.int .u32 (c.ow : Nat)) (.bool c.sl) (.slice go' c.G.length gc') (.slice vo' c.V.length vc') hrow (by have := unhide hlt'; omega) (by rw [hWb]; exact Array.getElem?_push_size) (fun u hu => by simp at hu; rcases hu with rfl | rfl | rfl | rfl | rfl <;> rfl)
   have hbl := hr.lt b1 hr.mb
   rw [← hcv] at hf4 hbk4
   have f4 : Fr (fun g => q'.cv.ownBlock = some g) wr w4 := ((f07.trans f7b (fun _ _ h => h)).mono (fun _ _ h => h.elim)).trans hf4 (fun _ _ h => h)
   have b4 : w4.heap[b1]? = some (.cells #[q'.sv, q'.cv] 66) := (f4.block b1 hbl (fun hk => blk_ne hr.ch hr.blk (by decide) hk)).trans hr.blk
   have z4 : w4.heap[z]? = some (.cells #[.int .u32 (c.wa : Nat), .int .u32 (c.ow : Nat), .bool c.sl, .slice go c.G.length gc, .slice vo c.V.length vc] 87) := by
    have h1 := ((f67.trans f7b (fun _ _ h => h)).block z (lt_of_block kz) (fun h => h)).trans kz
    exact (hf4.block z (lt_of_block h1) (fun hk => by have := hr.lt z (hr.mc z hk); omega)).trans h1
   have HS4 : Hid ((fun W : World => W.cell? ⟨b1, 1, none⟩ = some (.slice co' k cc') ∧ W.cell? ⟨z, 0, none⟩ = some (.int .u32 (c.wa : Nat)) ∧ W.cell? ⟨z, 1, none⟩ = some (.int .u32 (c.ow : Nat)) ∧ W.cell? ⟨z, 2, none⟩ = some (.bool c.sl) ∧ W.cell? ⟨z, 3, none⟩ = some (.slice go c.G.length gc) ∧ W.cell? ⟨z, 4, none⟩ = some (.slice vo c.V.length vc)) w4) := by
    refine ⟨by rw [← hcv]; simp [World.cell?, b4], by simp [World.cell?, z4], by simp [World.cell?, z4], by simp [World.cell?, z4], by simp [World.cell?, z4], by simp [World.cell?, z4]⟩
   have HFIN : Hid (∀ W8, Fr (fun k => k = b1) w4 W8 → W8.heap[b1]? = some (.cells #[q'.sv, .slice ao2 (k + 1) cap2] 66) → (∃ q2 M2, RsAt W8 b1 ⟨s.S, s.C.take (k + 1)⟩ q2 M2 ∧ (∀ i, M2 i → w.heap.size ≤ i) ∧ (∀ i, q2.uses ⟨s.S, s.C.take (k + 1)⟩ i → w.heap.size ≤ i)) ∧ Fr (fun _ => False) w W8) := fun W8 h8 hb8 => by
    have ht : s.C.take (k + 1) = s.C.take k ++ [c] := by rw [List.take_add_one, (unhide HUU).1]; rfl
    have h1 := copy_end (c := c) (B := w.heap.size) hr f07 (ownsRow_base hg7 (by omega)) (ownsRow_base hv7 (by omega)) (fun j u hu => ownsRow_base (ho7 j u hu) (by omega)) f7b (by rw [(unhide HUU).2]; exact ho4) hf4 hbk4 h8 hb8 hM hU hf.size
    rw [ht]
    exact ⟨h1.1, hf.absorb h1.2 (fun i hi => hi)⟩
   have HB4 := hide b4
   have HR4 := hide hr4
   have F67 := hide f67
   have F7B := hide (f67.trans f7b (fun _ _ h => h))
   rw [hWb] at HR4 F7B
   clear hg7 hv7 ho7 f7 f67 h6s hr hM hU hf f6 kz hz hcv f07 h7s hWb f7b hrow hr4 ho4 hf4 hbk4 hbl f4 b4 z4
   go_simp
   refine hK.out _ _ ((unhide HS6) _ (unhide F67)) (fun hHeld => ?_)
   clear hK K
   (try simp only [Act.put, nrm])
   refine wpAnyH_ready (rs := [7]) (by kernel_rfl) (by simp) (AllReadyH.cons rfl (fun K hK => ?_) (AllReadyH.nil))
   go_simp
   refine hK.out _ _ ((unhide HS6) _ (unhide F7B)) (fun hHeld => ?_)
   clear hK K
   (try simp only [Act.put, nrm])
   refine wpAnyH_ready (rs := [8]) (by kernel_rfl) (by simp) (AllReadyH.cons rfl (fun K hK => ?_) (AllReadyH.nil))
   refine step_app rfl (.tmp 24) (.tmp 27) 64 64 rfl _ _ _ (by simp [Act.eval]) (by simp [Act.eval]) (unhide HR4) ?_
   refine hK.out _ _ (unhide HS4) (fun hHeld => ?_)
   clear hK K
   (try simp only [Act.put, nrm])
   refine wtk2 (i := 9) rfl hHeld ?_
   (try simp only [Act.put, nrm])
   refine wtk2 (i := 10) rfl hHeld ?_
   (try simp only [Act.put, nrm])
   refine wpAnyH_done (by kernel_rfl) ?_ _
   have c4 := (unhide HS4).1
   have z4 : w4.frozen? ⟨b1, 1, none⟩ = false := by simp [World.frozen?, unhide HB4]
   simp only [lastQ]
   go_simp
   generalize hW8 : w4.setCell ⟨b1, 1, none⟩ (.slice ao2 (k + 1) cap2) = W8
   have b8 : W8.heap[b1]? = some (.cells #[q'.sv, .slice ao2 (k + 1) cap2] 66) := by rw [← hW8]; exact heap_setCell_same w4 b1 1 #[q'.sv, q'.cv] _ _ (unhide HB4)
   have f8 : Fr (fun k => k = b1) w4 W8 := by rw [← hW8]; exact (Fr.refl (fun k => k = b1) w4).setCell (p := ⟨b1, 1, none⟩) (.inl rfl) _
   have HE := hide ((unhide HFIN) W8 f8 b8)
   have hlt := unhide hlt'
   clear hHeld HS6 HS4 HCl HR HUU HFIN HB4 HR4 F67 F7B c4 z4 hW8 b8 f8
   go_wp2_with fail
   go_roundw
   case rel =>
    obtain ⟨⟨q2, M2, e1, e2, e3⟩, e4⟩ := unhide HE
    exact ⟨k + 1, q2, M2, hlt, by go_num, e1, e2, e3, e4⟩
   case measure => simp [intOf]; omega
  ·obtain rfl : k = s.C.length := by omega
   rw [List.take_length] at hr hU
   have HE := hide (show RsB wr b1 (fun k => w.heap.size ≤ k ∧ k < wr.heap.size) s ∧ Fr (fun _ => False) w wr from ⟨⟨q', M', hr, fun i hi => ⟨hM i hi, hr.lt i hi⟩, fun i hi => ⟨hU i hi, hr.usesLt hi⟩⟩, hf⟩)
   clear hr hM hU hf hk
   go_wp2_with fail
   go_ret
   exact ⟨b1, rfl, unhide HE⟩
structure AnsL (w : World) (base : Nat) (T : Nat → Prop) (l : List (RQ × List F5)) (xs : List RA) (ov : Value) (al0 : List AN) : Prop where
 o : w.ownsRow base 45 7 ov al0.length (acells al0)
 ot : ∀ g, ov.ownBlock = some g → ¬ T g
 n : al0.length = xs.length
 a : ∀ (i : Nat) (a : AN), al0[i]? = some a → ∃ (p : RQ × List F5) (x : RA), l[i]? = some p ∧ xs[i]? = some x ∧ AnOk w base T p.1 a x
structure AI (w wr : World) (b : Nat) (y : Value) (l : List (RQ × List F5)) (s0 : RM) (j : Nat) (ov : Value) (T : Nat → Prop) (al0 : List AN) : Prop where
 r : RsB wr b T (endM s0 0 (l.take j))
 t : ∀ k, T k → w.heap.size ≤ k ∧ k < wr.heap.size
 q : Rqs wr y l
 lo : ∀ k, Rqb y l k → k < w.heap.size
 u : GU wr
 uv : 1 < w.heap.size
 al : AnsL wr w.heap.size T l (runM s0 0 (l.take j)) ov al0
 f : Fr (fun _ => False) w wr
theorem AI.step {w wr W : World} {b j : Nat} {y ov : Value} {l : List (RQ × List F5)} {s0 : RM} {T : Nat → Prop} {al0 : List AN} (h : AI w wr b y l s0 j ov T al0) (hf : Fr (fun _ => False) wr W) : AI w W b y l s0 j ov T al0 :=
 ⟨h.r.fr hf, fun k hk => ⟨(h.t k hk).1, Nat.lt_of_lt_of_le (h.t k hk).2 hf.size⟩, h.q.fr hf, h.lo, h.u.fr hf, h.uv, ⟨ownsRow_of_block h.al.o (fun g hg => hf.block g (h.al.o.lt g hg).2 (fun h => h)), h.al.ot, h.al.n, fun i a ha => by
  obtain ⟨p, x, h1, h2, h3⟩ := h.al.a i a ha
  exact ⟨p, x, h1, h2, h3.frS hf (fun _ _ h => h) (fun _ _ h => h)⟩⟩, h.f.trans hf (fun _ _ h => h)⟩
theorem AI.next {w W8 w3 : World} {b j : Nat} {y ov : Value} {l : List (RQ × List F5)} {s0 : RM} {T T' : Nat → Prop} {al0 : List AN} {p : RQ × List F5} {X : RM × RA} {fv hv : Value} (h : AI w W8 b y l s0 j ov T al0) (hp : l[j]? = some p) (hX : (endM s0 0 (l.take j)).step p.1 p.2 j = X) (hf : Fr T W8 w3)
  (hr : RsB w3 b T' X.1) (k2 : ∀ k, T' k → T k ∨ W8.heap.size ≤ k) (k3 : ∀ k, T' k → k < w3.heap.size) (hof : OwF w3 W8.heap.size fv X.2.F) (hos : OwS w3 W8.heap.size hv X.2.H) (tf : ∀ g, fv.ownBlock = some g → ¬ T' g) (th : ∀ g, hv.ownBlock = some g → ¬ T' g) (hfo : fv.oneCell' = true) (hho : hv.oneCell' = true) (hl : l.length ≤ 1000000000) :
  ∃ ao cap w7, (Builtin.append_ #[58, 58] 58 #[ov, .slice (some ⟨w3.heap.size, 0, none⟩) 1 1]).run Tryz.prog (w3.alloc (.cells (AN.mk p.1.cl p.1.nu X.2.co X.2.rc X.2.ve fv hv).cs.toArray 45)) = .ok (.slice ao (al0.length + 1) cap) w7 ∧ AI w w7 b y l s0 (j + 1) (.slice ao (al0.length + 1) cap) T' (al0 ++ [AN.mk p.1.cl p.1.nu X.2.co X.2.rc X.2.ve fv hv]) := by
 have hj : j < l.length := (List.getElem?_eq_some_iff.1 hp).1
 have hs := h.f.size
 have hs3 := hf.size
 have htk : (l.take j).length = j := by simp; omega
 have hasl : al0.length = j := by rw [h.al.n, runM_len, htk]
 have ho3 : w3.ownsRow w.heap.size 45 7 ov al0.length (acells al0) := ownsRow_of_block h.al.o (fun g hg => hf.block g (h.al.o.lt g hg).2 (h.al.ot g hg))
 obtain ⟨Wd, hWd⟩ : ∃ Wd, Wd = w3.alloc (.cells (AN.mk p.1.cl p.1.nu X.2.co X.2.rc X.2.ve fv hv).cs.toArray 45) := ⟨_, rfl⟩
 have f3d : Fr (fun _ => False) w3 Wd := by rw [hWd]; exact box1 w3 _
 have hod : Wd.ownsRow w.heap.size 45 7 ov al0.length (acells al0) := by rw [hWd]; exact ho3.alloc _
 obtain ⟨ao, cap, w7, hr7, ho7, hf7, hn7⟩ := app_ans Wd w.heap.size w3.heap.size ov al0 (AN.mk p.1.cl p.1.nu X.2.co X.2.rc X.2.ve fv hv) hod (by have := f3d.size; omega) (by omega) (by rw [hWd]; exact Array.getElem?_push_size) (fun u hu => by
  simp only [AN.cs, List.mem_cons, List.not_mem_nil, or_false] at hu
  rcases hu with rfl | rfl | rfl | rfl | rfl | rfl | rfl
  ·rfl
  ·rfl
  ·rfl
  ·rfl
  ·rfl
  ·exact hfo
  ·exact hho)
 have hovn : ∀ g, ov.ownBlock = some g → g < W8.heap.size := fun g hg => (h.al.o.lt g hg).2
 have hov' : ∀ g, ov.ownBlock = some g → ¬ T' g := fun g hg hT => by
  rcases k2 g hT with h1 | h1
  ·exact h.al.ot g hg h1
  ·have := hovn g hg; omega
 have f37 : Fr (fun g => ov.ownBlock = some g) w3 w7 := (f3d.mono (fun _ _ h => h.elim)).trans hf7 (fun _ _ h => h)
 have hs7 := f37.size
 have hrun : runM s0 0 (l.take (j + 1)) = runM s0 0 (l.take j) ++ [X.2] ∧ endM s0 0 (l.take (j + 1)) = X.1 := by
  have e : l.take (j + 1) = l.take j ++ [p] := by rw [List.take_add_one, hp]; rfl
  obtain ⟨h1, h2⟩ := runM_snoc (l.take j) s0 0 p
  rw [htk, Nat.zero_add, hX] at h1 h2
  rw [e]
  exact ⟨h1, h2⟩
 refine ⟨ao, cap, w7, by rw [← hWd]; exact hr7, ⟨?_, fun k hk => ⟨?_, Nat.lt_of_lt_of_le (k3 k hk) hs7⟩, ?_, h.lo, ?_, h.uv, ⟨ho7, fun g hg hT => ?_, ?_, ?_⟩, ?_⟩⟩
 ·rw [hrun.2]
  exact hr.frS f37 (fun k hk hT => hov' k hk hT)
 ·rcases k2 k hk with h1 | h1
  ·exact (h.t k h1).1
  ·omega
 ·refine (h.q.frS hf (fun k hk hT => by have := h.lo k hk; have := (h.t k hT).1; omega)).frS f37 (fun k hk hov => by have := h.lo k hk; have := (h.al.o.lt k hov).1; omega)
 ·exact (h.u.frT hf (fun hT => by have := (h.t _ hT).1; have := h.uv; omega)).frT f37 (fun hov => by have := (h.al.o.lt _ hov).1; have := h.uv; omega)
 ·rcases hn7 g hg with h1 | h1
  ·exact hov' g h1 hT
  ·have := k3 g hT
   have := f3d.size
   omega
 ·rw [hrun.1]
  simp [h.al.n]
 ·intro i a ha
  by_cases hi : i < al0.length
  ·rw [List.getElem?_append_left hi] at ha
   obtain ⟨p', x, h1, h2, h3⟩ := h.al.a i a ha
   refine ⟨p', x, h1, ?_, ?_⟩
   ·rw [hrun.1, List.getElem?_append_left (by rw [← h.al.n]; exact hi)]
    exact h2
   ·have h4 := h3.frS (T' := T') hf (fun g hg => hg.elim (h3.tf g) (h3.th g)) (fun g hg hT => (k2 g hT).resolve_right (by omega))
    refine h4.frS f37 (fun g hg hov => ?_) (fun _ _ h => h)
    rcases hg with hg | hg
    ·exact own_ne h4.f ho3 (by decide) g hg hov
    ·exact own_ne h4.h ho3 (by decide) g hg hov
  ·have hi2 : i = al0.length := by
    have := (List.getElem?_eq_some_iff.1 ha).1
    simp at this
    omega
   subst hi2
   rw [List.getElem?_append_right (Nat.le_refl _), Nat.sub_self] at ha
   simp at ha
   subst ha
   refine ⟨p, X.2, by rw [hasl]; exact hp, ?_, ?_⟩
   ·rw [hrun.1, h.al.n, List.getElem?_append_right (Nat.le_refl _), Nat.sub_self]
    rfl
   ·have hk : AnOk w3 w.heap.size T' p.1 (AN.mk p.1.cl p.1.nu X.2.co X.2.rc X.2.ve fv hv) X.2 := ⟨⟨rfl, rfl, rfl, rfl, rfl⟩, ownsRow_base hof hs, ownsRow_base hos hs, tf, th⟩
    refine hk.frS f37 (fun g hg hov => ?_) (fun _ _ h => h)
    rcases hg with hg | hg
    ·exact own_ne hof ho3 (by decide) g hg hov
    ·exact own_ne hos ho3 (by decide) g hg hov
 ·exact (h.f.absorb hf (fun k hk => (h.t k hk).1)).absorb f37 (fun k hk => (h.al.o.lt k hk).1)
structure GQ (w : World) (T : Nat → Prop) (sv rv : Value) (n : Nat) (X : RM × RA) (L : List GC) (fv hv : Value) : Prop where
 g : GR w T sv rv n X.1 L
 f : Fds w fv X.2.F
 h : Sms w hv X.2.H
 b : ∀ k, Blk fv k ∨ Blk hv k → T k
 lt : ∀ k, T k → k < w.heap.size
theorem Sms.frB {w w' : World} {x : Value} {l : List SM} {S : Nat → Prop} (h : Sms w x l) (hf : Fr S w w') (hS : ∀ k, Blk x k → ¬ S k) : Sms w' x l := by
 rcases h with h | ⟨g, o, c, h1, h2⟩
 ·exact .inl h
 ·rcases Nat.eq_zero_or_pos l.length with h0 | h0
  ·refine .inl ⟨some ⟨g, o, none⟩, c, by rw [h1, h0], List.length_eq_zero_iff.1 h0⟩
  ·refine .inr ⟨g, o, c, h1, fun j hj => ?_⟩
   obtain ⟨c0, c1, c2, c3⟩ := h2 j hj
   have hg : g < w.heap.size := lt_of_cell c0
   have hn : ¬ S g := hS g ⟨o, _, c, h1, h0⟩
   exact ⟨(hf.cell (p := ⟨g, _, none⟩) hg hn).trans c0, (hf.cell (p := ⟨g, _, none⟩) hg hn).trans c1, (hf.cell (p := ⟨g, _, none⟩) hg hn).trans c2, (hf.cell (p := ⟨g, _, none⟩) hg hn).trans c3⟩
theorem GQ.frS {w w' : World} {T S : Nat → Prop} {sv rv : Value} {n : Nat} {X : RM × RA} {L : List GC} {fv hv : Value} (h : GQ w T sv rv n X L fv hv) (hf : Fr S w w') (hS : ∀ k, S k → ¬ T k) : GQ w' T sv rv n X L fv hv :=
 ⟨h.g.frS hf hS, h.f.frB hf (fun k hk hs => hS k hs (h.b k (.inl hk))), h.h.frB hf (fun k hk hs => hS k hs (h.b k (.inr hk))), h.b, fun k hk => Nat.lt_of_lt_of_le (h.lt k hk) hf.size⟩
theorem GQ.fr {w w' : World} {T : Nat → Prop} {sv rv : Value} {n : Nat} {X : RM × RA} {L : List GC} {fv hv : Value} (h : GQ w T sv rv n X L fv hv) (hf : Fr (fun _ => False) w w') : GQ w' T sv rv n X L fv hv := h.frS hf (fun _ h => h.elim)
def QPost (w : World) (T : Nat → Prop) (sv : Value) (n cl nu : Nat) (X : RM × RA) (e : Ending) (w' : World) : Prop :=
 ∃ rv' L' fo fn fc ho hn hc T1, e = .returned (.tuple #[.agg #[sv, rv'], .agg #[.int .u32 (cl : Nat), .int .u32 (nu : Nat), .int .u8 (X.2.co : Nat), .int .u32 (X.2.rc : Nat), .int .u32 (X.2.ve : Nat), .slice fo fn fc, .slice ho hn hc]]) ∧ rv'.oneCell' = true ∧ GQ w' T1 sv rv' (n + 1) X L' (.slice fo fn fc) (.slice ho hn hc) ∧ (∀ k, T1 k → (T k ∨ w.heap.size ≤ k) ∧ k < w'.heap.size) ∧ (∀ k, T k → k < w.heap.size → T1 k) ∧ Fr (fun _ => False) w w'
theorem gapply_Q (sv rv : Value) (s : RM) (L : List GC) (T : Nat → Prop) (n : Nat) (r : RQ) (F : List F5) (pl : Nat) (w : World) (h : GR w T sv rv n s L) (hn : n ≤ 1000000) (hF : Fds w r.fv F) (hFT : ∀ k, Blk r.fv k → T k) (hp : PGo (r, F)) (X : RM × RA) (hX : s.step r F pl = X) :
  Calls Tryz.prog 12 #[.agg #[sv, rv], r.v, .int .u32 (pl : Nat)] w fun e w' => QPost w T sv n r.cl r.nu X e w' := by
 refine (gapply_R sv rv s L T n r F pl w h hn hF hFT hp X hX).mono ?_
 rintro e w' ⟨rv', L', fo, fn, fc, ho, hn', hc, he, h1, hg, hf1, hf2, hb, hf⟩
 exact ⟨rv', L', fo, fn, fc, ho, hn', hc, _, he, h1, ⟨hg, hf1, hf2, hb, fun k hk => hk.2⟩, fun k hk => hk, fun k hk hl => ⟨.inl hk, Nat.lt_of_lt_of_le hl hf.size⟩, hf⟩
structure AnG (w : World) (T : Nat → Prop) (r : RQ) (a : AN) (x : RA) : Prop where
 e : a.cl = r.cl ∧ a.nu = r.nu ∧ a.co = x.co ∧ a.rc = x.rc ∧ a.ve = x.ve
 f : Fds w a.fv x.F
 h : Sms w a.hv x.H
 t : ∀ k, Blk a.fv k ∨ Blk a.hv k → T k
theorem AnG.frS {w w' : World} {T T' S : Nat → Prop} {r : RQ} {a : AN} {x : RA} (h : AnG w T r a x) (hf : Fr S w w') (hS : ∀ k, S k → ¬ T k) (hT : ∀ k, T k → T' k) : AnG w' T' r a x :=
 ⟨h.e, h.f.frB hf (fun k hk hs => hS k hs (h.t k (.inl hk))), h.h.frB hf (fun k hk hs => hS k hs (h.t k (.inr hk))), fun k hk => hT k (h.t k hk)⟩
structure AnsG (w : World) (base : Nat) (T : Nat → Prop) (l : List (RQ × List F5)) (xs : List RA) (ov : Value) (al : List AN) : Prop where
 o : w.ownsRow base 45 7 ov al.length (acells al)
 n : al.length = xs.length
 a : ∀ (i : Nat) (a : AN), al[i]? = some a → ∃ (p : RQ × List F5) (x : RA), l[i]? = some p ∧ xs[i]? = some x ∧ AnG w T p.1 a x
theorem AnsG.frS {w w' : World} {base : Nat} {T T' S : Nat → Prop} {l : List (RQ × List F5)} {xs : List RA} {ov : Value} {al : List AN} (h : AnsG w base T l xs ov al) (hf : Fr S w w') (hS : ∀ k, S k → ¬ T k) (ho : ∀ g, ov.ownBlock = some g → ¬ S g) (hT : ∀ k, T k → T' k) : AnsG w' base T' l xs ov al :=
 ⟨ownsRow_of_block h.o (fun g hg => hf.block g (h.o.lt g hg).2 (ho g hg)), h.n, fun i a ha => by
  obtain ⟨p, x, h1, h2, h3⟩ := h.a i a ha
  exact ⟨p, x, h1, h2, h3.frS hf hS hT⟩⟩
structure GI (w wr : World) (sv rv yv ov : Value) (S : List P3) (l : List (RQ × List F5)) (j : Nat) (T : Nat → Prop) (al : List AN) (L : List GC) : Prop where
 b : wr.heap[w.heap.size]? = some (.cells #[sv, rv] 36)
 g : GR wr T sv rv j (endM ⟨S, []⟩ 0 (l.take j)) L
 t : ∀ k, T k → k < wr.heap.size ∧ k ≠ w.heap.size ∧ ¬ ov.ownBlock = some k
 q : Rqs wr yv l
 qt : ∀ k, Rqb yv l k → T k
 al : AnsG wr (w.heap.size + 1) T l (runM ⟨S, []⟩ 0 (l.take j)) ov al
 f : Fr (fun _ => False) w wr
structure GJ (w wx : World) (sv rv rv' yv ov : Value) (S : List P3) (l : List (RQ × List F5)) (j : Nat) (T : Nat → Prop) (al : List AN) (L : List GC) (z8 z9 : Nat) (p : RQ × List F5) (a : AN) (X : RM × RA) : Prop where
 b : wx.heap[w.heap.size]? = some (.cells #[sv, rv] 36)
 k8 : wx.heap[z8]? = some (.cells #[sv, rv'] 36)
 k9 : wx.heap[z9]? = some (.cells a.cs.toArray 45)
 n8 : z8 ≠ w.heap.size
 n9 : z9 ≠ w.heap.size
 g : GR wx T sv rv' (j + 1) X.1 L
 t : ∀ k, T k → k < wx.heap.size ∧ k ≠ w.heap.size ∧ ¬ ov.ownBlock = some k
 q : Rqs wx yv l
 qt : ∀ k, Rqb yv l k → T k
 al : AnsG wx (w.heap.size + 1) T l (runM ⟨S, []⟩ 0 (l.take j)) ov al
 an : AnG wx T p.1 a X.2
 f : Fr (fun _ => False) w wx
theorem GI.after {w wr wx : World} {sv rv rv' yv ov fv hv : Value} {S : List P3} {l : List (RQ × List F5)} {j : Nat} {T T1 : Nat → Prop} {al : List AN} {L L' : List GC} {z8 z9 : Nat} {p : RQ × List F5} {X : RM × RA} {sz : Nat}
  (h : GI w wr sv rv yv ov S l j T al L) (hf : Fr (fun _ => False) wr wx) (hq : GQ wx T1 sv rv' (j + 1) X L' fv hv) (ht1 : ∀ k, T1 k → (T k ∨ sz ≤ k) ∧ k < wx.heap.size) (hsz : wr.heap.size ≤ sz) (ht2 : ∀ k, T k → T1 k) (h8 : wr.heap.size ≤ z8 ∧ wx.heap[z8]? = some (.cells #[sv, rv'] 36)) (h9 : wr.heap.size ≤ z9 ∧ wx.heap[z9]? = some (.cells (AN.mk p.1.cl p.1.nu X.2.co X.2.rc X.2.ve fv hv).cs.toArray 45)) :
  GJ w wx sv rv rv' yv ov S l j T1 al L' z8 z9 p (AN.mk p.1.cl p.1.nu X.2.co X.2.rc X.2.ve fv hv) X := by
 have hb := lt_of_block h.b
 refine ⟨(hf.block _ hb (fun h => h)).trans h.b, h8.2, h9.2, by omega, by omega, hq.g, fun k hk => ?_, h.q.fr hf, fun k hk => ht2 k (h.qt k hk), h.al.frS hf (fun _ h => h.elim) (fun _ _ h => h) ht2, ⟨⟨rfl, rfl, rfl, rfl, rfl⟩, hq.f, hq.h, hq.b⟩, h.f.trans hf (fun _ _ h => h)⟩
 obtain ⟨h1, h2⟩ := ht1 k hk
 rcases h1 with h1 | h1
 ·obtain ⟨h3, h4, h5⟩ := h.t k h1
  exact ⟨h2, h4, h5⟩
 ·refine ⟨h2, by omega, fun e => ?_⟩
  have := (h.al.o.lt k e).2
  omega
theorem GJ.next {w wx : World} {sv rv rv' yv ov : Value} {S : List P3} {l : List (RQ × List F5)} {j : Nat} {T : Nat → Prop} {al : List AN} {L : List GC} {z8 z9 : Nat} {p : RQ × List F5} {a : AN} {X : RM × RA} (h : GJ w wx sv rv rv' yv ov S l j T al L z8 z9 p a X) (hp : l[j]? = some p) (hX : (endM ⟨S, []⟩ 0 (l.take j)).step p.1 p.2 j = X) (hl : l.length ≤ 1000000000) (ha : ∀ u ∈ a.cs, u.oneCell' = true) :
  ∃ ao cap w7, (Builtin.append_ #[58, 58] 58 #[ov, .slice (some ⟨wx.heap.size, 0, none⟩) 1 1]).run Tryz.prog (((wx.setCell ⟨w.heap.size, 0, none⟩ sv).setCell ⟨w.heap.size, 1, none⟩ rv').alloc (.cells a.cs.toArray 45)) = .ok (.slice ao (al.length + 1) cap) w7 ∧ GI w w7 sv rv' yv (.slice ao (al.length + 1) cap) S l (j + 1) T (al ++ [a]) L := by
 obtain ⟨W5, hW5⟩ : ∃ W5, W5 = (wx.setCell ⟨w.heap.size, 0, none⟩ sv).setCell ⟨w.heap.size, 1, none⟩ rv' := ⟨_, rfl⟩
 have f5 : Fr (fun k => k = w.heap.size) wx W5 := by
  rw [hW5]
  exact ((Fr.refl (fun k => k = w.heap.size) wx).setCell (p := ⟨w.heap.size, 0, none⟩) (.inl rfl) sv).setCell (p := ⟨w.heap.size, 1, none⟩) (.inl rfl) rv'
 have hsz5 : W5.heap.size = wx.heap.size := by rw [hW5]; simp
 have b5 : W5.heap[w.heap.size]? = some (.cells #[sv, rv'] 36) := by
  have k0 := heap_setCell_same wx w.heap.size 0 _ 36 sv h.b
  have k1 := heap_setCell_same _ w.heap.size 1 _ 36 rv' k0
  simp only [List.setIfInBounds_toArray, List.set_cons_zero, List.set_cons_succ] at k1
  rw [hW5]
  exact k1
 rw [← hW5]
 have hb := lt_of_block h.b
 have hj : j < l.length := (List.getElem?_eq_some_iff.1 hp).1
 have htk : (l.take j).length = j := by simp; omega
 have hasl : al.length = j := by rw [h.al.n, runM_len, htk]
 have al5 := h.al.frS f5 (T' := T) (fun k hk ht => by have := (h.t k ht).2.1; omega) (fun g hg e => by have h1 : w.heap.size + 1 ≤ g := (h.al.o.lt g hg).1; omega) (fun _ h => h)
 obtain ⟨Wd, hWd⟩ : ∃ Wd, Wd = W5.alloc (.cells a.cs.toArray 45) := ⟨_, rfl⟩
 have f5d : Fr (fun _ => False) W5 Wd := by rw [hWd]; exact box1 W5 _
 have ald := al5.frS f5d (T' := T) (fun _ h => h.elim) (fun _ _ h => h) (fun _ h => h)
 obtain ⟨ao, cap, w7, hr7, ho7, hf7, hn7⟩ := app_ans Wd (w.heap.size + 1) wx.heap.size ov al a ald.o (by have := f5d.size; omega) (by omega) (by rw [hWd, ← hsz5]; exact Array.getElem?_push_size) ha
 refine ⟨ao, cap, w7, by rw [← hWd]; exact hr7, ?_⟩
 have hrun : runM ⟨S, []⟩ 0 (l.take (j + 1)) = runM ⟨S, []⟩ 0 (l.take j) ++ [X.2] ∧ endM ⟨S, []⟩ 0 (l.take (j + 1)) = X.1 := by
  have e : l.take (j + 1) = l.take j ++ [p] := by rw [List.take_add_one, hp]; rfl
  obtain ⟨h1, h2⟩ := runM_snoc (l.take j) ⟨S, []⟩ 0 p
  rw [htk, Nat.zero_add, hX] at h1 h2
  rw [e]
  exact ⟨h1, h2⟩
 have hlo : ∀ g, ov.ownBlock = some g → w.heap.size + 1 ≤ g := fun g hg => (h.al.o.lt g hg).1
 have f57 : Fr (fun g => ov.ownBlock = some g) W5 w7 := (f5d.mono (fun _ _ h => h.elim)).trans hf7 (fun _ _ h => h)
 have hs7 := f57.size
 have hT5 : ∀ k, k = w.heap.size → ¬ T k := fun k hk ht => (h.t k ht).2.1 hk
 have hT7 : ∀ k, ov.ownBlock = some k → ¬ T k := fun k hk ht => (h.t k ht).2.2 hk
 refine ⟨(f57.block _ (by omega) (fun e => by have := hlo _ e; omega)).trans b5, ?_, fun k hk => ⟨?_, (h.t k hk).2.1, fun e => ?_⟩, ?_, h.qt, ⟨ho7, ?_, fun i a' ha' => ?_⟩, ?_⟩
 ·rw [hrun.2]
  exact (h.g.frS f5 hT5).frS f57 hT7
 ·have := (h.t k hk).1
  omega
 ·rcases hn7 k e with h1 | h1
  ·exact hT7 k h1 hk
  ·have := (h.t k hk).1
   have := f5d.size
   omega
 ·exact (h.q.frS f5 (fun k hk e => hT5 k e (h.qt k hk))).frS f57 (fun k hk e => hT7 k e (h.qt k hk))
 ·rw [hrun.1]
  simp [h.al.n]
 ·by_cases hi : i < al.length
  ·rw [List.getElem?_append_left hi] at ha'
   obtain ⟨p', x, h1, h2, h3⟩ := al5.a i a' ha'
   refine ⟨p', x, h1, ?_, h3.frS f57 hT7 (fun _ h => h)⟩
   rw [hrun.1, List.getElem?_append_left (by rw [← h.al.n]; exact hi)]
   exact h2
  ·have hi2 : i = al.length := by
    have := (List.getElem?_eq_some_iff.1 ha').1
    simp at this
    omega
   subst hi2
   rw [List.getElem?_append_right (Nat.le_refl _), Nat.sub_self] at ha'
   simp at ha'
   subst ha'
   refine ⟨p, X.2, by rw [hasl]; exact hp, ?_, (h.an.frS f5 hT5 (fun _ h => h)).frS f57 hT7 (fun _ h => h)⟩
   rw [hrun.1, h.al.n, List.getElem?_append_right (Nat.le_refl _), Nat.sub_self]
   rfl
 ·exact (h.f.absorb f5 (fun k hk => by omega)).absorb f57 (fun k hk => by have := hlo k hk; omega)
structure SH where
 wa : Nat
 ow : Nat
 sl : Bool
 gv : Value
 G : List Nat
def ShC (c : CM) (x : SH) : Prop := x.wa = c.wa ∧ x.ow = c.ow ∧ x.sl = c.sl ∧ ∀ k, k ∈ x.G ↔ k ∈ c.G
def Shs (C : List CM) (L : List SH) : Prop := L.length = C.length ∧ ∀ (i : Nat) (c : CM) (x : SH), C[i]? = some c → L[i]? = some x → ShC c x
theorem Shs.app {C : List CM} {L : List SH} {c : CM} {x : SH} (h : Shs C L) (hx : ShC c x) : Shs (C ++ [c]) (L ++ [x]) := by
 refine ⟨by simp [h.1], fun i c' x' hc hx' => ?_⟩
 rcases Nat.lt_trichotomy i C.length with hi | hi | hi
 ·rw [List.getElem?_append_left hi] at hc
  rw [List.getElem?_append_left (by rw [h.1]; exact hi)] at hx'
  exact h.2 i c' x' hc hx'
 ·subst hi
  rw [List.getElem?_append_right (Nat.le_refl _)] at hc
  rw [List.getElem?_append_right (by rw [h.1]; exact Nat.le_refl _), h.1] at hx'
  simp at hc hx'
  subst hc hx'
  exact hx
 ·rw [List.getElem?_eq_none (by simp; omega)] at hc
  cases hc
theorem Shs.set {C : List CM} {L : List SH} {c : CM} {x : SH} (h : Shs C L) (i : Nat) (hx : ShC c x) : Shs (C.set i c) (L.set i x) := by
 refine ⟨by simp [h.1], fun j c' x' hc hx' => ?_⟩
 by_cases hij : i = j
 ·subst hij
  have h1 : i < C.length := by
   have := (List.getElem?_eq_some_iff.1 hc).1
   simpa using this
  rw [List.getElem?_set_self h1] at hc
  rw [List.getElem?_set_self (by rw [h.1]; exact h1)] at hx'
  cases hc
  cases hx'
  exact hx
 ·rw [List.getElem?_set_ne hij] at hc hx'
  exact h.2 j c' x' hc hx'
theorem Shs.at_ {C : List CM} {L : List SH} (h : Shs C L) {i : Nat} {c : CM} (hc : C[i]? = some c) : ∃ x, L[i]? = some x ∧ ShC c x := by
 have h1 : i < L.length := by rw [h.1]; exact (List.getElem?_eq_some_iff.1 hc).1
 exact ⟨L[i], List.getElem?_eq_getElem h1, h.2 i c _ hc (List.getElem?_eq_getElem h1)⟩
def shcells : List SH → List Value
 | [] => []
 | x :: r => .int .u32 (x.wa : Nat) :: .int .u32 (x.ow : Nat) :: .bool x.sl :: x.gv :: shcells r
theorem shcells_at : ∀ (L : List SH) (k : Nat) (x : SH), L[k]? = some x → (shcells L)[k * 4]? = some (.int .u32 (x.wa : Nat)) ∧ (shcells L)[k * 4 + 1]? = some (.int .u32 (x.ow : Nat)) ∧ (shcells L)[k * 4 + 2]? = some (.bool x.sl) ∧ (shcells L)[k * 4 + 3]? = some x.gv
 | [], k, x, h => by simp at h
 | y :: r, 0, x, h => by
  simp at h
  subst h
  simp [shcells]
 | y :: r, k + 1, x, h => by
  rw [List.getElem?_cons_succ] at h
  obtain ⟨h0, h1, h2, h3⟩ := shcells_at r k x h
  simp only [shcells]
  rw [show (k + 1) * 4 = k * 4 + 1 + 1 + 1 + 1 by omega]
  exact ⟨h0, h1, h2, h3⟩
structure RP (w wr : World) (bs : Nat) (Ts : Nat → Prop) (ss : RM) (sv rv pv : Value) (S : List P3) (l : List (RQ × List F5)) (pl : List Nat) : Prop where
 rs : RsB wr bs Ts ss
 ts : ∀ k, Ts k → w.heap.size + 1 ≤ k ∧ k < wr.heap.size
 b : wr.heap[w.heap.size]? = some (.cells #[sv, rv, pv] 26)
 st : Stf wr sv S
 so : ∀ g o n c, sv = .slice (some ⟨g, o, none⟩) n c → 0 < n → g < w.heap.size
 q : Rqs wr rv l
 lo : ∀ k, Rqb rv l k → k < w.heap.size
 p : Us wr pv pl
 po : ∀ g o n c, pv = .slice (some ⟨g, o, none⟩) n c → 0 < n → g < w.heap.size
 u : GU wr
 uv : 1 < w.heap.size
 f : Fr (fun _ => False) w wr
theorem RP.frS {w W W' : World} {bs : Nat} {Ts S' : Nat → Prop} {ss : RM} {sv rv pv : Value} {S : List P3} {l : List (RQ × List F5)} {pl : List Nat} (h : RP w W bs Ts ss sv rv pv S l pl) (hf : Fr S' W W') (h1 : ∀ k, S' k → w.heap.size < k ∧ ¬ Ts k) : RP w W' bs Ts ss sv rv pv S l pl := by
 have hs := hf.size
 have hlow : ∀ k, k ≤ w.heap.size → ¬ S' k := fun k hk hS => by have := (h1 k hS).1; omega
 exact ⟨h.rs.frS hf (fun k hk => (h1 k hk).2), fun k hk => ⟨(h.ts k hk).1, Nat.lt_of_lt_of_le (h.ts k hk).2 hs⟩, (hf.block _ (lt_of_block h.b) (hlow _ (Nat.le_refl _))).trans h.b, h.st.frM hf (fun g o n c e h0 => hlow g (by have := h.so g o n c e h0; omega)), h.so, h.q.frS hf (fun k hk => hlow k (by have := h.lo k hk; omega)), h.lo, h.p.frS hf (fun g o n c e h0 => hlow g (by have := h.po g o n c e h0; omega)), h.po, h.u.frT hf (hlow _ (by have := h.uv; omega)), h.uv, h.f.absorb hf (fun k hk => by have := (h1 k hk).1; omega)⟩
theorem RP.fr {w W W' : World} {bs : Nat} {Ts : Nat → Prop} {ss : RM} {sv rv pv : Value} {S : List P3} {l : List (RQ × List F5)} {pl : List Nat} (h : RP w W bs Ts ss sv rv pv S l pl) (hf : Fr (fun _ => False) W W') : RP w W' bs Ts ss sv rv pv S l pl := h.frS hf (fun _ h => h.elim)
theorem RP.goS {w W W' : World} {bs : Nat} {Ts T' : Nat → Prop} {ss s' : RM} {sv rv pv : Value} {S : List P3} {l : List (RQ × List F5)} {pl : List Nat} (h : RP w W bs Ts ss sv rv pv S l pl) (hf : Fr Ts W W') (hr : RsB W' bs T' s') (k2 : ∀ k, T' k → Ts k ∨ W.heap.size ≤ k) (k3 : ∀ k, T' k → k < W'.heap.size) : RP w W' bs T' s' sv rv pv S l pl := by
 have hb := lt_of_block h.b
 have hlow : ∀ k, k ≤ w.heap.size → ¬ Ts k := fun k hk hT => by have := (h.ts k hT).1; omega
 refine ⟨hr, fun k hk => ⟨?_, k3 k hk⟩, (hf.block _ hb (hlow _ (Nat.le_refl _))).trans h.b, h.st.frM hf (fun g o n c e h0 => hlow g (by have := h.so g o n c e h0; omega)), h.so, h.q.frS hf (fun k hk => hlow k (by have := h.lo k hk; omega)), h.lo, h.p.frS hf (fun g o n c e h0 => hlow g (by have := h.po g o n c e h0; omega)), h.po, h.u.frT hf (hlow _ (by have := h.uv; omega)), h.uv, h.f.absorb hf (fun k hk => by have := (h.ts k hk).1; omega)⟩
 rcases k2 k hk with h1 | h1
 ·exact (h.ts k h1).1
 ·omega
theorem RP.apply {w W : World} {bs : Nat} {Ts : Nat → Prop} {ss : RM} {sv rv pv : Value} {S : List P3} {l : List (RQ × List F5)} {pl : List Nat} (h : RP w W bs Ts ss sv rv pv S l pl) {p : RQ × List F5} (hp : p ∈ l) (hok : ss.Ok) (hg : PGood p) (n : Nat) (X : RM × RA) (hX : ss.step p.1 p.2 n = X) :
  Calls Tryz.prog 10 #[.pointer (some ⟨bs, 0, none⟩), p.1.v, .int .u32 (n : Nat)] W fun e w' => ∃ fo fn fc ho hn hc, e = .returned (.agg #[.int .u32 (p.1.cl : Nat), .int .u32 (p.1.nu : Nat), .int .u8 (X.2.co : Nat), .int .u32 (X.2.rc : Nat), .int .u32 (X.2.ve : Nat), .slice fo fn fc, .slice ho hn hc]) ∧ ∃ T', RP w w' bs T' X.1 sv rv pv S l pl ∧ Fr Ts W w' ∧ (∀ k, T' k → Ts k ∨ W.heap.size ≤ k) ∧ OwF w' W.heap.size (.slice fo fn fc) X.2.F ∧ OwS w' W.heap.size (.slice ho hn hc) X.2.H := by
 refine (apply_C bs Ts ss p.1 p.2 n W h.rs (fun k hk => (h.ts k hk).2) hok (h.q.d p hp) hg.2.1 hg.2.2 h.u X hX).mono ?_
 rintro e w' ⟨fo, fn, fc, ho, hn, hc, he, o1, o2, hf, T', k1, k2, k3, k4, k5⟩
 exact ⟨fo, fn, fc, ho, hn, hc, he, T', h.goS hf k1 k2 k3, hf, k2, o1, o2⟩
theorem RP.cells {w W : World} {bs : Nat} {Ts : Nat → Prop} {ss : RM} {sv pv : Value} {S : List P3} {g o n c : Nat} {l : List (RQ × List F5)} {pl : List Nat} (h : RP w W bs Ts ss sv (.slice (some ⟨g, o, none⟩) n c) pv S l pl) {j : Nat} {p : RQ × List F5} (hj : l[j]? = some p) : (W.cell? ⟨w.heap.size, 0, none⟩ = some sv ∧ W.cell? ⟨w.heap.size, 1, none⟩ = some (.slice (some ⟨g, o, none⟩) n c) ∧ W.cell? ⟨w.heap.size, 2, none⟩ = some pv) ∧ R10 W g (o + j * 10) p.1 := by
 refine ⟨⟨by simp [World.cell?, h.b], by simp [World.cell?, h.b], by simp [World.cell?, h.b]⟩, ?_⟩
 obtain ⟨hl, hp⟩ := List.getElem?_eq_some_iff.1 hj
 obtain ⟨g', o', e, r⟩ := h.q.at_ j hl
 cases e
 rw [← hp]
 exact r
structure ShA (W : World) (base : Nat) (T : Nat → Prop) (v : Value) (L : List SH) (j : Nat) : Prop where
 row : W.ownsRow base 73 4 v L.length (shcells L)
 nt : ∀ g, v.ownBlock = some g → ¬ T g
 g : ∀ x ∈ L, W.ownsRow base 31 1 x.gv x.G.length (ncells x.G)
 gt : ∀ x ∈ L, ∀ g, x.gv.ownBlock = some g → ¬ T g
 gl : ∀ x ∈ L, x.G.length ≤ j
theorem ShA.ne {W : World} {base : Nat} {T : Nat → Prop} {v : Value} {L : List SH} {j : Nat} (h : ShA W base T v L j) {x : SH} (hx : x ∈ L) {g : Nat} (hg : x.gv.ownBlock = some g) : v.ownBlock ≠ some g := fun e => own_ne h.row (h.g x hx) (by decide) g e hg
theorem ShA.frS {W W' : World} {base : Nat} {T T' S : Nat → Prop} {v : Value} {L : List SH} {j : Nat} (h : ShA W base T v L j) (hf : Fr S W W') (h1 : ∀ k, S k → T k ∨ W.heap.size ≤ k) (h2 : ∀ k, T' k → T k ∨ W.heap.size ≤ k) : ShA W' base T' v L j := by
 refine ⟨ownsRow_of_block h.row (fun g hg => hf.block g (h.row.lt g hg).2 (fun hs => (h1 g hs).elim (h.nt g hg) (fun h3 => by have := (h.row.lt g hg).2; omega))), fun g hg ht => (h2 g ht).elim (h.nt g hg) (fun h3 => by have := (h.row.lt g hg).2; omega), fun x hx => ownsRow_of_block (h.g x hx) (fun g hg => hf.block g ((h.g x hx).lt g hg).2 (fun hs => (h1 g hs).elim (h.gt x hx g hg) (fun h3 => by have := ((h.g x hx).lt g hg).2; omega))), fun x hx g hg ht => (h2 g ht).elim (h.gt x hx g hg) (fun h3 => by have := ((h.g x hx).lt g hg).2; omega), h.gl⟩
theorem ShA.fr {W W' : World} {base : Nat} {T : Nat → Prop} {v : Value} {L : List SH} {j : Nat} (h : ShA W base T v L j) (hf : Fr (fun _ => False) W W') : ShA W' base T v L j := h.frS hf (fun _ h => h.elim) (fun _ h => .inl h)
theorem ShA.more {W : World} {base : Nat} {T : Nat → Prop} {v : Value} {L : List SH} {j k : Nat} (h : ShA W base T v L j) (hk : j ≤ k) : ShA W base T v L k := ⟨h.row, h.nt, h.g, h.gt, fun x hx => Nat.le_trans (h.gl x hx) hk⟩
theorem ShA.cells {W : World} {base : Nat} {T : Nat → Prop} {v : Value} {L : List SH} {j : Nat} (h : ShA W base T v L j) {k : Nat} {x : SH} (hx : L[k]? = some x) : ∃ g cap, v = .slice (some ⟨g, 0, none⟩) L.length cap ∧ g < W.heap.size ∧ base ≤ g ∧ (W.cell? ⟨g, k * 4, none⟩ = some (.int .u32 (x.wa : Nat)) ∧ W.cell? ⟨g, k * 4 + 1, none⟩ = some (.int .u32 (x.ow : Nat)) ∧ W.cell? ⟨g, k * 4 + 2, none⟩ = some (.bool x.sl) ∧ W.cell? ⟨g, k * 4 + 3, none⟩ = some x.gv) ∧ ∀ i, W.frozen? ⟨g, i, none⟩ = false := by
 have hk : k < L.length := (List.getElem?_eq_some_iff.1 hx).1
 obtain ⟨g, cap, e, _, _⟩ := h.row.form (by omega)
 obtain ⟨h0, h1, h2, h3⟩ := shcells_at L k x hx
 have hr := h.row
 rw [e] at hr
 have hlt := hr.lt g rfl
 exact ⟨g, cap, e, hlt.2, hlt.1, ⟨(hr.cellAt _ (by omega)).trans h0, (hr.cellAt _ (by omega)).trans h1, (hr.cellAt _ (by omega)).trans h2, (hr.cellAt _ (by omega)).trans h3⟩, fun i => hr.frozenAt i⟩
theorem GR.mono {w : World} {T T' : Nat → Prop} {sv rv : Value} {n : Nat} {s : RM} {L : List GC} (h : GR w T sv rv n s L) (hT : ∀ k, T k → T' k) : GR w T' sv rv n s L := ⟨h.g.mono hT, h.m, h.k, h.o, h.r⟩
structure A1 (w wr : World) (bs : Nat) (Ts : Nat → Prop) (s m : RM) (sv rv pv : Value) (S : List P3) (l : List (RQ × List F5)) (pl : List Nat) (z6 : Nat) (rv6 : Value) (T : Nat → Prop) (n : Nat) (L : List GC) (T0 : Nat → Prop) : Prop where
 p : RP w wr bs Ts s sv rv pv S l pl
 zb : wr.heap[z6]? = some (.cells #[sv, rv6] 36)
 zn : w.heap.size < z6 ∧ ¬ Ts z6
 g : GR wr T sv rv6 n m L
 t : ∀ k, T k → k < wr.heap.size ∧ k ≠ z6 ∧ ¬ Ts k
 qt : ∀ k, T0 k → T k
section
variable {w W W' : World} {bs : Nat} {Ts T' : Nat → Prop} {s m : RM} {X : RM × RA} {sv rv pv : Value} {S : List P3} {l : List (RQ × List F5)} {pl : List Nat} {z6 : Nat} {rv6 : Value} {T T0 : Nat → Prop} {n : Nat} {L : List GC}
theorem A1.fr (h : A1 w W bs Ts s m sv rv pv S l pl z6 rv6 T n L T0) (hf : Fr (fun _ => False) W W') : A1 w W' bs Ts s m sv rv pv S l pl z6 rv6 T n L T0 :=
 ⟨h.p.fr hf, (hf.block _ (lt_of_block h.zb) (fun h => h)).trans h.zb, h.zn, h.g.fr hf, fun k hk => ⟨Nat.lt_of_lt_of_le (h.t k hk).1 hf.size, (h.t k hk).2⟩, h.qt⟩
theorem A1.app (h : A1 w W bs Ts s m sv rv pv S l pl z6 rv6 T n L T0) (hp : RP w W' bs T' X.1 sv rv pv S l pl) (hf : Fr Ts W W') (k2 : ∀ k, T' k → Ts k ∨ W.heap.size ≤ k) : A1 w W' bs T' X.1 m sv rv pv S l pl z6 rv6 T n L T0 := by
 have hz := lt_of_block h.zb
 refine ⟨hp, (hf.block _ hz h.zn.2).trans h.zb, ⟨h.zn.1, fun e => ?_⟩, h.g.frS hf (fun k hk ht => (h.t k ht).2.2 hk), fun k hk => ⟨Nat.lt_of_lt_of_le (h.t k hk).1 hf.size, (h.t k hk).2.1, fun e => ?_⟩, h.qt⟩
 ·exact (k2 _ e).elim h.zn.2 (fun h1 => by omega)
 ·exact (k2 _ e).elim (h.t k hk).2.2 (fun h1 => by have := (h.t k hk).1; omega)
theorem A1.ref {w7 W8 : World} {T1 : Nat → Prop} {rv' fv hv : Value} {L' : List GC} (h : A1 w W bs Ts s m sv rv pv S l pl z6 rv6 T n L T0) (hf : Fr (fun _ => False) W w7) (hq : GQ w7 T1 sv rv' (n + 1) X L' fv hv) (ht1 : ∀ k, T1 k → (T k ∨ W.heap.size ≤ k) ∧ k < w7.heap.size) (ht2 : ∀ k, T k → k < W.heap.size → T1 k) (h8 : Fr (fun k => k = z6) w7 W8) (hb : W8.heap[z6]? = some (.cells #[sv, rv'] 36)) : A1 w W8 bs Ts s X.1 sv rv pv S l pl z6 rv' T1 (n + 1) L' T0 := by
 have hz := lt_of_block h.zb
 have hn : ∀ k, T1 k → k ≠ z6 := fun k hk e => (ht1 k hk).1.elim (fun h1 => (h.t k h1).2.1 e) (fun h1 => by omega)
 refine ⟨(h.p.fr hf).frS h8 (fun k hk => by rw [hk]; exact h.zn), hb, h.zn, hq.g.frS h8 (fun k hk ht => hn k ht hk), fun k hk => ⟨Nat.lt_of_lt_of_le (ht1 k hk).2 h8.size, hn k hk, fun e => ?_⟩, fun k hk => ht2 k (h.qt k hk) (h.t k (h.qt k hk)).1⟩
 rcases (ht1 k hk).1 with h1 | h1
 ·exact (h.t k h1).2.2 e
 ·have := (h.p.ts k e).2
  omega
end
structure C2 (w wr : World) (bx : Nat) (Tx : Nat → Prop) (sx : RM) (zx : Nat) (rx : Value) (nx : Nat) (mx : RM) (Lx : List GC) (bY : Nat) (Ty : Nat → Prop) (sy : RM) (zy : Nat) (ry : Value) (ny : Nat) (my : RM) (Ly : List GC) (sv : Value) (T T0 : Nat → Prop) : Prop where
 px : RsB wr bx Tx sx
 py : RsB wr bY Ty sy
 tx : ∀ k, Tx k → w.heap.size ≤ k ∧ k < wr.heap.size ∧ ¬ Ty k ∧ ¬ T k ∧ k ≠ zx ∧ k ≠ zy
 ty : ∀ k, Ty k → w.heap.size ≤ k ∧ k < wr.heap.size ∧ ¬ Tx k ∧ ¬ T k ∧ k ≠ zx ∧ k ≠ zy
 kx : wr.heap[zx]? = some (.cells #[sv, rx] 36)
 ky : wr.heap[zy]? = some (.cells #[sv, ry] 36)
 zn : w.heap.size ≤ zx ∧ w.heap.size ≤ zy ∧ zx ≠ zy
 gx : GR wr T sv rx nx mx Lx
 gy : GR wr T sv ry ny my Ly
 t : ∀ k, T k → k < wr.heap.size ∧ k ≠ zx ∧ k ≠ zy
 qt : ∀ k, T0 k → T k
 f : Fr (fun _ => False) w wr
section
variable {w W W' : World} {bx bY zx zy nx ny : Nat} {Tx Ty T T0 T' T1 : Nat → Prop} {sx sy mx my : RM} {rx ry sv rv' : Value} {Lx Ly L' : List GC} {X : RM × RA}
theorem C2.swap (h : C2 w W bx Tx sx zx rx nx mx Lx bY Ty sy zy ry ny my Ly sv T T0) : C2 w W bY Ty sy zy ry ny my Ly bx Tx sx zx rx nx mx Lx sv T T0 :=
 ⟨h.py, h.px, fun k hk => ⟨(h.ty k hk).1, (h.ty k hk).2.1, (h.ty k hk).2.2.1, (h.ty k hk).2.2.2.1, (h.ty k hk).2.2.2.2.2, (h.ty k hk).2.2.2.2.1⟩, fun k hk => ⟨(h.tx k hk).1, (h.tx k hk).2.1, (h.tx k hk).2.2.1, (h.tx k hk).2.2.2.1, (h.tx k hk).2.2.2.2.2, (h.tx k hk).2.2.2.2.1⟩, h.ky, h.kx, ⟨h.zn.2.1, h.zn.1, fun e => h.zn.2.2 e.symm⟩, h.gy, h.gx, fun k hk => ⟨(h.t k hk).1, (h.t k hk).2.2, (h.t k hk).2.1⟩, h.qt, h.f⟩
theorem C2.ref (h : C2 w W bx Tx sx zx rx nx mx Lx bY Ty sy zy ry ny my Ly sv T T0) (hf : Fr (fun _ => False) W W') (ht1 : ∀ k, T1 k → (T k ∨ W.heap.size ≤ k) ∧ k < W'.heap.size) (ht2 : ∀ k, T k → T1 k) : C2 w W' bx Tx sx zx rx nx mx Lx bY Ty sy zy ry ny my Ly sv T1 T0 := by
 have hs := hf.size
 have hx := lt_of_block h.kx
 have hy := lt_of_block h.ky
 refine ⟨h.px.fr hf, h.py.fr hf, fun k hk => ?_, fun k hk => ?_, (hf.block _ hx (fun h => h)).trans h.kx, (hf.block _ hy (fun h => h)).trans h.ky, h.zn, (h.gx.fr hf).mono ht2, (h.gy.fr hf).mono ht2, fun k hk => ⟨(ht1 k hk).2, ?_⟩, fun k hk => ht2 k (h.qt k hk), h.f.trans hf (fun _ _ h => h)⟩
 ·obtain ⟨a1, a2, a3, a4, a5⟩ := h.tx k hk
  exact ⟨a1, by omega, a3, fun e => (ht1 k e).1.elim a4 (fun h1 => by omega), a5⟩
 ·obtain ⟨a1, a2, a3, a4, a5⟩ := h.ty k hk
  exact ⟨a1, by omega, a3, fun e => (ht1 k e).1.elim a4 (fun h1 => by omega), a5⟩
 ·rcases (ht1 k hk).1 with h1 | h1
  ·exact (h.t k h1).2
  ·exact ⟨by omega, by omega⟩
theorem C2.fr (h : C2 w W bx Tx sx zx rx nx mx Lx bY Ty sy zy ry ny my Ly sv T T0) (hf : Fr (fun _ => False) W W') : C2 w W' bx Tx sx zx rx nx mx Lx bY Ty sy zy ry ny my Ly sv T T0 :=
 h.ref hf (fun k hk => ⟨.inl hk, Nat.lt_of_lt_of_le (h.t k hk).1 hf.size⟩) (fun _ h => h)
theorem C2.app (h : C2 w W bx Tx sx zx rx nx mx Lx bY Ty sy zy ry ny my Ly sv T T0) (hf : Fr Tx W W') (k1 : RsB W' bx T' X.1) (k2 : ∀ k, T' k → Tx k ∨ W.heap.size ≤ k) (k3 : ∀ k, T' k → k < W'.heap.size) : C2 w W' bx T' X.1 zx rx nx mx Lx bY Ty sy zy ry ny my Ly sv T T0 := by
 have hs := hf.size
 have hx := lt_of_block h.kx
 have hy := lt_of_block h.ky
 have hw := h.f.size
 refine ⟨k1, h.py.frS hf (fun k hk => (h.tx k hk).2.2.1), fun k hk => ?_, fun k hk => ?_, (hf.block _ hx (fun e => (h.tx _ e).2.2.2.2.1 rfl)).trans h.kx, (hf.block _ hy (fun e => (h.tx _ e).2.2.2.2.2 rfl)).trans h.ky, h.zn, h.gx.frS hf (fun k hk => (h.tx k hk).2.2.2.1), h.gy.frS hf (fun k hk => (h.tx k hk).2.2.2.1), fun k hk => ⟨Nat.lt_of_lt_of_le (h.t k hk).1 hs, (h.t k hk).2⟩, h.qt, h.f.absorb hf (fun k hk => (h.tx k hk).1)⟩
 ·rcases k2 k hk with h1 | h1
  ·obtain ⟨a1, a2, a3⟩ := h.tx k h1
   exact ⟨a1, by omega, a3⟩
  ·exact ⟨by omega, k3 k hk, fun e => by have := (h.ty k e).2.1; omega, fun e => by have := (h.t k e).1; omega, by omega, by omega⟩
 ·obtain ⟨a1, a2, a3, a4⟩ := h.ty k hk
  exact ⟨a1, by omega, fun e => (k2 k e).elim a3 (fun h1 => by omega), a4⟩
theorem C2.put (h : C2 w W bx Tx sx zx rx nx mx Lx bY Ty sy zy ry ny my Ly sv T T0) (hf : Fr (fun k => k = zx) W W') (hb : W'.heap[zx]? = some (.cells #[sv, rv'] 36)) (hg : GR W T sv rv' (nx + 1) X.1 L') : C2 w W' bx Tx sx zx rv' (nx + 1) X.1 L' bY Ty sy zy ry ny my Ly sv T T0 := by
 have hs := hf.size
 have hy := lt_of_block h.ky
 refine ⟨h.px.frS hf (fun k hk e => (h.tx k e).2.2.2.2.1 hk), h.py.frS hf (fun k hk e => (h.ty k e).2.2.2.2.1 hk), fun k hk => ?_, fun k hk => ?_, hb, (hf.block _ hy (fun e => h.zn.2.2 e.symm)).trans h.ky, h.zn, hg.frS hf (fun k hk e => (h.t k e).2.1 hk), h.gy.frS hf (fun k hk e => (h.t k e).2.1 hk), fun k hk => ⟨Nat.lt_of_lt_of_le (h.t k hk).1 hs, (h.t k hk).2⟩, h.qt, h.f.absorb hf (fun k hk => by rw [hk]; exact h.zn.1)⟩
 ·obtain ⟨a1, a2, a3⟩ := h.tx k hk
  exact ⟨a1, by omega, a3⟩
 ·obtain ⟨a1, a2, a3⟩ := h.ty k hk
  exact ⟨a1, by omega, a3⟩
theorem C2.apply (h : C2 w W bx Tx sx zx rx nx sx Lx bY Ty sy zy ry ny my Ly sv T T0) {x : Value} {l : List (RQ × List F5)} (hq : Rqs w x l) (hu : GU w) {p : RQ × List F5} (hp : p ∈ l) (hg : PGood p) (n : Nat) (hX : sx.step p.1 p.2 n = X) :
  Calls Tryz.prog 10 #[.pointer (some ⟨bx, 0, none⟩), p.1.v, .int .u32 (n : Nat)] W fun e w' => ∃ fo fn fc ho hn hc, e = .returned (.agg #[.int .u32 (p.1.cl : Nat), .int .u32 (p.1.nu : Nat), .int .u8 (X.2.co : Nat), .int .u32 (X.2.rc : Nat), .int .u32 (X.2.ve : Nat), .slice fo fn fc, .slice ho hn hc]) ∧ ∃ T', C2 w w' bx T' X.1 zx rx nx sx Lx bY Ty sy zy ry ny my Ly sv T T0 ∧ Fr Tx W w' ∧ OwF w' W.heap.size (.slice fo fn fc) X.2.F ∧ OwS w' W.heap.size (.slice ho hn hc) X.2.H := by
 refine (apply_C bx Tx sx p.1 p.2 n W h.px (fun k hk => (h.tx k hk).2.1) h.gx.o ((hq.fr h.f).d p hp) hg.2.1 hg.2.2 (hu.fr h.f) X hX).mono ?_
 rintro e w' ⟨fo, fn, fc, ho, hn, hc, he, o1, o2, hf, T', k1, k2, k3, k4, k5⟩
 exact ⟨fo, fn, fc, ho, hn, hc, he, T', h.app hf k1 k2 k3, hf, o1, o2⟩
end
set_option maxHeartbeats 16000000 in
set_option maxRecDepth 100000 in
theorem rcopies_any (sv rv pv hv tv : Value) (S : List P3) (l H I : List (RQ × List F5)) (pl : List Nat) (w : World) (hs : Stf w sv S) (hS : S.length ≤ 1000000) (hq : Rqs w rv l) (hqh : Rqs w hv H) (hqi : Rqs w tv I) (hl : l.length + H.length ≤ 1000000) (hl2 : l.length + I.length ≤ 1000000) (hp : Us w pv pl) (hg : GU w) (hpg : ∀ p ∈ l, PGo p) (hph : ∀ p ∈ H, PGo p) (hpi : ∀ p ∈ I, PGo p) :
  Calls Tryz.prog 5 #[.agg #[sv, rv, pv], hv, tv] w fun e w' => e = .returned (.bool true) ∧ Fr (fun _ => False) w w' := by
 obtain ⟨so, sc, rfl⟩ := hs.form
 obtain ⟨ro, rc0, rfl⟩ := hq.form
 obtain ⟨po, pc, rfl⟩ := hp.form
 obtain ⟨ho0, hc0, rfl⟩ := hqh.form
 obtain ⟨to0, tc0, rfl⟩ := hqi.form
 obtain ⟨T0, hT0⟩ : ∃ T0 : Nat → Prop, T0 = (fun k => Blk (.slice so S.length sc) k ∨ Rqb (.slice ro l.length rc0) l k ∨ Rqb (.slice ho0 H.length hc0) H k ∨ Rqb (.slice to0 I.length tc0) I k) := ⟨_, rfl⟩
 have HT0 : Hid ((∀ k, Blk (.slice so S.length sc) k → T0 k) ∧ (∀ p ∈ l, ∀ k, Blk p.1.fv k → T0 k) ∧ (∀ p ∈ H, ∀ k, Blk p.1.fv k → T0 k) ∧ (∀ p ∈ I, ∀ k, Blk p.1.fv k → T0 k) ∧ ∀ k, T0 k → k < w.heap.size) := by
  subst hT0
  exact ⟨fun k hk => .inl hk, fun p hp k hk => .inr (.inl (.inr ⟨p, hp, hk⟩)), fun p hp k hk => .inr (.inr (.inl (.inr ⟨p, hp, hk⟩))), fun p hp k hk => .inr (.inr (.inr (.inr ⟨p, hp, hk⟩))), fun k hk => hk.elim (fun h => hs.blt h) (fun hk => hk.elim (fun h => hq.lt h) (fun hk => hk.elim (fun h => hqh.lt h) (fun h => hqi.lt h)))⟩
 have HG0 : Hid (∀ k, Rqb (.slice ho0 H.length hc0) H k → T0 k) := fun k hk => by subst hT0; exact .inr (.inr (.inl hk))
 have HG1 : Hid (∀ k, Rqb (.slice to0 I.length tc0) I k → T0 k) := fun k hk => by subst hT0; exact .inr (.inr (.inr hk))
 clear hT0
 have HQ := hide (And.intro hs (And.intro hq (And.intro hp (And.intro hg (And.intro hpg (And.intro hS (And.intro hl hl2)))))))
 have HH := hide (And.intro hqh (And.intro hqi (And.intro hph hpi)))
 obtain ⟨W1, hW1⟩ : ∃ W1, W1 = w.alloc (.cells #[.slice so S.length sc, .slice ro l.length rc0, .slice po pl.length pc] 26) := ⟨_, rfl⟩
 have hb1 : W1.heap[w.heap.size]? = some (.cells #[.slice so S.length sc, .slice ro l.length rc0, .slice po pl.length pc] 26) := by rw [hW1]; exact Array.getElem?_push_size
 have hf1 : Fr (fun _ => False) w W1 := by rw [hW1]; exact box1 w _
 have H1 := hide (And.intro hb1 hf1)
 clear hs hq hp hg hpg hb1 hf1 hqh hqi hph hpi
 go_enter Tryz.func5, Tryz.ntmps5
 go_wp2_with fail
 rw [← hW1]
 clear hW1
 refine (awake11 W1 ((unhide HQ).2.2.2.1.fr (unhide H1).2)).mono ?_
 rintro e w2 ⟨rfl, hf2⟩
 have H2 := hide (And.intro ((hf2.block _ (lt_of_block (unhide H1).1) (fun h => h)).trans (unhide H1).1) ((unhide H1).2.trans hf2 (fun _ _ h => h)))
 clear hf2 H1
 have b0 : w2.cell? ⟨w.heap.size, 0, none⟩ = some (.slice so S.length sc) := by simp [World.cell?, (unhide H2).1]
 go_wp2_with fail
 refine (staff_any _ S w2 ((unhide HQ).1.fr (unhide H2).2) hS).mono ?_
 rintro e w3 ⟨v, rfl, ho3, hf3⟩
 have HN3 := hide (new_B v S w3 (own_stf ho3) (own_z ho3) hS)
 have H3 := hide (And.intro ((hf3.block _ (lt_of_block (unhide H2).1) (fun h => h)).trans (unhide H2).1) ((unhide H2).2.trans hf3 (fun _ _ h => h)))
 obtain ⟨vo, vc, rfl⟩ := own_formX ho3
 clear hf3 b0 ho3 H2
 go_wp2_with fail
 refine (unhide HN3).mono ?_
 rintro e w4 ⟨bs, rfl, hb4, hf4⟩
 have hlo3 := lt_of_block (unhide H3).1
 have hrp : RP w w4 bs (fun k => w3.heap.size ≤ k ∧ k < w4.heap.size) ⟨S, []⟩ (.slice so S.length sc) (.slice ro l.length rc0) (.slice po pl.length pc) S l pl := by
  have h6 := (unhide H3).2.trans hf4 (fun _ _ h => h)
  exact ⟨hb4, fun k hk => ⟨by omega, hk.2⟩, (hf4.block _ hlo3 (fun h => h)).trans (unhide H3).1, (unhide HQ).1.fr h6, fun g o n c e h0 => (unhide HQ).1.ltg e h0, (unhide HQ).2.1.fr h6, fun k hk => (unhide HQ).2.1.lt hk, (unhide HQ).2.2.1.fr h6, (unhide HQ).2.2.1.lt, (unhide HQ).2.2.2.1.fr h6, lt_of_cell ((unhide HQ).2.2.2.1 0 (by omega)), h6⟩
 have b0 : w4.cell? ⟨w.heap.size, 0, none⟩ = some (.slice so S.length sc) := by simp [World.cell?, hrp.b]
 have hbl : w.heap.size < w4.heap.size := lt_of_block hrp.b
 obtain ⟨z6, hz6⟩ : ∃ z6, z6 = w4.heap.size := ⟨_, rfl⟩
 obtain ⟨W6, hW6⟩ : ∃ W6, W6 = w4.alloc (.cells #[.slice so S.length sc, .slice none 0 0] 36) := ⟨_, rfl⟩
 have f6 : Fr (fun _ => False) w4 W6 := by rw [hW6]; exact box1 w4 _
 have HA0 : Hid (A1 w W6 bs (fun k => w3.heap.size ≤ k ∧ k < w4.heap.size) ⟨S, []⟩ ⟨S, []⟩ (.slice so S.length sc) (.slice ro l.length rc0) (.slice po pl.length pc) S l pl z6 (.slice none 0 0) T0 0 [] T0) := by
  have h34 := hf4.size
  have hS := (unhide HQ).2.2.2.2.2.1
  refine ⟨hrp.fr f6, by rw [hW6, hz6]; exact Array.getElem?_push_size, ⟨by omega, fun e => by omega⟩, ⟨⟨hrp.st.fr f6, fun k hk => (unhide HT0).1 k hk, ⟨rfl, .inl ⟨none, 0, rfl, rfl⟩⟩, fun k hk => (blk_nil hk).elim, fun x hx => (by cases hx)⟩, ⟨rfl, rfl, fun i c d hc => (by simp at hc)⟩, ⟨by simp, fun x hx => (by cases hx)⟩, ⟨by show S.length ≤ _; omega, by show 0 ≤ 256; omega, fun c hc => (by cases hc)⟩, ⟨fun c hc => (by cases hc)⟩⟩, fun k hk => ?_, fun _ h => h⟩
  have h1 := (unhide HT0).2.2.2.2 k hk
  have h2 := f6.size
  exact ⟨by omega, by omega, fun e => by have := (hrp.ts k e).1; omega⟩
 clear hrp f6 hb4 hf4 HN3 H3 hlo3
 go_wp2_with fail
 rw [← hW6]
 (try rw [← hz6])
 clear hW6 hz6 b0 hbl
 go_loopw [9] (fun kv wr => ∃ j : Nat, j ≤ l.length ∧ kv = .int .i64 (j : Nat) ∧ ∃ Ts s rv6 T L, s.S = S ∧ A1 w wr bs Ts s s (.slice so S.length sc) (.slice ro l.length rc0) (.slice po pl.length pc) S l pl z6 rv6 T j L T0) (fun kv _ => l.length - (intOf kv).toNat)
 case atStart => exact ⟨0, Nat.zero_le _, rfl, _, _, _, _, _, rfl, unhide HA0⟩
 case round =>
  clear HA0
  obtain ⟨j, hj, rfl, Ts, s, rv6, T, L, hsS, hi⟩ := hrel
  rename World => wm
  by_cases hlt : j < l.length
  ·obtain ⟨p, hpe⟩ : ∃ p, l[j] = p := ⟨_, rfl⟩
   have hpe2 : l[j]? = some p := by rw [List.getElem?_eq_getElem hlt, hpe]
   obtain ⟨g, o, rfl, hr0⟩ := hi.p.q.at_ j hlt
   clear hr0
   have hpm : p ∈ l := List.mem_of_getElem? hpe2
   have hgo := (unhide HQ).2.2.2.2.1 p hpm
   have hlb : l.length ≤ 1000000 := by have := (unhide HQ).2.2.2.2.2.2; omega
   have hfd := hi.p.q.d p hpm
   obtain ⟨r6, c6, rfl⟩ := hi.g.g.r.form
   obtain ⟨X, hX⟩ : ∃ X, s.step p.1 p.2 j = X := ⟨_, rfl⟩
   have hap := hi.p.apply hpm hi.g.o hgo.1 j X hX
   obtain ⟨⟨b0, b1, b2⟩, hcs⟩ := hi.p.cells hpe2
   obtain ⟨⟨cl, nu, ac, op, rc, ve, wa', ow, fv, rs⟩, F⟩ := p
   obtain ⟨xo2, xc2, rfl⟩ : ∃ xo2 xc2, fv = .slice xo2 F.length xc2 := hfd.f.form
   obtain ⟨c0, c1, c2, c3, c4, c5, c6', c7, c8, c9⟩ := hcs
   simp only [RQ.v] at c0 c1 c2 c3 c4 c5 c6' c7 c8 c9 hap
   have HAp := hide hap
   have hkl : (j : Int) < (l.length : Int) := by omega
   have hwr : IntKind.u32.wrap (j : Int) = (j : Int) := by rw [IntKind.wrap_u32]; omega
   have HI := hide hi
   have HF := hide (And.intro hfd.f (And.intro hgo (And.intro hpm hpe2)))
   have HXX := hide hX
   have HSS := hide (show X.1.S = S by rw [← hX, step_S]; exact hsS)
   have hlt' := hide hlt
   clear hi hfd hgo hpm hpe hpe2 hX hj hlt hap hsS
   go_wp2_with fail
   refine (unhide HAp).mono ?_
   rintro e w5 ⟨fo0, fn0, fc0, ho1, hn1, hc1, rfl, T', hrp, hf5, hk2, _, _⟩
   have h5 := (unhide HI).app (X := X) hrp hf5 hk2
   have HS : Hid (∀ W, Fr (fun _ => False) w5 W → W.cell? ⟨w.heap.size, 1, none⟩ = some (.slice (some ⟨g, o, none⟩) l.length rc0) ∧ W.cell? ⟨g, o + j * 10, none⟩ = some (.int .u32 (cl : Nat)) ∧ W.cell? ⟨g, o + j * 10 + 1, none⟩ = some (.int .u32 (nu : Nat)) ∧ W.cell? ⟨g, o + j * 10 + 2, none⟩ = some (.int .u32 (ac : Nat)) ∧ W.cell? ⟨g, o + j * 10 + 3, none⟩ = some (.int .u8 (op : Nat)) ∧ W.cell? ⟨g, o + j * 10 + 4, none⟩ = some (.int .u32 (rc : Nat)) ∧ W.cell? ⟨g, o + j * 10 + 5, none⟩ = some (.int .u32 (ve : Nat)) ∧ W.cell? ⟨g, o + j * 10 + 6, none⟩ = some (.int .u32 (wa' : Nat)) ∧ W.cell? ⟨g, o + j * 10 + 7, none⟩ = some (.int .u32 (ow : Nat)) ∧ W.cell? ⟨g, o + j * 10 + 8, none⟩ = some (.slice xo2 F.length xc2) ∧ W.cell? ⟨g, o + j * 10 + 9, none⟩ = some (.string rs)) := fun W hW => by
    have h6 := h5.fr hW
    obtain ⟨⟨d0, d1, d2⟩, i0, i1, i2, i3, i4, i5, i6, i7, i8, i9⟩ := h6.p.cells (unhide HF).2.2.2
    exact ⟨d1, i0, i1, i2, i3, i4, i5, i6, i7, i8, i9⟩
   have HA : Hid (∀ W, Fr (fun _ => False) w5 W → Calls Tryz.prog 12 #[.agg #[.slice so S.length sc, .slice r6 L.length c6], .agg #[.int .u32 (cl : Nat), .int .u32 (nu : Nat), .int .u32 (ac : Nat), .int .u8 (op : Nat), .int .u32 (rc : Nat), .int .u32 (ve : Nat), .int .u32 (wa' : Nat), .int .u32 (ow : Nat), .slice xo2 F.length xc2, .string rs], .int .u32 (j : Nat)] W fun e w' => QPost W T (.slice so S.length sc) j cl nu X e w') := fun W hW =>
    gapply_Q _ _ s L T j ⟨cl, nu, ac, op, rc, ve, wa', ow, .slice xo2 F.length xc2, rs⟩ F j W ((h5.fr hW).g) (by omega) (((h5.fr hW).p.q.d _ (unhide HF).2.2.1).f) (fun k hk => h5.qt k ((unhide HT0).2.1 _ (unhide HF).2.2.1 k hk)) (unhide HF).2.1 X (unhide HXX)
   have H5 := hide h5
   clear hrp hf5 hk2 h5 HI HAp c0 c1 c2 c3 c4 c5 c6' c7 c8 c9 b0 b1 b2
   go_wp2_with fail
   refine wp_region_noPanic ?_
   refine wp_region_held_drew (S := (fun W => W.cell? ⟨w.heap.size, 1, none⟩ = some (.slice (some ⟨g, o, none⟩) l.length rc0) ∧ W.cell? ⟨g, o + j * 10, none⟩ = some (.int .u32 (cl : Nat)) ∧ W.cell? ⟨g, o + j * 10 + 1, none⟩ = some (.int .u32 (nu : Nat)) ∧ W.cell? ⟨g, o + j * 10 + 2, none⟩ = some (.int .u32 (ac : Nat)) ∧ W.cell? ⟨g, o + j * 10 + 3, none⟩ = some (.int .u8 (op : Nat)) ∧ W.cell? ⟨g, o + j * 10 + 4, none⟩ = some (.int .u32 (rc : Nat)) ∧ W.cell? ⟨g, o + j * 10 + 5, none⟩ = some (.int .u32 (ve : Nat)) ∧ W.cell? ⟨g, o + j * 10 + 6, none⟩ = some (.int .u32 (wa' : Nat)) ∧ W.cell? ⟨g, o + j * 10 + 7, none⟩ = some (.int .u32 (ow : Nat)) ∧ W.cell? ⟨g, o + j * 10 + 8, none⟩ = some (.slice xo2 F.length xc2) ∧ W.cell? ⟨g, o + j * 10 + 9, none⟩ = some (.string rs))) (by kernel_rfl) ((unhide HS) _ (Fr.refl _ _).drew) (fun hHeld => ?_)
   refine wtk2 (i := 1) rfl hHeld ?_
   (try simp only [Act.put, nrm])
   refine wtk2 (i := 2) rfl hHeld ?_
   (try simp only [Act.put, nrm])
   refine wtk2 (i := 3) rfl hHeld ?_
   (try simp only [Act.put, nrm])
   refine wtk2 (i := 4) rfl hHeld ?_
   (try simp only [Act.put, nrm])
   refine wtk2 (i := 5) rfl hHeld ?_
   (try simp only [Act.put, nrm])
   refine wtk2 (i := 6) rfl hHeld ?_
   (try simp only [Act.put, nrm])
   refine wtk2 (i := 7) rfl hHeld ?_
   (try simp only [Act.put, nrm])
   obtain ⟨W0, hW0⟩ : ∃ W0, W0 = w5.drew := ⟨_, rfl⟩
   have hd5 : Hid (W0.heap.size = w5.heap.size) := by rw [hW0]; rfl
   have fk0 : Fr (fun _ => False) w5 W0 := by rw [hW0]; exact (Fr.refl _ _).drew
   have e0 : W0.cell? ⟨z6, 0, none⟩ = some (.slice so S.length sc) := by simp [World.cell?, ((unhide H5).fr fk0).zb]
   have e1 : W0.cell? ⟨z6, 1, none⟩ = some (.slice r6 L.length c6) := by simp [World.cell?, ((unhide H5).fr fk0).zb]
   rw [← hW0] at hHeld ⊢
   clear hW0
   refine wpAnyH_ready (rs := [0]) (by kernel_rfl) (by simp) (AllReadyH.cons rfl (fun K hK => ?_) (AllReadyH.nil))
   go_simp
   refine hK.out _ _ ((unhide HS) _ fk0) (fun hHeld => ?_)
   clear hK K e0 e1
   (try simp only [Act.put, nrm])
   refine wpAnyH_ready (rs := [8]) (by kernel_rfl) (by simp) (AllReadyH.cons rfl (fun K hK => ?_) (AllReadyH.nil))
   go_simp
   refine ((unhide HA) _ fk0).mono ?_
   rintro e w7 ⟨rv', L', fo, fn, fc, ho, hn, hc, T1, rfl, hone', hrr, ht1, ht2, f7⟩
   have f57 := fk0.trans f7 (fun _ _ h => h)
   have h7 := (unhide H5).fr f57
   obtain ⟨W8, st8, k8, f8⟩ := st_put h7.zb (.slice so S.length sc) rv' (fun u hu => by simp at hu; rcases hu with rfl | rfl <;> first | rfl | exact hone')
   have hE := (unhide H5).ref f57 hrr (fun k hk => ⟨by have := (ht1 k hk).1; rw [unhide hd5] at this; exact this, (ht1 k hk).2⟩) (fun k hk hl => ht2 k hk (by rw [unhide hd5]; exact hl)) f8 k8
   have HS8 : Hid ((fun W : World => W.cell? ⟨w.heap.size, 1, none⟩ = some (.slice (some ⟨g, o, none⟩) l.length rc0) ∧ W.cell? ⟨g, o + j * 10, none⟩ = some (.int .u32 (cl : Nat)) ∧ W.cell? ⟨g, o + j * 10 + 1, none⟩ = some (.int .u32 (nu : Nat)) ∧ W.cell? ⟨g, o + j * 10 + 2, none⟩ = some (.int .u32 (ac : Nat)) ∧ W.cell? ⟨g, o + j * 10 + 3, none⟩ = some (.int .u8 (op : Nat)) ∧ W.cell? ⟨g, o + j * 10 + 4, none⟩ = some (.int .u32 (rc : Nat)) ∧ W.cell? ⟨g, o + j * 10 + 5, none⟩ = some (.int .u32 (ve : Nat)) ∧ W.cell? ⟨g, o + j * 10 + 6, none⟩ = some (.int .u32 (wa' : Nat)) ∧ W.cell? ⟨g, o + j * 10 + 7, none⟩ = some (.int .u32 (ow : Nat)) ∧ W.cell? ⟨g, o + j * 10 + 8, none⟩ = some (.slice xo2 F.length xc2) ∧ W.cell? ⟨g, o + j * 10 + 9, none⟩ = some (.string rs)) W8) := by
    obtain ⟨⟨d0, d1, d2⟩, i0, i1, i2, i3, i4, i5, i6, i7, i8, i9⟩ := hE.p.cells (unhide HF).2.2.2
    exact ⟨d1, i0, i1, i2, i3, i4, i5, i6, i7, i8, i9⟩
   have HE := hide hE
   have HST := hide st8
   have F57 := hide f57
   clear hrr ht1 ht2 f7 f57 h7 st8 k8 f8 hone' hE
   go_simp
   refine hK.out _ _ ((unhide HS) _ (unhide F57)) (fun hHeld => ?_)
   clear hK K
   (try simp only [Act.put, nrm])
   refine wtk2 (i := 9) rfl hHeld ?_
   (try simp only [Act.put, nrm])
   refine wtk2 (i := 10) rfl hHeld ?_
   (try simp only [Act.put, nrm])
   refine wtk2 (i := 11) rfl hHeld ?_
   (try simp only [Act.put, nrm])
   refine wpAnyH_ready (rs := [12]) (by kernel_rfl) (by simp) (AllReadyH.cons rfl (fun K hK => ?_) (AllReadyH.nil))
   refine step_stN rfl 36 (.tmp 8) (.tmp 55) rfl _ _ (by simp [Act.eval]) (by simp [Act.eval]) (unhide HST) ?_
   refine hK.out _ _ (unhide HS8) (fun hHeld => ?_)
   clear hK K
   (try simp only [Act.put])
   refine wpAnyH_done (by kernel_rfl) ?_ _
   refine NoPanic.normal ?_
   have hlt := unhide hlt'
   clear hHeld HS HS8 HA HST F57 H5 HF HXX hd5 fk0
   go_wp2_with fail
   go_roundw
   case rel => exact ⟨j + 1, hlt, by go_num, _, _, _, _, _, unhide HSS, unhide HE⟩
   case measure => simp [intOf]; omega
  ·obtain rfl : j = l.length := by omega
   have b1 : wm.cell? ⟨w.heap.size, 1, none⟩ = some (.slice ro l.length rc0) := by simp [World.cell?, hi.p.b]
   have HCp := hide (rcopy_any bs Ts s wm hi.p.rs (by rw [hsS]; exact (unhide HQ).2.2.2.2.2.1) hi.g.o)
   obtain ⟨r6, c6, rfl⟩ := hi.g.g.r.form
   have HI := hide hi
   clear hi hj hlt
   go_wp2_with fail
   refine (unhide HCp).mono ?_
   rintro e w5 ⟨bc, rfl, hbc, hf5⟩
   obtain ⟨W0, hW0⟩ : ∃ W0, W0 = w5.drew := ⟨_, rfl⟩
   have f50 : Fr (fun _ => False) w5 W0 := by rw [hW0]; exact (Fr.refl _ _).drew
   have h5 := (unhide HI).fr (hf5.trans f50 (fun _ _ h => h))
   have hd5 : W0.heap.size = w5.heap.size := by rw [hW0]; rfl
   have hLe : s.C.length = L.length := by have := h5.g.m.n; simpa [GM] using this.symm
   have HS13 : Hid (∀ W, Fr (fun _ => False) W0 W → W.cell? ⟨z6, 1, none⟩ = some (.slice r6 L.length c6)) := fun W hW => by simp [World.cell?, (h5.fr hW).zb]
   have HRc : Hid (Calls Tryz.prog 15 #[.pointer (some ⟨bc, 0, none⟩)] W0 fun e w' => e = .returned (.int .i64 (L.length : Nat)) ∧ w' = W0) := by rw [← hLe]; exact records_B bc _ s W0 (hbc.fr f50)
   have e0 : W0.cell? ⟨z6, 0, none⟩ = some (.slice so S.length sc) := by simp [World.cell?, h5.zb]
   have e1 : W0.cell? ⟨z6, 1, none⟩ = some (.slice r6 L.length c6) := by simp [World.cell?, h5.zb]
   obtain ⟨W8, hW8⟩ : ∃ W8, W8 = (W0.alloc (.cells #[.slice so S.length sc, .slice r6 L.length c6] 36)).alloc (.cells #[.slice so S.length sc, .slice r6 L.length c6] 36) := ⟨_, rfl⟩
   obtain ⟨zx, hzx⟩ : ∃ zx, zx = W0.heap.size := ⟨_, rfl⟩
   have hzl : z6 < W0.heap.size := lt_of_block h5.zb
   have HC0 : Hid (C2 w W8 bs Ts s zx (.slice r6 L.length c6) l.length s L bc (fun k => wm.heap.size ≤ k ∧ k < w5.heap.size) s (zx + 1) (.slice r6 L.length c6) l.length s L (.slice so S.length sc) T T0) := by
    have f8 : Fr (fun _ => False) W0 W8 := by rw [hW8]; exact (box1 W0 _).alloc _
    have hm5 := hf5.size
    have hs8 : W8.heap.size = W0.heap.size + 2 := by rw [hW8]; simp
    have h8 := h5.fr f8
    have hwl := (unhide HI).p.f.size
    refine ⟨h8.p.rs, (hbc.fr f50).fr f8, fun k hk => ?_, fun k hk => ?_, ?_, ?_, ⟨by omega, by omega, by omega⟩, h8.g, h8.g, fun k hk => ?_, h8.qt, h8.p.f⟩
    ·have h1 := (unhide HI).p.ts k hk
     exact ⟨by omega, by omega, fun e => by omega, fun e => ((unhide HI).t k e).2.2 hk, by omega, by omega⟩
    ·exact ⟨by omega, by omega, fun e => by have := ((unhide HI).p.ts k e).2; omega, fun e => by have := ((unhide HI).t k e).1; omega, by omega, by omega⟩
    ·rw [hW8, hzx]; exact ((box1 _ _).block _ (by simp) (fun h => h)).trans Array.getElem?_push_size
    ·rw [hW8, hzx]; exact heap_two W0 _ _
    ·have := ((unhide HI).t k hk).1
     exact ⟨by omega, by omega, by omega⟩
   clear hbc hf5 h5 hLe HI HCp b1 hd5 f50
   go_wp2_with fail
   refine wp_region_noPanic ?_
   refine wp_region_held_drew (S := (fun W => W.cell? ⟨z6, 1, none⟩ = some (.slice r6 L.length c6))) (by kernel_rfl) (by rw [← hW0]; exact (unhide HS13) _ (Fr.refl _ _)) (fun hHeld => ?_)
   rw [← hW0] at hHeld ⊢
   clear hW0
   refine wtk2 (i := 0) rfl hHeld ?_
   (try simp only [Act.put, nrm])
   refine wtk2 (i := 1) rfl hHeld ?_
   (try simp only [Act.put, nrm])
   refine wtk2 (i := 2) rfl hHeld ?_
   (try simp only [Act.put, nrm])
   refine wtk2 (i := 3) rfl hHeld ?_
   (try simp only [Act.put, nrm])
   refine wtk2 (i := 5) rfl hHeld ?_
   (try simp only [Act.put, nrm])
   refine wtk2 (i := 6) rfl hHeld ?_
   (try simp only [Act.put, nrm])
   refine wtk2 (i := 7) rfl hHeld ?_
   (try simp only [Act.put, nrm])
   refine wpAnyH_ready (rs := [4]) (by kernel_rfl) (by simp) (AllReadyH.cons rfl (fun K hK => ?_) (AllReadyH.nil))
   go_simp
   refine (unhide HRc).mono ?_
   rintro e w6 ⟨rfl, hwq⟩
   obtain rfl := hwq.symm
   go_simp
   refine hK.out _ _ ((unhide HS13) _ (Fr.refl _ _)) (fun hHeld => ?_)
   clear hK K
   (try simp only [Act.put, nrm])
   refine wtk2 (i := 8) rfl hHeld ?_
   (try simp only [Act.put, nrm])
   refine wtk2 (i := 9) rfl hHeld ?_
   (try simp only [Act.put, nrm])
   refine wpAnyH_done (by kernel_rfl) ?_ _
   refine NoPanic.normal ?_
   clear hHeld HS13 HRc
   go_wp2_with fail
   rw [← hW8]
   (try rw [← hzx])
   clear hW8 hzx e0 e1 hzl
   go_loopw [13] (fun kv wr => ∃ j : Nat, j ≤ H.length + I.length ∧ kv = .int .i64 (j : Nat) ∧ ∃ Tx sx rx nx Lx Ty sy ry ny Ly T, nx ≤ l.length + j ∧ ny ≤ l.length + j ∧ C2 w wr bs Tx sx zx rx nx sx Lx bc Ty sy (zx + 1) ry ny sy Ly (.slice so S.length sc) T T0) (fun kv _ => H.length + I.length - (intOf kv).toNat)
   case atStart => exact ⟨0, Nat.zero_le _, rfl, _, _, _, _, _, _, _, _, _, _, _, Nat.le_refl _, Nat.le_refl _, unhide HC0⟩
   case round =>
    clear HC0
    obtain ⟨j, hj, rfl, Tx, sx, rx, nx, Lx, Ty, sy, ry, ny, Ly, T, hnx, hny, hi⟩ := hrel
    rename World => wr
    by_cases hlt : j < H.length
    ·skip
     obtain ⟨p, hpe⟩ : ∃ p, H[j] = p := ⟨_, rfl⟩
     have hpe2 : H[j]? = some p := by rw [List.getElem?_eq_getElem hlt, hpe]
     have hqr := (unhide HH).1.fr hi.f
     obtain ⟨g0, o0, rfl, hr0⟩ := hqr.at_ j hlt
     rw [hpe] at hr0
     have hpm : p ∈ H := List.mem_of_getElem? hpe2
     have hgo := (unhide HH).2.2.1 p hpm
     have hfd := hqr.d p hpm
     obtain ⟨r6, c60, rfl⟩ := hi.gx.g.r.form
     obtain ⟨X, hX⟩ : ∃ X, sx.step p.1 p.2 j = X := ⟨_, rfl⟩
     have HSt : Hid (X.2.F.length ≤ 32 ∧ X.2.H.length ≤ 64) := by rw [← hX]; exact step_short hi.gx.o _ _ _
     obtain ⟨⟨cl, nu, ac, op, rc, ve, wa', ow, fv, rs⟩, F⟩ := p
     obtain ⟨xo2, xc2, rfl⟩ : ∃ xo2 xc2, fv = .slice xo2 F.length xc2 := hfd.f.form
     have HA : Hid (∀ W, Fr (fun _ => False) wr W → Calls Tryz.prog 12 #[.agg #[.slice so S.length sc, .slice r6 Lx.length c60], .agg #[.int .u32 (cl : Nat), .int .u32 (nu : Nat), .int .u32 (ac : Nat), .int .u8 (op : Nat), .int .u32 (rc : Nat), .int .u32 (ve : Nat), .int .u32 (wa' : Nat), .int .u32 (ow : Nat), .slice xo2 F.length xc2, .string rs], .int .u32 (j : Nat)] W fun e w' => QPost W T (.slice so S.length sc) nx cl nu X e w') := fun W hW => gapply_Q _ _ sx Lx T nx ⟨cl, nu, ac, op, rc, ve, wa', ow, .slice xo2 F.length xc2, rs⟩ F j W (hi.gx.fr hW) (by have := (unhide HQ).2.2.2.2.2.2; omega) (hfd.f.fr hW) (fun k hk => hi.qt k ((unhide HT0).2.2.1 _ hpm k hk)) hgo X hX
     have HT : Hid (∀ k, T k → k < wr.heap.size) := fun k hk => (hi.t k hk).1
     have HS : Hid (∀ W, Fr (fun _ => False) wr W → W.cell? ⟨zx, 0, none⟩ = some (.slice so S.length sc) ∧ W.cell? ⟨zx, 1, none⟩ = some (.slice r6 Lx.length c60) ∧ W.cell? ⟨g0, o0 + j * 10, none⟩ = some (.int .u32 (cl : Nat)) ∧ W.cell? ⟨g0, o0 + j * 10 + 1, none⟩ = some (.int .u32 (nu : Nat)) ∧ W.cell? ⟨g0, o0 + j * 10 + 2, none⟩ = some (.int .u32 (ac : Nat)) ∧ W.cell? ⟨g0, o0 + j * 10 + 3, none⟩ = some (.int .u8 (op : Nat)) ∧ W.cell? ⟨g0, o0 + j * 10 + 4, none⟩ = some (.int .u32 (rc : Nat)) ∧ W.cell? ⟨g0, o0 + j * 10 + 5, none⟩ = some (.int .u32 (ve : Nat)) ∧ W.cell? ⟨g0, o0 + j * 10 + 6, none⟩ = some (.int .u32 (wa' : Nat)) ∧ W.cell? ⟨g0, o0 + j * 10 + 7, none⟩ = some (.int .u32 (ow : Nat)) ∧ W.cell? ⟨g0, o0 + j * 10 + 8, none⟩ = some (.slice xo2 F.length xc2) ∧ W.cell? ⟨g0, o0 + j * 10 + 9, none⟩ = some (.string rs)) := fun W hW => by
      have hb := (hi.fr hW).kx
      obtain ⟨i0, i1, i2, i3, i4, i5, i6, i7, i8, i9⟩ := hr0.frS hW (fun h => h)
      exact ⟨by simp [World.cell?, hb], by simp [World.cell?, hb], i0, i1, i2, i3, i4, i5, i6, i7, i8, i9⟩
     have hkl0 : (j : Int) < (H.length : Int) := by omega
     have hwr : IntKind.u32.wrap (j : Int) = (j : Int) := by have := (unhide HQ).2.2.2.2.2.2; rw [IntKind.wrap_u32]; omega
     have hgT : ¬ Tx g0 := fun e => (hi.tx _ e).2.2.2.1 (hi.qt _ ((unhide HG0) g0 (.inl ⟨_, _, _, rfl, by omega⟩)))
     have HI := hide hi
     have HF := hide (And.intro hr0 (And.intro hgo (And.intro hpm (And.intro hX hgT))))
     have hltx := hide hlt
     clear hi hpe hpe2 hqr hpm hgo hfd hr0 hX hlt hgT
     go_upto_region 21 with fail
     go_cut [14, 15] from 71 to 136 (fun s1 s2 wx => ∃ zA zB rv' L' T1 fo fn fc ho hn hc sz, s1 = .pointer (some ⟨zA, 0, none⟩) ∧ s2 = .pointer (some ⟨zB, 0, none⟩) ∧ Fr (fun _ => False) wr wx ∧ GQ wx T1 (.slice so S.length sc) rv' (nx + 1) X L' (.slice fo fn fc) (.slice ho hn hc) ∧ (∀ k, T1 k → (T k ∨ sz ≤ k) ∧ k < wx.heap.size) ∧ wr.heap.size ≤ sz ∧ (∀ k, T k → T1 k) ∧ (wr.heap.size ≤ zA ∧ wx.heap[zA]? = some (.cells #[.slice so S.length sc, rv'] 36)) ∧ (wr.heap.size ≤ zB ∧ wx.heap[zB]? = some (.cells #[.int .u32 (cl : Nat), .int .u32 (nu : Nat), .int .u8 (X.2.co : Nat), .int .u32 (X.2.rc : Nat), .int .u32 (X.2.ve : Nat), .slice fo fn fc, .slice ho hn hc] 45)))
     case first =>
      refine wp_region_noPanic ?_
      refine wp_region_held_drew (S := (fun W => W.cell? ⟨zx, 0, none⟩ = some (.slice so S.length sc) ∧ W.cell? ⟨zx, 1, none⟩ = some (.slice r6 Lx.length c60) ∧ W.cell? ⟨g0, o0 + j * 10, none⟩ = some (.int .u32 (cl : Nat)) ∧ W.cell? ⟨g0, o0 + j * 10 + 1, none⟩ = some (.int .u32 (nu : Nat)) ∧ W.cell? ⟨g0, o0 + j * 10 + 2, none⟩ = some (.int .u32 (ac : Nat)) ∧ W.cell? ⟨g0, o0 + j * 10 + 3, none⟩ = some (.int .u8 (op : Nat)) ∧ W.cell? ⟨g0, o0 + j * 10 + 4, none⟩ = some (.int .u32 (rc : Nat)) ∧ W.cell? ⟨g0, o0 + j * 10 + 5, none⟩ = some (.int .u32 (ve : Nat)) ∧ W.cell? ⟨g0, o0 + j * 10 + 6, none⟩ = some (.int .u32 (wa' : Nat)) ∧ W.cell? ⟨g0, o0 + j * 10 + 7, none⟩ = some (.int .u32 (ow : Nat)) ∧ W.cell? ⟨g0, o0 + j * 10 + 8, none⟩ = some (.slice xo2 F.length xc2) ∧ W.cell? ⟨g0, o0 + j * 10 + 9, none⟩ = some (.string rs))) (by kernel_rfl) ((unhide HS) _ (Fr.refl _ _).drew) (fun hHeld => ?_)
      refine wtk2 (i := 0) rfl hHeld ?_
      (try simp only [Act.put, nrm])
      refine wtk2 (i := 1) rfl hHeld ?_
      (try simp only [Act.put, nrm])
      refine wtk2 (i := 2) rfl hHeld ?_
      (try simp only [Act.put, nrm])
      refine wtk2 (i := 3) rfl hHeld ?_
      (try simp only [Act.put, nrm])
      refine wtk2 (i := 4) rfl hHeld ?_
      (try simp only [Act.put, nrm])
      refine wtk2 (i := 5) rfl hHeld ?_
      (try simp only [Act.put, nrm])
      refine wtk2 (i := 6) rfl hHeld ?_
      (try simp only [Act.put, nrm])
      obtain ⟨W0, hW0⟩ : ∃ W0, W0 = wr.drew := ⟨_, rfl⟩
      rw [← hW0]
      have fk0 : Fr (fun _ => False) wr W0 := by rw [hW0]; exact (Fr.refl _ _).drew
      clear hW0
      refine wpAnyH_ready (rs := [7, 11, 12]) (by kernel_rfl) (by simp) (AllReadyH.cons rfl (fun K hK => ?_) (AllReadyH.cons rfl (fun K hK => ?_) (AllReadyH.cons rfl (fun K hK => ?_) (AllReadyH.nil))))
      focus
       go_simp
       refine ((unhide HA) W0 fk0).mono ?_
       rintro e wk1 ⟨rv', L', fo, fn, fc, ho, hn, hc, T1, rfl, hone', hrr, ht1, ht2, gk1⟩
       have fk1 := fk0.trans gk1 (fun _ _ h => h)
       have HSZ := hide (fk0.size)
       have HRR := hide hrr
       have HT1 := hide ht1
       have HT2 := hide (show ∀ k, T k → T1 k from fun k hk => ht2 k hk (Nat.lt_of_lt_of_le ((unhide HT) k hk) fk0.size))
       have HONE := hide hone'
       clear hrr ht1 ht2 hone'
       go_simp
       refine hK.out _ _ ((unhide HS) _ fk1) (fun hHeld => ?_)
       clear hK K
       (try simp only [Act.put, nrm])
       refine wtk2 (i := 8) rfl hHeld ?_
       (try simp only [Act.put, nrm])
       refine wtk2 (i := 9) rfl hHeld ?_
       (try simp only [Act.put, nrm])
       refine wtk2 (i := 10) rfl hHeld ?_
       (try simp only [Act.put, nrm])
       refine wpAnyH_ready (rs := [11, 12]) (by kernel_rfl) (by simp) (AllReadyH.cons rfl (fun K hK => ?_) (AllReadyH.cons rfl (fun K hK => ?_) (AllReadyH.nil)))
       focus
        go_simp
        obtain ⟨wk2, hwk2⟩ : ∃ wk2, wk2 = wk1.alloc (.cells #[.slice none 0 0, .slice none 0 0] 36) := ⟨_, rfl⟩
        obtain ⟨zA, hzA⟩ : ∃ zA, zA = wk1.heap.size := ⟨_, rfl⟩
        have gk2 : Fr (fun _ => False) wk1 wk2 := by rw [hwk2]; exact box1 _ _
        have fk2 := fk1.trans gk2 (fun _ _ h => h)
        have HKA : Hid (wr.heap.size ≤ zA ∧ wk2.heap[zA]? = some (.cells #[.slice none 0 0, .slice none 0 0] 36)) := ⟨by rw [hzA]; exact fk1.size, by rw [hwk2, hzA]; exact Array.getElem?_push_size⟩
        have HNA : Hid (¬ T1 zA) := fun h => by
         have h1 := (unhide HRR).lt zA h
         omega
        replace HRR := hide ((unhide HRR).fr gk2)
        rw [← hwk2, ← hzA]
        clear hwk2 hzA
        refine hK.out _ _ ((unhide HS) _ fk2) (fun hHeld => ?_)
        clear hK K
        (try simp only [Act.put, nrm])
        refine wpAnyH_ready (rs := [12]) (by kernel_rfl) (by simp) (AllReadyH.cons rfl (fun K hK => ?_) (AllReadyH.nil))
        go_simp
        obtain ⟨wk3, hwk3⟩ : ∃ wk3, wk3 = wk2.alloc (.cells #[.int .u32 0, .int .u32 0, .int .u8 0, .int .u32 0, .int .u32 0, .slice none 0 0, .slice none 0 0] 45) := ⟨_, rfl⟩
        obtain ⟨zB, hzB⟩ : ∃ zB, zB = wk2.heap.size := ⟨_, rfl⟩
        have gk3 : Fr (fun _ => False) wk2 wk3 := by rw [hwk3]; exact box1 _ _
        have fk3 := fk2.trans gk3 (fun _ _ h => h)
        have HKB : Hid (wr.heap.size ≤ zB ∧ wk3.heap[zB]? = some (.cells #[.int .u32 0, .int .u32 0, .int .u8 0, .int .u32 0, .int .u32 0, .slice none 0 0, .slice none 0 0] 45)) := ⟨by rw [hzB]; exact fk2.size, by rw [hwk3, hzB]; exact Array.getElem?_push_size⟩
        have HNE : Hid (zA ≠ zB) := by have h1 := lt_of_block (unhide HKA).2; show zA ≠ zB; omega
        replace HKA := hide (And.intro (unhide HKA).1 ((gk3.block zA (lt_of_block (unhide HKA).2) (fun h => h)).trans (unhide HKA).2))
        have HNB : Hid (¬ T1 zB) := fun h => by
         have h1 := (unhide HRR).lt zB h
         omega
        replace HRR := hide ((unhide HRR).fr gk3)
        rw [← hwk3, ← hzB]
        clear hwk3 hzB
        refine hK.out _ _ ((unhide HS) _ fk3) (fun hHeld => ?_)
        clear hK K
        (try simp only [Act.put, nrm])
       rotate_left
       focus
        go_simp
        obtain ⟨wk2, hwk2⟩ : ∃ wk2, wk2 = wk1.alloc (.cells #[.int .u32 0, .int .u32 0, .int .u8 0, .int .u32 0, .int .u32 0, .slice none 0 0, .slice none 0 0] 45) := ⟨_, rfl⟩
        obtain ⟨zB, hzB⟩ : ∃ zB, zB = wk1.heap.size := ⟨_, rfl⟩
        have gk2 : Fr (fun _ => False) wk1 wk2 := by rw [hwk2]; exact box1 _ _
        have fk2 := fk1.trans gk2 (fun _ _ h => h)
        have HKB : Hid (wr.heap.size ≤ zB ∧ wk2.heap[zB]? = some (.cells #[.int .u32 0, .int .u32 0, .int .u8 0, .int .u32 0, .int .u32 0, .slice none 0 0, .slice none 0 0] 45)) := ⟨by rw [hzB]; exact fk1.size, by rw [hwk2, hzB]; exact Array.getElem?_push_size⟩
        have HNB : Hid (¬ T1 zB) := fun h => by
         have h1 := (unhide HRR).lt zB h
         omega
        replace HRR := hide ((unhide HRR).fr gk2)
        rw [← hwk2, ← hzB]
        clear hwk2 hzB
        refine hK.out _ _ ((unhide HS) _ fk2) (fun hHeld => ?_)
        clear hK K
        (try simp only [Act.put, nrm])
        refine wpAnyH_ready (rs := [11]) (by kernel_rfl) (by simp) (AllReadyH.cons rfl (fun K hK => ?_) (AllReadyH.nil))
        go_simp
        obtain ⟨wk3, hwk3⟩ : ∃ wk3, wk3 = wk2.alloc (.cells #[.slice none 0 0, .slice none 0 0] 36) := ⟨_, rfl⟩
        obtain ⟨zA, hzA⟩ : ∃ zA, zA = wk2.heap.size := ⟨_, rfl⟩
        have gk3 : Fr (fun _ => False) wk2 wk3 := by rw [hwk3]; exact box1 _ _
        have fk3 := fk2.trans gk3 (fun _ _ h => h)
        have HKA : Hid (wr.heap.size ≤ zA ∧ wk3.heap[zA]? = some (.cells #[.slice none 0 0, .slice none 0 0] 36)) := ⟨by rw [hzA]; exact fk2.size, by rw [hwk3, hzA]; exact Array.getElem?_push_size⟩
        have HNE : Hid (zA ≠ zB) := by have h1 := lt_of_block (unhide HKB).2; show zA ≠ zB; omega
        replace HKB := hide (And.intro (unhide HKB).1 ((gk3.block zB (lt_of_block (unhide HKB).2) (fun h => h)).trans (unhide HKB).2))
        have HNA : Hid (¬ T1 zA) := fun h => by
         have h1 := (unhide HRR).lt zA h
         omega
        replace HRR := hide ((unhide HRR).fr gk3)
        rw [← hwk3, ← hzA]
        clear hwk3 hzA
        refine hK.out _ _ ((unhide HS) _ fk3) (fun hHeld => ?_)
        clear hK K
        (try simp only [Act.put, nrm])
      rotate_left 2
      focus
       go_simp
       obtain ⟨wk1, hwk1⟩ : ∃ wk1, wk1 = W0.alloc (.cells #[.slice none 0 0, .slice none 0 0] 36) := ⟨_, rfl⟩
       obtain ⟨zA, hzA⟩ : ∃ zA, zA = W0.heap.size := ⟨_, rfl⟩
       have gk1 : Fr (fun _ => False) W0 wk1 := by rw [hwk1]; exact box1 _ _
       have fk1 := fk0.trans gk1 (fun _ _ h => h)
       have HKA : Hid (wr.heap.size ≤ zA ∧ wk1.heap[zA]? = some (.cells #[.slice none 0 0, .slice none 0 0] 36)) := ⟨by rw [hzA]; exact fk0.size, by rw [hwk1, hzA]; exact Array.getElem?_push_size⟩
       rw [← hwk1, ← hzA]
       clear hwk1 hzA
       refine hK.out _ _ ((unhide HS) _ fk1) (fun hHeld => ?_)
       clear hK K
       (try simp only [Act.put, nrm])
       refine wpAnyH_ready (rs := [7, 12]) (by kernel_rfl) (by simp) (AllReadyH.cons rfl (fun K hK => ?_) (AllReadyH.cons rfl (fun K hK => ?_) (AllReadyH.nil)))
       focus
        go_simp
        refine ((unhide HA) wk1 fk1).mono ?_
        rintro e wk2 ⟨rv', L', fo, fn, fc, ho, hn, hc, T1, rfl, hone', hrr, ht1, ht2, gk2⟩
        have fk2 := fk1.trans gk2 (fun _ _ h => h)
        have HSZ := hide (fk1.size)
        have HRR := hide hrr
        have HT1 := hide ht1
        have HT2 := hide (show ∀ k, T k → T1 k from fun k hk => ht2 k hk (Nat.lt_of_lt_of_le ((unhide HT) k hk) fk1.size))
        have HONE := hide hone'
        clear hrr ht1 ht2 hone'
        go_simp
        refine hK.out _ _ ((unhide HS) _ fk2) (fun hHeld => ?_)
        clear hK K
        (try simp only [Act.put, nrm])
        refine wtk2 (i := 8) rfl hHeld ?_
        (try simp only [Act.put, nrm])
        refine wtk2 (i := 9) rfl hHeld ?_
        (try simp only [Act.put, nrm])
        refine wtk2 (i := 10) rfl hHeld ?_
        (try simp only [Act.put, nrm])
        have HNA : Hid (¬ T1 zA) := fun h => by
         have h1 := (unhide HT1) zA h
         have h2 := lt_of_block (unhide HKA).2
         have h3 := (unhide HKA).1
         rcases h1.1 with h4 | h4
         ·have h5 := (unhide HT) zA h4
          omega
         ·omega
        replace HKA := hide (And.intro (unhide HKA).1 ((gk2.block zA (lt_of_block (unhide HKA).2) (fun h => h)).trans (unhide HKA).2))
        refine wpAnyH_ready (rs := [12]) (by kernel_rfl) (by simp) (AllReadyH.cons rfl (fun K hK => ?_) (AllReadyH.nil))
        go_simp
        obtain ⟨wk3, hwk3⟩ : ∃ wk3, wk3 = wk2.alloc (.cells #[.int .u32 0, .int .u32 0, .int .u8 0, .int .u32 0, .int .u32 0, .slice none 0 0, .slice none 0 0] 45) := ⟨_, rfl⟩
        obtain ⟨zB, hzB⟩ : ∃ zB, zB = wk2.heap.size := ⟨_, rfl⟩
        have gk3 : Fr (fun _ => False) wk2 wk3 := by rw [hwk3]; exact box1 _ _
        have fk3 := fk2.trans gk3 (fun _ _ h => h)
        have HKB : Hid (wr.heap.size ≤ zB ∧ wk3.heap[zB]? = some (.cells #[.int .u32 0, .int .u32 0, .int .u8 0, .int .u32 0, .int .u32 0, .slice none 0 0, .slice none 0 0] 45)) := ⟨by rw [hzB]; exact fk2.size, by rw [hwk3, hzB]; exact Array.getElem?_push_size⟩
        have HNE : Hid (zA ≠ zB) := by have h1 := lt_of_block (unhide HKA).2; show zA ≠ zB; omega
        replace HKA := hide (And.intro (unhide HKA).1 ((gk3.block zA (lt_of_block (unhide HKA).2) (fun h => h)).trans (unhide HKA).2))
        have HNB : Hid (¬ T1 zB) := fun h => by
         have h1 := (unhide HRR).lt zB h
         omega
        replace HRR := hide ((unhide HRR).fr gk3)
        rw [← hwk3, ← hzB]
        clear hwk3 hzB
        refine hK.out _ _ ((unhide HS) _ fk3) (fun hHeld => ?_)
        clear hK K
        (try simp only [Act.put, nrm])
       rotate_left
       focus
        go_simp
        obtain ⟨wk2, hwk2⟩ : ∃ wk2, wk2 = wk1.alloc (.cells #[.int .u32 0, .int .u32 0, .int .u8 0, .int .u32 0, .int .u32 0, .slice none 0 0, .slice none 0 0] 45) := ⟨_, rfl⟩
        obtain ⟨zB, hzB⟩ : ∃ zB, zB = wk1.heap.size := ⟨_, rfl⟩
        have gk2 : Fr (fun _ => False) wk1 wk2 := by rw [hwk2]; exact box1 _ _
        have fk2 := fk1.trans gk2 (fun _ _ h => h)
        have HKB : Hid (wr.heap.size ≤ zB ∧ wk2.heap[zB]? = some (.cells #[.int .u32 0, .int .u32 0, .int .u8 0, .int .u32 0, .int .u32 0, .slice none 0 0, .slice none 0 0] 45)) := ⟨by rw [hzB]; exact fk1.size, by rw [hwk2, hzB]; exact Array.getElem?_push_size⟩
        have HNE : Hid (zA ≠ zB) := by have h1 := lt_of_block (unhide HKA).2; show zA ≠ zB; omega
        replace HKA := hide (And.intro (unhide HKA).1 ((gk2.block zA (lt_of_block (unhide HKA).2) (fun h => h)).trans (unhide HKA).2))
        rw [← hwk2, ← hzB]
        clear hwk2 hzB
        refine hK.out _ _ ((unhide HS) _ fk2) (fun hHeld => ?_)
        clear hK K
        (try simp only [Act.put, nrm])
        refine wpAnyH_ready (rs := [7]) (by kernel_rfl) (by simp) (AllReadyH.cons rfl (fun K hK => ?_) (AllReadyH.nil))
        go_simp
        refine ((unhide HA) wk2 fk2).mono ?_
        rintro e wk3 ⟨rv', L', fo, fn, fc, ho, hn, hc, T1, rfl, hone', hrr, ht1, ht2, gk3⟩
        have fk3 := fk2.trans gk3 (fun _ _ h => h)
        have HSZ := hide (fk2.size)
        have HRR := hide hrr
        have HT1 := hide ht1
        have HT2 := hide (show ∀ k, T k → T1 k from fun k hk => ht2 k hk (Nat.lt_of_lt_of_le ((unhide HT) k hk) fk2.size))
        have HONE := hide hone'
        clear hrr ht1 ht2 hone'
        go_simp
        refine hK.out _ _ ((unhide HS) _ fk3) (fun hHeld => ?_)
        clear hK K
        (try simp only [Act.put, nrm])
        refine wtk2 (i := 8) rfl hHeld ?_
        (try simp only [Act.put, nrm])
        refine wtk2 (i := 9) rfl hHeld ?_
        (try simp only [Act.put, nrm])
        refine wtk2 (i := 10) rfl hHeld ?_
        (try simp only [Act.put, nrm])
        have HNA : Hid (¬ T1 zA) := fun h => by
         have h1 := (unhide HT1) zA h
         have h2 := lt_of_block (unhide HKA).2
         have h3 := (unhide HKA).1
         rcases h1.1 with h4 | h4
         ·have h5 := (unhide HT) zA h4
          omega
         ·omega
        replace HKA := hide (And.intro (unhide HKA).1 ((gk3.block zA (lt_of_block (unhide HKA).2) (fun h => h)).trans (unhide HKA).2))
        have HNB : Hid (¬ T1 zB) := fun h => by
         have h1 := (unhide HT1) zB h
         have h2 := lt_of_block (unhide HKB).2
         have h3 := (unhide HKB).1
         rcases h1.1 with h4 | h4
         ·have h5 := (unhide HT) zB h4
          omega
         ·omega
        replace HKB := hide (And.intro (unhide HKB).1 ((gk3.block zB (lt_of_block (unhide HKB).2) (fun h => h)).trans (unhide HKB).2))
      rotate_left 2
      focus
       go_simp
       obtain ⟨wk1, hwk1⟩ : ∃ wk1, wk1 = W0.alloc (.cells #[.int .u32 0, .int .u32 0, .int .u8 0, .int .u32 0, .int .u32 0, .slice none 0 0, .slice none 0 0] 45) := ⟨_, rfl⟩
       obtain ⟨zB, hzB⟩ : ∃ zB, zB = W0.heap.size := ⟨_, rfl⟩
       have gk1 : Fr (fun _ => False) W0 wk1 := by rw [hwk1]; exact box1 _ _
       have fk1 := fk0.trans gk1 (fun _ _ h => h)
       have HKB : Hid (wr.heap.size ≤ zB ∧ wk1.heap[zB]? = some (.cells #[.int .u32 0, .int .u32 0, .int .u8 0, .int .u32 0, .int .u32 0, .slice none 0 0, .slice none 0 0] 45)) := ⟨by rw [hzB]; exact fk0.size, by rw [hwk1, hzB]; exact Array.getElem?_push_size⟩
       rw [← hwk1, ← hzB]
       clear hwk1 hzB
       refine hK.out _ _ ((unhide HS) _ fk1) (fun hHeld => ?_)
       clear hK K
       (try simp only [Act.put, nrm])
       refine wpAnyH_ready (rs := [7, 11]) (by kernel_rfl) (by simp) (AllReadyH.cons rfl (fun K hK => ?_) (AllReadyH.cons rfl (fun K hK => ?_) (AllReadyH.nil)))
       focus
        go_simp
        refine ((unhide HA) wk1 fk1).mono ?_
        rintro e wk2 ⟨rv', L', fo, fn, fc, ho, hn, hc, T1, rfl, hone', hrr, ht1, ht2, gk2⟩
        have fk2 := fk1.trans gk2 (fun _ _ h => h)
        have HSZ := hide (fk1.size)
        have HRR := hide hrr
        have HT1 := hide ht1
        have HT2 := hide (show ∀ k, T k → T1 k from fun k hk => ht2 k hk (Nat.lt_of_lt_of_le ((unhide HT) k hk) fk1.size))
        have HONE := hide hone'
        clear hrr ht1 ht2 hone'
        go_simp
        refine hK.out _ _ ((unhide HS) _ fk2) (fun hHeld => ?_)
        clear hK K
        (try simp only [Act.put, nrm])
        refine wtk2 (i := 8) rfl hHeld ?_
        (try simp only [Act.put, nrm])
        refine wtk2 (i := 9) rfl hHeld ?_
        (try simp only [Act.put, nrm])
        refine wtk2 (i := 10) rfl hHeld ?_
        (try simp only [Act.put, nrm])
        have HNB : Hid (¬ T1 zB) := fun h => by
         have h1 := (unhide HT1) zB h
         have h2 := lt_of_block (unhide HKB).2
         have h3 := (unhide HKB).1
         rcases h1.1 with h4 | h4
         ·have h5 := (unhide HT) zB h4
          omega
         ·omega
        replace HKB := hide (And.intro (unhide HKB).1 ((gk2.block zB (lt_of_block (unhide HKB).2) (fun h => h)).trans (unhide HKB).2))
        refine wpAnyH_ready (rs := [11]) (by kernel_rfl) (by simp) (AllReadyH.cons rfl (fun K hK => ?_) (AllReadyH.nil))
        go_simp
        obtain ⟨wk3, hwk3⟩ : ∃ wk3, wk3 = wk2.alloc (.cells #[.slice none 0 0, .slice none 0 0] 36) := ⟨_, rfl⟩
        obtain ⟨zA, hzA⟩ : ∃ zA, zA = wk2.heap.size := ⟨_, rfl⟩
        have gk3 : Fr (fun _ => False) wk2 wk3 := by rw [hwk3]; exact box1 _ _
        have fk3 := fk2.trans gk3 (fun _ _ h => h)
        have HKA : Hid (wr.heap.size ≤ zA ∧ wk3.heap[zA]? = some (.cells #[.slice none 0 0, .slice none 0 0] 36)) := ⟨by rw [hzA]; exact fk2.size, by rw [hwk3, hzA]; exact Array.getElem?_push_size⟩
        have HNE : Hid (zA ≠ zB) := by have h1 := lt_of_block (unhide HKB).2; show zA ≠ zB; omega
        replace HKB := hide (And.intro (unhide HKB).1 ((gk3.block zB (lt_of_block (unhide HKB).2) (fun h => h)).trans (unhide HKB).2))
        have HNA : Hid (¬ T1 zA) := fun h => by
         have h1 := (unhide HRR).lt zA h
         omega
        replace HRR := hide ((unhide HRR).fr gk3)
        rw [← hwk3, ← hzA]
        clear hwk3 hzA
        refine hK.out _ _ ((unhide HS) _ fk3) (fun hHeld => ?_)
        clear hK K
        (try simp only [Act.put, nrm])
       rotate_left
       focus
        go_simp
        obtain ⟨wk2, hwk2⟩ : ∃ wk2, wk2 = wk1.alloc (.cells #[.slice none 0 0, .slice none 0 0] 36) := ⟨_, rfl⟩
        obtain ⟨zA, hzA⟩ : ∃ zA, zA = wk1.heap.size := ⟨_, rfl⟩
        have gk2 : Fr (fun _ => False) wk1 wk2 := by rw [hwk2]; exact box1 _ _
        have fk2 := fk1.trans gk2 (fun _ _ h => h)
        have HKA : Hid (wr.heap.size ≤ zA ∧ wk2.heap[zA]? = some (.cells #[.slice none 0 0, .slice none 0 0] 36)) := ⟨by rw [hzA]; exact fk1.size, by rw [hwk2, hzA]; exact Array.getElem?_push_size⟩
        have HNE : Hid (zA ≠ zB) := by have h1 := lt_of_block (unhide HKB).2; show zA ≠ zB; omega
        replace HKB := hide (And.intro (unhide HKB).1 ((gk2.block zB (lt_of_block (unhide HKB).2) (fun h => h)).trans (unhide HKB).2))
        rw [← hwk2, ← hzA]
        clear hwk2 hzA
        refine hK.out _ _ ((unhide HS) _ fk2) (fun hHeld => ?_)
        clear hK K
        (try simp only [Act.put, nrm])
        refine wpAnyH_ready (rs := [7]) (by kernel_rfl) (by simp) (AllReadyH.cons rfl (fun K hK => ?_) (AllReadyH.nil))
        go_simp
        refine ((unhide HA) wk2 fk2).mono ?_
        rintro e wk3 ⟨rv', L', fo, fn, fc, ho, hn, hc, T1, rfl, hone', hrr, ht1, ht2, gk3⟩
        have fk3 := fk2.trans gk3 (fun _ _ h => h)
        have HSZ := hide (fk2.size)
        have HRR := hide hrr
        have HT1 := hide ht1
        have HT2 := hide (show ∀ k, T k → T1 k from fun k hk => ht2 k hk (Nat.lt_of_lt_of_le ((unhide HT) k hk) fk2.size))
        have HONE := hide hone'
        clear hrr ht1 ht2 hone'
        go_simp
        refine hK.out _ _ ((unhide HS) _ fk3) (fun hHeld => ?_)
        clear hK K
        (try simp only [Act.put, nrm])
        refine wtk2 (i := 8) rfl hHeld ?_
        (try simp only [Act.put, nrm])
        refine wtk2 (i := 9) rfl hHeld ?_
        (try simp only [Act.put, nrm])
        refine wtk2 (i := 10) rfl hHeld ?_
        (try simp only [Act.put, nrm])
        have HNA : Hid (¬ T1 zA) := fun h => by
         have h1 := (unhide HT1) zA h
         have h2 := lt_of_block (unhide HKA).2
         have h3 := (unhide HKA).1
         rcases h1.1 with h4 | h4
         ·have h5 := (unhide HT) zA h4
          omega
         ·omega
        replace HKA := hide (And.intro (unhide HKA).1 ((gk3.block zA (lt_of_block (unhide HKA).2) (fun h => h)).trans (unhide HKA).2))
        have HNB : Hid (¬ T1 zB) := fun h => by
         have h1 := (unhide HT1) zB h
         have h2 := lt_of_block (unhide HKB).2
         have h3 := (unhide HKB).1
         rcases h1.1 with h4 | h4
         ·have h5 := (unhide HT) zB h4
          omega
         ·omega
        replace HKB := hide (And.intro (unhide HKB).1 ((gk3.block zB (lt_of_block (unhide HKB).2) (fun h => h)).trans (unhide HKB).2))
      all_goals
       refine wpAnyH_ready (rs := [13]) (by kernel_rfl) (by simp) (AllReadyH.cons rfl (fun K hK => ?_) (AllReadyH.nil))
       obtain ⟨wk4, st4, kk4, gk4⟩ := st_put (unhide HKA).2 (.slice so S.length sc) rv' (fun u hu => by simp at hu; rcases hu with rfl | rfl <;> first | rfl | exact unhide HONE)
       have HST4 := hide st4
       have fk4 := fk3.absorb gk4 (fun i hi => by rw [hi]; exact (unhide HKA).1)
       replace HKA := hide (And.intro (unhide HKA).1 kk4)
       replace HRR := hide ((unhide HRR).frS gk4 (fun k hk => by rw [hk]; exact unhide HNA))
       replace HKB := hide (And.intro (unhide HKB).1 ((gk4.block zB (lt_of_block (unhide HKB).2) (fun e => by have h1 := (unhide HNE); omega)).trans (unhide HKB).2))
       clear st4 kk4
       refine step_stN rfl 36 (.tmp 14) (.tmp 96) rfl _ _ (by simp [Act.eval]) (by simp [Act.eval]) (unhide HST4) ?_
       refine hK.out _ _ ((unhide HS) _ fk4) (fun hHeld => ?_)
       clear hK K
       (try simp only [Act.put])
       refine wpAnyH_ready (rs := [14]) (by kernel_rfl) (by simp) (AllReadyH.cons rfl (fun K hK => ?_) (AllReadyH.nil))
       obtain ⟨wk5, st5, kk5, gk5⟩ := ans_put (unhide HKB).2 (.int .u32 (cl : Nat)) (.int .u32 (nu : Nat)) (.int .u8 (X.2.co : Nat)) (.int .u32 (X.2.rc : Nat)) (.int .u32 (X.2.ve : Nat)) (.slice fo fn fc) (.slice ho hn hc) (fun u hu => by simp at hu; rcases hu with rfl | rfl | rfl | rfl | rfl | rfl | rfl <;> rfl)
       have HST5 := hide st5
       have fk5 := fk4.absorb gk5 (fun i hi => by rw [hi]; exact (unhide HKB).1)
       replace HKB := hide (And.intro (unhide HKB).1 kk5)
       replace HRR := hide ((unhide HRR).frS gk5 (fun k hk => by rw [hk]; exact unhide HNB))
       replace HKA := hide (And.intro (unhide HKA).1 ((gk5.block zA (lt_of_block (unhide HKA).2) (fun e => by have h1 := (unhide HNE); omega)).trans (unhide HKA).2))
       clear st5 kk5
       refine step_stN rfl 45 (.tmp 15) (.tmp 97) rfl _ _ (by simp [Act.eval]) (by simp [Act.eval]) (unhide HST5) ?_
       refine hK.out _ _ ((unhide HS) _ fk5) (fun hHeld => ?_)
       clear hK K
       (try simp only [Act.put])
       refine wpAnyH_done (by kernel_rfl) ?_ _
       refine NoPanic.normal ?_
       go_wp2_with fail
       go_meet
       case rel => exact ⟨zA, zB, rv', L', T1, fo, fn, fc, ho, hn, hc, _, rfl, rfl, fk5, unhide HRR, (fun k hk => ⟨((unhide HT1) k hk).1, (unhide HRR).lt k hk⟩), unhide HSZ, unhide HT2, unhide HKA, unhide HKB⟩
     case rest =>
      obtain ⟨zA, zB, rv', L', T1, fo, fn, fc, ho, hn, hc, sz, rfl, rfl, hfx, hgq, ht1, hsz, ht2, hkA, hkB⟩ := hcut
      obtain ⟨wx, hwx⟩ : ∃ wx, wx = wc := ⟨_, rfl⟩
      subst hwx
      obtain rfl : fn = X.2.F.length := by obtain ⟨_, _, e⟩ := hgq.f.form; exact (Value.slice.inj e).2.1
      obtain rfl : hn = X.2.H.length := by obtain ⟨_, _, e⟩ := hgq.h.form; exact (Value.slice.inj e).2.1
      obtain ⟨rn7, rc7, rfl⟩ := hgq.g.g.r.form
      have h2 := (unhide HI).ref hfx (fun k hk => ⟨(ht1 k hk).1.imp id (fun h => Nat.le_trans hsz h), (ht1 k hk).2⟩) ht2
      have hzT : ∀ k, Tx k → k < wr.heap.size := fun k hk => ((unhide HI).tx k hk).2.1
      have HZB : Hid (¬ Tx zB ∧ ¬ Tx zA ∧ zA ≠ zx ∧ zB ≠ zx) := ⟨fun e => by have h1 := hzT _ e; have h2 := hkB.1; omega, fun e => by have h1 := hzT _ e; have h2 := hkA.1; omega, by have h1 := lt_of_block (unhide HI).kx; have h2 := hkA.1; omega, by have h1 := lt_of_block (unhide HI).kx; have h2 := hkB.1; omega⟩
      have HS2 : Hid (∀ W, Fr Tx wx W → W.cell? ⟨g0, o0 + j * 10, none⟩ = some (.int .u32 (cl : Nat)) ∧ W.cell? ⟨g0, o0 + j * 10 + 1, none⟩ = some (.int .u32 (nu : Nat)) ∧ W.cell? ⟨g0, o0 + j * 10 + 2, none⟩ = some (.int .u32 (ac : Nat)) ∧ W.cell? ⟨g0, o0 + j * 10 + 3, none⟩ = some (.int .u8 (op : Nat)) ∧ W.cell? ⟨g0, o0 + j * 10 + 4, none⟩ = some (.int .u32 (rc : Nat)) ∧ W.cell? ⟨g0, o0 + j * 10 + 5, none⟩ = some (.int .u32 (ve : Nat)) ∧ W.cell? ⟨g0, o0 + j * 10 + 6, none⟩ = some (.int .u32 (wa' : Nat)) ∧ W.cell? ⟨g0, o0 + j * 10 + 7, none⟩ = some (.int .u32 (ow : Nat)) ∧ W.cell? ⟨g0, o0 + j * 10 + 8, none⟩ = some (.slice xo2 F.length xc2) ∧ W.cell? ⟨g0, o0 + j * 10 + 9, none⟩ = some (.string rs) ∧ W.cell? ⟨zB, 0, none⟩ = some (.int .u32 (cl : Nat)) ∧ W.cell? ⟨zB, 1, none⟩ = some (.int .u32 (nu : Nat)) ∧ W.cell? ⟨zB, 2, none⟩ = some (.int .u8 (X.2.co : Nat)) ∧ W.cell? ⟨zB, 3, none⟩ = some (.int .u32 (X.2.rc : Nat)) ∧ W.cell? ⟨zB, 4, none⟩ = some (.int .u32 (X.2.ve : Nat)) ∧ W.cell? ⟨zB, 5, none⟩ = some (.slice fo X.2.F.length fc) ∧ W.cell? ⟨zB, 6, none⟩ = some (.slice ho X.2.H.length hc)) := fun W hW => by
       obtain ⟨i0, i1, i2, i3, i4, i5, i6, i7, i8, i9⟩ := ((unhide HF).1.frS hfx (fun h => h)).frS hW (unhide HF).2.2.2.2
       have h6 := (hW.block zB (lt_of_block hkB.2) (unhide HZB).1).trans hkB.2
       refine ⟨i0, i1, i2, i3, i4, i5, i6, i7, i8, i9, ?_, ?_, ?_, ?_, ?_, ?_, ?_⟩ <;> simp [World.cell?, h6]
      have HAp : Hid (∀ W, Fr (fun _ => False) wx W → Calls Tryz.prog 10 #[.pointer (some ⟨bs, 0, none⟩), .agg #[.int .u32 (cl : Nat), .int .u32 (nu : Nat), .int .u32 (ac : Nat), .int .u8 (op : Nat), .int .u32 (rc : Nat), .int .u32 (ve : Nat), .int .u32 (wa' : Nat), .int .u32 (ow : Nat), .slice xo2 F.length xc2, .string rs], .int .u32 (j : Nat)] W fun e w' => ∃ fo fn fc ho hn hc, e = .returned (.agg #[.int .u32 (cl : Nat), .int .u32 (nu : Nat), .int .u8 (X.2.co : Nat), .int .u32 (X.2.rc : Nat), .int .u32 (X.2.ve : Nat), .slice fo fn fc, .slice ho hn hc]) ∧ ∃ T', C2 w w' bs T' X.1 zx (.slice r6 Lx.length c60) nx sx Lx bc Ty sy (zx + 1) ry ny sy Ly (.slice so S.length sc) T1 T0 ∧ Fr Tx W w' ∧ OwF w' W.heap.size (.slice fo fn fc) X.2.F ∧ OwS w' W.heap.size (.slice ho hn hc) X.2.H) := fun W hW => (h2.fr hW).apply (unhide HH).1 (unhide HQ).2.2.2.1 (unhide HF).2.2.1 (unhide HF).2.1.1 j (unhide HF).2.2.2.1
      have HGQ := hide hgq
      have H2 := hide h2
      have HKAB := hide (And.intro hkA hkB)
      clear hgq ht1 hsz ht2 hkA hkB h2 HA HS HT HI hzT hfx
      go_wp2_with fail
      refine wp_region_noPanic ?_
      refine wp_region_held_drew (S := (fun W => W.cell? ⟨g0, o0 + j * 10, none⟩ = some (.int .u32 (cl : Nat)) ∧ W.cell? ⟨g0, o0 + j * 10 + 1, none⟩ = some (.int .u32 (nu : Nat)) ∧ W.cell? ⟨g0, o0 + j * 10 + 2, none⟩ = some (.int .u32 (ac : Nat)) ∧ W.cell? ⟨g0, o0 + j * 10 + 3, none⟩ = some (.int .u8 (op : Nat)) ∧ W.cell? ⟨g0, o0 + j * 10 + 4, none⟩ = some (.int .u32 (rc : Nat)) ∧ W.cell? ⟨g0, o0 + j * 10 + 5, none⟩ = some (.int .u32 (ve : Nat)) ∧ W.cell? ⟨g0, o0 + j * 10 + 6, none⟩ = some (.int .u32 (wa' : Nat)) ∧ W.cell? ⟨g0, o0 + j * 10 + 7, none⟩ = some (.int .u32 (ow : Nat)) ∧ W.cell? ⟨g0, o0 + j * 10 + 8, none⟩ = some (.slice xo2 F.length xc2) ∧ W.cell? ⟨g0, o0 + j * 10 + 9, none⟩ = some (.string rs) ∧ W.cell? ⟨zB, 0, none⟩ = some (.int .u32 (cl : Nat)) ∧ W.cell? ⟨zB, 1, none⟩ = some (.int .u32 (nu : Nat)) ∧ W.cell? ⟨zB, 2, none⟩ = some (.int .u8 (X.2.co : Nat)) ∧ W.cell? ⟨zB, 3, none⟩ = some (.int .u32 (X.2.rc : Nat)) ∧ W.cell? ⟨zB, 4, none⟩ = some (.int .u32 (X.2.ve : Nat)) ∧ W.cell? ⟨zB, 5, none⟩ = some (.slice fo X.2.F.length fc) ∧ W.cell? ⟨zB, 6, none⟩ = some (.slice ho X.2.H.length hc))) (by kernel_rfl) ((unhide HS2) _ ((Fr.refl (fun _ => False) wx).drew.mono (fun _ _ h => h.elim))) (fun hHeld => ?_)
      refine wtk2 (i := 0) rfl hHeld ?_
      (try simp only [Act.put, nrm])
      refine wtk2 (i := 1) rfl hHeld ?_
      (try simp only [Act.put, nrm])
      refine wtk2 (i := 2) rfl hHeld ?_
      (try simp only [Act.put, nrm])
      refine wtk2 (i := 3) rfl hHeld ?_
      (try simp only [Act.put, nrm])
      refine wtk2 (i := 4) rfl hHeld ?_
      (try simp only [Act.put, nrm])
      refine wtk2 (i := 5) rfl hHeld ?_
      (try simp only [Act.put, nrm])
      refine wtk2 (i := 6) rfl hHeld ?_
      (try simp only [Act.put, nrm])
      refine wtk2 (i := 8) rfl hHeld ?_
      (try simp only [Act.put, nrm])
      refine wpAnyH_ready (rs := [7]) (by kernel_rfl) (by simp) (AllReadyH.cons rfl (fun K hK => ?_) (AllReadyH.nil))
      go_simp
      refine ((unhide HAp) _ (Fr.refl _ _).drew).mono ?_
      rintro e w7 ⟨gfo, gfn, gfc, gho, ghn, ghc, rfl, T2, h7, f7, o7, p7⟩
      obtain rfl : gfn = X.2.F.length := by obtain ⟨_, _, e⟩ := own_formX o7; exact (Value.slice.inj e).2.1
      obtain rfl : ghn = X.2.H.length := by obtain ⟨_, _, e⟩ := own_formX p7; exact (Value.slice.inj e).2.1
      have f7x : Fr Tx wx w7 := ((Fr.refl (fun _ => False) wx).drew.mono (fun _ _ h => h.elim)).trans f7 (fun _ _ h => h)
      have hgq7 := (unhide HGQ).frS f7x (fun k hk => ((unhide H2).tx k hk).2.2.2.1)
      have HSm := hide (sameA_any cl nu X.2.co X.2.rc X.2.ve _ _ _ _ X.2.F X.2.H w7 o7.fds hgq7.f p7.sms hgq7.h (by have := unhide HSt; omega) (by have := unhide HSt; omega))
      have H7 := hide (And.intro h7 (And.intro f7x hgq7.g))
      clear h7 f7 o7 p7 f7x hgq7
      go_simp
      refine hK.out _ _ ((unhide HS2) _ (unhide H7).2.1) (fun hHeld => ?_)
      clear hK K
      (try simp only [Act.put, nrm])
      refine wpAnyH_ready (rs := [9]) (by kernel_rfl) (by simp) (AllReadyH.cons rfl (fun K hK => ?_) (AllReadyH.nil))
      go_simp
      refine (unhide HSm).mono ?_
      rintro e w8 ⟨rfl, f8⟩
      have hk8 : w8.heap[zA]? = some (.cells #[.slice so S.length sc, .slice rn7 L'.length rc7] 36) := (f8.block _ (Nat.lt_of_lt_of_le (lt_of_block (unhide HKAB).1.2) (unhide H7).2.1.size) (fun h => h)).trans (((unhide H7).2.1.block zA (lt_of_block (unhide HKAB).1.2) (unhide HZB).2.1).trans (unhide HKAB).1.2)
      have h8 := (unhide H7).1.fr f8
      have hg8 := (unhide H7).2.2.fr f8
      have F8 := hide (((unhide H7).2.1).trans (f8.mono (fun _ _ h => h.elim)) (fun _ _ h => h) : Fr Tx wx w8)
      obtain ⟨W9, hW9⟩ : ∃ W9, W9 = (w8.setCell ⟨zx, 0, none⟩ (.slice so S.length sc)).setCell ⟨zx, 1, none⟩ (.slice rn7 L'.length rc7) := ⟨_, rfl⟩
      have HE : Hid (C2 w W9 bs T2 X.1 zx (.slice rn7 L'.length rc7) (nx + 1) X.1 L' bc Ty sy (zx + 1) ry ny sy Ly (.slice so S.length sc) T1 T0) := by
       have k0 := heap_setCell_same w8 zx 0 _ 36 (.slice so S.length sc) h8.kx
       have k1 := heap_setCell_same _ zx 1 _ 36 (.slice rn7 L'.length rc7) k0
       simp only [List.setIfInBounds_toArray, List.set_cons_zero, List.set_cons_succ] at k1
       rw [hW9]
       exact h8.put (((Fr.refl (fun k => k = zx) w8).setCell (p := ⟨zx, 0, none⟩) (.inl rfl) _).setCell (p := ⟨zx, 1, none⟩) (.inl rfl) _) k1 hg8
      have z0 : w8.cell? ⟨zx, 0, none⟩ = some (.slice so S.length sc) := by simp [World.cell?, h8.kx]
      have z1 : w8.cell? ⟨zx, 1, none⟩ = some (.slice r6 Lx.length c60) := by simp [World.cell?, h8.kx]
      have y0 : w8.frozen? ⟨zx, 0, none⟩ = false := by simp [World.frozen?, h8.kx]
      have y1 : w8.frozen? ⟨zx, 1, none⟩ = false := by simp [World.frozen?, h8.kx]
      have a0 : w8.cell? ⟨zA, 0, none⟩ = some (.slice so S.length sc) := by simp [World.cell?, hk8]
      have a1 : w8.cell? ⟨zA, 1, none⟩ = some (.slice rn7 L'.length rc7) := by simp [World.cell?, hk8]
      have hzz : ¬ zA = zx := (unhide HZB).2.2.1
      have hzz2 : ¬ zx = zA := fun e => hzz e.symm
      clear f8 hk8 h8 hg8
      go_simp
      refine hK.out _ _ ((unhide HS2) _ (unhide F8)) (fun hHeld => ?_)
      clear hK K
      (try simp only [Act.put, nrm])
      refine wtk2 (i := 10) rfl hHeld ?_
      (try simp only [Act.put, nrm])
      refine wpAnyH_done (by kernel_rfl) ?_ _
      refine NoPanic.normal ?_
      have hlt0 := unhide hltx
      clear hHeld HS2 HAp HGQ H2 HKAB HZB H7 HSm F8 HF HSt
      clear hltx
      by_cases hlt : j < I.length
      ·go_upto_region 25 with fail
       rw [← hW9]
       clear hW9 z0 z1 y0 y1 a0 a1 hzz hzz2
       obtain ⟨Tx, sx, rx, nx, Lx, T, hnx, hi⟩ : ∃ Tx sx rx nx Lx T, nx ≤ l.length + (j + 1) ∧ C2 w W9 bs Tx sx zx rx nx sx Lx bc Ty sy (zx + 1) ry ny sy Ly (.slice so S.length sc) T T0 := ⟨_, _, _, _, _, _, by omega, unhide HE⟩
       clear HE
       replace hi := hi.swap
       obtain ⟨p, hpe⟩ : ∃ p, I[j] = p := ⟨_, rfl⟩
       have hpe2 : I[j]? = some p := by rw [List.getElem?_eq_getElem hlt, hpe]
       have hqr := (unhide HH).2.1.fr hi.f
       obtain ⟨g1, o1, rfl, hr0⟩ := hqr.at_ j hlt
       rw [hpe] at hr0
       have hpm : p ∈ I := List.mem_of_getElem? hpe2
       have hgo := (unhide HH).2.2.2 p hpm
       have hfd := hqr.d p hpm
       obtain ⟨r7, c61, rfl⟩ := hi.gx.g.r.form
       obtain ⟨X, hX⟩ : ∃ X, sy.step p.1 p.2 j = X := ⟨_, rfl⟩
       have HSt : Hid (X.2.F.length ≤ 32 ∧ X.2.H.length ≤ 64) := by rw [← hX]; exact step_short hi.gx.o _ _ _
       obtain ⟨⟨cl, nu, ac, op, rc, ve, wa', ow, fv, rs⟩, F⟩ := p
       obtain ⟨xo2, xc2, rfl⟩ : ∃ xo2 xc2, fv = .slice xo2 F.length xc2 := hfd.f.form
       have HA : Hid (∀ W, Fr (fun _ => False) W9 W → Calls Tryz.prog 12 #[.agg #[.slice so S.length sc, .slice r7 Ly.length c61], .agg #[.int .u32 (cl : Nat), .int .u32 (nu : Nat), .int .u32 (ac : Nat), .int .u8 (op : Nat), .int .u32 (rc : Nat), .int .u32 (ve : Nat), .int .u32 (wa' : Nat), .int .u32 (ow : Nat), .slice xo2 F.length xc2, .string rs], .int .u32 (j : Nat)] W fun e w' => QPost W T (.slice so S.length sc) ny cl nu X e w') := fun W hW => gapply_Q _ _ sy Ly T ny ⟨cl, nu, ac, op, rc, ve, wa', ow, .slice xo2 F.length xc2, rs⟩ F j W (hi.gx.fr hW) (by have := (unhide HQ).2.2.2.2.2.2; omega) (hfd.f.fr hW) (fun k hk => hi.qt k ((unhide HT0).2.2.2.1 _ hpm k hk)) hgo X hX
       have HT : Hid (∀ k, T k → k < W9.heap.size) := fun k hk => (hi.t k hk).1
       have HS : Hid (∀ W, Fr (fun _ => False) W9 W → W.cell? ⟨(zx + 1), 0, none⟩ = some (.slice so S.length sc) ∧ W.cell? ⟨(zx + 1), 1, none⟩ = some (.slice r7 Ly.length c61) ∧ W.cell? ⟨g1, o1 + j * 10, none⟩ = some (.int .u32 (cl : Nat)) ∧ W.cell? ⟨g1, o1 + j * 10 + 1, none⟩ = some (.int .u32 (nu : Nat)) ∧ W.cell? ⟨g1, o1 + j * 10 + 2, none⟩ = some (.int .u32 (ac : Nat)) ∧ W.cell? ⟨g1, o1 + j * 10 + 3, none⟩ = some (.int .u8 (op : Nat)) ∧ W.cell? ⟨g1, o1 + j * 10 + 4, none⟩ = some (.int .u32 (rc : Nat)) ∧ W.cell? ⟨g1, o1 + j * 10 + 5, none⟩ = some (.int .u32 (ve : Nat)) ∧ W.cell? ⟨g1, o1 + j * 10 + 6, none⟩ = some (.int .u32 (wa' : Nat)) ∧ W.cell? ⟨g1, o1 + j * 10 + 7, none⟩ = some (.int .u32 (ow : Nat)) ∧ W.cell? ⟨g1, o1 + j * 10 + 8, none⟩ = some (.slice xo2 F.length xc2) ∧ W.cell? ⟨g1, o1 + j * 10 + 9, none⟩ = some (.string rs)) := fun W hW => by
        have hb := (hi.fr hW).kx
        obtain ⟨i0, i1, i2, i3, i4, i5, i6, i7, i8, i9⟩ := hr0.frS hW (fun h => h)
        exact ⟨by simp [World.cell?, hb], by simp [World.cell?, hb], i0, i1, i2, i3, i4, i5, i6, i7, i8, i9⟩
       have hkl1 : (j : Int) < (I.length : Int) := by omega
       have hwr : IntKind.u32.wrap (j : Int) = (j : Int) := by have := (unhide HQ).2.2.2.2.2.2; rw [IntKind.wrap_u32]; omega
       have hgT : ¬ Ty g1 := fun e => (hi.tx _ e).2.2.2.1 (hi.qt _ ((unhide HG1) g1 (.inl ⟨_, _, _, rfl, by omega⟩)))
       have HI := hide hi
       have HF := hide (And.intro hr0 (And.intro hgo (And.intro hpm (And.intro hX hgT))))
       have hltx := hide hlt
       clear hi hpe hpe2 hqr hpm hgo hfd hr0 hX hlt hgT
       go_upto_region 26 with fail
       go_cut [16, 17] from 71 to 136 (fun s1 s2 wx => ∃ zA zB rv' L' T1 fo fn fc ho hn hc sz, s1 = .pointer (some ⟨zA, 0, none⟩) ∧ s2 = .pointer (some ⟨zB, 0, none⟩) ∧ Fr (fun _ => False) W9 wx ∧ GQ wx T1 (.slice so S.length sc) rv' (ny + 1) X L' (.slice fo fn fc) (.slice ho hn hc) ∧ (∀ k, T1 k → (T k ∨ sz ≤ k) ∧ k < wx.heap.size) ∧ W9.heap.size ≤ sz ∧ (∀ k, T k → T1 k) ∧ (W9.heap.size ≤ zA ∧ wx.heap[zA]? = some (.cells #[.slice so S.length sc, rv'] 36)) ∧ (W9.heap.size ≤ zB ∧ wx.heap[zB]? = some (.cells #[.int .u32 (cl : Nat), .int .u32 (nu : Nat), .int .u8 (X.2.co : Nat), .int .u32 (X.2.rc : Nat), .int .u32 (X.2.ve : Nat), .slice fo fn fc, .slice ho hn hc] 45)))
       case first =>
        refine wp_region_noPanic ?_
        refine wp_region_held_drew (S := (fun W => W.cell? ⟨(zx + 1), 0, none⟩ = some (.slice so S.length sc) ∧ W.cell? ⟨(zx + 1), 1, none⟩ = some (.slice r7 Ly.length c61) ∧ W.cell? ⟨g1, o1 + j * 10, none⟩ = some (.int .u32 (cl : Nat)) ∧ W.cell? ⟨g1, o1 + j * 10 + 1, none⟩ = some (.int .u32 (nu : Nat)) ∧ W.cell? ⟨g1, o1 + j * 10 + 2, none⟩ = some (.int .u32 (ac : Nat)) ∧ W.cell? ⟨g1, o1 + j * 10 + 3, none⟩ = some (.int .u8 (op : Nat)) ∧ W.cell? ⟨g1, o1 + j * 10 + 4, none⟩ = some (.int .u32 (rc : Nat)) ∧ W.cell? ⟨g1, o1 + j * 10 + 5, none⟩ = some (.int .u32 (ve : Nat)) ∧ W.cell? ⟨g1, o1 + j * 10 + 6, none⟩ = some (.int .u32 (wa' : Nat)) ∧ W.cell? ⟨g1, o1 + j * 10 + 7, none⟩ = some (.int .u32 (ow : Nat)) ∧ W.cell? ⟨g1, o1 + j * 10 + 8, none⟩ = some (.slice xo2 F.length xc2) ∧ W.cell? ⟨g1, o1 + j * 10 + 9, none⟩ = some (.string rs))) (by kernel_rfl) ((unhide HS) _ (Fr.refl _ _).drew) (fun hHeld => ?_)
        refine wtk2 (i := 0) rfl hHeld ?_
        (try simp only [Act.put, nrm])
        refine wtk2 (i := 1) rfl hHeld ?_
        (try simp only [Act.put, nrm])
        refine wtk2 (i := 2) rfl hHeld ?_
        (try simp only [Act.put, nrm])
        refine wtk2 (i := 3) rfl hHeld ?_
        (try simp only [Act.put, nrm])
        refine wtk2 (i := 4) rfl hHeld ?_
        (try simp only [Act.put, nrm])
        refine wtk2 (i := 5) rfl hHeld ?_
        (try simp only [Act.put, nrm])
        refine wtk2 (i := 6) rfl hHeld ?_
        (try simp only [Act.put, nrm])
        obtain ⟨W0, hW0⟩ : ∃ W0, W0 = W9.drew := ⟨_, rfl⟩
        rw [← hW0]
        have fk0 : Fr (fun _ => False) W9 W0 := by rw [hW0]; exact (Fr.refl _ _).drew
        clear hW0
        refine wpAnyH_ready (rs := [7, 11, 12]) (by kernel_rfl) (by simp) (AllReadyH.cons rfl (fun K hK => ?_) (AllReadyH.cons rfl (fun K hK => ?_) (AllReadyH.cons rfl (fun K hK => ?_) (AllReadyH.nil))))
        focus
         go_simp
         refine ((unhide HA) W0 fk0).mono ?_
         rintro e wk1 ⟨rv', L', fo, fn, fc, ho, hn, hc, T1, rfl, hone', hrr, ht1, ht2, gk1⟩
         have fk1 := fk0.trans gk1 (fun _ _ h => h)
         have HSZ := hide (fk0.size)
         have HRR := hide hrr
         have HT1 := hide ht1
         have HT2 := hide (show ∀ k, T k → T1 k from fun k hk => ht2 k hk (Nat.lt_of_lt_of_le ((unhide HT) k hk) fk0.size))
         have HONE := hide hone'
         clear hrr ht1 ht2 hone'
         go_simp
         refine hK.out _ _ ((unhide HS) _ fk1) (fun hHeld => ?_)
         clear hK K
         (try simp only [Act.put, nrm])
         refine wtk2 (i := 8) rfl hHeld ?_
         (try simp only [Act.put, nrm])
         refine wtk2 (i := 9) rfl hHeld ?_
         (try simp only [Act.put, nrm])
         refine wtk2 (i := 10) rfl hHeld ?_
         (try simp only [Act.put, nrm])
         refine wpAnyH_ready (rs := [11, 12]) (by kernel_rfl) (by simp) (AllReadyH.cons rfl (fun K hK => ?_) (AllReadyH.cons rfl (fun K hK => ?_) (AllReadyH.nil)))
         focus
          go_simp
          obtain ⟨wk2, hwk2⟩ : ∃ wk2, wk2 = wk1.alloc (.cells #[.slice none 0 0, .slice none 0 0] 36) := ⟨_, rfl⟩
          obtain ⟨zA, hzA⟩ : ∃ zA, zA = wk1.heap.size := ⟨_, rfl⟩
          have gk2 : Fr (fun _ => False) wk1 wk2 := by rw [hwk2]; exact box1 _ _
          have fk2 := fk1.trans gk2 (fun _ _ h => h)
          have HKA : Hid (W9.heap.size ≤ zA ∧ wk2.heap[zA]? = some (.cells #[.slice none 0 0, .slice none 0 0] 36)) := ⟨by rw [hzA]; exact fk1.size, by rw [hwk2, hzA]; exact Array.getElem?_push_size⟩
          have HNA : Hid (¬ T1 zA) := fun h => by
           have h1 := (unhide HRR).lt zA h
           omega
          replace HRR := hide ((unhide HRR).fr gk2)
          rw [← hwk2, ← hzA]
          clear hwk2 hzA
          refine hK.out _ _ ((unhide HS) _ fk2) (fun hHeld => ?_)
          clear hK K
          (try simp only [Act.put, nrm])
          refine wpAnyH_ready (rs := [12]) (by kernel_rfl) (by simp) (AllReadyH.cons rfl (fun K hK => ?_) (AllReadyH.nil))
          go_simp
          obtain ⟨wk3, hwk3⟩ : ∃ wk3, wk3 = wk2.alloc (.cells #[.int .u32 0, .int .u32 0, .int .u8 0, .int .u32 0, .int .u32 0, .slice none 0 0, .slice none 0 0] 45) := ⟨_, rfl⟩
          obtain ⟨zB, hzB⟩ : ∃ zB, zB = wk2.heap.size := ⟨_, rfl⟩
          have gk3 : Fr (fun _ => False) wk2 wk3 := by rw [hwk3]; exact box1 _ _
          have fk3 := fk2.trans gk3 (fun _ _ h => h)
          have HKB : Hid (W9.heap.size ≤ zB ∧ wk3.heap[zB]? = some (.cells #[.int .u32 0, .int .u32 0, .int .u8 0, .int .u32 0, .int .u32 0, .slice none 0 0, .slice none 0 0] 45)) := ⟨by rw [hzB]; exact fk2.size, by rw [hwk3, hzB]; exact Array.getElem?_push_size⟩
          have HNE : Hid (zA ≠ zB) := by have h1 := lt_of_block (unhide HKA).2; show zA ≠ zB; omega
          replace HKA := hide (And.intro (unhide HKA).1 ((gk3.block zA (lt_of_block (unhide HKA).2) (fun h => h)).trans (unhide HKA).2))
          have HNB : Hid (¬ T1 zB) := fun h => by
           have h1 := (unhide HRR).lt zB h
           omega
          replace HRR := hide ((unhide HRR).fr gk3)
          rw [← hwk3, ← hzB]
          clear hwk3 hzB
          refine hK.out _ _ ((unhide HS) _ fk3) (fun hHeld => ?_)
          clear hK K
          (try simp only [Act.put, nrm])
         rotate_left
         focus
          go_simp
          obtain ⟨wk2, hwk2⟩ : ∃ wk2, wk2 = wk1.alloc (.cells #[.int .u32 0, .int .u32 0, .int .u8 0, .int .u32 0, .int .u32 0, .slice none 0 0, .slice none 0 0] 45) := ⟨_, rfl⟩
          obtain ⟨zB, hzB⟩ : ∃ zB, zB = wk1.heap.size := ⟨_, rfl⟩
          have gk2 : Fr (fun _ => False) wk1 wk2 := by rw [hwk2]; exact box1 _ _
          have fk2 := fk1.trans gk2 (fun _ _ h => h)
          have HKB : Hid (W9.heap.size ≤ zB ∧ wk2.heap[zB]? = some (.cells #[.int .u32 0, .int .u32 0, .int .u8 0, .int .u32 0, .int .u32 0, .slice none 0 0, .slice none 0 0] 45)) := ⟨by rw [hzB]; exact fk1.size, by rw [hwk2, hzB]; exact Array.getElem?_push_size⟩
          have HNB : Hid (¬ T1 zB) := fun h => by
           have h1 := (unhide HRR).lt zB h
           omega
          replace HRR := hide ((unhide HRR).fr gk2)
          rw [← hwk2, ← hzB]
          clear hwk2 hzB
          refine hK.out _ _ ((unhide HS) _ fk2) (fun hHeld => ?_)
          clear hK K
          (try simp only [Act.put, nrm])
          refine wpAnyH_ready (rs := [11]) (by kernel_rfl) (by simp) (AllReadyH.cons rfl (fun K hK => ?_) (AllReadyH.nil))
          go_simp
          obtain ⟨wk3, hwk3⟩ : ∃ wk3, wk3 = wk2.alloc (.cells #[.slice none 0 0, .slice none 0 0] 36) := ⟨_, rfl⟩
          obtain ⟨zA, hzA⟩ : ∃ zA, zA = wk2.heap.size := ⟨_, rfl⟩
          have gk3 : Fr (fun _ => False) wk2 wk3 := by rw [hwk3]; exact box1 _ _
          have fk3 := fk2.trans gk3 (fun _ _ h => h)
          have HKA : Hid (W9.heap.size ≤ zA ∧ wk3.heap[zA]? = some (.cells #[.slice none 0 0, .slice none 0 0] 36)) := ⟨by rw [hzA]; exact fk2.size, by rw [hwk3, hzA]; exact Array.getElem?_push_size⟩
          have HNE : Hid (zA ≠ zB) := by have h1 := lt_of_block (unhide HKB).2; show zA ≠ zB; omega
          replace HKB := hide (And.intro (unhide HKB).1 ((gk3.block zB (lt_of_block (unhide HKB).2) (fun h => h)).trans (unhide HKB).2))
          have HNA : Hid (¬ T1 zA) := fun h => by
           have h1 := (unhide HRR).lt zA h
           omega
          replace HRR := hide ((unhide HRR).fr gk3)
          rw [← hwk3, ← hzA]
          clear hwk3 hzA
          refine hK.out _ _ ((unhide HS) _ fk3) (fun hHeld => ?_)
          clear hK K
          (try simp only [Act.put, nrm])
        rotate_left 2
        focus
         go_simp
         obtain ⟨wk1, hwk1⟩ : ∃ wk1, wk1 = W0.alloc (.cells #[.slice none 0 0, .slice none 0 0] 36) := ⟨_, rfl⟩
         obtain ⟨zA, hzA⟩ : ∃ zA, zA = W0.heap.size := ⟨_, rfl⟩
         have gk1 : Fr (fun _ => False) W0 wk1 := by rw [hwk1]; exact box1 _ _
         have fk1 := fk0.trans gk1 (fun _ _ h => h)
         have HKA : Hid (W9.heap.size ≤ zA ∧ wk1.heap[zA]? = some (.cells #[.slice none 0 0, .slice none 0 0] 36)) := ⟨by rw [hzA]; exact fk0.size, by rw [hwk1, hzA]; exact Array.getElem?_push_size⟩
         rw [← hwk1, ← hzA]
         clear hwk1 hzA
         refine hK.out _ _ ((unhide HS) _ fk1) (fun hHeld => ?_)
         clear hK K
         (try simp only [Act.put, nrm])
         refine wpAnyH_ready (rs := [7, 12]) (by kernel_rfl) (by simp) (AllReadyH.cons rfl (fun K hK => ?_) (AllReadyH.cons rfl (fun K hK => ?_) (AllReadyH.nil)))
         focus
          go_simp
          refine ((unhide HA) wk1 fk1).mono ?_
          rintro e wk2 ⟨rv', L', fo, fn, fc, ho, hn, hc, T1, rfl, hone', hrr, ht1, ht2, gk2⟩
          have fk2 := fk1.trans gk2 (fun _ _ h => h)
          have HSZ := hide (fk1.size)
          have HRR := hide hrr
          have HT1 := hide ht1
          have HT2 := hide (show ∀ k, T k → T1 k from fun k hk => ht2 k hk (Nat.lt_of_lt_of_le ((unhide HT) k hk) fk1.size))
          have HONE := hide hone'
          clear hrr ht1 ht2 hone'
          go_simp
          refine hK.out _ _ ((unhide HS) _ fk2) (fun hHeld => ?_)
          clear hK K
          (try simp only [Act.put, nrm])
          refine wtk2 (i := 8) rfl hHeld ?_
          (try simp only [Act.put, nrm])
          refine wtk2 (i := 9) rfl hHeld ?_
          (try simp only [Act.put, nrm])
          refine wtk2 (i := 10) rfl hHeld ?_
          (try simp only [Act.put, nrm])
          have HNA : Hid (¬ T1 zA) := fun h => by
           have h1 := (unhide HT1) zA h
           have h2 := lt_of_block (unhide HKA).2
           have h3 := (unhide HKA).1
           rcases h1.1 with h4 | h4
           ·have h5 := (unhide HT) zA h4
            omega
           ·omega
          replace HKA := hide (And.intro (unhide HKA).1 ((gk2.block zA (lt_of_block (unhide HKA).2) (fun h => h)).trans (unhide HKA).2))
          refine wpAnyH_ready (rs := [12]) (by kernel_rfl) (by simp) (AllReadyH.cons rfl (fun K hK => ?_) (AllReadyH.nil))
          go_simp
          obtain ⟨wk3, hwk3⟩ : ∃ wk3, wk3 = wk2.alloc (.cells #[.int .u32 0, .int .u32 0, .int .u8 0, .int .u32 0, .int .u32 0, .slice none 0 0, .slice none 0 0] 45) := ⟨_, rfl⟩
          obtain ⟨zB, hzB⟩ : ∃ zB, zB = wk2.heap.size := ⟨_, rfl⟩
          have gk3 : Fr (fun _ => False) wk2 wk3 := by rw [hwk3]; exact box1 _ _
          have fk3 := fk2.trans gk3 (fun _ _ h => h)
          have HKB : Hid (W9.heap.size ≤ zB ∧ wk3.heap[zB]? = some (.cells #[.int .u32 0, .int .u32 0, .int .u8 0, .int .u32 0, .int .u32 0, .slice none 0 0, .slice none 0 0] 45)) := ⟨by rw [hzB]; exact fk2.size, by rw [hwk3, hzB]; exact Array.getElem?_push_size⟩
          have HNE : Hid (zA ≠ zB) := by have h1 := lt_of_block (unhide HKA).2; show zA ≠ zB; omega
          replace HKA := hide (And.intro (unhide HKA).1 ((gk3.block zA (lt_of_block (unhide HKA).2) (fun h => h)).trans (unhide HKA).2))
          have HNB : Hid (¬ T1 zB) := fun h => by
           have h1 := (unhide HRR).lt zB h
           omega
          replace HRR := hide ((unhide HRR).fr gk3)
          rw [← hwk3, ← hzB]
          clear hwk3 hzB
          refine hK.out _ _ ((unhide HS) _ fk3) (fun hHeld => ?_)
          clear hK K
          (try simp only [Act.put, nrm])
         rotate_left
         focus
          go_simp
          obtain ⟨wk2, hwk2⟩ : ∃ wk2, wk2 = wk1.alloc (.cells #[.int .u32 0, .int .u32 0, .int .u8 0, .int .u32 0, .int .u32 0, .slice none 0 0, .slice none 0 0] 45) := ⟨_, rfl⟩
          obtain ⟨zB, hzB⟩ : ∃ zB, zB = wk1.heap.size := ⟨_, rfl⟩
          have gk2 : Fr (fun _ => False) wk1 wk2 := by rw [hwk2]; exact box1 _ _
          have fk2 := fk1.trans gk2 (fun _ _ h => h)
          have HKB : Hid (W9.heap.size ≤ zB ∧ wk2.heap[zB]? = some (.cells #[.int .u32 0, .int .u32 0, .int .u8 0, .int .u32 0, .int .u32 0, .slice none 0 0, .slice none 0 0] 45)) := ⟨by rw [hzB]; exact fk1.size, by rw [hwk2, hzB]; exact Array.getElem?_push_size⟩
          have HNE : Hid (zA ≠ zB) := by have h1 := lt_of_block (unhide HKA).2; show zA ≠ zB; omega
          replace HKA := hide (And.intro (unhide HKA).1 ((gk2.block zA (lt_of_block (unhide HKA).2) (fun h => h)).trans (unhide HKA).2))
          rw [← hwk2, ← hzB]
          clear hwk2 hzB
          refine hK.out _ _ ((unhide HS) _ fk2) (fun hHeld => ?_)
          clear hK K
          (try simp only [Act.put, nrm])
          refine wpAnyH_ready (rs := [7]) (by kernel_rfl) (by simp) (AllReadyH.cons rfl (fun K hK => ?_) (AllReadyH.nil))
          go_simp
          refine ((unhide HA) wk2 fk2).mono ?_
          rintro e wk3 ⟨rv', L', fo, fn, fc, ho, hn, hc, T1, rfl, hone', hrr, ht1, ht2, gk3⟩
          have fk3 := fk2.trans gk3 (fun _ _ h => h)
          have HSZ := hide (fk2.size)
          have HRR := hide hrr
          have HT1 := hide ht1
          have HT2 := hide (show ∀ k, T k → T1 k from fun k hk => ht2 k hk (Nat.lt_of_lt_of_le ((unhide HT) k hk) fk2.size))
          have HONE := hide hone'
          clear hrr ht1 ht2 hone'
          go_simp
          refine hK.out _ _ ((unhide HS) _ fk3) (fun hHeld => ?_)
          clear hK K
          (try simp only [Act.put, nrm])
          refine wtk2 (i := 8) rfl hHeld ?_
          (try simp only [Act.put, nrm])
          refine wtk2 (i := 9) rfl hHeld ?_
          (try simp only [Act.put, nrm])
          refine wtk2 (i := 10) rfl hHeld ?_
          (try simp only [Act.put, nrm])
          have HNA : Hid (¬ T1 zA) := fun h => by
           have h1 := (unhide HT1) zA h
           have h2 := lt_of_block (unhide HKA).2
           have h3 := (unhide HKA).1
           rcases h1.1 with h4 | h4
           ·have h5 := (unhide HT) zA h4
            omega
           ·omega
          replace HKA := hide (And.intro (unhide HKA).1 ((gk3.block zA (lt_of_block (unhide HKA).2) (fun h => h)).trans (unhide HKA).2))
          have HNB : Hid (¬ T1 zB) := fun h => by
           have h1 := (unhide HT1) zB h
           have h2 := lt_of_block (unhide HKB).2
           have h3 := (unhide HKB).1
           rcases h1.1 with h4 | h4
           ·have h5 := (unhide HT) zB h4
            omega
           ·omega
          replace HKB := hide (And.intro (unhide HKB).1 ((gk3.block zB (lt_of_block (unhide HKB).2) (fun h => h)).trans (unhide HKB).2))
        rotate_left 2
        focus
         go_simp
         obtain ⟨wk1, hwk1⟩ : ∃ wk1, wk1 = W0.alloc (.cells #[.int .u32 0, .int .u32 0, .int .u8 0, .int .u32 0, .int .u32 0, .slice none 0 0, .slice none 0 0] 45) := ⟨_, rfl⟩
         obtain ⟨zB, hzB⟩ : ∃ zB, zB = W0.heap.size := ⟨_, rfl⟩
         have gk1 : Fr (fun _ => False) W0 wk1 := by rw [hwk1]; exact box1 _ _
         have fk1 := fk0.trans gk1 (fun _ _ h => h)
         have HKB : Hid (W9.heap.size ≤ zB ∧ wk1.heap[zB]? = some (.cells #[.int .u32 0, .int .u32 0, .int .u8 0, .int .u32 0, .int .u32 0, .slice none 0 0, .slice none 0 0] 45)) := ⟨by rw [hzB]; exact fk0.size, by rw [hwk1, hzB]; exact Array.getElem?_push_size⟩
         rw [← hwk1, ← hzB]
         clear hwk1 hzB
         refine hK.out _ _ ((unhide HS) _ fk1) (fun hHeld => ?_)
         clear hK K
         (try simp only [Act.put, nrm])
         refine wpAnyH_ready (rs := [7, 11]) (by kernel_rfl) (by simp) (AllReadyH.cons rfl (fun K hK => ?_) (AllReadyH.cons rfl (fun K hK => ?_) (AllReadyH.nil)))
         focus
          go_simp
          refine ((unhide HA) wk1 fk1).mono ?_
          rintro e wk2 ⟨rv', L', fo, fn, fc, ho, hn, hc, T1, rfl, hone', hrr, ht1, ht2, gk2⟩
          have fk2 := fk1.trans gk2 (fun _ _ h => h)
          have HSZ := hide (fk1.size)
          have HRR := hide hrr
          have HT1 := hide ht1
          have HT2 := hide (show ∀ k, T k → T1 k from fun k hk => ht2 k hk (Nat.lt_of_lt_of_le ((unhide HT) k hk) fk1.size))
          have HONE := hide hone'
          clear hrr ht1 ht2 hone'
          go_simp
          refine hK.out _ _ ((unhide HS) _ fk2) (fun hHeld => ?_)
          clear hK K
          (try simp only [Act.put, nrm])
          refine wtk2 (i := 8) rfl hHeld ?_
          (try simp only [Act.put, nrm])
          refine wtk2 (i := 9) rfl hHeld ?_
          (try simp only [Act.put, nrm])
          refine wtk2 (i := 10) rfl hHeld ?_
          (try simp only [Act.put, nrm])
          have HNB : Hid (¬ T1 zB) := fun h => by
           have h1 := (unhide HT1) zB h
           have h2 := lt_of_block (unhide HKB).2
           have h3 := (unhide HKB).1
           rcases h1.1 with h4 | h4
           ·have h5 := (unhide HT) zB h4
            omega
           ·omega
          replace HKB := hide (And.intro (unhide HKB).1 ((gk2.block zB (lt_of_block (unhide HKB).2) (fun h => h)).trans (unhide HKB).2))
          refine wpAnyH_ready (rs := [11]) (by kernel_rfl) (by simp) (AllReadyH.cons rfl (fun K hK => ?_) (AllReadyH.nil))
          go_simp
          obtain ⟨wk3, hwk3⟩ : ∃ wk3, wk3 = wk2.alloc (.cells #[.slice none 0 0, .slice none 0 0] 36) := ⟨_, rfl⟩
          obtain ⟨zA, hzA⟩ : ∃ zA, zA = wk2.heap.size := ⟨_, rfl⟩
          have gk3 : Fr (fun _ => False) wk2 wk3 := by rw [hwk3]; exact box1 _ _
          have fk3 := fk2.trans gk3 (fun _ _ h => h)
          have HKA : Hid (W9.heap.size ≤ zA ∧ wk3.heap[zA]? = some (.cells #[.slice none 0 0, .slice none 0 0] 36)) := ⟨by rw [hzA]; exact fk2.size, by rw [hwk3, hzA]; exact Array.getElem?_push_size⟩
          have HNE : Hid (zA ≠ zB) := by have h1 := lt_of_block (unhide HKB).2; show zA ≠ zB; omega
          replace HKB := hide (And.intro (unhide HKB).1 ((gk3.block zB (lt_of_block (unhide HKB).2) (fun h => h)).trans (unhide HKB).2))
          have HNA : Hid (¬ T1 zA) := fun h => by
           have h1 := (unhide HRR).lt zA h
           omega
          replace HRR := hide ((unhide HRR).fr gk3)
          rw [← hwk3, ← hzA]
          clear hwk3 hzA
          refine hK.out _ _ ((unhide HS) _ fk3) (fun hHeld => ?_)
          clear hK K
          (try simp only [Act.put, nrm])
         rotate_left
         focus
          go_simp
          obtain ⟨wk2, hwk2⟩ : ∃ wk2, wk2 = wk1.alloc (.cells #[.slice none 0 0, .slice none 0 0] 36) := ⟨_, rfl⟩
          obtain ⟨zA, hzA⟩ : ∃ zA, zA = wk1.heap.size := ⟨_, rfl⟩
          have gk2 : Fr (fun _ => False) wk1 wk2 := by rw [hwk2]; exact box1 _ _
          have fk2 := fk1.trans gk2 (fun _ _ h => h)
          have HKA : Hid (W9.heap.size ≤ zA ∧ wk2.heap[zA]? = some (.cells #[.slice none 0 0, .slice none 0 0] 36)) := ⟨by rw [hzA]; exact fk1.size, by rw [hwk2, hzA]; exact Array.getElem?_push_size⟩
          have HNE : Hid (zA ≠ zB) := by have h1 := lt_of_block (unhide HKB).2; show zA ≠ zB; omega
          replace HKB := hide (And.intro (unhide HKB).1 ((gk2.block zB (lt_of_block (unhide HKB).2) (fun h => h)).trans (unhide HKB).2))
          rw [← hwk2, ← hzA]
          clear hwk2 hzA
          refine hK.out _ _ ((unhide HS) _ fk2) (fun hHeld => ?_)
          clear hK K
          (try simp only [Act.put, nrm])
          refine wpAnyH_ready (rs := [7]) (by kernel_rfl) (by simp) (AllReadyH.cons rfl (fun K hK => ?_) (AllReadyH.nil))
          go_simp
          refine ((unhide HA) wk2 fk2).mono ?_
          rintro e wk3 ⟨rv', L', fo, fn, fc, ho, hn, hc, T1, rfl, hone', hrr, ht1, ht2, gk3⟩
          have fk3 := fk2.trans gk3 (fun _ _ h => h)
          have HSZ := hide (fk2.size)
          have HRR := hide hrr
          have HT1 := hide ht1
          have HT2 := hide (show ∀ k, T k → T1 k from fun k hk => ht2 k hk (Nat.lt_of_lt_of_le ((unhide HT) k hk) fk2.size))
          have HONE := hide hone'
          clear hrr ht1 ht2 hone'
          go_simp
          refine hK.out _ _ ((unhide HS) _ fk3) (fun hHeld => ?_)
          clear hK K
          (try simp only [Act.put, nrm])
          refine wtk2 (i := 8) rfl hHeld ?_
          (try simp only [Act.put, nrm])
          refine wtk2 (i := 9) rfl hHeld ?_
          (try simp only [Act.put, nrm])
          refine wtk2 (i := 10) rfl hHeld ?_
          (try simp only [Act.put, nrm])
          have HNA : Hid (¬ T1 zA) := fun h => by
           have h1 := (unhide HT1) zA h
           have h2 := lt_of_block (unhide HKA).2
           have h3 := (unhide HKA).1
           rcases h1.1 with h4 | h4
           ·have h5 := (unhide HT) zA h4
            omega
           ·omega
          replace HKA := hide (And.intro (unhide HKA).1 ((gk3.block zA (lt_of_block (unhide HKA).2) (fun h => h)).trans (unhide HKA).2))
          have HNB : Hid (¬ T1 zB) := fun h => by
           have h1 := (unhide HT1) zB h
           have h2 := lt_of_block (unhide HKB).2
           have h3 := (unhide HKB).1
           rcases h1.1 with h4 | h4
           ·have h5 := (unhide HT) zB h4
            omega
           ·omega
          replace HKB := hide (And.intro (unhide HKB).1 ((gk3.block zB (lt_of_block (unhide HKB).2) (fun h => h)).trans (unhide HKB).2))
        all_goals
         refine wpAnyH_ready (rs := [13]) (by kernel_rfl) (by simp) (AllReadyH.cons rfl (fun K hK => ?_) (AllReadyH.nil))
         obtain ⟨wk4, st4, kk4, gk4⟩ := st_put (unhide HKA).2 (.slice so S.length sc) rv' (fun u hu => by simp at hu; rcases hu with rfl | rfl <;> first | rfl | exact unhide HONE)
         have HST4 := hide st4
         have fk4 := fk3.absorb gk4 (fun i hi => by rw [hi]; exact (unhide HKA).1)
         replace HKA := hide (And.intro (unhide HKA).1 kk4)
         replace HRR := hide ((unhide HRR).frS gk4 (fun k hk => by rw [hk]; exact unhide HNA))
         replace HKB := hide (And.intro (unhide HKB).1 ((gk4.block zB (lt_of_block (unhide HKB).2) (fun e => by have h1 := (unhide HNE); omega)).trans (unhide HKB).2))
         clear st4 kk4
         refine step_stN rfl 36 (.tmp 16) (.tmp 123) rfl _ _ (by simp [Act.eval]) (by simp [Act.eval]) (unhide HST4) ?_
         refine hK.out _ _ ((unhide HS) _ fk4) (fun hHeld => ?_)
         clear hK K
         (try simp only [Act.put])
         refine wpAnyH_ready (rs := [14]) (by kernel_rfl) (by simp) (AllReadyH.cons rfl (fun K hK => ?_) (AllReadyH.nil))
         obtain ⟨wk5, st5, kk5, gk5⟩ := ans_put (unhide HKB).2 (.int .u32 (cl : Nat)) (.int .u32 (nu : Nat)) (.int .u8 (X.2.co : Nat)) (.int .u32 (X.2.rc : Nat)) (.int .u32 (X.2.ve : Nat)) (.slice fo fn fc) (.slice ho hn hc) (fun u hu => by simp at hu; rcases hu with rfl | rfl | rfl | rfl | rfl | rfl | rfl <;> rfl)
         have HST5 := hide st5
         have fk5 := fk4.absorb gk5 (fun i hi => by rw [hi]; exact (unhide HKB).1)
         replace HKB := hide (And.intro (unhide HKB).1 kk5)
         replace HRR := hide ((unhide HRR).frS gk5 (fun k hk => by rw [hk]; exact unhide HNB))
         replace HKA := hide (And.intro (unhide HKA).1 ((gk5.block zA (lt_of_block (unhide HKA).2) (fun e => by have h1 := (unhide HNE); omega)).trans (unhide HKA).2))
         clear st5 kk5
         refine step_stN rfl 45 (.tmp 17) (.tmp 124) rfl _ _ (by simp [Act.eval]) (by simp [Act.eval]) (unhide HST5) ?_
         refine hK.out _ _ ((unhide HS) _ fk5) (fun hHeld => ?_)
         clear hK K
         (try simp only [Act.put])
         refine wpAnyH_done (by kernel_rfl) ?_ _
         refine NoPanic.normal ?_
         go_wp2_with fail
         go_meet
         case rel => exact ⟨zA, zB, rv', L', T1, fo, fn, fc, ho, hn, hc, _, rfl, rfl, fk5, unhide HRR, (fun k hk => ⟨((unhide HT1) k hk).1, (unhide HRR).lt k hk⟩), unhide HSZ, unhide HT2, unhide HKA, unhide HKB⟩
       case rest =>
        obtain ⟨zA, zB, rv', L', T1, fo, fn, fc, ho, hn, hc, sz, rfl, rfl, hfx, hgq, ht1, hsz, ht2, hkA, hkB⟩ := hcut
        obtain ⟨wx, hwx⟩ : ∃ wx, wx = wc := ⟨_, rfl⟩
        subst hwx
        obtain rfl : fn = X.2.F.length := by obtain ⟨_, _, e⟩ := hgq.f.form; exact (Value.slice.inj e).2.1
        obtain rfl : hn = X.2.H.length := by obtain ⟨_, _, e⟩ := hgq.h.form; exact (Value.slice.inj e).2.1
        obtain ⟨rn7, rc7, rfl⟩ := hgq.g.g.r.form
        have h2 := (unhide HI).ref hfx (fun k hk => ⟨(ht1 k hk).1.imp id (fun h => Nat.le_trans hsz h), (ht1 k hk).2⟩) ht2
        have hzT : ∀ k, Ty k → k < W9.heap.size := fun k hk => ((unhide HI).tx k hk).2.1
        have HZB : Hid (¬ Ty zB ∧ ¬ Ty zA ∧ zA ≠ (zx + 1) ∧ zB ≠ (zx + 1)) := ⟨fun e => by have h1 := hzT _ e; have h2 := hkB.1; omega, fun e => by have h1 := hzT _ e; have h2 := hkA.1; omega, by have h1 := lt_of_block (unhide HI).kx; have h2 := hkA.1; omega, by have h1 := lt_of_block (unhide HI).kx; have h2 := hkB.1; omega⟩
        have HS2 : Hid (∀ W, Fr Ty wx W → W.cell? ⟨g1, o1 + j * 10, none⟩ = some (.int .u32 (cl : Nat)) ∧ W.cell? ⟨g1, o1 + j * 10 + 1, none⟩ = some (.int .u32 (nu : Nat)) ∧ W.cell? ⟨g1, o1 + j * 10 + 2, none⟩ = some (.int .u32 (ac : Nat)) ∧ W.cell? ⟨g1, o1 + j * 10 + 3, none⟩ = some (.int .u8 (op : Nat)) ∧ W.cell? ⟨g1, o1 + j * 10 + 4, none⟩ = some (.int .u32 (rc : Nat)) ∧ W.cell? ⟨g1, o1 + j * 10 + 5, none⟩ = some (.int .u32 (ve : Nat)) ∧ W.cell? ⟨g1, o1 + j * 10 + 6, none⟩ = some (.int .u32 (wa' : Nat)) ∧ W.cell? ⟨g1, o1 + j * 10 + 7, none⟩ = some (.int .u32 (ow : Nat)) ∧ W.cell? ⟨g1, o1 + j * 10 + 8, none⟩ = some (.slice xo2 F.length xc2) ∧ W.cell? ⟨g1, o1 + j * 10 + 9, none⟩ = some (.string rs) ∧ W.cell? ⟨zB, 0, none⟩ = some (.int .u32 (cl : Nat)) ∧ W.cell? ⟨zB, 1, none⟩ = some (.int .u32 (nu : Nat)) ∧ W.cell? ⟨zB, 2, none⟩ = some (.int .u8 (X.2.co : Nat)) ∧ W.cell? ⟨zB, 3, none⟩ = some (.int .u32 (X.2.rc : Nat)) ∧ W.cell? ⟨zB, 4, none⟩ = some (.int .u32 (X.2.ve : Nat)) ∧ W.cell? ⟨zB, 5, none⟩ = some (.slice fo X.2.F.length fc) ∧ W.cell? ⟨zB, 6, none⟩ = some (.slice ho X.2.H.length hc)) := fun W hW => by
         obtain ⟨i0, i1, i2, i3, i4, i5, i6, i7, i8, i9⟩ := ((unhide HF).1.frS hfx (fun h => h)).frS hW (unhide HF).2.2.2.2
         have h6 := (hW.block zB (lt_of_block hkB.2) (unhide HZB).1).trans hkB.2
         refine ⟨i0, i1, i2, i3, i4, i5, i6, i7, i8, i9, ?_, ?_, ?_, ?_, ?_, ?_, ?_⟩ <;> simp [World.cell?, h6]
        have HAp : Hid (∀ W, Fr (fun _ => False) wx W → Calls Tryz.prog 10 #[.pointer (some ⟨bc, 0, none⟩), .agg #[.int .u32 (cl : Nat), .int .u32 (nu : Nat), .int .u32 (ac : Nat), .int .u8 (op : Nat), .int .u32 (rc : Nat), .int .u32 (ve : Nat), .int .u32 (wa' : Nat), .int .u32 (ow : Nat), .slice xo2 F.length xc2, .string rs], .int .u32 (j : Nat)] W fun e w' => ∃ fo fn fc ho hn hc, e = .returned (.agg #[.int .u32 (cl : Nat), .int .u32 (nu : Nat), .int .u8 (X.2.co : Nat), .int .u32 (X.2.rc : Nat), .int .u32 (X.2.ve : Nat), .slice fo fn fc, .slice ho hn hc]) ∧ ∃ T', C2 w w' bc T' X.1 (zx + 1) (.slice r7 Ly.length c61) ny sy Ly bs Tx sx zx rx nx sx Lx (.slice so S.length sc) T1 T0 ∧ Fr Ty W w' ∧ OwF w' W.heap.size (.slice fo fn fc) X.2.F ∧ OwS w' W.heap.size (.slice ho hn hc) X.2.H) := fun W hW => (h2.fr hW).apply (unhide HH).2.1 (unhide HQ).2.2.2.1 (unhide HF).2.2.1 (unhide HF).2.1.1 j (unhide HF).2.2.2.1
        have HGQ := hide hgq
        have H2 := hide h2
        have HKAB := hide (And.intro hkA hkB)
        clear hgq ht1 hsz ht2 hkA hkB h2 HA HS HT HI hzT hfx
        go_wp2_with fail
        refine wp_region_noPanic ?_
        refine wp_region_held_drew (S := (fun W => W.cell? ⟨g1, o1 + j * 10, none⟩ = some (.int .u32 (cl : Nat)) ∧ W.cell? ⟨g1, o1 + j * 10 + 1, none⟩ = some (.int .u32 (nu : Nat)) ∧ W.cell? ⟨g1, o1 + j * 10 + 2, none⟩ = some (.int .u32 (ac : Nat)) ∧ W.cell? ⟨g1, o1 + j * 10 + 3, none⟩ = some (.int .u8 (op : Nat)) ∧ W.cell? ⟨g1, o1 + j * 10 + 4, none⟩ = some (.int .u32 (rc : Nat)) ∧ W.cell? ⟨g1, o1 + j * 10 + 5, none⟩ = some (.int .u32 (ve : Nat)) ∧ W.cell? ⟨g1, o1 + j * 10 + 6, none⟩ = some (.int .u32 (wa' : Nat)) ∧ W.cell? ⟨g1, o1 + j * 10 + 7, none⟩ = some (.int .u32 (ow : Nat)) ∧ W.cell? ⟨g1, o1 + j * 10 + 8, none⟩ = some (.slice xo2 F.length xc2) ∧ W.cell? ⟨g1, o1 + j * 10 + 9, none⟩ = some (.string rs) ∧ W.cell? ⟨zB, 0, none⟩ = some (.int .u32 (cl : Nat)) ∧ W.cell? ⟨zB, 1, none⟩ = some (.int .u32 (nu : Nat)) ∧ W.cell? ⟨zB, 2, none⟩ = some (.int .u8 (X.2.co : Nat)) ∧ W.cell? ⟨zB, 3, none⟩ = some (.int .u32 (X.2.rc : Nat)) ∧ W.cell? ⟨zB, 4, none⟩ = some (.int .u32 (X.2.ve : Nat)) ∧ W.cell? ⟨zB, 5, none⟩ = some (.slice fo X.2.F.length fc) ∧ W.cell? ⟨zB, 6, none⟩ = some (.slice ho X.2.H.length hc))) (by kernel_rfl) ((unhide HS2) _ ((Fr.refl (fun _ => False) wx).drew.mono (fun _ _ h => h.elim))) (fun hHeld => ?_)
        refine wtk2 (i := 0) rfl hHeld ?_
        (try simp only [Act.put, nrm])
        refine wtk2 (i := 1) rfl hHeld ?_
        (try simp only [Act.put, nrm])
        refine wtk2 (i := 2) rfl hHeld ?_
        (try simp only [Act.put, nrm])
        refine wtk2 (i := 3) rfl hHeld ?_
        (try simp only [Act.put, nrm])
        refine wtk2 (i := 4) rfl hHeld ?_
        (try simp only [Act.put, nrm])
        refine wtk2 (i := 5) rfl hHeld ?_
        (try simp only [Act.put, nrm])
        refine wtk2 (i := 6) rfl hHeld ?_
        (try simp only [Act.put, nrm])
        refine wtk2 (i := 8) rfl hHeld ?_
        (try simp only [Act.put, nrm])
        refine wpAnyH_ready (rs := [7]) (by kernel_rfl) (by simp) (AllReadyH.cons rfl (fun K hK => ?_) (AllReadyH.nil))
        go_simp
        refine ((unhide HAp) _ (Fr.refl _ _).drew).mono ?_
        rintro e w7 ⟨gfo, gfn, gfc, gho, ghn, ghc, rfl, T2, h7, f7, o7, p7⟩
        obtain rfl : gfn = X.2.F.length := by obtain ⟨_, _, e⟩ := own_formX o7; exact (Value.slice.inj e).2.1
        obtain rfl : ghn = X.2.H.length := by obtain ⟨_, _, e⟩ := own_formX p7; exact (Value.slice.inj e).2.1
        have f7x : Fr Ty wx w7 := ((Fr.refl (fun _ => False) wx).drew.mono (fun _ _ h => h.elim)).trans f7 (fun _ _ h => h)
        have hgq7 := (unhide HGQ).frS f7x (fun k hk => ((unhide H2).tx k hk).2.2.2.1)
        have HSm := hide (sameA_any cl nu X.2.co X.2.rc X.2.ve _ _ _ _ X.2.F X.2.H w7 o7.fds hgq7.f p7.sms hgq7.h (by have := unhide HSt; omega) (by have := unhide HSt; omega))
        have H7 := hide (And.intro h7 (And.intro f7x hgq7.g))
        clear h7 f7 o7 p7 f7x hgq7
        go_simp
        refine hK.out _ _ ((unhide HS2) _ (unhide H7).2.1) (fun hHeld => ?_)
        clear hK K
        (try simp only [Act.put, nrm])
        refine wpAnyH_ready (rs := [9]) (by kernel_rfl) (by simp) (AllReadyH.cons rfl (fun K hK => ?_) (AllReadyH.nil))
        go_simp
        refine (unhide HSm).mono ?_
        rintro e w8 ⟨rfl, f8⟩
        have hk8 : w8.heap[zA]? = some (.cells #[.slice so S.length sc, .slice rn7 L'.length rc7] 36) := (f8.block _ (Nat.lt_of_lt_of_le (lt_of_block (unhide HKAB).1.2) (unhide H7).2.1.size) (fun h => h)).trans (((unhide H7).2.1.block zA (lt_of_block (unhide HKAB).1.2) (unhide HZB).2.1).trans (unhide HKAB).1.2)
        have h8 := (unhide H7).1.fr f8
        have hg8 := (unhide H7).2.2.fr f8
        have F8 := hide (((unhide H7).2.1).trans (f8.mono (fun _ _ h => h.elim)) (fun _ _ h => h) : Fr Ty wx w8)
        obtain ⟨W9, hW9⟩ : ∃ W9, W9 = (w8.setCell ⟨(zx + 1), 0, none⟩ (.slice so S.length sc)).setCell ⟨(zx + 1), 1, none⟩ (.slice rn7 L'.length rc7) := ⟨_, rfl⟩
        have HE : Hid (C2 w W9 bc T2 X.1 (zx + 1) (.slice rn7 L'.length rc7) (ny + 1) X.1 L' bs Tx sx zx rx nx sx Lx (.slice so S.length sc) T1 T0) := by
         have k0 := heap_setCell_same w8 (zx + 1) 0 _ 36 (.slice so S.length sc) h8.kx
         have k1 := heap_setCell_same _ (zx + 1) 1 _ 36 (.slice rn7 L'.length rc7) k0
         simp only [List.setIfInBounds_toArray, List.set_cons_zero, List.set_cons_succ] at k1
         rw [hW9]
         exact h8.put (((Fr.refl (fun k => k = (zx + 1)) w8).setCell (p := ⟨(zx + 1), 0, none⟩) (.inl rfl) _).setCell (p := ⟨(zx + 1), 1, none⟩) (.inl rfl) _) k1 hg8
        have z0 : w8.cell? ⟨(zx + 1), 0, none⟩ = some (.slice so S.length sc) := by simp [World.cell?, h8.kx]
        have z1 : w8.cell? ⟨(zx + 1), 1, none⟩ = some (.slice r7 Ly.length c61) := by simp [World.cell?, h8.kx]
        have y0 : w8.frozen? ⟨(zx + 1), 0, none⟩ = false := by simp [World.frozen?, h8.kx]
        have y1 : w8.frozen? ⟨(zx + 1), 1, none⟩ = false := by simp [World.frozen?, h8.kx]
        have a0 : w8.cell? ⟨zA, 0, none⟩ = some (.slice so S.length sc) := by simp [World.cell?, hk8]
        have a1 : w8.cell? ⟨zA, 1, none⟩ = some (.slice rn7 L'.length rc7) := by simp [World.cell?, hk8]
        have hzz : ¬ zA = (zx + 1) := (unhide HZB).2.2.1
        have hzz2 : ¬ (zx + 1) = zA := fun e => hzz e.symm
        clear f8 hk8 h8 hg8
        go_simp
        refine hK.out _ _ ((unhide HS2) _ (unhide F8)) (fun hHeld => ?_)
        clear hK K
        (try simp only [Act.put, nrm])
        refine wtk2 (i := 10) rfl hHeld ?_
        (try simp only [Act.put, nrm])
        refine wpAnyH_done (by kernel_rfl) ?_ _
        refine NoPanic.normal ?_
        have hlt1 := unhide hltx
        clear hHeld HS2 HAp HGQ H2 HKAB HZB H7 HSm F8 HF HSt
        go_wp2_with fail
        rw [← hW9]
        go_roundw
        case rel => exact ⟨j + 1, by omega, by go_num, _, _, _, _, _, _, _, _, _, _, _, by omega, by omega, (unhide HE).swap⟩
        case measure => simp [intOf]; omega
      ·have hkl2 : ¬ (j : Int) < (I.length : Int) := by omega
       go_wp2_with fail
       rw [← hW9]
       go_roundw
       case rel => exact ⟨j + 1, by omega, by go_num, _, _, _, _, _, _, _, _, _, _, _, by omega, by omega, unhide HE⟩
       case measure => simp [intOf]; omega
    ·have hkl : ¬ (j : Int) < (H.length : Int) := by omega
     by_cases hlt2 : j < I.length
     ·replace hi := hi.swap
      rename j < I.length => hlt
      obtain ⟨p, hpe⟩ : ∃ p, I[j] = p := ⟨_, rfl⟩
      have hpe2 : I[j]? = some p := by rw [List.getElem?_eq_getElem hlt, hpe]
      have hqr := (unhide HH).2.1.fr hi.f
      obtain ⟨g1, o1, rfl, hr0⟩ := hqr.at_ j hlt
      rw [hpe] at hr0
      have hpm : p ∈ I := List.mem_of_getElem? hpe2
      have hgo := (unhide HH).2.2.2 p hpm
      have hfd := hqr.d p hpm
      obtain ⟨r7, c61, rfl⟩ := hi.gx.g.r.form
      obtain ⟨X, hX⟩ : ∃ X, sy.step p.1 p.2 j = X := ⟨_, rfl⟩
      have HSt : Hid (X.2.F.length ≤ 32 ∧ X.2.H.length ≤ 64) := by rw [← hX]; exact step_short hi.gx.o _ _ _
      obtain ⟨⟨cl, nu, ac, op, rc, ve, wa', ow, fv, rs⟩, F⟩ := p
      obtain ⟨xo2, xc2, rfl⟩ : ∃ xo2 xc2, fv = .slice xo2 F.length xc2 := hfd.f.form
      have HA : Hid (∀ W, Fr (fun _ => False) wr W → Calls Tryz.prog 12 #[.agg #[.slice so S.length sc, .slice r7 Ly.length c61], .agg #[.int .u32 (cl : Nat), .int .u32 (nu : Nat), .int .u32 (ac : Nat), .int .u8 (op : Nat), .int .u32 (rc : Nat), .int .u32 (ve : Nat), .int .u32 (wa' : Nat), .int .u32 (ow : Nat), .slice xo2 F.length xc2, .string rs], .int .u32 (j : Nat)] W fun e w' => QPost W T (.slice so S.length sc) ny cl nu X e w') := fun W hW => gapply_Q _ _ sy Ly T ny ⟨cl, nu, ac, op, rc, ve, wa', ow, .slice xo2 F.length xc2, rs⟩ F j W (hi.gx.fr hW) (by have := (unhide HQ).2.2.2.2.2.2; omega) (hfd.f.fr hW) (fun k hk => hi.qt k ((unhide HT0).2.2.2.1 _ hpm k hk)) hgo X hX
      have HT : Hid (∀ k, T k → k < wr.heap.size) := fun k hk => (hi.t k hk).1
      have HS : Hid (∀ W, Fr (fun _ => False) wr W → W.cell? ⟨(zx + 1), 0, none⟩ = some (.slice so S.length sc) ∧ W.cell? ⟨(zx + 1), 1, none⟩ = some (.slice r7 Ly.length c61) ∧ W.cell? ⟨g1, o1 + j * 10, none⟩ = some (.int .u32 (cl : Nat)) ∧ W.cell? ⟨g1, o1 + j * 10 + 1, none⟩ = some (.int .u32 (nu : Nat)) ∧ W.cell? ⟨g1, o1 + j * 10 + 2, none⟩ = some (.int .u32 (ac : Nat)) ∧ W.cell? ⟨g1, o1 + j * 10 + 3, none⟩ = some (.int .u8 (op : Nat)) ∧ W.cell? ⟨g1, o1 + j * 10 + 4, none⟩ = some (.int .u32 (rc : Nat)) ∧ W.cell? ⟨g1, o1 + j * 10 + 5, none⟩ = some (.int .u32 (ve : Nat)) ∧ W.cell? ⟨g1, o1 + j * 10 + 6, none⟩ = some (.int .u32 (wa' : Nat)) ∧ W.cell? ⟨g1, o1 + j * 10 + 7, none⟩ = some (.int .u32 (ow : Nat)) ∧ W.cell? ⟨g1, o1 + j * 10 + 8, none⟩ = some (.slice xo2 F.length xc2) ∧ W.cell? ⟨g1, o1 + j * 10 + 9, none⟩ = some (.string rs)) := fun W hW => by
       have hb := (hi.fr hW).kx
       obtain ⟨i0, i1, i2, i3, i4, i5, i6, i7, i8, i9⟩ := hr0.frS hW (fun h => h)
       exact ⟨by simp [World.cell?, hb], by simp [World.cell?, hb], i0, i1, i2, i3, i4, i5, i6, i7, i8, i9⟩
      have hkl1 : (j : Int) < (I.length : Int) := by omega
      have hwr : IntKind.u32.wrap (j : Int) = (j : Int) := by have := (unhide HQ).2.2.2.2.2.2; rw [IntKind.wrap_u32]; omega
      have hgT : ¬ Ty g1 := fun e => (hi.tx _ e).2.2.2.1 (hi.qt _ ((unhide HG1) g1 (.inl ⟨_, _, _, rfl, by omega⟩)))
      have HI := hide hi
      have HF := hide (And.intro hr0 (And.intro hgo (And.intro hpm (And.intro hX hgT))))
      have hltx := hide hlt
      clear hi hpe hpe2 hqr hpm hgo hfd hr0 hX hlt hgT
      go_upto_region 26 with fail
      go_cut [16, 17] from 71 to 136 (fun s1 s2 wx => ∃ zA zB rv' L' T1 fo fn fc ho hn hc sz, s1 = .pointer (some ⟨zA, 0, none⟩) ∧ s2 = .pointer (some ⟨zB, 0, none⟩) ∧ Fr (fun _ => False) wr wx ∧ GQ wx T1 (.slice so S.length sc) rv' (ny + 1) X L' (.slice fo fn fc) (.slice ho hn hc) ∧ (∀ k, T1 k → (T k ∨ sz ≤ k) ∧ k < wx.heap.size) ∧ wr.heap.size ≤ sz ∧ (∀ k, T k → T1 k) ∧ (wr.heap.size ≤ zA ∧ wx.heap[zA]? = some (.cells #[.slice so S.length sc, rv'] 36)) ∧ (wr.heap.size ≤ zB ∧ wx.heap[zB]? = some (.cells #[.int .u32 (cl : Nat), .int .u32 (nu : Nat), .int .u8 (X.2.co : Nat), .int .u32 (X.2.rc : Nat), .int .u32 (X.2.ve : Nat), .slice fo fn fc, .slice ho hn hc] 45)))
      case first =>
       refine wp_region_noPanic ?_
       refine wp_region_held_drew (S := (fun W => W.cell? ⟨(zx + 1), 0, none⟩ = some (.slice so S.length sc) ∧ W.cell? ⟨(zx + 1), 1, none⟩ = some (.slice r7 Ly.length c61) ∧ W.cell? ⟨g1, o1 + j * 10, none⟩ = some (.int .u32 (cl : Nat)) ∧ W.cell? ⟨g1, o1 + j * 10 + 1, none⟩ = some (.int .u32 (nu : Nat)) ∧ W.cell? ⟨g1, o1 + j * 10 + 2, none⟩ = some (.int .u32 (ac : Nat)) ∧ W.cell? ⟨g1, o1 + j * 10 + 3, none⟩ = some (.int .u8 (op : Nat)) ∧ W.cell? ⟨g1, o1 + j * 10 + 4, none⟩ = some (.int .u32 (rc : Nat)) ∧ W.cell? ⟨g1, o1 + j * 10 + 5, none⟩ = some (.int .u32 (ve : Nat)) ∧ W.cell? ⟨g1, o1 + j * 10 + 6, none⟩ = some (.int .u32 (wa' : Nat)) ∧ W.cell? ⟨g1, o1 + j * 10 + 7, none⟩ = some (.int .u32 (ow : Nat)) ∧ W.cell? ⟨g1, o1 + j * 10 + 8, none⟩ = some (.slice xo2 F.length xc2) ∧ W.cell? ⟨g1, o1 + j * 10 + 9, none⟩ = some (.string rs))) (by kernel_rfl) ((unhide HS) _ (Fr.refl _ _).drew) (fun hHeld => ?_)
       refine wtk2 (i := 0) rfl hHeld ?_
       (try simp only [Act.put, nrm])
       refine wtk2 (i := 1) rfl hHeld ?_
       (try simp only [Act.put, nrm])
       refine wtk2 (i := 2) rfl hHeld ?_
       (try simp only [Act.put, nrm])
       refine wtk2 (i := 3) rfl hHeld ?_
       (try simp only [Act.put, nrm])
       refine wtk2 (i := 4) rfl hHeld ?_
       (try simp only [Act.put, nrm])
       refine wtk2 (i := 5) rfl hHeld ?_
       (try simp only [Act.put, nrm])
       refine wtk2 (i := 6) rfl hHeld ?_
       (try simp only [Act.put, nrm])
       obtain ⟨W0, hW0⟩ : ∃ W0, W0 = wr.drew := ⟨_, rfl⟩
       rw [← hW0]
       have fk0 : Fr (fun _ => False) wr W0 := by rw [hW0]; exact (Fr.refl _ _).drew
       clear hW0
       refine wpAnyH_ready (rs := [7, 11, 12]) (by kernel_rfl) (by simp) (AllReadyH.cons rfl (fun K hK => ?_) (AllReadyH.cons rfl (fun K hK => ?_) (AllReadyH.cons rfl (fun K hK => ?_) (AllReadyH.nil))))
       focus
        go_simp
        refine ((unhide HA) W0 fk0).mono ?_
        rintro e wk1 ⟨rv', L', fo, fn, fc, ho, hn, hc, T1, rfl, hone', hrr, ht1, ht2, gk1⟩
        have fk1 := fk0.trans gk1 (fun _ _ h => h)
        have HSZ := hide (fk0.size)
        have HRR := hide hrr
        have HT1 := hide ht1
        have HT2 := hide (show ∀ k, T k → T1 k from fun k hk => ht2 k hk (Nat.lt_of_lt_of_le ((unhide HT) k hk) fk0.size))
        have HONE := hide hone'
        clear hrr ht1 ht2 hone'
        go_simp
        refine hK.out _ _ ((unhide HS) _ fk1) (fun hHeld => ?_)
        clear hK K
        (try simp only [Act.put, nrm])
        refine wtk2 (i := 8) rfl hHeld ?_
        (try simp only [Act.put, nrm])
        refine wtk2 (i := 9) rfl hHeld ?_
        (try simp only [Act.put, nrm])
        refine wtk2 (i := 10) rfl hHeld ?_
        (try simp only [Act.put, nrm])
        refine wpAnyH_ready (rs := [11, 12]) (by kernel_rfl) (by simp) (AllReadyH.cons rfl (fun K hK => ?_) (AllReadyH.cons rfl (fun K hK => ?_) (AllReadyH.nil)))
        focus
         go_simp
         obtain ⟨wk2, hwk2⟩ : ∃ wk2, wk2 = wk1.alloc (.cells #[.slice none 0 0, .slice none 0 0] 36) := ⟨_, rfl⟩
         obtain ⟨zA, hzA⟩ : ∃ zA, zA = wk1.heap.size := ⟨_, rfl⟩
         have gk2 : Fr (fun _ => False) wk1 wk2 := by rw [hwk2]; exact box1 _ _
         have fk2 := fk1.trans gk2 (fun _ _ h => h)
         have HKA : Hid (wr.heap.size ≤ zA ∧ wk2.heap[zA]? = some (.cells #[.slice none 0 0, .slice none 0 0] 36)) := ⟨by rw [hzA]; exact fk1.size, by rw [hwk2, hzA]; exact Array.getElem?_push_size⟩
         have HNA : Hid (¬ T1 zA) := fun h => by
          have h1 := (unhide HRR).lt zA h
          omega
         replace HRR := hide ((unhide HRR).fr gk2)
         rw [← hwk2, ← hzA]
         clear hwk2 hzA
         refine hK.out _ _ ((unhide HS) _ fk2) (fun hHeld => ?_)
         clear hK K
         (try simp only [Act.put, nrm])
         refine wpAnyH_ready (rs := [12]) (by kernel_rfl) (by simp) (AllReadyH.cons rfl (fun K hK => ?_) (AllReadyH.nil))
         go_simp
         obtain ⟨wk3, hwk3⟩ : ∃ wk3, wk3 = wk2.alloc (.cells #[.int .u32 0, .int .u32 0, .int .u8 0, .int .u32 0, .int .u32 0, .slice none 0 0, .slice none 0 0] 45) := ⟨_, rfl⟩
         obtain ⟨zB, hzB⟩ : ∃ zB, zB = wk2.heap.size := ⟨_, rfl⟩
         have gk3 : Fr (fun _ => False) wk2 wk3 := by rw [hwk3]; exact box1 _ _
         have fk3 := fk2.trans gk3 (fun _ _ h => h)
         have HKB : Hid (wr.heap.size ≤ zB ∧ wk3.heap[zB]? = some (.cells #[.int .u32 0, .int .u32 0, .int .u8 0, .int .u32 0, .int .u32 0, .slice none 0 0, .slice none 0 0] 45)) := ⟨by rw [hzB]; exact fk2.size, by rw [hwk3, hzB]; exact Array.getElem?_push_size⟩
         have HNE : Hid (zA ≠ zB) := by have h1 := lt_of_block (unhide HKA).2; show zA ≠ zB; omega
         replace HKA := hide (And.intro (unhide HKA).1 ((gk3.block zA (lt_of_block (unhide HKA).2) (fun h => h)).trans (unhide HKA).2))
         have HNB : Hid (¬ T1 zB) := fun h => by
          have h1 := (unhide HRR).lt zB h
          omega
         replace HRR := hide ((unhide HRR).fr gk3)
         rw [← hwk3, ← hzB]
         clear hwk3 hzB
         refine hK.out _ _ ((unhide HS) _ fk3) (fun hHeld => ?_)
         clear hK K
         (try simp only [Act.put, nrm])
        rotate_left
        focus
         go_simp
         obtain ⟨wk2, hwk2⟩ : ∃ wk2, wk2 = wk1.alloc (.cells #[.int .u32 0, .int .u32 0, .int .u8 0, .int .u32 0, .int .u32 0, .slice none 0 0, .slice none 0 0] 45) := ⟨_, rfl⟩
         obtain ⟨zB, hzB⟩ : ∃ zB, zB = wk1.heap.size := ⟨_, rfl⟩
         have gk2 : Fr (fun _ => False) wk1 wk2 := by rw [hwk2]; exact box1 _ _
         have fk2 := fk1.trans gk2 (fun _ _ h => h)
         have HKB : Hid (wr.heap.size ≤ zB ∧ wk2.heap[zB]? = some (.cells #[.int .u32 0, .int .u32 0, .int .u8 0, .int .u32 0, .int .u32 0, .slice none 0 0, .slice none 0 0] 45)) := ⟨by rw [hzB]; exact fk1.size, by rw [hwk2, hzB]; exact Array.getElem?_push_size⟩
         have HNB : Hid (¬ T1 zB) := fun h => by
          have h1 := (unhide HRR).lt zB h
          omega
         replace HRR := hide ((unhide HRR).fr gk2)
         rw [← hwk2, ← hzB]
         clear hwk2 hzB
         refine hK.out _ _ ((unhide HS) _ fk2) (fun hHeld => ?_)
         clear hK K
         (try simp only [Act.put, nrm])
         refine wpAnyH_ready (rs := [11]) (by kernel_rfl) (by simp) (AllReadyH.cons rfl (fun K hK => ?_) (AllReadyH.nil))
         go_simp
         obtain ⟨wk3, hwk3⟩ : ∃ wk3, wk3 = wk2.alloc (.cells #[.slice none 0 0, .slice none 0 0] 36) := ⟨_, rfl⟩
         obtain ⟨zA, hzA⟩ : ∃ zA, zA = wk2.heap.size := ⟨_, rfl⟩
         have gk3 : Fr (fun _ => False) wk2 wk3 := by rw [hwk3]; exact box1 _ _
         have fk3 := fk2.trans gk3 (fun _ _ h => h)
         have HKA : Hid (wr.heap.size ≤ zA ∧ wk3.heap[zA]? = some (.cells #[.slice none 0 0, .slice none 0 0] 36)) := ⟨by rw [hzA]; exact fk2.size, by rw [hwk3, hzA]; exact Array.getElem?_push_size⟩
         have HNE : Hid (zA ≠ zB) := by have h1 := lt_of_block (unhide HKB).2; show zA ≠ zB; omega
         replace HKB := hide (And.intro (unhide HKB).1 ((gk3.block zB (lt_of_block (unhide HKB).2) (fun h => h)).trans (unhide HKB).2))
         have HNA : Hid (¬ T1 zA) := fun h => by
          have h1 := (unhide HRR).lt zA h
          omega
         replace HRR := hide ((unhide HRR).fr gk3)
         rw [← hwk3, ← hzA]
         clear hwk3 hzA
         refine hK.out _ _ ((unhide HS) _ fk3) (fun hHeld => ?_)
         clear hK K
         (try simp only [Act.put, nrm])
       rotate_left 2
       focus
        go_simp
        obtain ⟨wk1, hwk1⟩ : ∃ wk1, wk1 = W0.alloc (.cells #[.slice none 0 0, .slice none 0 0] 36) := ⟨_, rfl⟩
        obtain ⟨zA, hzA⟩ : ∃ zA, zA = W0.heap.size := ⟨_, rfl⟩
        have gk1 : Fr (fun _ => False) W0 wk1 := by rw [hwk1]; exact box1 _ _
        have fk1 := fk0.trans gk1 (fun _ _ h => h)
        have HKA : Hid (wr.heap.size ≤ zA ∧ wk1.heap[zA]? = some (.cells #[.slice none 0 0, .slice none 0 0] 36)) := ⟨by rw [hzA]; exact fk0.size, by rw [hwk1, hzA]; exact Array.getElem?_push_size⟩
        rw [← hwk1, ← hzA]
        clear hwk1 hzA
        refine hK.out _ _ ((unhide HS) _ fk1) (fun hHeld => ?_)
        clear hK K
        (try simp only [Act.put, nrm])
        refine wpAnyH_ready (rs := [7, 12]) (by kernel_rfl) (by simp) (AllReadyH.cons rfl (fun K hK => ?_) (AllReadyH.cons rfl (fun K hK => ?_) (AllReadyH.nil)))
        focus
         go_simp
         refine ((unhide HA) wk1 fk1).mono ?_
         rintro e wk2 ⟨rv', L', fo, fn, fc, ho, hn, hc, T1, rfl, hone', hrr, ht1, ht2, gk2⟩
         have fk2 := fk1.trans gk2 (fun _ _ h => h)
         have HSZ := hide (fk1.size)
         have HRR := hide hrr
         have HT1 := hide ht1
         have HT2 := hide (show ∀ k, T k → T1 k from fun k hk => ht2 k hk (Nat.lt_of_lt_of_le ((unhide HT) k hk) fk1.size))
         have HONE := hide hone'
         clear hrr ht1 ht2 hone'
         go_simp
         refine hK.out _ _ ((unhide HS) _ fk2) (fun hHeld => ?_)
         clear hK K
         (try simp only [Act.put, nrm])
         refine wtk2 (i := 8) rfl hHeld ?_
         (try simp only [Act.put, nrm])
         refine wtk2 (i := 9) rfl hHeld ?_
         (try simp only [Act.put, nrm])
         refine wtk2 (i := 10) rfl hHeld ?_
         (try simp only [Act.put, nrm])
         have HNA : Hid (¬ T1 zA) := fun h => by
          have h1 := (unhide HT1) zA h
          have h2 := lt_of_block (unhide HKA).2
          have h3 := (unhide HKA).1
          rcases h1.1 with h4 | h4
          ·have h5 := (unhide HT) zA h4
           omega
          ·omega
         replace HKA := hide (And.intro (unhide HKA).1 ((gk2.block zA (lt_of_block (unhide HKA).2) (fun h => h)).trans (unhide HKA).2))
         refine wpAnyH_ready (rs := [12]) (by kernel_rfl) (by simp) (AllReadyH.cons rfl (fun K hK => ?_) (AllReadyH.nil))
         go_simp
         obtain ⟨wk3, hwk3⟩ : ∃ wk3, wk3 = wk2.alloc (.cells #[.int .u32 0, .int .u32 0, .int .u8 0, .int .u32 0, .int .u32 0, .slice none 0 0, .slice none 0 0] 45) := ⟨_, rfl⟩
         obtain ⟨zB, hzB⟩ : ∃ zB, zB = wk2.heap.size := ⟨_, rfl⟩
         have gk3 : Fr (fun _ => False) wk2 wk3 := by rw [hwk3]; exact box1 _ _
         have fk3 := fk2.trans gk3 (fun _ _ h => h)
         have HKB : Hid (wr.heap.size ≤ zB ∧ wk3.heap[zB]? = some (.cells #[.int .u32 0, .int .u32 0, .int .u8 0, .int .u32 0, .int .u32 0, .slice none 0 0, .slice none 0 0] 45)) := ⟨by rw [hzB]; exact fk2.size, by rw [hwk3, hzB]; exact Array.getElem?_push_size⟩
         have HNE : Hid (zA ≠ zB) := by have h1 := lt_of_block (unhide HKA).2; show zA ≠ zB; omega
         replace HKA := hide (And.intro (unhide HKA).1 ((gk3.block zA (lt_of_block (unhide HKA).2) (fun h => h)).trans (unhide HKA).2))
         have HNB : Hid (¬ T1 zB) := fun h => by
          have h1 := (unhide HRR).lt zB h
          omega
         replace HRR := hide ((unhide HRR).fr gk3)
         rw [← hwk3, ← hzB]
         clear hwk3 hzB
         refine hK.out _ _ ((unhide HS) _ fk3) (fun hHeld => ?_)
         clear hK K
         (try simp only [Act.put, nrm])
        rotate_left
        focus
         go_simp
         obtain ⟨wk2, hwk2⟩ : ∃ wk2, wk2 = wk1.alloc (.cells #[.int .u32 0, .int .u32 0, .int .u8 0, .int .u32 0, .int .u32 0, .slice none 0 0, .slice none 0 0] 45) := ⟨_, rfl⟩
         obtain ⟨zB, hzB⟩ : ∃ zB, zB = wk1.heap.size := ⟨_, rfl⟩
         have gk2 : Fr (fun _ => False) wk1 wk2 := by rw [hwk2]; exact box1 _ _
         have fk2 := fk1.trans gk2 (fun _ _ h => h)
         have HKB : Hid (wr.heap.size ≤ zB ∧ wk2.heap[zB]? = some (.cells #[.int .u32 0, .int .u32 0, .int .u8 0, .int .u32 0, .int .u32 0, .slice none 0 0, .slice none 0 0] 45)) := ⟨by rw [hzB]; exact fk1.size, by rw [hwk2, hzB]; exact Array.getElem?_push_size⟩
         have HNE : Hid (zA ≠ zB) := by have h1 := lt_of_block (unhide HKA).2; show zA ≠ zB; omega
         replace HKA := hide (And.intro (unhide HKA).1 ((gk2.block zA (lt_of_block (unhide HKA).2) (fun h => h)).trans (unhide HKA).2))
         rw [← hwk2, ← hzB]
         clear hwk2 hzB
         refine hK.out _ _ ((unhide HS) _ fk2) (fun hHeld => ?_)
         clear hK K
         (try simp only [Act.put, nrm])
         refine wpAnyH_ready (rs := [7]) (by kernel_rfl) (by simp) (AllReadyH.cons rfl (fun K hK => ?_) (AllReadyH.nil))
         go_simp
         refine ((unhide HA) wk2 fk2).mono ?_
         rintro e wk3 ⟨rv', L', fo, fn, fc, ho, hn, hc, T1, rfl, hone', hrr, ht1, ht2, gk3⟩
         have fk3 := fk2.trans gk3 (fun _ _ h => h)
         have HSZ := hide (fk2.size)
         have HRR := hide hrr
         have HT1 := hide ht1
         have HT2 := hide (show ∀ k, T k → T1 k from fun k hk => ht2 k hk (Nat.lt_of_lt_of_le ((unhide HT) k hk) fk2.size))
         have HONE := hide hone'
         clear hrr ht1 ht2 hone'
         go_simp
         refine hK.out _ _ ((unhide HS) _ fk3) (fun hHeld => ?_)
         clear hK K
         (try simp only [Act.put, nrm])
         refine wtk2 (i := 8) rfl hHeld ?_
         (try simp only [Act.put, nrm])
         refine wtk2 (i := 9) rfl hHeld ?_
         (try simp only [Act.put, nrm])
         refine wtk2 (i := 10) rfl hHeld ?_
         (try simp only [Act.put, nrm])
         have HNA : Hid (¬ T1 zA) := fun h => by
          have h1 := (unhide HT1) zA h
          have h2 := lt_of_block (unhide HKA).2
          have h3 := (unhide HKA).1
          rcases h1.1 with h4 | h4
          ·have h5 := (unhide HT) zA h4
           omega
          ·omega
         replace HKA := hide (And.intro (unhide HKA).1 ((gk3.block zA (lt_of_block (unhide HKA).2) (fun h => h)).trans (unhide HKA).2))
         have HNB : Hid (¬ T1 zB) := fun h => by
          have h1 := (unhide HT1) zB h
          have h2 := lt_of_block (unhide HKB).2
          have h3 := (unhide HKB).1
          rcases h1.1 with h4 | h4
          ·have h5 := (unhide HT) zB h4
           omega
          ·omega
         replace HKB := hide (And.intro (unhide HKB).1 ((gk3.block zB (lt_of_block (unhide HKB).2) (fun h => h)).trans (unhide HKB).2))
       rotate_left 2
       focus
        go_simp
        obtain ⟨wk1, hwk1⟩ : ∃ wk1, wk1 = W0.alloc (.cells #[.int .u32 0, .int .u32 0, .int .u8 0, .int .u32 0, .int .u32 0, .slice none 0 0, .slice none 0 0] 45) := ⟨_, rfl⟩
        obtain ⟨zB, hzB⟩ : ∃ zB, zB = W0.heap.size := ⟨_, rfl⟩
        have gk1 : Fr (fun _ => False) W0 wk1 := by rw [hwk1]; exact box1 _ _
        have fk1 := fk0.trans gk1 (fun _ _ h => h)
        have HKB : Hid (wr.heap.size ≤ zB ∧ wk1.heap[zB]? = some (.cells #[.int .u32 0, .int .u32 0, .int .u8 0, .int .u32 0, .int .u32 0, .slice none 0 0, .slice none 0 0] 45)) := ⟨by rw [hzB]; exact fk0.size, by rw [hwk1, hzB]; exact Array.getElem?_push_size⟩
        rw [← hwk1, ← hzB]
        clear hwk1 hzB
        refine hK.out _ _ ((unhide HS) _ fk1) (fun hHeld => ?_)
        clear hK K
        (try simp only [Act.put, nrm])
        refine wpAnyH_ready (rs := [7, 11]) (by kernel_rfl) (by simp) (AllReadyH.cons rfl (fun K hK => ?_) (AllReadyH.cons rfl (fun K hK => ?_) (AllReadyH.nil)))
        focus
         go_simp
         refine ((unhide HA) wk1 fk1).mono ?_
         rintro e wk2 ⟨rv', L', fo, fn, fc, ho, hn, hc, T1, rfl, hone', hrr, ht1, ht2, gk2⟩
         have fk2 := fk1.trans gk2 (fun _ _ h => h)
         have HSZ := hide (fk1.size)
         have HRR := hide hrr
         have HT1 := hide ht1
         have HT2 := hide (show ∀ k, T k → T1 k from fun k hk => ht2 k hk (Nat.lt_of_lt_of_le ((unhide HT) k hk) fk1.size))
         have HONE := hide hone'
         clear hrr ht1 ht2 hone'
         go_simp
         refine hK.out _ _ ((unhide HS) _ fk2) (fun hHeld => ?_)
         clear hK K
         (try simp only [Act.put, nrm])
         refine wtk2 (i := 8) rfl hHeld ?_
         (try simp only [Act.put, nrm])
         refine wtk2 (i := 9) rfl hHeld ?_
         (try simp only [Act.put, nrm])
         refine wtk2 (i := 10) rfl hHeld ?_
         (try simp only [Act.put, nrm])
         have HNB : Hid (¬ T1 zB) := fun h => by
          have h1 := (unhide HT1) zB h
          have h2 := lt_of_block (unhide HKB).2
          have h3 := (unhide HKB).1
          rcases h1.1 with h4 | h4
          ·have h5 := (unhide HT) zB h4
           omega
          ·omega
         replace HKB := hide (And.intro (unhide HKB).1 ((gk2.block zB (lt_of_block (unhide HKB).2) (fun h => h)).trans (unhide HKB).2))
         refine wpAnyH_ready (rs := [11]) (by kernel_rfl) (by simp) (AllReadyH.cons rfl (fun K hK => ?_) (AllReadyH.nil))
         go_simp
         obtain ⟨wk3, hwk3⟩ : ∃ wk3, wk3 = wk2.alloc (.cells #[.slice none 0 0, .slice none 0 0] 36) := ⟨_, rfl⟩
         obtain ⟨zA, hzA⟩ : ∃ zA, zA = wk2.heap.size := ⟨_, rfl⟩
         have gk3 : Fr (fun _ => False) wk2 wk3 := by rw [hwk3]; exact box1 _ _
         have fk3 := fk2.trans gk3 (fun _ _ h => h)
         have HKA : Hid (wr.heap.size ≤ zA ∧ wk3.heap[zA]? = some (.cells #[.slice none 0 0, .slice none 0 0] 36)) := ⟨by rw [hzA]; exact fk2.size, by rw [hwk3, hzA]; exact Array.getElem?_push_size⟩
         have HNE : Hid (zA ≠ zB) := by have h1 := lt_of_block (unhide HKB).2; show zA ≠ zB; omega
         replace HKB := hide (And.intro (unhide HKB).1 ((gk3.block zB (lt_of_block (unhide HKB).2) (fun h => h)).trans (unhide HKB).2))
         have HNA : Hid (¬ T1 zA) := fun h => by
          have h1 := (unhide HRR).lt zA h
          omega
         replace HRR := hide ((unhide HRR).fr gk3)
         rw [← hwk3, ← hzA]
         clear hwk3 hzA
         refine hK.out _ _ ((unhide HS) _ fk3) (fun hHeld => ?_)
         clear hK K
         (try simp only [Act.put, nrm])
        rotate_left
        focus
         go_simp
         obtain ⟨wk2, hwk2⟩ : ∃ wk2, wk2 = wk1.alloc (.cells #[.slice none 0 0, .slice none 0 0] 36) := ⟨_, rfl⟩
         obtain ⟨zA, hzA⟩ : ∃ zA, zA = wk1.heap.size := ⟨_, rfl⟩
         have gk2 : Fr (fun _ => False) wk1 wk2 := by rw [hwk2]; exact box1 _ _
         have fk2 := fk1.trans gk2 (fun _ _ h => h)
         have HKA : Hid (wr.heap.size ≤ zA ∧ wk2.heap[zA]? = some (.cells #[.slice none 0 0, .slice none 0 0] 36)) := ⟨by rw [hzA]; exact fk1.size, by rw [hwk2, hzA]; exact Array.getElem?_push_size⟩
         have HNE : Hid (zA ≠ zB) := by have h1 := lt_of_block (unhide HKB).2; show zA ≠ zB; omega
         replace HKB := hide (And.intro (unhide HKB).1 ((gk2.block zB (lt_of_block (unhide HKB).2) (fun h => h)).trans (unhide HKB).2))
         rw [← hwk2, ← hzA]
         clear hwk2 hzA
         refine hK.out _ _ ((unhide HS) _ fk2) (fun hHeld => ?_)
         clear hK K
         (try simp only [Act.put, nrm])
         refine wpAnyH_ready (rs := [7]) (by kernel_rfl) (by simp) (AllReadyH.cons rfl (fun K hK => ?_) (AllReadyH.nil))
         go_simp
         refine ((unhide HA) wk2 fk2).mono ?_
         rintro e wk3 ⟨rv', L', fo, fn, fc, ho, hn, hc, T1, rfl, hone', hrr, ht1, ht2, gk3⟩
         have fk3 := fk2.trans gk3 (fun _ _ h => h)
         have HSZ := hide (fk2.size)
         have HRR := hide hrr
         have HT1 := hide ht1
         have HT2 := hide (show ∀ k, T k → T1 k from fun k hk => ht2 k hk (Nat.lt_of_lt_of_le ((unhide HT) k hk) fk2.size))
         have HONE := hide hone'
         clear hrr ht1 ht2 hone'
         go_simp
         refine hK.out _ _ ((unhide HS) _ fk3) (fun hHeld => ?_)
         clear hK K
         (try simp only [Act.put, nrm])
         refine wtk2 (i := 8) rfl hHeld ?_
         (try simp only [Act.put, nrm])
         refine wtk2 (i := 9) rfl hHeld ?_
         (try simp only [Act.put, nrm])
         refine wtk2 (i := 10) rfl hHeld ?_
         (try simp only [Act.put, nrm])
         have HNA : Hid (¬ T1 zA) := fun h => by
          have h1 := (unhide HT1) zA h
          have h2 := lt_of_block (unhide HKA).2
          have h3 := (unhide HKA).1
          rcases h1.1 with h4 | h4
          ·have h5 := (unhide HT) zA h4
           omega
          ·omega
         replace HKA := hide (And.intro (unhide HKA).1 ((gk3.block zA (lt_of_block (unhide HKA).2) (fun h => h)).trans (unhide HKA).2))
         have HNB : Hid (¬ T1 zB) := fun h => by
          have h1 := (unhide HT1) zB h
          have h2 := lt_of_block (unhide HKB).2
          have h3 := (unhide HKB).1
          rcases h1.1 with h4 | h4
          ·have h5 := (unhide HT) zB h4
           omega
          ·omega
         replace HKB := hide (And.intro (unhide HKB).1 ((gk3.block zB (lt_of_block (unhide HKB).2) (fun h => h)).trans (unhide HKB).2))
       all_goals
        refine wpAnyH_ready (rs := [13]) (by kernel_rfl) (by simp) (AllReadyH.cons rfl (fun K hK => ?_) (AllReadyH.nil))
        obtain ⟨wk4, st4, kk4, gk4⟩ := st_put (unhide HKA).2 (.slice so S.length sc) rv' (fun u hu => by simp at hu; rcases hu with rfl | rfl <;> first | rfl | exact unhide HONE)
        have HST4 := hide st4
        have fk4 := fk3.absorb gk4 (fun i hi => by rw [hi]; exact (unhide HKA).1)
        replace HKA := hide (And.intro (unhide HKA).1 kk4)
        replace HRR := hide ((unhide HRR).frS gk4 (fun k hk => by rw [hk]; exact unhide HNA))
        replace HKB := hide (And.intro (unhide HKB).1 ((gk4.block zB (lt_of_block (unhide HKB).2) (fun e => by have h1 := (unhide HNE); omega)).trans (unhide HKB).2))
        clear st4 kk4
        refine step_stN rfl 36 (.tmp 16) (.tmp 123) rfl _ _ (by simp [Act.eval]) (by simp [Act.eval]) (unhide HST4) ?_
        refine hK.out _ _ ((unhide HS) _ fk4) (fun hHeld => ?_)
        clear hK K
        (try simp only [Act.put])
        refine wpAnyH_ready (rs := [14]) (by kernel_rfl) (by simp) (AllReadyH.cons rfl (fun K hK => ?_) (AllReadyH.nil))
        obtain ⟨wk5, st5, kk5, gk5⟩ := ans_put (unhide HKB).2 (.int .u32 (cl : Nat)) (.int .u32 (nu : Nat)) (.int .u8 (X.2.co : Nat)) (.int .u32 (X.2.rc : Nat)) (.int .u32 (X.2.ve : Nat)) (.slice fo fn fc) (.slice ho hn hc) (fun u hu => by simp at hu; rcases hu with rfl | rfl | rfl | rfl | rfl | rfl | rfl <;> rfl)
        have HST5 := hide st5
        have fk5 := fk4.absorb gk5 (fun i hi => by rw [hi]; exact (unhide HKB).1)
        replace HKB := hide (And.intro (unhide HKB).1 kk5)
        replace HRR := hide ((unhide HRR).frS gk5 (fun k hk => by rw [hk]; exact unhide HNB))
        replace HKA := hide (And.intro (unhide HKA).1 ((gk5.block zA (lt_of_block (unhide HKA).2) (fun e => by have h1 := (unhide HNE); omega)).trans (unhide HKA).2))
        clear st5 kk5
        refine step_stN rfl 45 (.tmp 17) (.tmp 124) rfl _ _ (by simp [Act.eval]) (by simp [Act.eval]) (unhide HST5) ?_
        refine hK.out _ _ ((unhide HS) _ fk5) (fun hHeld => ?_)
        clear hK K
        (try simp only [Act.put])
        refine wpAnyH_done (by kernel_rfl) ?_ _
        refine NoPanic.normal ?_
        go_wp2_with fail
        go_meet
        case rel => exact ⟨zA, zB, rv', L', T1, fo, fn, fc, ho, hn, hc, _, rfl, rfl, fk5, unhide HRR, (fun k hk => ⟨((unhide HT1) k hk).1, (unhide HRR).lt k hk⟩), unhide HSZ, unhide HT2, unhide HKA, unhide HKB⟩
      case rest =>
       obtain ⟨zA, zB, rv', L', T1, fo, fn, fc, ho, hn, hc, sz, rfl, rfl, hfx, hgq, ht1, hsz, ht2, hkA, hkB⟩ := hcut
       obtain ⟨wx, hwx⟩ : ∃ wx, wx = wc := ⟨_, rfl⟩
       subst hwx
       obtain rfl : fn = X.2.F.length := by obtain ⟨_, _, e⟩ := hgq.f.form; exact (Value.slice.inj e).2.1
       obtain rfl : hn = X.2.H.length := by obtain ⟨_, _, e⟩ := hgq.h.form; exact (Value.slice.inj e).2.1
       obtain ⟨rn7, rc7, rfl⟩ := hgq.g.g.r.form
       have h2 := (unhide HI).ref hfx (fun k hk => ⟨(ht1 k hk).1.imp id (fun h => Nat.le_trans hsz h), (ht1 k hk).2⟩) ht2
       have hzT : ∀ k, Ty k → k < wr.heap.size := fun k hk => ((unhide HI).tx k hk).2.1
       have HZB : Hid (¬ Ty zB ∧ ¬ Ty zA ∧ zA ≠ (zx + 1) ∧ zB ≠ (zx + 1)) := ⟨fun e => by have h1 := hzT _ e; have h2 := hkB.1; omega, fun e => by have h1 := hzT _ e; have h2 := hkA.1; omega, by have h1 := lt_of_block (unhide HI).kx; have h2 := hkA.1; omega, by have h1 := lt_of_block (unhide HI).kx; have h2 := hkB.1; omega⟩
       have HS2 : Hid (∀ W, Fr Ty wx W → W.cell? ⟨g1, o1 + j * 10, none⟩ = some (.int .u32 (cl : Nat)) ∧ W.cell? ⟨g1, o1 + j * 10 + 1, none⟩ = some (.int .u32 (nu : Nat)) ∧ W.cell? ⟨g1, o1 + j * 10 + 2, none⟩ = some (.int .u32 (ac : Nat)) ∧ W.cell? ⟨g1, o1 + j * 10 + 3, none⟩ = some (.int .u8 (op : Nat)) ∧ W.cell? ⟨g1, o1 + j * 10 + 4, none⟩ = some (.int .u32 (rc : Nat)) ∧ W.cell? ⟨g1, o1 + j * 10 + 5, none⟩ = some (.int .u32 (ve : Nat)) ∧ W.cell? ⟨g1, o1 + j * 10 + 6, none⟩ = some (.int .u32 (wa' : Nat)) ∧ W.cell? ⟨g1, o1 + j * 10 + 7, none⟩ = some (.int .u32 (ow : Nat)) ∧ W.cell? ⟨g1, o1 + j * 10 + 8, none⟩ = some (.slice xo2 F.length xc2) ∧ W.cell? ⟨g1, o1 + j * 10 + 9, none⟩ = some (.string rs) ∧ W.cell? ⟨zB, 0, none⟩ = some (.int .u32 (cl : Nat)) ∧ W.cell? ⟨zB, 1, none⟩ = some (.int .u32 (nu : Nat)) ∧ W.cell? ⟨zB, 2, none⟩ = some (.int .u8 (X.2.co : Nat)) ∧ W.cell? ⟨zB, 3, none⟩ = some (.int .u32 (X.2.rc : Nat)) ∧ W.cell? ⟨zB, 4, none⟩ = some (.int .u32 (X.2.ve : Nat)) ∧ W.cell? ⟨zB, 5, none⟩ = some (.slice fo X.2.F.length fc) ∧ W.cell? ⟨zB, 6, none⟩ = some (.slice ho X.2.H.length hc)) := fun W hW => by
        obtain ⟨i0, i1, i2, i3, i4, i5, i6, i7, i8, i9⟩ := ((unhide HF).1.frS hfx (fun h => h)).frS hW (unhide HF).2.2.2.2
        have h6 := (hW.block zB (lt_of_block hkB.2) (unhide HZB).1).trans hkB.2
        refine ⟨i0, i1, i2, i3, i4, i5, i6, i7, i8, i9, ?_, ?_, ?_, ?_, ?_, ?_, ?_⟩ <;> simp [World.cell?, h6]
       have HAp : Hid (∀ W, Fr (fun _ => False) wx W → Calls Tryz.prog 10 #[.pointer (some ⟨bc, 0, none⟩), .agg #[.int .u32 (cl : Nat), .int .u32 (nu : Nat), .int .u32 (ac : Nat), .int .u8 (op : Nat), .int .u32 (rc : Nat), .int .u32 (ve : Nat), .int .u32 (wa' : Nat), .int .u32 (ow : Nat), .slice xo2 F.length xc2, .string rs], .int .u32 (j : Nat)] W fun e w' => ∃ fo fn fc ho hn hc, e = .returned (.agg #[.int .u32 (cl : Nat), .int .u32 (nu : Nat), .int .u8 (X.2.co : Nat), .int .u32 (X.2.rc : Nat), .int .u32 (X.2.ve : Nat), .slice fo fn fc, .slice ho hn hc]) ∧ ∃ T', C2 w w' bc T' X.1 (zx + 1) (.slice r7 Ly.length c61) ny sy Ly bs Tx sx zx rx nx sx Lx (.slice so S.length sc) T1 T0 ∧ Fr Ty W w' ∧ OwF w' W.heap.size (.slice fo fn fc) X.2.F ∧ OwS w' W.heap.size (.slice ho hn hc) X.2.H) := fun W hW => (h2.fr hW).apply (unhide HH).2.1 (unhide HQ).2.2.2.1 (unhide HF).2.2.1 (unhide HF).2.1.1 j (unhide HF).2.2.2.1
       have HGQ := hide hgq
       have H2 := hide h2
       have HKAB := hide (And.intro hkA hkB)
       clear hgq ht1 hsz ht2 hkA hkB h2 HA HS HT HI hzT hfx
       go_wp2_with fail
       refine wp_region_noPanic ?_
       refine wp_region_held_drew (S := (fun W => W.cell? ⟨g1, o1 + j * 10, none⟩ = some (.int .u32 (cl : Nat)) ∧ W.cell? ⟨g1, o1 + j * 10 + 1, none⟩ = some (.int .u32 (nu : Nat)) ∧ W.cell? ⟨g1, o1 + j * 10 + 2, none⟩ = some (.int .u32 (ac : Nat)) ∧ W.cell? ⟨g1, o1 + j * 10 + 3, none⟩ = some (.int .u8 (op : Nat)) ∧ W.cell? ⟨g1, o1 + j * 10 + 4, none⟩ = some (.int .u32 (rc : Nat)) ∧ W.cell? ⟨g1, o1 + j * 10 + 5, none⟩ = some (.int .u32 (ve : Nat)) ∧ W.cell? ⟨g1, o1 + j * 10 + 6, none⟩ = some (.int .u32 (wa' : Nat)) ∧ W.cell? ⟨g1, o1 + j * 10 + 7, none⟩ = some (.int .u32 (ow : Nat)) ∧ W.cell? ⟨g1, o1 + j * 10 + 8, none⟩ = some (.slice xo2 F.length xc2) ∧ W.cell? ⟨g1, o1 + j * 10 + 9, none⟩ = some (.string rs) ∧ W.cell? ⟨zB, 0, none⟩ = some (.int .u32 (cl : Nat)) ∧ W.cell? ⟨zB, 1, none⟩ = some (.int .u32 (nu : Nat)) ∧ W.cell? ⟨zB, 2, none⟩ = some (.int .u8 (X.2.co : Nat)) ∧ W.cell? ⟨zB, 3, none⟩ = some (.int .u32 (X.2.rc : Nat)) ∧ W.cell? ⟨zB, 4, none⟩ = some (.int .u32 (X.2.ve : Nat)) ∧ W.cell? ⟨zB, 5, none⟩ = some (.slice fo X.2.F.length fc) ∧ W.cell? ⟨zB, 6, none⟩ = some (.slice ho X.2.H.length hc))) (by kernel_rfl) ((unhide HS2) _ ((Fr.refl (fun _ => False) wx).drew.mono (fun _ _ h => h.elim))) (fun hHeld => ?_)
       refine wtk2 (i := 0) rfl hHeld ?_
       (try simp only [Act.put, nrm])
       refine wtk2 (i := 1) rfl hHeld ?_
       (try simp only [Act.put, nrm])
       refine wtk2 (i := 2) rfl hHeld ?_
       (try simp only [Act.put, nrm])
       refine wtk2 (i := 3) rfl hHeld ?_
       (try simp only [Act.put, nrm])
       refine wtk2 (i := 4) rfl hHeld ?_
       (try simp only [Act.put, nrm])
       refine wtk2 (i := 5) rfl hHeld ?_
       (try simp only [Act.put, nrm])
       refine wtk2 (i := 6) rfl hHeld ?_
       (try simp only [Act.put, nrm])
       refine wtk2 (i := 8) rfl hHeld ?_
       (try simp only [Act.put, nrm])
       refine wpAnyH_ready (rs := [7]) (by kernel_rfl) (by simp) (AllReadyH.cons rfl (fun K hK => ?_) (AllReadyH.nil))
       go_simp
       refine ((unhide HAp) _ (Fr.refl _ _).drew).mono ?_
       rintro e w7 ⟨gfo, gfn, gfc, gho, ghn, ghc, rfl, T2, h7, f7, o7, p7⟩
       obtain rfl : gfn = X.2.F.length := by obtain ⟨_, _, e⟩ := own_formX o7; exact (Value.slice.inj e).2.1
       obtain rfl : ghn = X.2.H.length := by obtain ⟨_, _, e⟩ := own_formX p7; exact (Value.slice.inj e).2.1
       have f7x : Fr Ty wx w7 := ((Fr.refl (fun _ => False) wx).drew.mono (fun _ _ h => h.elim)).trans f7 (fun _ _ h => h)
       have hgq7 := (unhide HGQ).frS f7x (fun k hk => ((unhide H2).tx k hk).2.2.2.1)
       have HSm := hide (sameA_any cl nu X.2.co X.2.rc X.2.ve _ _ _ _ X.2.F X.2.H w7 o7.fds hgq7.f p7.sms hgq7.h (by have := unhide HSt; omega) (by have := unhide HSt; omega))
       have H7 := hide (And.intro h7 (And.intro f7x hgq7.g))
       clear h7 f7 o7 p7 f7x hgq7
       go_simp
       refine hK.out _ _ ((unhide HS2) _ (unhide H7).2.1) (fun hHeld => ?_)
       clear hK K
       (try simp only [Act.put, nrm])
       refine wpAnyH_ready (rs := [9]) (by kernel_rfl) (by simp) (AllReadyH.cons rfl (fun K hK => ?_) (AllReadyH.nil))
       go_simp
       refine (unhide HSm).mono ?_
       rintro e w8 ⟨rfl, f8⟩
       have hk8 : w8.heap[zA]? = some (.cells #[.slice so S.length sc, .slice rn7 L'.length rc7] 36) := (f8.block _ (Nat.lt_of_lt_of_le (lt_of_block (unhide HKAB).1.2) (unhide H7).2.1.size) (fun h => h)).trans (((unhide H7).2.1.block zA (lt_of_block (unhide HKAB).1.2) (unhide HZB).2.1).trans (unhide HKAB).1.2)
       have h8 := (unhide H7).1.fr f8
       have hg8 := (unhide H7).2.2.fr f8
       have F8 := hide (((unhide H7).2.1).trans (f8.mono (fun _ _ h => h.elim)) (fun _ _ h => h) : Fr Ty wx w8)
       obtain ⟨W9, hW9⟩ : ∃ W9, W9 = (w8.setCell ⟨(zx + 1), 0, none⟩ (.slice so S.length sc)).setCell ⟨(zx + 1), 1, none⟩ (.slice rn7 L'.length rc7) := ⟨_, rfl⟩
       have HE : Hid (C2 w W9 bc T2 X.1 (zx + 1) (.slice rn7 L'.length rc7) (ny + 1) X.1 L' bs Tx sx zx rx nx sx Lx (.slice so S.length sc) T1 T0) := by
        have k0 := heap_setCell_same w8 (zx + 1) 0 _ 36 (.slice so S.length sc) h8.kx
        have k1 := heap_setCell_same _ (zx + 1) 1 _ 36 (.slice rn7 L'.length rc7) k0
        simp only [List.setIfInBounds_toArray, List.set_cons_zero, List.set_cons_succ] at k1
        rw [hW9]
        exact h8.put (((Fr.refl (fun k => k = (zx + 1)) w8).setCell (p := ⟨(zx + 1), 0, none⟩) (.inl rfl) _).setCell (p := ⟨(zx + 1), 1, none⟩) (.inl rfl) _) k1 hg8
       have z0 : w8.cell? ⟨(zx + 1), 0, none⟩ = some (.slice so S.length sc) := by simp [World.cell?, h8.kx]
       have z1 : w8.cell? ⟨(zx + 1), 1, none⟩ = some (.slice r7 Ly.length c61) := by simp [World.cell?, h8.kx]
       have y0 : w8.frozen? ⟨(zx + 1), 0, none⟩ = false := by simp [World.frozen?, h8.kx]
       have y1 : w8.frozen? ⟨(zx + 1), 1, none⟩ = false := by simp [World.frozen?, h8.kx]
       have a0 : w8.cell? ⟨zA, 0, none⟩ = some (.slice so S.length sc) := by simp [World.cell?, hk8]
       have a1 : w8.cell? ⟨zA, 1, none⟩ = some (.slice rn7 L'.length rc7) := by simp [World.cell?, hk8]
       have hzz : ¬ zA = (zx + 1) := (unhide HZB).2.2.1
       have hzz2 : ¬ (zx + 1) = zA := fun e => hzz e.symm
       clear f8 hk8 h8 hg8
       go_simp
       refine hK.out _ _ ((unhide HS2) _ (unhide F8)) (fun hHeld => ?_)
       clear hK K
       (try simp only [Act.put, nrm])
       refine wtk2 (i := 10) rfl hHeld ?_
       (try simp only [Act.put, nrm])
       refine wpAnyH_done (by kernel_rfl) ?_ _
       refine NoPanic.normal ?_
       have hlt1 := unhide hltx
       clear hHeld HS2 HAp HGQ H2 HKAB HZB H7 HSm F8 HF HSt
       go_wp2_with fail
       rw [← hW9]
       go_roundw
       case rel => exact ⟨j + 1, by omega, by go_num, _, _, _, _, _, _, _, _, _, _, _, by omega, by omega, (unhide HE).swap⟩
       case measure => simp [intOf]; omega
     ·have hkl2 : ¬ (j : Int) < (I.length : Int) := by omega
      have HE := hide hi.f
      clear hi hj hlt hlt2 hnx hny
      go_wp2_with fail
      go_ret
      exact ⟨rfl, unhide HE⟩
end Go.Proofs.YtiknjghcjaaenaaGreatDoor
