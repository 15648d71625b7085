import Derived.Test.YtedmhpplhbaglaaNtl
namespace Go.Proofs.Ytedmhpplhbaglaa
open Go.RowKit Go.ChangeShapes Go.WideShapes Go.Maps

set_option maxHeartbeats 4000000 in
set_option maxRecDepth 100000 in
/-- NetKept. -/
theorem nkept_any (data : List Nat) (xo : Option Addr) (xc : Nat) (w : World) (hx : Src w (.slice xo data.length xc) data) (hl : data.length ≤ 1048576) :
    Calls Try.prog 6 #[.slice xo data.length xc] w fun e w' => e = .returned (.bool true) ∧ Fr (fun _ => False) w w' := by
  have HX := hide (And.intro hx trivial)
  clear hx
  go_enter Try.func6, Try.ntmps6
  go_wp2_with fail
  refine (awake14 w).mono ?_
  rintro e w1 ⟨rfl, hf1⟩
  have H1 := hide hf1
  clear hf1
  go_wp2_with fail
  refine (new_any 2 w1 (by decide) (by decide)).mono ?_
  rintro e w2 ⟨d, m, rfl, hN2, hf2, hd2, hm2⟩
  have H2 := hide (And.intro hN2 (And.intro hf2 (And.intro hd2 hm2)))
  clear hN2 hf2 hd2 hm2
  go_wp2_with fail
  refine (new_any 2 w2 (by decide) (by decide)).mono ?_
  rintro e w3 ⟨d', m', rfl, hN3, hf3, hd3, hm3⟩
  have HT3 : Hid (KW w w3 d m [] (fun _ => (none, 0)) (fun _ => False) d' m') := by
    obtain ⟨hN2, hf2, hd2, hm2⟩ := unhide H2
    have h1 := (unhide H1).size
    have h2 := hf2.size
    have h3 := hN2.lt
    exact ⟨hN2.fr0 hf3, hN3, ((unhide H1).trans hf2 (fun _ _ h => h)).trans hf3 (fun _ _ h => h), ⟨by omega, by omega, by omega, by omega⟩, ⟨by omega, by omega, by omega, by omega⟩, fun g hg => hg.elim⟩
  clear hN3 hf3 hd3 hm3 H2 H1
  obtain ⟨lo, lc, w4, hr4, hown4, hf4⟩ := app_nil w3 (.slice xo data.length xc) data ((unhide HX).1.fr (unhide HT3).f (fun _ _ _ _ _ h => h)) (by omega)
  have HR4 := hide hr4
  have HT4 := hide ((unhide HT3).fr0 hf4)
  have H4 := hide (And.intro hown4 (fun k (hk : lo.map (·.block) = some k) => And.intro (own_block hown4 k hk).2 ((unhide HT3).new k (own_block hown4 k hk).1)))
  clear hr4 hown4 hf4 HT3
  go_wp2_with (at_builtin; refine wpList_app rfl _ _ 29 29 rfl _ _ _ rfl rfl (unhide HR4) ?_)
  clear HR4
  refine (send_ok d m 2 0 1 [] _ _ (.slice lo data.length lc) data w4 (unhide HT4).a rfl rfl (own_src (unhide H4).1) (fun g o n c e => by cases e; exact ((unhide H4).2 g rfl).2.2.1) hl (by decide)).mono ?_
  rintro e w5 ⟨rfl, sv5, T5, hN5, hf5, hT5⟩
  have HT5 : Hid (KW w w5 d m (kq1 data) sv5 T5 d' m') := hide ((unhide HT4).step hN5 hf5 hT5)
  have hown5 : w5.ownsRow w3.heap.size 5 1 (.slice lo data.length lc) data.length (cellsOf data) := ownsRow_of_block (unhide H4).1 (fun g hg => hf5.block g ((unhide H4).1.lt g hg).2 (fun e => by have := ((unhide H4).2 g (ownb hg)).2; omega))
  have hb5 : ∀ k, lo.map (·.block) = some k → w.heap.size ≤ k ∧ k ≠ d ∧ k ≠ m ∧ k ≠ d' ∧ k ≠ m' ∧ ¬ T5 k := fun k hk => by
    obtain ⟨b1, b2, b3, b4, b5, b6, _⟩ := (unhide H4).2 k hk
    exact ⟨b2, b3, b4, b5, b6, fun h => (hT5 k h).elim (fun h => h) (fun h => by omega)⟩
  have H5 := hide (And.intro hown5 hb5)
  clear hN5 hf5 hT5 hown5 hb5 H4 HT4
  go_wp2_with fail
  refine (copy_ok d m 0 2 (kq1 data) ⟨0, 1, data, 0, false⟩ sv5 T5 w5 (unhide HT5).a rfl rfl (show 1 ≤ 1048576 by decide)).mono ?_
  rintro e w6 ⟨rfl, sv6, hN6, hf6⟩
  have HT6 : Hid (KW w w6 d m (kq2 data) sv6 T5 d' m') := hide ((unhide HT5).step hN6 hf6 (fun g hg => .inl hg))
  have hown6 : w6.ownsRow w3.heap.size 5 1 (.slice lo data.length lc) data.length (cellsOf data) := ownsRow_of_block (unhide H5).1 (fun g hg => hf6.block g ((unhide H5).1.lt g hg).2 (fun e => by have := (unhide H5).2 g (ownb hg); omega))
  have H6 := hide (And.intro hown6 (unhide H5).2)
  clear hN6 hf6 hown6 H5 HT5
  go_wp2_with fail
  go_loopw [8] (fun i wr => ∃ k : Nat, k ≤ data.length ∧ i = .int .i64 k ∧ Inc w6 wr lo data.length) (fun i _ => data.length - (intOf i).toNat)
  case atStart => exact ⟨0, Nat.zero_le _, rfl, inc_start (l := data) (unhide H6).1⟩
  case round =>
    obtain ⟨k, hk, rfl, hinc⟩ := hrel
    have HI := hide hinc
    clear hinc
    by_cases hlt : k < data.length
    · obtain ⟨g, c, rfl, hc, hz⟩ := (unhide HI).at_ k hlt
      go_wp2
      go_roundw
      case rel => exact ⟨k + 1, by omega, by go_num, (unhide HI).step k hlt _⟩
      case measure => simp [intOf]; omega
    · rename World => w7
      have HT7 := hide ((unhide HT6).fr (unhide HI).fr (unhide H6).2)
      clear HT6 HI H6
      go_wp2_with fail
      refine (waiting_any d m 2 (kq2 data) sv6 T5 w7 (unhide HT7).a (show 2 ≤ 1048576 by decide)).mono ?_
      rintro e w8 ⟨v, L, rfl, hO, hL, hf8⟩
      obtain ⟨ao, ac, rfl⟩ := own_formX hO.row
      obtain ⟨g, x0, x1, hLl, rfl, hW8⟩ := w2_of hO hL
      rw [hLl]
      have HT8 := hide ((unhide HT7).fr0 hf8)
      have HW8 := hide (And.intro hW8 ((unhide HX).1.fr (unhide HT8).f (fun _ _ _ _ _ h => h)))
      obtain ⟨k0, k3, k7, kz, _⟩ := hW8.cells
      have hcap := hW8.cap
      have hg8 := hf8.size
      clear hO hL hLl hW8 hf8 kz
      go_wp2_with fail
      refine (same_fr _ _ data w8 (own_src (unhide HW8).1.cells.2.2.2.2.1) (unhide HW8).2 hl).mono ?_
      rintro e w9 ⟨rfl, hf9⟩
      have hc0 : w9.cell? ⟨g, 0, none⟩ = _ := (hf9.cell (p := ⟨g, 0, none⟩) (lt_of_cell k0) (fun h => h)).trans k0
      have hc3 : w9.cell? ⟨g, 3, none⟩ = _ := (hf9.cell (p := ⟨g, 3, none⟩) (lt_of_cell k3) (fun h => h)).trans k3
      have hc7 : w9.cell? ⟨g, 7, none⟩ = _ := (hf9.cell (p := ⟨g, 7, none⟩) (lt_of_cell k7) (fun h => h)).trans k7
      have HW9 := hide (And.intro ((unhide HW8).1.fr hf9 (fun _ _ h => h)) (And.intro ((unhide HW8).2.fr hf9 (fun _ _ _ _ _ h => h)) ((unhide HT8).fr0 hf9)))
      have hg9 := Nat.le_trans hg8 hf9.size
      clear k0 k3 k7 hf9 HW8 HT8 hg8
      go_wp2_with fail
      refine (same_fr _ _ data w9 (own_src (unhide HW9).1.cells.2.2.2.2.2.1) (unhide HW9).2.1 hl).mono ?_
      rintro e w10 ⟨rfl, hf10⟩
      have k0 : w10.cell? ⟨g, 0, none⟩ = _ := (hf10.cell (p := ⟨g, 0, none⟩) (lt_of_cell hc0) (fun h => h)).trans hc0
      have k3 : w10.cell? ⟨g, 3, none⟩ = _ := (hf10.cell (p := ⟨g, 3, none⟩) (lt_of_cell hc3) (fun h => h)).trans hc3
      have k7 : w10.cell? ⟨g, 7, none⟩ = _ := (hf10.cell (p := ⟨g, 7, none⟩) (lt_of_cell hc7) (fun h => h)).trans hc7
      have HW10 := hide (And.intro ((unhide HW9).1.fr hf10 (fun _ _ h => h)) ((unhide HW9).2.2.fr0 hf10))
      have hg10 := Nat.le_trans hg9 hf10.size
      clear hc0 hc3 hc7 hf10 HW9 hg9
      go_wp2_with fail
      have HA : Hid (w10.ownsRow w7.heap.size 5 1 (.slice x0.a data.length x0.c) data.length (cellsOf data) ∧ ∀ k, x0.a.map (·.block) = some k → w7.heap.size ≤ k ∧ k ≠ g ∧ (w.heap.size ≤ k ∧ k ≠ d ∧ k ≠ m ∧ k ≠ d' ∧ k ≠ m' ∧ ¬ T5 k)) := by
        have hc := (unhide HW10).1.cells
        exact ⟨hc.2.2.2.2.1, fun k hk => ⟨(own_block hc.2.2.2.2.1 k hk).1, (hc.2.2.2.2.2.2.1 k hk).2, (unhide HT7).new k (own_block hc.2.2.2.2.1 k hk).1⟩⟩
      have hc := (unhide HW10).1.cells
      have HR : Hid (R7 w w7 w10 d m (kq2 data) sv6 T5 d' m' g x1 data 1) := ⟨(unhide HW10).2, hc.2.2.2.2.2.1, k0, k7, hc.2.2.2.1, hc.2.2.2.2.2.2.2.2.1, hc.2.2.2.2.2.2.2.1⟩
      have HS : Hid (∀ k, x0.a.map (·.block) = some k → (k ≠ g ∧ x1.a.map (·.block) ≠ some k) ∧ w.heap.size ≤ k ∧ k ≠ d ∧ k ≠ m ∧ k ≠ d' ∧ k ≠ m' ∧ ¬ T5 k) := fun k hk => ⟨⟨(hc.2.2.2.2.2.2.1 k hk).2, (hc.2.2.2.2.2.2.1 k hk).1⟩, ((unhide HA).2 k hk).2.2⟩
      have HN : Hid (∀ k, w10.heap.size ≤ k → (k ≠ g ∧ x1.a.map (·.block) ≠ some k)) := fun k hk => ⟨by have := hc.2.2.2.2.2.2.2.2.2; omega, fun e => by have := (own_block hc.2.2.2.2.2.1 k e).2; omega⟩
      clear hc k0 k3 k7 HW10 hcap
      go_loopw [11] (fun i wr => ∃ k : Nat, k ≤ data.length ∧ i = .int .i64 k ∧ OwnI w10 wr w7.heap.size x0.a x0.c data.length) (fun i _ => data.length - (intOf i).toNat)
      case atStart => exact ⟨0, Nat.zero_le _, rfl, Fr.refl _ _, _, (unhide HA).1, cells8 data rfl⟩
      case round =>
        obtain ⟨k2, hk2, rfl, hinc⟩ := hrel
        have HI := hide hinc
        clear hinc
        by_cases hlt2 : k2 < data.length
        · generalize x0.a = xa at *
          obtain ⟨gx, cx, rfl, hcx, hzx⟩ := (unhide HI).at_ k2 hlt2
          go_wp2
          go_roundw
          case rel => exact ⟨k2 + 1, by omega, by go_num, (unhide HI).step k2 _⟩
          case measure => simp [intOf]; omega
        · rename World => w12
          have HR12 := hide ((unhide HR).fr (unhide HI).1 (unhide HS))
          have HI12 := hide (And.intro (unhide HI).2 (And.intro (unhide HI).1.size hg10))
          clear HR HI
          go_wp2_with fail
          go_loopw [10, 12] (fun xv iv wr => ∃ (k : Nat) (ao' : Option Addr) (c' : Nat) (xs : List Value), k ≤ 5 ∧ iv = .int .i64 k ∧ xv = .slice ao' (data.length + k) c' ∧ (∀ j, (Value.slice ao' (data.length + k) c').ownBlock = some j → (Value.slice x0.a data.length x0.c).ownBlock = some j ∨ w12.heap.size ≤ j) ∧ Fr (fun j => (Value.slice x0.a data.length x0.c).ownBlock = some j) w12 wr ∧ wr.ownsRow w7.heap.size 5 1 (.slice ao' (data.length + k) c') (data.length + k) xs) (fun _ iv _ => 5 - (intOf iv).toNat)
          case atStart =>
            obtain ⟨xs, hxs, _⟩ := (unhide HI12).1
            exact ⟨0, x0.a, x0.c, xs, by decide, rfl, rfl, fun g hg => .inl hg, Fr.refl _ _, hxs⟩
          case round =>
            obtain ⟨k5, a5, c5, xs5, hk5, rfl, rfl, hb5, hf5, hx5⟩ := hrel
            have H5 := hide (And.intro hb5 (And.intro hf5 hx5))
            clear hb5 hf5 hx5
            by_cases hlt5 : k5 < 5
            · rename World => wq
              obtain ⟨hb5, hf5, hx5⟩ := unhide H5
              obtain ⟨a6, c6, w6', hr6, hx6, hf6, hb6⟩ := app7 wq w7.heap.size (data.length + k5) c5 a5 xs5 hx5 (by omega) (by have := (unhide HI12).2; have := hf5.size; omega)
              have hf6' : Fr (fun j => (Value.slice x0.a data.length x0.c).ownBlock = some j) w12 w6' := hf5.trans hf6 (fun i hi e => (hb5 i e).elim id (fun h => by omega))
              have hb6' : ∀ j, (Value.slice a6 (data.length + k5 + 1) c6).ownBlock = some j → (Value.slice x0.a data.length x0.c).ownBlock = some j ∨ w12.heap.size ≤ j := fun j hj => (hb6 j hj).elim (hb5 j) (fun h => .inr (Nat.le_trans hf5.size h))
              have HR6 := hide hr6
              have H6 := hide (And.intro hx6 (And.intro hf6' hb6'))
              clear hr6 hx6 hf6 hb6 hf6' hb6' hb5 hf5 hx5 H5
              go_wp2_with (at_builtin; refine wpList_app rfl _ _ 29 29 rfl _ _ _ rfl rfl (unhide HR6) ?_)
              go_roundw
              case rel =>
                obtain ⟨xs6, hx6⟩ := (unhide H6).1
                exact ⟨k5 + 1, a6, c6, xs6, by omega, by go_num, rfl, (unhide H6).2.2, (unhide H6).2.1, hx6⟩
              case measure => simp [intOf]; omega
            · rename World => w13
              obtain rfl : k5 = 5 := by omega
              have hR13 := (unhide HR12).fr (unhide H5).2.1 (fun k hk => (unhide HS) k (ownb hk))
              have c0 := hR13.c0
              have z0 := hR13.z0
              have hR14 : R7 w w7 (w13.setCell ⟨g, 0, none⟩ (.int .i64 9)) d m (kq2 data) sv6 T5 d' m' g x1 data 9 := by
                have hfs : Fr (fun k => k = g) w13 (w13.setCell ⟨g, 0, none⟩ (.int .i64 9)) := (Fr.refl (fun k => k = g) w13).setCell (p := ⟨g, 0, none⟩) (.inl rfl) _
                refine ⟨hR13.k.fr hfs (fun k hk => by cases hk; exact (unhide HT7).new g hR13.g7), ownsRow_of_block hR13.r (fun j hj => hfs.block j (hR13.r.lt j hj).2 (fun e => hR13.gx j (ownb hj) e)), World.cell?_setCell_same _ _ _ hR13.c0, ?_, by rw [World.frozen?_setCell]; exact hR13.z0, hR13.g7, hR13.gx⟩
                rw [World.cell?_setCell_other _ _ _ _ (by intro h; injection h with _ h2 _; omega)]
                exact hR13.c7
              have HR14 := hide hR14
              clear hR13 hR14 HR12 H5 HI12
              go_wp2_with fail
              refine (waiting_any d m 2 (kq2 data) sv6 T5 _ (unhide HR14).k.a (show 2 ≤ 1048576 by decide)).mono ?_
              rintro e w15 ⟨v, L, rfl, hO, hL, hf15⟩
              obtain ⟨bo, bc, rfl⟩ := own_formX hO.row
              obtain ⟨h, y0, y1, hLl, rfl, hW15⟩ := w2_of hO hL
              rw [hLl]
              obtain ⟨q0, q3, q7, _⟩ := hW15.cells
              have hcap := hW15.cap
              have HR15 := hide (And.intro ((unhide HR14).fr0 hf15) hW15)
              have k7 := (unhide HR15).1.c7
              have HX15 := hide ((unhide HX).1.fr (unhide HR15).1.k.f (fun _ _ _ _ _ h => h))
              clear hO hL hLl hW15 hf15 HR14 c0 z0
              go_wp2_with fail
              refine (same_fr _ _ data w15 (own_src (unhide HR15).1.r) (unhide HX15) hl).mono ?_
              rintro e w16 ⟨rfl, hf16⟩
              have p0 : w16.cell? ⟨h, 0, none⟩ = _ := (hf16.cell (p := ⟨h, 0, none⟩) (lt_of_cell q0) (fun h => h)).trans q0
              have p3 : w16.cell? ⟨h, 3, none⟩ = _ := (hf16.cell (p := ⟨h, 3, none⟩) (lt_of_cell q3) (fun h => h)).trans q3
              have p7 : w16.cell? ⟨h, 7, none⟩ = _ := (hf16.cell (p := ⟨h, 7, none⟩) (lt_of_cell q7) (fun h => h)).trans q7
              have HR16 := hide (And.intro ((unhide HR15).1.k.fr0 hf16) ((unhide HR15).2.fr hf16 (fun _ _ h => h)))
              have HX16 := hide ((unhide HX15).fr hf16 (fun _ _ _ _ _ h => h))
              clear hf16 q0 q3 q7 HR15 HX15 k7
              go_wp2_with fail
              refine (same_fr _ _ data w16 (own_src (unhide HR16).2.cells.2.2.2.2.1) (unhide HX16) hl).mono ?_
              rintro e w17 ⟨rfl, hf17⟩
              have q7 : w17.cell? ⟨h, 7, none⟩ = _ := (hf17.cell (p := ⟨h, 7, none⟩) (lt_of_cell p7) (fun h => h)).trans p7
              have HR17 := hide (And.intro ((unhide HR16).1.fr0 hf17) ((unhide HR16).2.fr hf17 (fun _ _ h => h)))
              have HX17 := hide ((unhide HX16).fr hf17 (fun _ _ _ _ _ h => h))
              clear hf17 p0 p3 p7 HR16 HX16
              go_wp2_with fail
              refine (same_fr _ _ data w17 (own_src (unhide HR17).2.cells.2.2.2.2.2.1) (unhide HX17) hl).mono ?_
              rintro e w18 ⟨rfl, hf18⟩
              have HK18 := hide ((unhide HR17).1.fr0 hf18)
              clear hf18 q7 HR17 HX17
              go_wp2_with fail
              refine (deliver_ok d m 0 2 (kq2 data) ⟨0, 1, data, 0, false⟩ sv6 T5 w18 (unhide HK18).a rfl rfl (show 2 ≤ 1048576 by decide)).mono ?_
              rintro e w19 ⟨po, pc, rfl, hv19, hN19, hf19⟩
              have HK19 : Hid (KW w w19 d m (kq3 data) sv6 T5 d' m') := hide ((unhide HK18).step hN19 hf19 (fun g hg => .inl hg))
              have hp19 : ∀ k, po.map (·.block) = some k → w.heap.size ≤ k ∧ k ≠ d ∧ k ≠ m ∧ k ≠ d' ∧ k ≠ m' ∧ ¬ T5 k := fun k hk => (unhide HK18).new k (own_block (n := data.length) (c := pc) hv19 k hk).1
              have hv19' : w19.ownsRow w18.heap.size 5 1 (.slice po data.length pc) data.length (cellsOf data) := hv19
              have H19 := hide (And.intro hv19' hp19)
              clear hv19 hv19' hp19 hN19 hf19 HK18
              go_wp2_with fail
              obtain ⟨WB, hWB⟩ : ∃ WB, WB = w19.alloc (.cells #[.int .i64 1, .int .i64 0, .int .i64 1, .slice po data.length pc] 34) := ⟨_, rfl⟩
              have hfB : Fr (fun _ => False) w19 WB := by rw [hWB]; exact box1 _ _
              have hcB : WB.cell? ⟨w19.heap.size, 3, none⟩ = some (.slice po data.length pc) := by rw [hWB]; exact World.cell?_alloc_at _ _ _ _ rfl
              have hvB : WB.ownsRow w18.heap.size 5 1 (.slice po data.length pc) data.length (cellsOf data) := ownsRow_of_block (unhide H19).1 (fun g hg => hfB.block g ((unhide H19).1.lt g hg).2 (fun h => h))
              have hneB : ∀ k, po.map (·.block) = some k → k ≠ w19.heap.size := fun k hk => by have := (own_block (unhide H19).1 k hk).2; omega
              have HB := hide (And.intro hfB (And.intro hcB (And.intro hvB hneB)))
              rw [← hWB]
              clear hfB hcB hvB hneB hWB
              go_loopw [15] (fun i wr => ∃ k : Nat, k ≤ data.length ∧ i = .int .i64 k ∧ OwnI WB wr w18.heap.size po pc data.length) (fun i _ => data.length - (intOf i).toNat)
              case atStart => exact ⟨0, Nat.zero_le _, rfl, Fr.refl _ _, _, (unhide HB).2.2.1, cells8 data rfl⟩
              case round =>
                obtain ⟨k9, hk9, rfl, hinc⟩ := hrel
                have HI := hide hinc
                clear hinc
                rename World => wr
                have hcw : wr.cell? ⟨w19.heap.size, 3, none⟩ = some (.slice po data.length pc) := ((unhide HI).1.cell (p := ⟨w19.heap.size, 3, none⟩) (lt_of_cell (unhide HB).2.1) (fun e => (unhide HB).2.2.2 _ e rfl)).trans (unhide HB).2.1
                by_cases hlt9 : k9 < data.length
                · obtain ⟨gx, cx, rfl, hcx, hzx⟩ := (unhide HI).at_ k9 hlt9
                  go_wp2_with fail
                  go_region
                  all_goals
                    go_wp2_with fail
                    go_roundw
                    case rel => exact ⟨k9 + 1, by omega, by go_num, by first | exact (unhide HI).drew.step k9 _ | exact (unhide HI).step k9 _⟩
                    case measure => simp [intOf]; omega
                · have HK20 := hide (((unhide HK19).fr0 (unhide HB).1).fr (unhide HI).1 (unhide H19).2)
                  clear HI HB HK19 H19
                  go_wp2_with fail
                  refine (deliver_ok d m 1 2 (kq3 data) ⟨0, 1, data, 0, true⟩ sv6 T5 wr (unhide HK20).a rfl rfl (show 2 ≤ 1048576 by decide)).mono ?_
                  rintro e w21 ⟨qo, qc, rfl, hv21, hN21, hf21⟩
                  have hs21 : Src w21 (.slice qo data.length qc) data := own_src (l := data) hv21
                  have hK21 := (unhide HK20).step hN21 hf21 (fun g hg => .inl hg)
                  have HK21 := hide (And.intro hK21 (And.intro hs21 ((unhide HX).1.fr hK21.f (fun _ _ _ _ _ h => h))))
                  clear hv21 hs21 hN21 hf21 hK21 HK20
                  go_wp2_with fail
                  refine (same_fr _ _ data _ ((unhide HK21).2.1.fr (box1 _ _) (fun _ _ _ _ _ h => h)) ((unhide HK21).2.2.fr (box1 _ _) (fun _ _ _ _ _ h => h)) hl).mono ?_
                  rintro e w22 ⟨rfl, hf22⟩
                  have HK22 := hide (((unhide HK21).1.fr0 (box1 _ _)).fr0 hf22)
                  clear hf22 HK21
                  go_wp2_with fail
                  refine (waiting_any d' m' 2 [] _ _ w22 (unhide HK22).b (show 0 ≤ 1048576 by decide)).mono ?_
                  rintro e w23 ⟨v, L, rfl, hO, hL, hf23⟩
                  obtain rfl : L = [] := List.map_eq_nil_iff.1 hL
                  obtain ⟨zo, zc, rfl⟩ := own_formX hO.row
                  have HF := hide ((unhide HK22).f.trans hf23 (fun _ _ h => h))
                  clear hO hL hf23 HK22
                  simp only [List.length_nil]
                  go_wp2_with fail
                  go_ret
                  exact ⟨rfl, unhide HF⟩
end Go.Proofs.Ytedmhpplhbaglaa
