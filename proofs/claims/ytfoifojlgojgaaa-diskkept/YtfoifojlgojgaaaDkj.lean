import Derived.Test.YtfoifojlgojgaaaDki
namespace Go.Proofs.Ytfoifojlgojgaaa
open Go.RowKit Go.ChangeShapes Go.WideShapes Go.Maps Go.Sort

/-- Two disks, apart, laid since w. -/
structure TD (w W : World) (d m : Nat) (s : DM) (q : DW) (O : Nat → Prop) (d' m' : Nat) (s' : DM) (q' : DW) (O' : Nat → Prop) : Prop where
  a : DkAt W d m s q O
  b : DkAt W d' m' s' q' O'
  f : Fr (fun _ => False) w W
  ap : ∀ k, O k → ¬ O' k
  n : ∀ k, O k → w.heap.size ≤ k
  n' : ∀ k, O' k → w.heap.size ≤ k
theorem TD.fr {w W W' : World} {d m d' m' : Nat} {s s' : DM} {q q' : DW} {O O' S : Nat → Prop} (h : TD w W d m s q O d' m' s' q' O') (hf : Fr S W W') (hS : ∀ k, S k → w.heap.size ≤ k ∧ ¬ O k ∧ ¬ O' k) : TD w W' d m s q O d' m' s' q' O' :=
  ⟨h.a.fr hf (fun k hk hs => (hS k hs).2.1 hk), h.b.fr hf (fun k hk hs => (hS k hs).2.2 hk), h.f.absorb hf (fun k hs => (hS k hs).1), h.ap, h.n, h.n'⟩
theorem TD.stepA {w W W' : World} {d m d' m' : Nat} {s s' s2 : DM} {q q' q2 : DW} {O O' O2 : Nat → Prop} (h : TD w W d m s q O d' m' s' q' O') (hD : DkAt W' d m s2 q2 O2) (hf : Fr O W W') (hO : ∀ k, O2 k → O k ∨ W.heap.size ≤ k) : TD w W' d m s2 q2 O2 d' m' s' q' O' :=
  ⟨hD, h.b.fr hf (fun k hk hs => h.ap k hs hk), h.f.absorb hf h.n, fun k hk hk' => (hO k hk).elim (fun h1 => h.ap k h1 hk') (fun h1 => by have := h.b.lt k hk'; omega), fun k hk => (hO k hk).elim (h.n k) (Nat.le_trans h.f.size), h.n'⟩
theorem TD.stepB {w W W' : World} {d m d' m' : Nat} {s s' s2 : DM} {q q' q2 : DW} {O O' O2 : Nat → Prop} (h : TD w W d m s q O d' m' s' q' O') (hD : DkAt W' d' m' s2 q2 O2) (hf : Fr O' W W') (hO : ∀ k, O2 k → O' k ∨ W.heap.size ≤ k) : TD w W' d m s q O d' m' s2 q2 O2 :=
  ⟨h.a.fr hf (fun k hk hs => h.ap k hk hs), hD, h.f.absorb hf h.n', fun k hk hk' => (hO k hk').elim (fun h1 => h.ap k hk h1) (fun h1 => by have := h.a.lt k hk; omega), h.n, fun k hk => (hO k hk).elim (h.n' k) (Nat.le_trans h.f.size)⟩
/-- x = append(x, 9) onto a row of one's own. -/
theorem app9 (w : World) (base n c : Nat) (ao : Option Addr) (xs : List Value) (hx : w.ownsRow base 5 1 (.slice ao n c) n xs) (hn : n ≤ 100000000) (hb : base ≤ w.heap.size) :
    ∃ ao' c' w', (Builtin.append_ #[28, 28] 28 #[.slice ao n c, .slice (some ⟨w.heap.size, 0, none⟩) 1 1]).run Try.prog (w.alloc (.cells #[.int .u8 9] 5)) = .ok (.slice ao' (n + 1) c') w' ∧ (∃ xs', w'.ownsRow base 5 1 (.slice ao' (n + 1) c') (n + 1) xs') ∧ Fr (fun k => (Value.slice ao n c).ownBlock = some k) w w' ∧ ∀ g, (Value.slice ao' (n + 1) c').ownBlock = some g → (Value.slice ao n c).ownBlock = some g ∨ w.heap.size ≤ g := by
  have hx1 : (w.alloc (.cells #[.int .u8 9] 5)).ownsRow base 5 1 (.slice ao n c) n xs := ownsRow_of_block hx (fun k hk => Below.heap_alloc _ _ _ (hx.lt k hk).2)
  obtain ⟨ao', c', w', hr, hown, hg, hat⟩ := run_app_sl _ 28 base n _ _ xs [9] hx1 (lit_srcW w [9] #[.int .u8 9] 1 rfl) (by simp; omega) (by simp; omega)
  refine ⟨ao', c', w', hr, ⟨_, hown⟩, ((box1 w _).mono (fun _ _ h => h.elim)).grown hg (fun k hk => .inl hk), fun g hg2 => ?_⟩
  rcases hat with e | e
  · rw [show (Value.slice ao' (n + 1) c').ownBlock = (Value.slice ao n c).ownBlock from e] at hg2; exact .inl hg2
  · rw [show (Value.slice ao' (n + 1) c').ownBlock = some (w.alloc (.cells #[.int .u8 9] 5)).heap.size from e] at hg2
    cases hg2
    exact .inr (by simp)
theorem ownb {ao : Option Addr} {n c k : Nat} (h : (Value.slice ao n c).ownBlock = some k) : ao.map (·.block) = some k := by
  cases ao with
  | none => cases h
  | some a => simpa [Value.ownBlock] using h
/-- A row of bytes of one's own, whatever it holds. -/
def OwnI (w0 w : World) (base : Nat) (ao : Option Addr) (c n : Nat) : Prop := Fr (fun k => ao.map (·.block) = some k) w0 w ∧ ∃ xs, w.ownsRow base 5 1 (.slice ao n c) n xs ∧ ∀ j, j < n → ∃ z, xs[j]? = some (.int .u8 z)
theorem OwnI.at_ {w0 w : World} {base c n : Nat} {ao : Option Addr} (h : OwnI w0 w base ao c n) (j : Nat) (hj : j < n) : ∃ g z, ao = some ⟨g, 0, none⟩ ∧ w.cell? ⟨g, j, none⟩ = some (.int .u8 z) ∧ w.frozen? ⟨g, j, none⟩ = false := by
  obtain ⟨_, xs, hx, hz⟩ := h
  obtain ⟨z, e⟩ := hz j hj
  rcases hx.2 with ⟨_, e0⟩ | ⟨g', c', cur, e1, _, e3, _⟩
  · omega
  · simp only [Value.slice.injEq] at e1
    obtain ⟨rfl, -, rfl⟩ := e1
    exact ⟨g', z, rfl, (hx.cellAt j (by omega)).trans e, by simp [World.frozen?, e3]⟩
theorem OwnI.step {w0 w : World} {base g c n : Nat} (h : OwnI w0 w base (some ⟨g, 0, none⟩) c n) (j : Nat) (z : Int) : OwnI w0 (w.setCell ⟨g, j, none⟩ (.int .u8 z)) base (some ⟨g, 0, none⟩) c n := by
  obtain ⟨hf, xs, hx, hz⟩ := h
  have hl : xs.length = n := by simpa using hx.1
  refine ⟨hf.setCell (p := ⟨g, j, none⟩) (.inl rfl) _, xs.set j (.int .u8 z), (hx.stored j _).1, fun i hi => ?_⟩
  by_cases hij : j = i
  · subst hij
    exact ⟨z, by simp [hl, hi]⟩
  · obtain ⟨z', e⟩ := hz i hi
    exact ⟨z', by rw [List.getElem?_set_ne hij]; exact e⟩
theorem one_keys (L fb : Nat) (x : List UInt8) (l : List Nat) (ss : List (List UInt8)) (h : ss.Perm (strKeys (DM.one L x fb l).D)) : ss = [x] := by
  have e : strKeys (DM.one L x fb l).D = [x] := rfl
  rw [e] at h
  exact List.perm_singleton.1 h
/-- Names of a disk's only file. -/
theorem names_one (d m L fb : Nat) (l : List Nat) (q : DW) (O : Nat → Prop) (w : World) (h : DkAt w d m (DM.one L (nm sA) fb l) q O) :
    Calls Try.prog 26 #[.pointer (some ⟨d, 0, none⟩)] w fun e w' => ∃ g c, e = .returned (.slice (some ⟨g, 0, none⟩) 1 c) ∧ w.heap.size ≤ g ∧ g < w'.heap.size ∧ w'.cell? ⟨g, 0, none⟩ = some (.string sA) ∧ w'.frozen? ⟨g, 0, none⟩ = false ∧ 1 ≤ c ∧ Fr (fun _ => False) w w' := by
  refine (names_any d m _ q O w h (show (1 : Nat) ≤ 256 by decide)).mono ?_
  rintro e w' ⟨v, ss, rfl, hp, hown, hf⟩
  obtain rfl := one_keys _ _ _ _ _ hp
  rw [List.mergeSort_singleton] at hown
  rcases hown.2 with ⟨_, e0⟩ | ⟨g, c, cur, rfl, hg, hb, hc, _⟩
  · simp at e0
  · refine ⟨g, c, rfl, hg, lt_of_block hb, (hown.cellAt 0 (by decide)).trans rfl, by simp [World.frozen?, hb], hc, hf⟩
/-- Read of all bytes of a disk's only file. -/
theorem read_one (d m L fb : Nat) (l : List Nat) (q : DW) (O : Nat → Prop) (w : World) (h : DkAt w d m (DM.one L (nm sA) fb l) q O) (hl : l.length ≤ 1048576) :
    Calls Try.prog 18 #[.pointer (some ⟨d, 0, none⟩), .string sA, .int .i64 0, .int .i64 (l.length : Nat)] w fun e w' => ∃ ao c, e = .returned (.tuple #[.slice ao l.length c, .int .i64 0]) ∧ w'.ownsRow w.heap.size 5 1 (.slice ao l.length c) l.length (cellsOf l) ∧ Fr (fun _ => False) w w' := by
  refine (read0_at d m l.length _ q O sA w h rfl (by simp [maxLen]; decide) (one_has _ _) (one_len _ _ _ _ hl _).1 (by rw [one_b]; exact Nat.le_refl _)).mono ?_
  rintro e w' ⟨v, rfl, hv, hf⟩
  rw [one_b, List.take_length] at hv
  obtain ⟨ao, c, rfl⟩ := own_form hv
  exact ⟨ao, c, rfl, hv, hf⟩
set_option maxHeartbeats 4000000 in
set_option maxRecDepth 100000 in
/-- DiskKept. -/
theorem dkept_any (data : List Nat) (xo : Option Addr) (xc : Nat) (w : World) (hx : Src w (.slice xo data.length xc) data) (hl : data.length ≤ 1048576) :
    Calls Try.prog 6 #[.slice xo data.length xc] w fun e w' => e = .returned (.bool true) ∧ Fr (fun _ => False) w w' := by
  have HX := hide (And.intro hx trivial)
  clear hx
  go_enter Try.func6, Try.ntmps6
  go_wp2_with fail
  refine (awake8 w).mono ?_
  rintro e w1 ⟨rfl, hf1⟩
  have H1 := hide hf1
  clear hf1
  go_wp2_with fail
  refine (new_any 1048576 w1 (by decide) (by decide)).mono ?_
  rintro e w2 ⟨d, m, q, O, rfl, hD2, hf2, hO2⟩
  have H2 := hide (And.intro hD2 (And.intro hf2 hO2))
  clear hD2 hf2 hO2
  go_wp2_with fail
  refine (new_any 1048576 w2 (by decide) (by decide)).mono ?_
  rintro e w3 ⟨d', m', q', O', rfl, hD3, hf3, hO3⟩
  have hDd := (unhide H2).1.fr hf3 (fun _ _ h => h)
  have hF3 : Fr (fun _ => False) w w3 := ((unhide H1).trans (unhide H2).2.1 (fun _ _ h => h)).trans hf3 (fun _ _ h => h)
  have hapart : ∀ k, O k → ¬ O' k := fun k h1 h2 => by have := hO3 k h2; have := (unhide H2).1.lt k h1; omega
  have hNO : ∀ k, O k → w.heap.size ≤ k := fun k hk => Nat.le_trans (unhide H1).size ((unhide H2).2.2 k hk)
  have hNO' : ∀ k, O' k → w.heap.size ≤ k := fun k hk => Nat.le_trans (Nat.le_trans (unhide H1).size (unhide H2).2.1.size) (hO3 k hk)
  have HT3 := hide (TD.mk (w := w) hDd hD3 hF3 hapart hNO hNO')
  clear hDd hD3 hF3 hapart hNO hNO' hf3 hO3 H2 H1
  go_wp2_with fail
  refine (create_ok d m _ q O sA w3 (unhide HT3).a rfl (by decide) (by decide) (new_has _ _) (by decide)).mono ?_
  rintro e w4 ⟨rfl, fb, q4, O4, hD4, hf4, hO4⟩
  have HT4 := hide ((unhide HT3).stepA hD4 hf4 hO4)
  clear hD4 hf4 hO4 HT3
  go_wp2_with fail
  refine (create_ok d' m' _ q' O' sA w4 (unhide HT4).b rfl (by decide) (by decide) (new_has _ _) (by decide)).mono ?_
  rintro e w5 ⟨rfl, fb', q5, O5, hD5, hf5, hO5⟩
  have HT5 := hide ((unhide HT4).stepB hD5 hf5 hO5)
  clear hD5 hf5 hO5 HT4
  obtain ⟨lo, lc, w6, hr6, hown6, hf6⟩ := app_nil w5 (.slice xo data.length xc) data ((unhide HX).1.fr (unhide HT5).f (fun _ _ _ _ _ h => h)) (by omega)
  have HR6 := hide hr6
  have HT6 := hide ((unhide HT5).fr hf6 (fun _ h => h.elim))
  have hb6 : ∀ k, lo.map (·.block) = some k → w5.heap.size ≤ k ∧ k < w6.heap.size := own_block hown6
  have hd6 : ∀ k, lo.map (·.block) = some k → ¬ O4 k ∧ ¬ O5 k ∧ w.heap.size ≤ k := fun k hk => ⟨fun h => by have := (unhide HT5).a.lt k h; have := (hb6 k hk).1; omega, fun h => by have := (unhide HT5).b.lt k h; have := (hb6 k hk).1; omega, by have := (hb6 k hk).1; have := (unhide HT5).f.size; omega⟩
  have hlc : data.length ≤ lc := by
    rcases hown6.2 with ⟨_, e⟩ | ⟨g, c, cur, e, _, _, hc, _⟩
    · omega
    · simp only [Value.slice.injEq] at e; omega
  have H6 := hide (And.intro hown6 (And.intro hb6 hd6))
  clear hr6 hown6 hf6 hb6 hd6 HT5
  go_wp2_with (at_builtin; refine wpList_app rfl _ _ 28 28 rfl _ _ _ rfl rfl (unhide HR6) ?_)
  clear HR6
  refine (append_first d m 1048576 fb q4 O4 sA (.slice lo data.length lc) data w6 (unhide HT6).a (by decide) (own_src (unhide H6).1) (fun g o k c e => by cases e; exact ((unhide H6).2.2 g rfl).1) (fun xo k c e => by cases e; exact hlc) hl (by decide)).mono ?_
  rintro e w7 ⟨rfl, q7, O7, hD7, hf7, hO7⟩
  have hown7 : w7.ownsRow w5.heap.size 5 1 (.slice lo data.length lc) data.length (cellsOf data) := ownsRow_of_block (unhide H6).1 (fun g hg => hf7.block g ((unhide H6).1.lt g hg).2 ((unhide H6).2.2 g (ownb hg)).1)
  have hd7 : ∀ k, lo.map (·.block) = some k → w.heap.size ≤ k ∧ ¬ O7 k ∧ ¬ O5 k := fun k hk => ⟨((unhide H6).2.2 k hk).2.2, fun h => (hO7 k h).elim ((unhide H6).2.2 k hk).1 (fun h => by have := ((unhide H6).2.1 k hk).2; omega), ((unhide H6).2.2 k hk).2.1⟩
  have HT7 := hide ((unhide HT6).stepA hD7 hf7 hO7)
  have H7 := hide (And.intro hown7 hd7)
  clear hD7 hf7 hO7 HT6 hown7 hd7 H6
  go_wp2_with fail
  go_loopw [8] (fun i wr => ∃ k : Nat, k ≤ data.length ∧ i = .int .i64 k ∧ Inc w7 wr lo data.length) (fun i _ => data.length - (intOf i).toNat)
  case atStart => exact ⟨0, Nat.zero_le _, rfl, inc_start (l := data) (unhide H7).1⟩
  case round =>
    obtain ⟨k, hk, rfl, hinc⟩ := hrel
    have HI := hide hinc
    clear hinc
    by_cases hlt : k < data.length
    · obtain ⟨g, c, rfl, hc, hz⟩ := (unhide HI).at_ k hlt
      go_wp2
      go_roundw
      case rel => exact ⟨k + 1, by omega, by go_num, (unhide HI).step k hlt _⟩
      case measure => simp [intOf]; omega
    · rename World => w8
      have HT8 := hide ((unhide HT7).fr (unhide HI).fr (unhide H7).2)
      clear HT7 HI H7
      go_wp2_with fail
      refine (read_one d m 1048576 fb data q7 O7 w8 (unhide HT8).a hl).mono ?_
      rintro e w9 ⟨ao, ac, rfl, hown9, hf9⟩
      have HT9 := hide ((unhide HT8).fr hf9 (fun _ h => h.elim))
      have H9 := hide (And.intro hown9 hf9.size)
      clear hown9 hf9
      go_wp2_with fail
      refine (read_one d m 1048576 fb data q7 O7 w9 (unhide HT9).a hl).mono ?_
      rintro e w10 ⟨bo, bc, rfl, hown10, hf10⟩
      have HT10 := hide ((unhide HT9).fr hf10 (fun _ h => h.elim))
      have hx10 : w10.ownsRow w8.heap.size 5 1 (.slice ao data.length ac) data.length (cellsOf data) := ownsRow_of_block (unhide H9).1 (fun g hg => hf10.block g ((unhide H9).1.lt g hg).2 (fun h => h))
      have hbx : ∀ k, (Value.slice ao data.length ac).ownBlock = some k → w8.heap.size ≤ k ∧ k < w9.heap.size := fun k hk => (unhide H9).1.lt k hk
      have hby : ∀ k, (Value.slice bo data.length bc).ownBlock = some k → w9.heap.size ≤ k := fun k hk => (hown10.lt k hk).1
      have H10 := hide (And.intro hx10 (And.intro hown10 (And.intro hbx (And.intro hby hf10.size))))
      have hda10 := (unhide HX).1.fr (unhide HT10).f (fun _ _ _ _ _ h => h)
      have HDA := hide hda10
      clear hown10 hf10 hx10 HT9 hda10 hbx hby
      go_wp2_with fail
      refine (same_any _ _ data data w10 (own_src (unhide H10).1) (unhide HDA) (by omega)).mono ?_
      rintro e w11 ⟨rfl, n1, rfl⟩
      rw [same_self]
      go_wp2_with fail
      refine (same_any _ _ data data (w10.drewN n1) ((own_src (unhide H10).2.1).fr ((Fr.refl (fun _ => False) _).drewN n1) (fun _ _ _ _ _ h => h)) ((unhide HDA).fr ((Fr.refl (fun _ => False) _).drewN n1) (fun _ _ _ _ _ h => h)) (by omega)).mono ?_
      rintro e w11 ⟨rfl, n2, rfl⟩
      rw [same_self]
      obtain ⟨W, hW⟩ : ∃ W, W = (w10.drewN n1).drewN n2 := ⟨_, rfl⟩
      have hfW : Fr (fun _ => False) w10 W := by rw [hW]; exact ((Fr.refl _ _).drewN n1).drewN n2
      rw [← hW]
      clear hW
      have HT11 := hide ((unhide HT10).fr hfW (fun _ h => h.elim))
      have hx11 : W.ownsRow w8.heap.size 5 1 (.slice ao data.length ac) data.length (cellsOf data) := ownsRow_of_block (unhide H10).1 (fun g hg => hfW.block g ((unhide H10).1.lt g hg).2 (fun h => h))
      have hy11 : W.ownsRow w9.heap.size 5 1 (.slice bo data.length bc) data.length (cellsOf data) := ownsRow_of_block (unhide H10).2.1 (fun g hg => hfW.block g ((unhide H10).2.1.lt g hg).2 (fun h => h))
      have hxd : ∀ k, ao.map (·.block) = some k → w.heap.size ≤ k ∧ ¬ O7 k ∧ ¬ O5 k := fun k hk => by
        have h1 := own_block hx11 k hk
        exact ⟨Nat.le_trans (unhide HT8).f.size h1.1, fun h => by have := (unhide HT8).a.lt k h; omega, fun h => by have := (unhide HT8).b.lt k h; omega⟩
      have hs9 := (unhide H9).2
      have H11 := hide (And.intro hx11 (And.intro hy11 (And.intro hxd (And.intro hs9 (And.intro (unhide H10).2.2.1 (Nat.le_trans (unhide H10).2.2.2.2 hfW.size))))))
      clear hfW HT10 H10 HDA hx11 hy11 hxd hs9 H9
      go_wp2_with fail
      go_loopw [11] (fun i wr => ∃ k : Nat, k ≤ data.length ∧ i = .int .i64 k ∧ OwnI W wr w8.heap.size ao ac data.length) (fun i _ => data.length - (intOf i).toNat)
      case atStart => exact ⟨0, Nat.zero_le _, rfl, Fr.refl _ _, _, (unhide H11).1, cells8 data rfl⟩
      case round =>
        obtain ⟨k2, hk2, rfl, hinc⟩ := hrel
        have HI := hide hinc
        clear hinc
        by_cases hlt2 : k2 < data.length
        · obtain ⟨g, c, rfl, hc, hz⟩ := (unhide HI).at_ k2 hlt2
          go_wp2
          go_roundw
          case rel => exact ⟨k2 + 1, by omega, by go_num, (unhide HI).step k2 _⟩
          case measure => simp [intOf]; omega
        · rename World => w12
          have HT12 := hide ((unhide HT11).fr (unhide HI).1 (unhide H11).2.2.1)
          have hy12 : w12.ownsRow w9.heap.size 5 1 (.slice bo data.length bc) data.length (cellsOf data) := ownsRow_of_block (unhide H11).2.1 (fun g hg => (unhide HI).1.block g ((unhide H11).2.1.lt g hg).2 (fun e => by
            have h1 := ((unhide H11).2.1.lt g hg).1
            have h2 := (unhide H11).2.2.2.2.1 g (by cases ao with | none => cases e | some a => simpa [Value.ownBlock] using e)
            omega))
          have hw8 : w8.heap.size ≤ w12.heap.size := Nat.le_trans (Nat.le_trans (unhide H11).2.2.2.1 (unhide H11).2.2.2.2.2) (unhide HI).1.size
          have H12 := hide (And.intro (unhide HI).2 (And.intro hy12 (And.intro (unhide H11).2.2.1 (unhide H11).2.2.2.2.1)))
          clear HT11 HI H11 hy12
          go_wp2_with fail
          go_loopw [9, 12] (fun xv iv wr => ∃ (k : Nat) (ao' : Option Addr) (c' : Nat) (xs : List Value), k ≤ 5 ∧ iv = .int .i64 k ∧ xv = .slice ao' (data.length + k) c' ∧ (∀ g, (Value.slice ao' (data.length + k) c').ownBlock = some g → (Value.slice ao data.length ac).ownBlock = some g ∨ w12.heap.size ≤ g) ∧ Fr (fun j => (Value.slice ao data.length ac).ownBlock = some j) w12 wr ∧ wr.ownsRow w8.heap.size 5 1 (.slice ao' (data.length + k) c') (data.length + k) xs) (fun _ i _ => 5 - (intOf i).toNat)
          case atStart =>
            obtain ⟨xs, hxs, _⟩ := (unhide H12).1
            exact ⟨0, ao, ac, xs, by decide, rfl, rfl, fun g hg => .inl hg, Fr.refl _ _, hxs⟩
          case round =>
            obtain ⟨k5, a5, c5, xs5, hk5, rfl, rfl, hb5, hf5, hx5⟩ := hrel
            have H5 := hide (And.intro hb5 (And.intro hf5 hx5))
            clear hb5 hf5 hx5
            by_cases hlt5 : k5 < 5
            · rename World => wq
              obtain ⟨hb5, hf5, hx5⟩ := unhide H5
              obtain ⟨a6, c6, w6', hr6, hx6, hf6, hb6⟩ := app9 wq w8.heap.size (data.length + k5) c5 a5 xs5 hx5 (by omega) (Nat.le_trans hw8 hf5.size)
              have hf6' : Fr (fun j => (Value.slice ao data.length ac).ownBlock = some j) w12 w6' := hf5.trans hf6 (fun i hi e => (hb5 i e).elim id (fun h => by omega))
              have hb6' : ∀ g, (Value.slice a6 (data.length + k5 + 1) c6).ownBlock = some g → (Value.slice ao data.length ac).ownBlock = some g ∨ w12.heap.size ≤ g := fun g hg => (hb6 g hg).elim (hb5 g) (fun h => .inr (Nat.le_trans hf5.size h))
              have HR6 := hide hr6
              have H6 := hide (And.intro hx6 (And.intro hf6' hb6'))
              clear hr6 hx6 hf6 hb6 hf6' hb6' hb5 hf5 hx5 H5
              go_wp2_with (at_builtin; refine wpList_app rfl _ _ 28 28 rfl _ _ _ rfl rfl (unhide HR6) ?_)
              go_roundw
              case rel =>
                obtain ⟨xs6, hx6⟩ := (unhide H6).1
                exact ⟨k5 + 1, a6, c6, xs6, by omega, by go_num, rfl, (unhide H6).2.2, (unhide H6).2.1, hx6⟩
              case measure => simp [intOf]; omega
            · rename World => w13
              obtain rfl : k5 = 5 := by omega
              have HT13 := hide ((unhide HT12).fr (unhide H5).2.1 (fun k hk => (unhide H12).2.2.1 k (ownb hk)))
              have hy13 : w13.ownsRow w9.heap.size 5 1 (.slice bo data.length bc) data.length (cellsOf data) := ownsRow_of_block (unhide H12).2.1 (fun g hg => (unhide H5).2.1.block g ((unhide H12).2.1.lt g hg).2 (fun e => by
                have h1 := ((unhide H12).2.1.lt g hg).1
                have h2 := (unhide H12).2.2.2 g e
                omega))
              have HY13 := hide hy13
              clear hy13 H12 H5 HT12
              go_wp2_with fail
              refine (read_one d m 1048576 fb data q7 O7 w13 (unhide HT13).a hl).mono ?_
              rintro e w14 ⟨zo, zc, rfl, hz14, hf14⟩
              have HT14 := hide ((unhide HT13).fr hf14 (fun _ h => h.elim))
              have hy14 : w14.ownsRow w9.heap.size 5 1 (.slice bo data.length bc) data.length (cellsOf data) := ownsRow_of_block (unhide HY13) (fun g hg => hf14.block g ((unhide HY13).lt g hg).2 (fun h => h))
              have H14 := hide (And.intro hy14 hz14)
              clear hy14 hz14 hf14 HY13 HT13
              go_wp2_with fail
              refine (size_at d' m' _ q5 O5 sA w14 (unhide HT14).b rfl (by simp [maxLen]; decide) (by rw [one_D]; exact one_has _ _)).mono ?_
              rintro e w15 ⟨rfl, rfl⟩
              rename World => w14
              rw [show ((((DM.new 1048576).made (nm sA) fb').F (nm sA)).b.length : Int) = 0 by simp [DM.made]]
              go_wp2_with fail
              refine (names_one d m 1048576 fb data q7 O7 w14 (unhide HT14).a).mono ?_
              rintro e w15 ⟨ng, nc, rfl, hg15, hl15, hc15, hz15, hn15, hf15⟩
              have HT15 := hide ((unhide HT14).fr hf15 (fun _ h => h.elim))
              have hfs : Fr (fun k => k = ng) w15 (w15.setCell ⟨ng, 0, none⟩ (.string ⟨#[98]⟩)) := (Fr.refl _ _).at1 _ _
              have HT16 := hide ((unhide HT15).fr hfs (fun k hk => by
                have e : k = ng := hk
                subst e
                exact ⟨Nat.le_trans (unhide HT14).f.size hg15, fun h => by have := (unhide HT14).a.lt _ h; omega, fun h => by have := (unhide HT14).b.lt _ h; omega⟩))
              have hy16 : (w15.setCell ⟨ng, 0, none⟩ (.string ⟨#[98]⟩)).ownsRow w9.heap.size 5 1 (.slice bo data.length bc) data.length (cellsOf data) := ownsRow_of_block (unhide H14).1 (fun g hg => (hfs.block g (Nat.lt_of_lt_of_le ((unhide H14).1.lt g hg).2 hf15.size) (fun e => by have e' : g = ng := e; have := ((unhide H14).1.lt g hg).2; omega)).trans (hf15.block g ((unhide H14).1.lt g hg).2 (fun h => h)))
              have hz16 : (w15.setCell ⟨ng, 0, none⟩ (.string ⟨#[98]⟩)).ownsRow w13.heap.size 5 1 (.slice zo data.length zc) data.length (cellsOf data) := ownsRow_of_block (unhide H14).2 (fun g hg => (hfs.block g (Nat.lt_of_lt_of_le ((unhide H14).2.lt g hg).2 hf15.size) (fun e => by have e' : g = ng := e; have := ((unhide H14).2.lt g hg).2; omega)).trans (hf15.block g ((unhide H14).2.lt g hg).2 (fun h => h)))
              have H16 := hide (And.intro hy16 hz16)
              clear hy16 hz16 hfs hf15 HT15 HT14 H14
              go_wp2_with fail
              refine (names_one d m 1048576 fb data q7 O7 _ (unhide HT16).a).mono ?_
              rintro e w17 ⟨ag, agc, rfl, hg17, hl17, hc17, hz17, hn17, hf17⟩
              have HT17 := hide ((unhide HT16).fr hf17 (fun _ h => h.elim))
              have sy17 : Src w17 (.slice bo data.length bc) data := (own_src (unhide H16).1).fr hf17 (fun _ _ _ _ _ h => h)
              have sz17 : Src w17 (.slice zo data.length zc) data := (own_src (unhide H16).2).fr hf17 (fun _ _ _ _ _ h => h)
              have sd17 : Src w17 (.slice xo data.length xc) data := (unhide HX).1.fr (unhide HT17).f (fun _ _ _ _ _ h => h)
              have HS := hide (And.intro sy17 (And.intro sz17 sd17))
              clear sy17 sz17 sd17 hf17 H16 HT16 hc15 hz15
              go_wp2_with fail
              refine (same_any _ _ data data w17 (unhide HS).1 (unhide HS).2.2 (by omega)).mono ?_
              rintro e wz ⟨rfl, n3, rfl⟩
              rw [same_self]
              have hfA : Fr (fun _ => False) w17 (w17.drewN n3) := (Fr.refl _ _).drewN n3
              go_wp2_with fail
              refine (same_any _ _ data data (w17.drewN n3) ((unhide HS).2.1.fr hfA (fun _ _ _ _ _ h => h)) ((unhide HS).2.2.fr hfA (fun _ _ _ _ _ h => h)) (by omega)).mono ?_
              rintro e wz ⟨rfl, n4, rfl⟩
              rw [same_self]
              have hfB : Fr (fun _ => False) w17 ((w17.drewN n3).drewN n4) := hfA.drewN n4
              have hcB : ((w17.drewN n3).drewN n4).cell? ⟨ag, 0, none⟩ = some (.string ⟨#[97]⟩) := (hfB.cell (p := ⟨ag, 0, none⟩) hl17 (fun h => h)).trans hc17
              have HFB := hide ((unhide HT17).f.trans hfB (fun _ _ h => h))
              generalize (w17.drewN n3).drewN n4 = WB at *
              clear hfA hfB hc17
              go_wp2_with fail
              go_ret
              exact ⟨rfl, unhide HFB⟩
end Go.Proofs.Ytfoifojlgojgaaa
