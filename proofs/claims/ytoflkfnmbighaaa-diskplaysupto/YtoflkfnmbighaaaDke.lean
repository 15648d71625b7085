import Derived.Test.YtoflkfnmbighaaaDkd
namespace Go.Proofs.Ytoflkfnmbighaaa
open Go.RowKit Go.ChangeShapes Go.WideShapes

/-- What a write leaves of a file. -/
def FM.put (f : FM) (n : Nat) (l : List Nat) : FM := if l.length = 0 then f else ⟨f.b ++ l, f.safe, f.ps ++ [(n, l.length)]⟩
set_option maxRecDepth 100000 in
theorem write_any (fb n : Nat) (f : FM) (bv pv x : Value) (l : List Nat) (w : World) (h : FAt w fb f bv pv) (hx : Src w x l) (hb : f.b.length + l.length ≤ 1000000000) (hp : f.ps.length ≤ 1000000000) :
    Calls Try.prog 35 #[.pointer (some ⟨fb, 0, none⟩), .int .i64 (n : Nat), x] w fun e w' => e = .returned (.tuple #[]) ∧ ∃ bv' pv', FAt w' fb (f.put n l) bv' pv' ∧ Fr (fun g => g = fb ∨ bv.ownBlock = some g ∨ pv.ownBlock = some g) w w' ∧ (∀ g, bv'.ownBlock = some g → bv.ownBlock = some g ∨ w.heap.size ≤ g) ∧ (∀ g, pv'.ownBlock = some g → pv.ownBlock = some g ∨ w.heap.size ≤ g) := by
  obtain ⟨c0, c1, c2, fz⟩ := h.cells
  have f0 := fz 0
  have f2 := fz 2
  clear fz
  obtain ⟨xo, xc, rfl⟩ := hx.form
  obtain ⟨bo, bc, rfl⟩ := own_form h.bo
  obtain ⟨po, pc, rfl⟩ := own_formX h.po
  by_cases h0 : l.length = 0
  · have e : f.put n l = f := by simp [FM.put, h0]
    rw [e]
    have H := hide h
    clear h hx e
    rw [h0] at *
    go_enter Try.func35, Try.ntmps35
    go_wp2
    first | go_end0 | (simp only [Exit.inBlock, Exit.then]; refine bodyPost_ret (results_none rfl _ _ _) rfl ?_) | refine bodyPost_ret (results_none rfl _ _ _) rfl ?_
    exact ⟨rfl, _, _, unhide H, Fr.refl _ _, fun g hg => .inl hg, fun g hg => .inl hg⟩
  · obtain ⟨ao, cap, w1, hr1, hown1, hg1, hat1⟩ := run_app_sl w 36 0 f.b.length (.slice bo f.b.length bc) _ (cellsOf f.b) l h.bo hx (by omega) (Nat.zero_le _)
    have hf1 : Fr (fun g => (Value.slice bo f.b.length bc).ownBlock = some g) w w1 := (Fr.refl _ _).grown hg1 (fun k hk => .inl hk)
    have hkb : ¬ (Value.slice bo f.b.length bc).ownBlock = some fb := fun e => (h.kinds.1 fb e).1 rfl
    have b1 : w1.heap[fb]? = _ := (hf1.block fb h.lt.1 hkb).trans h.blk
    have d0 : w1.cell? ⟨fb, 0, none⟩ = some (.slice bo f.b.length bc) := by simp [World.cell?, b1]
    have d2 : w1.cell? ⟨fb, 2, none⟩ = some (.slice po f.ps.length pc) := by simp [World.cell?, b1]
    have e0 : w1.frozen? ⟨fb, 0, none⟩ = false := by simp [World.frozen?, b1]
    have e2 : w1.frozen? ⟨fb, 2, none⟩ = false := by simp [World.frozen?, b1]
    have p1 : w1.ownsRow 0 98 2 (.slice po f.ps.length pc) f.ps.length (pcells f.ps) := ownsRow_of_block h.po (fun g hg => hf1.block g (h.lt.2.2 g hg) (fun e => (h.kinds.1 g e).2 hg))
    have p2 : (w1.setCell ⟨fb, 0, none⟩ (.slice ao (f.b.length + l.length) cap)).ownsRow 0 98 2 (.slice po f.ps.length pc) f.ps.length (pcells f.ps) := ownsRow_of_block p1 (fun g hg => Below.heap_setCell _ _ _ _ (fun e => h.kinds.2 g hg e))
    obtain ⟨ao2, cap2, w3, hr3, hown3, hf3, hat3⟩ := app_piece _ _ f.ps n l.length p2 (by omega)
    have hsz : (w1.setCell ⟨fb, 0, none⟩ (.slice ao (f.b.length + l.length) cap)).heap.size = w1.heap.size := by simp [World.setCell]
    rw [hsz] at hr3
    have HR1 := hide hr1
    have HR3 := hide hr3
    have hkp : ¬ (Value.slice po f.ps.length pc).ownBlock = some fb := fun e => h.kinds.2 fb e rfl
    have b2 : (w1.setCell ⟨fb, 0, none⟩ (.slice ao (f.b.length + l.length) cap)).heap[fb]? = some (.cells #[.slice ao (f.b.length + l.length) cap, .int .i64 (f.safe : Nat), .slice po f.ps.length pc] 72) := by rw [blkset b1]; simp
    have b3 : w3.heap[fb]? = _ := (hf3.block fb (lt_of_block b2) hkp).trans b2
    have g2 : w3.cell? ⟨fb, 2, none⟩ = some (.slice po f.ps.length pc) := by simp [World.cell?, b3]
    have e3 : w3.frozen? ⟨fb, 2, none⟩ = false := by simp [World.frozen?, b3]
    have b4 : (w3.setCell ⟨fb, 2, none⟩ (.slice ao2 (f.ps.length + 1) cap2)).heap[fb]? = some (.cells #[.slice ao (f.b.length + l.length) cap, .int .i64 (f.safe : Nat), .slice ao2 (f.ps.length + 1) cap2] 72) := by rw [blkset b3]; simp
    have hfA : Fr (fun g => g = fb ∨ (Value.slice bo f.b.length bc).ownBlock = some g ∨ (Value.slice po f.ps.length pc).ownBlock = some g) w (w3.setCell ⟨fb, 2, none⟩ (.slice ao2 (f.ps.length + 1) cap2)) := by
      have q1 : Fr (fun g => g = fb ∨ (Value.slice bo f.b.length bc).ownBlock = some g ∨ (Value.slice po f.ps.length pc).ownBlock = some g) w w1 := hf1.mono (fun _ _ h => Or.inr (Or.inl h))
      exact ((q1.setCell (p := ⟨fb, 0, none⟩) (.inl (.inl rfl)) _).trans hf3 (fun g _ h => .inr (.inr h))).setCell (p := ⟨fb, 2, none⟩) (.inl (.inl rfl)) _
    have hbl : ∀ g, (Value.slice ao (f.b.length + l.length) cap).ownBlock = some g → (Value.slice bo f.b.length bc).ownBlock = some g ∨ w.heap.size ≤ g := fun g hg => by
      rcases hat1 with e | e
      · rw [e] at hg; exact .inl hg
      · rw [e] at hg; cases hg; exact .inr (Nat.le_refl _)
    have hg1s := hg1.size
    have hFA : FAt (w3.setCell ⟨fb, 2, none⟩ (.slice ao2 (f.ps.length + 1) cap2)) fb (f.put n l) (.slice ao (f.b.length + l.length) cap) (.slice ao2 (f.ps.length + 1) cap2) := by
      have e : f.put n l = ⟨f.b ++ l, f.safe, f.ps ++ [(n, l.length)]⟩ := by simp [FM.put, h0]
      rw [e]
      refine ⟨b4, ?_, ?_⟩
      · rw [cellsOf_append, List.length_append]
        refine ownsRow_of_block hown1 (fun g hg => ?_)
        obtain ⟨cur, hc⟩ := own_blk hown1 hg
        have hgf : g ≠ fb := fun e => by rw [e, b1] at hc; simp at hc
        have hgp : ¬ (Value.slice po f.ps.length pc).ownBlock = some g := fun e => by
          obtain ⟨cur2, hc2⟩ := own_blk p1 e
          rw [hc] at hc2; simp at hc2
        rw [Below.heap_setCell _ _ _ _ hgf, hf3.block g (by rw [hsz]; exact (hown1.lt g hg).2) hgp, Below.heap_setCell _ _ _ _ hgf]
      · rw [List.length_append]
        refine ownsRow_of_block hown3 (fun g hg => Below.heap_setCell _ _ _ _ (fun e => ?_))
        obtain ⟨cur, hc⟩ := own_blk hown3 hg
        rw [e, b3] at hc; simp at hc
    have HFIN := hide (And.intro hFA (And.intro hfA (And.intro hbl (fun g hg => (hat3 g hg).imp id (fun h => Nat.le_trans hg1s (by rw [hsz] at h; exact h)) : ∀ g, (Value.slice ao2 (f.ps.length + 1) cap2).ownBlock = some g → (Value.slice po f.ps.length pc).ownBlock = some g ∨ w.heap.size ≤ g))))
    clear hr3 p1 p2 b1 hkb hf1 hsz b2 b3 b4 hfA hbl hg1s hFA hat3 hf3 hown3 hkp
    have H := hide (And.intro h (And.intro hown1 (And.intro hg1 hat1)))
    have hl : ((l.length : Int) == 0) = false := by simp only [beq_eq_false_iff_ne, ne_eq]; omega
    have hl2 : ¬ ((l.length : Int) = 0) := by omega
    clear hr1 hown1 hg1 hat1 h hx
    go_enter Try.func35, Try.ntmps35
    clear H
    go_wp2_with (first | (at_builtin; refine wpList_app rfl (.tmp 13) (.tmp 14) 36 36 rfl _ _ _ rfl rfl (unhide HR1) ?_; clear HR1) | (at_builtin; refine wpList_app rfl (.tmp 22) (.tmp 27) 70 70 rfl _ _ _ rfl rfl (unhide HR3) ?_; clear HR3))
    go_end0
    exact ⟨rfl, _, _, (unhide HFIN).1, (unhide HFIN).2.1, (unhide HFIN).2.2.1, (unhide HFIN).2.2.2⟩
theorem Src.takeN {w : World} {xo : Option Addr} {xc : Nat} {p : List Nat} (h : Src w (.slice xo p.length xc) p) (n : Nat) (hn : n ≤ p.length) : Src w (.slice xo n xc) (p.take n) := by
  rcases h with ⟨e, e2⟩ | ⟨g, o, c, e, hc⟩ | ⟨a, c, e, e2⟩
  · subst e2
    have : n = 0 := by simpa using hn
    subst this
    exact .inl ⟨by simpa using e, rfl⟩
  · simp only [Value.slice.injEq, true_and] at e
    obtain ⟨rfl, rfl⟩ := e
    refine .inr (.inl ⟨g, o, xc, by rw [List.length_take, Nat.min_eq_left hn], fun j v hv => hc j v ?_⟩)
    have hj : j < n := by
      have := (List.getElem?_eq_some_iff.1 hv).1
      rw [cellsOf_length, List.length_take] at this
      omega
    rw [cellsOf, List.map_take, List.getElem?_take_of_lt hj] at hv
    exact hv
  · subst e2
    have : n = 0 := by simpa using hn
    subst this
    simp only [Value.slice.injEq] at e
    exact .inr (.inr ⟨a, xc, by rw [e.1], rfl⟩)
theorem DM.count_D (s : DM) (n : Nat) : (s.count n).1.D = s.D ∧ (s.count n).1.F = s.F ∧ (s.count n).1.used = s.used ∧ (s.count n).1.limit = s.limit ∧ (s.count n).1.writes = s.writes + 1 ∧ (s.count n).1.full = s.full := by
  unfold DM.count
  split
  · exact ⟨rfl, rfl, rfl, rfl, rfl, rfl⟩
  · split <;> exact ⟨rfl, rfl, rfl, rfl, rfl, rfl⟩
theorem DM.count_le (s : DM) (n : Nat) : (s.count n).2 ≤ n := by
  unfold DM.count
  split
  · exact Nat.le_refl _
  · split
    · exact Nat.le_refl _
    · show (min (n : Int) s.tear).toNat ≤ n
      omega
/-- What an Append that writes leaves. -/
def DM.app (s : DM) (x : List UInt8) (l : List Nat) : DM :=
  { (s.count l.length).1 with used := s.used + (s.count l.length).2, F := fun k => if k = x then (s.F x).put (s.writes + 1) (l.take (s.count l.length).2) else s.F k }
/-- What a write that came through answers. -/
def DM.code (s : DM) : Int := if s.off then 6 else 0
/-- The same, of a slice that may be empty. -/
theorem Src.frE {w w' : World} {x : Value} {l : List Nat} {S : Nat → Prop} (h : Src w x l) (hf : Fr S w w') (hS : l = [] ∨ ∀ g o m c, x = .slice (some ⟨g, o, none⟩) m c → ¬ S g) : Src w' x l := by
  rcases hS with rfl | hS
  · rcases h with h | ⟨g, o, c, hx, _⟩ | h
    · exact .inl h
    · exact .inr (.inr ⟨_, c, hx, rfl⟩)
    · exact .inr (.inr h)
  · exact h.fr hf hS
set_option maxRecDepth 100000 in
theorem append_okE (d m : Nat) (s : DM) (q : DW) (O : Nat → Prop) (name : ByteArray) (x : Value) (l : List Nat) (w : World) (h : DkAt w d m s q O) (ho : s.off = false) (hn : name.size ≤ maxLen) (hh : Maps.has s.D (.string (nm name)) = true) (hfu : s.full = false) (hx : Src w x l) (hxO : l = [] ∨ ∀ g o k c, x = .slice (some ⟨g, o, none⟩) k c → ¬ O g) (hxc : ∀ xo k c, x = .slice xo k c → k ≤ c) (hroom : s.used + l.length ≤ s.limit) (hlim : s.limit ≤ 1048576)
    (hw : s.writes < 1000000000) (hl0 : 0 ≤ s.left) (hl : s.left < 9223372036854775808) (ht0 : 0 ≤ s.tear) (ht : s.tear < 9223372036854775808) (hb : (s.F (nm name)).b.length ≤ 1048576) (hp : (s.F (nm name)).ps.length ≤ 1000000000) :
    Calls Try.prog 10 #[.pointer (some ⟨d, 0, none⟩), .string name, x] w fun e w' => e = .returned (.int .i64 (s.count l.length).1.code) ∧ ∃ q' O', DkAt w' d m (s.app (nm name) l) q' O' ∧ Fr O w w' ∧ ∀ k, O' k → O k ∨ w.heap.size ≤ k := by
  obtain ⟨xo, xc, rfl⟩ := hx.form
  have hcap := hxc _ _ _ rfl
  have HF := hide (find_at d m s q O name w h ho hn hh)
  have HC : Hid (∀ k, Calls Try.prog 34 #[.pointer (some ⟨d, 0, none⟩), .int .i64 (l.length : Nat)] (w.drewN k) fun e w' => e = .returned (.int .i64 ((s.count l.length).2 : Nat)) ∧ DkAt w' d m (s.count l.length).1 q O ∧ Fr (fun k => k = d) w w') := fun k =>
    (count_any d m s q O l.length (w.drewN k) (h.fr ((Fr.refl (fun _ => False) _).drewN k) (fun _ _ h => h)) (by omega) (by omega) hl0 hl ht0 ht).mono (fun e w' h => ⟨h.1, h.2.1, ((Fr.refl (fun k => k = d) _).drewN k).trans h.2.2 (fun _ _ h => h)⟩)
  obtain ⟨cD, cF, cU, cL, cW, cFu⟩ := DM.count_D s l.length
  have cle := DM.count_le s l.length
  generalize hs1 : (s.count l.length).1 = s1 at *
  generalize hn1 : (s.count l.length).2 = n1 at *
  obtain ⟨c0, c1, c2, c3, c4, c5, c6, c7, fz⟩ := h.cells
  rw [hfu] at c5
  clear fz c6 c7 c4 c3 c1
  have HX := hide (And.intro hx (And.intro hxO h))
  clear hx hxO hxc h
  go_enter Try.func10, Try.ntmps10
  go_wp2_with (go_at_call 33; refine (unhide HF).mono ?_; rintro e w' ⟨rfl, rfl⟩)
  rename World => w
  have hr1 : ¬ ((s.limit : Int) - (s.used : Int) < (l.length : Int)) := by omega
  have hu1 := hlim
  go_quiet (fail)
  go_wp2_with (go_at_call 34; refine ((unhide HC) _).mono ?_; rintro e w1 ⟨rfl, hD1, hf1⟩)
  have hx1 : Src w1 (.slice xo n1 xc) (l.take n1) := ((unhide HX).1.frE hf1 ((unhide HX).2.1.imp id (fun hxO g o k c e hk => hxO g o k c e (by rw [hk]; exact (unhide HX).2.2.od)))).takeN n1 cle
  have hh1 : Maps.has s1.D (.string (nm name)) = true := by rw [cD]; exact hh
  have hA1 := (hD1.at_ _ hh1).2
  have HW : Hid (∀ W, Fr (fun _ => False) w1 W → Calls Try.prog 35 #[.pointer (some ⟨q.fb (nm name), 0, none⟩), .int .i64 ((s.writes + 1 : Nat) : Int), .slice xo n1 xc] W fun e w' => e = .returned (.tuple #[]) ∧ ∃ bv' pv', FAt w' (q.fb (nm name)) ((s1.F (nm name)).put (s.writes + 1) (l.take n1)) bv' pv' ∧ Fr (fun g => g = q.fb (nm name) ∨ (q.bv (nm name)).ownBlock = some g ∨ (q.pv (nm name)).ownBlock = some g) w1 w' ∧ (∀ g, bv'.ownBlock = some g → (q.bv (nm name)).ownBlock = some g ∨ w1.heap.size ≤ g) ∧ (∀ g, pv'.ownBlock = some g → (q.pv (nm name)).ownBlock = some g ∨ w1.heap.size ≤ g)) := fun W hW =>
    (write_any (q.fb (nm name)) (s.writes + 1) (s1.F (nm name)) _ _ _ (l.take n1) W (hA1.keep (hW.block _ hA1.lt.1 (fun h => h)) (fun g hg => hW.block g (hA1.lt.2.1 g hg) (fun h => h)) (fun g hg => hW.block g (hA1.lt.2.2 g hg) (fun h => h))) (hx1.fr hW (fun _ _ _ _ _ h => h)) (by rw [cF, List.length_take]; omega) (by rw [cF]; exact hp)).mono (fun e w' ⟨h1, bv', pv', h2, h3, h4, h5⟩ => ⟨h1, bv', pv', h2, (hW.mono (fun _ _ h => h.elim)).trans h3 (fun _ _ h => h), fun g hg => (h4 g hg).imp id (Nat.le_trans hW.size), fun g hg => (h5 g hg).imp id (Nat.le_trans hW.size)⟩)
  obtain ⟨a0, a1, a2, a3, a4, a5, a6, a7, fz⟩ := hD1.cells
  rw [cW] at a3
  rw [cU] at a2
  have H1 := hide (And.intro hD1 (And.intro hf1 hh1))
  clear hD1 hf1 hx1 hh1 hA1 HC fz a6 a7
  have hn1c : n1 ≤ xc := by omega
  go_wp2_with fail
  go_region_with (go_at_call 35; refine ((unhide HW) _ ((Fr.refl _ _).drew)).mono ?_; rintro e w2 ⟨rfl, bv', pv', hA2, hf2, hb2, hp2⟩)
  have hD2 := (unhide H1).1.file (nm name) (unhide H1).2.2 _ bv' pv' hf2 hA2 hb2 hp2
  obtain ⟨e0, e1, e2, e3, e4, e5, e6, e7, fz⟩ := hD2.cells
  have g2 := fz 2
  simp only at e2 e4
  rw [cU] at e2
  have hApp : s.app (nm name) l = { s1 with used := s.used + n1, F := fun k => if k = nm name then (s.F (nm name)).put (s.writes + 1) (l.take n1) else s.F k } := by
    unfold DM.app
    rw [hs1, hn1]
  have hfO : Fr O w w2 := ((unhide H1).2.1.mono (fun k _ hk => by rw [hk]; exact (unhide H1).1.od)).trans hf2 (fun k _ hk => by
    rcases hk with hk | hk | hk
    · rw [hk]; exact ((unhide H1).1.own _ (unhide H1).2.2).1
    · exact ((unhide H1).1.own _ (unhide H1).2.2).2.1 k hk
    · exact ((unhide H1).1.own _ (unhide H1).2.2).2.2 k hk)
  have hfin : ∀ W, W = w2.setCell ⟨d, 2, none⟩ (.int .i64 ((s.used : Int) + (n1 : Int))) → ∃ q' O', DkAt W d m (s.app (nm name) l) q' O' ∧ Fr O w W ∧ ∀ k, O' k → O k ∨ w.heap.size ≤ k := by
    rintro W rfl
    refine ⟨_, _, hD2.upd _ (by rw [hApp]) (by rw [hApp, cF]) ?_ ((Fr.refl _ _).at1 _ _), hfO.setCell (.inl (unhide H1).1.od) _, ?_⟩
    · rw [blkset hD2.blk, hApp]
      simp [DM.cells]
    · rintro k (hk | hk | hk)
      · exact .inl hk
      · rcases hb2 k hk with h2 | h2
        · exact .inl (((unhide H1).1.own _ (unhide H1).2.2).2.1 k h2)
        · exact .inr (Nat.le_trans (unhide H1).2.1.size h2)
      · rcases hp2 k hk with h2 | h2
        · exact .inl (((unhide H1).1.own _ (unhide H1).2.2).2.2 k h2)
        · exact .inr (Nat.le_trans (unhide H1).2.1.size h2)
  have HFIN := hide hfin
  clear hfin hfO hD2 hA2 hf2 hb2 hp2 fz e0 e1 e3 e5 e6 e7 HW H1 HX a0 a1 a2 a3 a4 a5
  have hu9 : (s.used : Int) + (n1 : Int) ≤ 1048576 := by omega
  clear hApp cD cF cU cL cW cFu hs1 hn1 ho hfu hh hn hp hb
  cases hof : s1.off
  all_goals
    rw [hof] at e4
    have HOF := hide hof
    clear hof
    go_wp2
    go_ret
    exact ⟨by simp [DM.code, unhide HOF], (unhide HFIN) _ rfl⟩
theorem append_ok (d m : Nat) (s : DM) (q : DW) (O : Nat → Prop) (name : ByteArray) (x : Value) (l : List Nat) (w : World) (h : DkAt w d m s q O) (ho : s.off = false) (hn : name.size ≤ maxLen) (hh : Maps.has s.D (.string (nm name)) = true) (hfu : s.full = false) (hx : Src w x l) (hxO : ∀ g o k c, x = .slice (some ⟨g, o, none⟩) k c → ¬ O g) (hxc : ∀ xo k c, x = .slice xo k c → k ≤ c) (hroom : s.used + l.length ≤ s.limit) (hlim : s.limit ≤ 1048576)
    (hw : s.writes < 1000000000) (hl0 : 0 ≤ s.left) (hl : s.left < 9223372036854775808) (ht0 : 0 ≤ s.tear) (ht : s.tear < 9223372036854775808) (hb : (s.F (nm name)).b.length ≤ 1048576) (hp : (s.F (nm name)).ps.length ≤ 1000000000) :
    Calls Try.prog 10 #[.pointer (some ⟨d, 0, none⟩), .string name, x] w fun e w' => e = .returned (.int .i64 (s.count l.length).1.code) ∧ ∃ q' O', DkAt w' d m (s.app (nm name) l) q' O' ∧ Fr O w w' ∧ ∀ k, O' k → O k ∨ w.heap.size ≤ k :=
  append_okE d m s q O name x l w h ho hn hh hfu hx (.inr hxO) hxc hroom hlim hw hl0 hl ht0 ht hb hp
end Go.Proofs.Ytoflkfnmbighaaa
