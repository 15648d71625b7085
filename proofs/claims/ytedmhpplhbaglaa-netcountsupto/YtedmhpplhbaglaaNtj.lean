import Derived.Test.YtedmhpplhbaglaaNti
namespace Go.Proofs.Ytedmhpplhbaglaa
open Go.RowKit Go.ChangeShapes Go.WideShapes Go.Maps

theorem lit_srcW (w : World) (l : List Nat) (vs : Array Value) (c : Nat) (hv : vs.toList = cellsOf l) : Src (w.alloc (.cells vs 5)) (.slice (some ⟨w.heap.size, 0, none⟩) l.length c) l := by
  refine .inr (.inl ⟨w.heap.size, 0, c, rfl, fun j v hj => ?_⟩)
  rw [World.cell?_alloc_at _ _ _ _ rfl, Nat.zero_add, ← Array.getElem?_toList, hv]
  exact hj
/-- A net that was made since w. -/
structure NS (w W : World) (d m : Nat) (pl : Int) (ps : List PK) : Prop where
  at_ : ∃ sv T, NtAt W d m pl ps sv T ∧ ∀ g, T g → w.heap.size ≤ g
  fr : Fr (fun _ => False) w W
  d : w.heap.size ≤ d
  m : w.heap.size ≤ m
theorem NS.dl {w W : World} {d m : Nat} {pl : Int} {ps : List PK} (h : NS w W d m pl ps) : d < W.heap.size := by
  obtain ⟨sv, T, h1, _⟩ := h.at_
  exact h1.lt.1
theorem NS.ml {w W : World} {d m : Nat} {pl : Int} {ps : List PK} (h : NS w W d m pl ps) : m < W.heap.size := by
  obtain ⟨sv, T, h1, _⟩ := h.at_
  exact h1.lt.2
theorem NS.go {w W W' : World} {d m : Nat} {pl : Int} {ps : List PK} (h : NS w W d m pl ps) (hf : Fr (fun _ => False) W W') : NS w W' d m pl ps := by
  obtain ⟨sv, T, h1, h2⟩ := h.at_
  exact ⟨⟨sv, T, h1.fr0 hf, h2⟩, h.fr.trans hf (fun _ _ h => h), h.d, h.m⟩
theorem NS.ab {w W W' : World} {d m : Nat} {pl : Int} {ps : List PK} (h : NS w W d m pl ps) (hf : Fr (fun k => k = d ∨ k = m) W W') : Fr (fun _ => False) w W' :=
  h.fr.absorb hf (fun i hi => by have := h.d; have := h.m; rcases hi with rfl | rfl <;> assumption)
theorem ns_new (pl : Int) (w W : World) (h1 : 1 ≤ pl) (h2 : pl ≤ 64) (hw : Fr (fun _ => False) w W) :
    Calls Try.prog 7 #[.int .i64 pl] W fun e w' => ∃ d m, e = .returned (.tuple #[.pointer (some ⟨d, 0, none⟩), .int .i64 0]) ∧ NS w w' d m pl [] := by
  refine (new_any pl W h1 h2).mono ?_
  rintro e w' ⟨d, m, rfl, hN, hf, hd, hm⟩
  exact ⟨d, m, rfl, ⟨_, _, hN, fun g hg => hg.elim⟩, hw.trans hf (fun _ _ h => h), Nat.le_trans hw.size hd, Nat.le_trans hw.size hm⟩
theorem ns_send (d m : Nat) (pl f t : Int) (ps : List PK) (x : Value) (l : List Nat) (w W : World) (h : NS w W d m pl ps) (hf : isP pl f = true) (ht : isP pl t = true) (hx : Src W x l) (hxd : ∀ g o n c, x = .slice (some ⟨g, o, none⟩) n c → g ≠ d) (hl : l.length ≤ 1048576) (hn : ps.length ≤ 1048576) (z : Int) (hz : z = (ps.length : Int) + 1) :
    Calls Try.prog 9 #[.pointer (some ⟨d, 0, none⟩), .int .i64 f, .int .i64 t, x] W fun e w' => e = .returned (.tuple #[.int .i64 z, .int .i64 0]) ∧ NS w w' d m pl (ps ++ [⟨f, t, l, 0, false⟩]) ∧ Fr (fun k => k = d ∨ k = m) W w' := by
  obtain ⟨sv, T, h1, h2⟩ := h.at_
  subst hz
  refine (send_ok d m pl f t ps sv T x l W h1 hf ht hx hxd hl hn).mono ?_
  rintro e w' ⟨rfl, sv', T', hN, hf', hT⟩
  exact ⟨rfl, ⟨⟨sv', T', hN, fun g hg => (hT g hg).elim (h2 g) (Nat.le_trans h.fr.size)⟩, h.ab hf', h.d, h.m⟩, hf'⟩
theorem ns_send_bad (d m : Nat) (pl f t : Int) (ps : List PK) (x : Value) (w W : World) (h : NS w W d m pl ps) (hb : isP pl f = false ∨ isP pl t = false) :
    Calls Try.prog 9 #[.pointer (some ⟨d, 0, none⟩), .int .i64 f, .int .i64 t, x] W fun e w' => e = .returned (.tuple #[.int .i64 0, .int .i64 1]) ∧ w' = W := by
  obtain ⟨sv, T, h1, h2⟩ := h.at_
  exact send_bad d m pl f t ps sv T x W h1 hb
theorem ns_copy (d m k : Nat) (pl : Int) (ps : List PK) (p : PK) (w W : World) (h : NS w W d m pl ps) (hk : ps[k]? = some p) (hp : p.gone = 0) (hn : ps.length ≤ 1048576) (z z' : Int) (hz : z = (k : Int) + 1) (hz' : z' = (ps.length : Int) + 1) :
    Calls Try.prog 10 #[.pointer (some ⟨d, 0, none⟩), .int .i64 z] W fun e w' => e = .returned (.tuple #[.int .i64 z', .int .i64 0]) ∧ NS w w' d m pl (ps ++ [{ p with cp := true }]) ∧ Fr (fun k => k = d ∨ k = m) W w' := by
  obtain ⟨sv, T, h1, h2⟩ := h.at_
  subst hz hz'
  refine (copy_ok d m k pl ps p sv T W h1 hk hp hn).mono ?_
  rintro e w' ⟨rfl, sv', hN, hf'⟩
  exact ⟨rfl, ⟨⟨sv', T, hN, h2⟩, h.ab hf', h.d, h.m⟩, hf'⟩
theorem ns_copy_no (d m : Nat) (pl z : Int) (ps : List PK) (w W : World) (h : NS w W d m pl ps) (hz : (Lit.int .i64 z).wf = true) (hu : und ps z = false) :
    Calls Try.prog 10 #[.pointer (some ⟨d, 0, none⟩), .int .i64 z] W fun e w' => e = .returned (.tuple #[.int .i64 0, .int .i64 15]) ∧ NS w w' d m pl ps ∧ Fr (fun _ => False) W w' := by
  obtain ⟨sv, T, h1, h2⟩ := h.at_
  refine (copy_no d m pl z ps sv T W h1 hz hu).mono ?_
  rintro e w' ⟨rfl, hf⟩
  exact ⟨rfl, h.go hf, hf⟩
theorem ns_deliver (d m k : Nat) (pl : Int) (ps : List PK) (p : PK) (w W : World) (h : NS w W d m pl ps) (hk : ps[k]? = some p) (hp : p.gone = 0) (hn : ps.length ≤ 1048576) (z : Int) (hz : z = (k : Int) + 1) :
    Calls Try.prog 12 #[.pointer (some ⟨d, 0, none⟩), .int .i64 z] W fun e w' => ∃ ao c, e = .returned (.tuple #[.agg #[.int .i64 z, .int .i64 p.f, .int .i64 p.t, .slice ao p.b.length c], .int .i64 0]) ∧ w'.ownsRow W.heap.size 5 1 (.slice ao p.b.length c) p.b.length (cellsOf p.b) ∧ NS w w' d m pl (ps.set k { p with gone := 1 }) ∧ Fr (fun k => k = d ∨ k = m) W w' := by
  obtain ⟨sv, T, h1, h2⟩ := h.at_
  subst hz
  refine (deliver_ok d m k pl ps p sv T W h1 hk hp hn).mono ?_
  rintro e w' ⟨ao, c, rfl, hv, hN, hf'⟩
  exact ⟨ao, c, rfl, hv, ⟨⟨sv, T, hN, h2⟩, h.ab hf', h.d, h.m⟩, hf'⟩
theorem ns_deliver_no (d m : Nat) (pl z : Int) (ps : List PK) (w W : World) (h : NS w W d m pl ps) (hz : (Lit.int .i64 z).wf = true) (hu : und ps z = false) :
    Calls Try.prog 12 #[.pointer (some ⟨d, 0, none⟩), .int .i64 z] W fun e w' => e = .returned (.tuple #[.agg #[.int .i64 0, .int .i64 0, .int .i64 0, .slice none 0 0], .int .i64 15]) ∧ NS w w' d m pl ps ∧ Fr (fun _ => False) W w' := by
  obtain ⟨sv, T, h1, h2⟩ := h.at_
  refine (deliver_no d m pl z ps sv T W h1 hz hu).mono ?_
  rintro e w' ⟨rfl, hf⟩
  exact ⟨rfl, h.go hf, hf⟩
theorem ns_drop (d m k : Nat) (pl : Int) (ps : List PK) (p : PK) (w W : World) (h : NS w W d m pl ps) (hk : ps[k]? = some p) (hp : p.gone = 0) (hn : ps.length ≤ 1048576) (z : Int) (hz : z = (k : Int) + 1) :
    Calls Try.prog 14 #[.pointer (some ⟨d, 0, none⟩), .int .i64 z] W fun e w' => e = .returned (.int .i64 0) ∧ NS w w' d m pl (ps.set k { p with gone := 2 }) ∧ Fr (fun k => k = d ∨ k = m) W w' := by
  obtain ⟨sv, T, h1, h2⟩ := h.at_
  subst hz
  refine (drop_ok d m k pl ps p sv T W h1 hk hp hn).mono ?_
  rintro e w' ⟨rfl, hN, hf'⟩
  exact ⟨rfl, ⟨⟨sv, T, hN, h2⟩, h.ab hf', h.d, h.m⟩, hf'⟩
theorem ns_drop_no (d m : Nat) (pl z : Int) (ps : List PK) (w W : World) (h : NS w W d m pl ps) (hz : (Lit.int .i64 z).wf = true) (hu : und ps z = false) :
    Calls Try.prog 14 #[.pointer (some ⟨d, 0, none⟩), .int .i64 z] W fun e w' => e = .returned (.int .i64 15) ∧ NS w w' d m pl ps ∧ Fr (fun _ => False) W w' := by
  obtain ⟨sv, T, h1, h2⟩ := h.at_
  refine (drop_no d m pl z ps sv T W h1 hz hu).mono ?_
  rintro e w' ⟨rfl, hf⟩
  exact ⟨rfl, h.go hf, hf⟩
theorem ns_lose (d m : Nat) (pl TO : Int) (ps : List PK) (w W : World) (h : NS w W d m pl ps) (hn : ps.length ≤ 1048576) :
    Calls Try.prog 15 #[.pointer (some ⟨d, 0, none⟩), .int .i64 TO] W fun e w' => e = .returned (.int .i64 (loseN TO ps : Nat)) ∧ NS w w' d m pl (ps.map (lostTo TO)) ∧ Fr (fun k => k = d ∨ k = m) W w' := by
  obtain ⟨sv, T, h1, h2⟩ := h.at_
  refine (lose_any d m pl TO ps sv T W h1 hn).mono ?_
  rintro e w' ⟨rfl, hN, hf'⟩
  exact ⟨rfl, ⟨⟨sv, T, hN, h2⟩, h.ab hf', h.d, h.m⟩, hf'⟩
theorem ns_count (d m : Nat) (pl : Int) (ps : List PK) (w W : World) (h : NS w W d m pl ps) :
    Calls Try.prog 16 #[.pointer (some ⟨d, 0, none⟩)] W fun e w' => e = .returned (.tuple #[.int .i64 (cS ps : Nat), .int .i64 (cC ps : Nat), .int .i64 (cD ps : Nat), .int .i64 (cL ps : Nat)]) ∧ NS w w' d m pl ps ∧ Fr (fun _ => False) W w' := by
  obtain ⟨sv, T, h1, h2⟩ := h.at_
  refine (count_any d m pl ps sv T W h1).mono ?_
  rintro e w' ⟨rfl, q, rfl⟩
  have hf : Fr (fun _ => False) W (W.drewN q) := (Fr.refl _ _).drewN q
  exact ⟨rfl, h.go hf, hf⟩
theorem ns_wait (d m : Nat) (pl : Int) (ps : List PK) (w W : World) (h : NS w W d m pl ps) (hn : ps.length ≤ 1048576) :
    Calls Try.prog 11 #[.pointer (some ⟨d, 0, none⟩)] W fun e w' => ∃ ao L c, e = .returned (.slice ao L.length c) ∧ OwK w' W.heap.size (.slice ao L.length c) L ∧ L.map told = wl ps ∧ NS w w' d m pl ps ∧ Fr (fun _ => False) W w' := by
  obtain ⟨sv, T, h1, h2⟩ := h.at_
  refine (waiting_any d m pl ps sv T W h1 hn).mono ?_
  rintro e w' ⟨v, L, rfl, hO, hL, hf⟩
  obtain ⟨ao, c, rfl⟩ := own_formX hO.row
  exact ⟨ao, L, c, rfl, hO, hL, h.go hf, hf⟩
/-- Same of what was handed out, and of what one knows. -/
theorem same_fr (x y : Value) (a : List Nat) (w : World) (hx : Src w x a) (hy : Src w y a) (ha : a.length ≤ 1048576) :
    Calls Try.prog 13 #[x, y] w fun e w' => e = .returned (.bool true) ∧ Fr (fun _ => False) w w' := by
  refine (same_any x y a a w hx hy (by omega)).mono ?_
  rintro e w' ⟨rfl, n, rfl⟩
  rw [same_self]
  exact ⟨rfl, (Fr.refl _ _).drewN n⟩
set_option maxRecDepth 100000 in
theorem awake14 (w : World) : Calls Try.prog 8 #[] w fun e w' => e = .returned (.bool true) ∧ Fr (fun _ => False) w w' := by
  go_enter Try.func8, Try.ntmps8
  go_wp2_with fail
  refine (ns_new 3 w w (by decide) (by decide) (Fr.refl _ _)).mono ?_
  rintro e w1 ⟨d, m, rfl, h1⟩
  have H1 := hide h1
  have hd1 := h1.dl
  clear h1
  go_wp2_with fail
  refine (ns_send d m 3 0 1 [] (.slice (some ⟨w1.heap.size, 0, none⟩) 1 1) [5] w _ ((unhide H1).go (box1 _ _)) rfl rfl (lit_srcW w1 [5] #[.int .u8 5] 1 rfl) (fun g o n c e => by cases e; omega) (by decide) (by decide) 1 rfl).mono ?_
  rintro e w2 ⟨rfl, h2, _⟩
  have H2 := hide h2
  clear h2
  go_wp2_with fail
  refine (ns_deliver d m 0 3 _ ⟨0, 1, [5], 0, false⟩ w w2 (unhide H2) rfl rfl (by decide) 1 rfl).mono ?_
  rintro e w3 ⟨ao, c, rfl, hv, h3, _⟩
  have H3 := hide (And.intro h3 (own_src (l := [5]) hv))
  clear h3 hv H2
  go_wp2_with fail
  refine (same_fr _ _ [5] _ ((unhide H3).2.fr (box2 _ _ _) (fun _ _ _ _ _ h => h)) ?_ (by decide)).mono ?_
  · have := lit_srcW (w3.alloc (.cells #[.int .i64 1, .int .i64 0, .int .i64 1, .slice ao 1 c] 34)) [5] #[.int .u8 5] 1 rfl
    simpa using this
  · rintro e w4 ⟨rfl, hf⟩
    have HF := hide ((unhide H3).1.fr.trans ((box2 _ _ _).trans hf (fun _ _ h => h)) (fun _ _ h => h))
    clear hf H3
    go_wp2_with fail
    go_ret
    exact ⟨rfl, unhide HF⟩
end Go.Proofs.Ytedmhpplhbaglaa
