import Derived.Test.YtjokmlnghpnlbaaDoorPk1
import Derived.Deep.RegionHeld3
import Derived.Laws.StructEq
namespace Go.Proofs.YtjokmlnghpnlbaaDoor
open Go.RowKit

/-- A struct of three cells that was boxed. -/
theorem box3 {w wA : World} {a b c : Value} {ty : Nat} (hf : Fr (fun _ => False) (w.alloc (.cells #[a, b, c] ty)) wA) :
    wA.cell? ⟨w.heap.size, 0, none⟩ = some a ∧ wA.cell? ⟨w.heap.size, 1, none⟩ = some b ∧ wA.cell? ⟨w.heap.size, 2, none⟩ = some c ∧ Fr (fun _ => False) w wA := by
  have hc : ∀ j, wA.cell? ⟨w.heap.size, j, none⟩ = (#[a, b, c] : Array Value)[j]? := fun j => (hf.cell (p := ⟨w.heap.size, j, none⟩) (by simp) (fun h => h)).trans (World.cell?_alloc_at _ _ _ _ rfl)
  exact ⟨hc 0, hc 1, hc 2, ((Fr.refl _ _).alloc _).trans hf (fun _ _ h => h)⟩
theorem pow_lt63 {h n : Nat} (hl : 2 ^ h ≤ n) (hn : n ≤ 8000000) : h < 24 := by
  apply Classical.byContradiction
  intro hc
  have : 2 ^ 24 ≤ 2 ^ h := Nat.pow_le_pow_right (by decide) (by omega)
  have h5 : (2 : Nat) ^ 24 = 16777216 := by decide
  omega
set_option maxRecDepth 100000 in
set_option maxHeartbeats 1000000 in
theorem root_whole (tb wi : Nat) (hw1 : 1 ≤ wi) (hw32 : wi ≤ 32) (L : List (List Nat)) (f h : Nat) (w : World) (hT : Tk w tb wi L) (hA : Al f (2 ^ h)) (hl : f + 2 ^ h ≤ L.length) : RootSays tb wi L f (2 ^ h) w := by
  unfold RootSays
  have hle : L.length ≤ 8000000 := hT.len
  have hLw : ∀ p ∈ L, p.length = wi := hT.wid
  have hgt : GT w := hT.gt
  have hp : 0 < 2 ^ h := Nat.pow_pos (by decide)
  have hh := pow_lt63 (h := h) (n := L.length) (by omega) hle
  have hq := hA.whole
  have hwh : ∀ w', Calls Tryd.prog 91 #[pv (.pointer (some ⟨tb, 0, none⟩)) f (2 ^ h)] w' fun e w'' => e = .returned (.bool true) ∧ Fr (fun _ => False) w' w'' := fun w' => by
    have := whole_any (some ⟨tb, 0, none⟩) f (2 ^ h) w' (by omega)
    rw [decide_eq_true (oc_pow h (by omega))] at this
    exact this
  have htz : ∀ w', Fr (fun _ => False) w w' → Calls Tryd.prog 92 #[.int .u64 ((2 ^ h : Nat) : Int)] w' fun e w'' => e = .returned (.int .i64 (h : Nat)) ∧ w'' = w' := fun w' hf => by
    have := tz_any (2 ^ h) (by omega) w' (fun _ => (hgt.fr0 hf).1)
    rw [ctz_pow h (by omega)] at this
    exact this
  have hM := mth_wid wi hw1 hw32 (blk L f (2 ^ h)) (fun p hp => hLw p (blk_mem _ _ _ p hp))
  have hkept : ∀ w', Fr (fun _ => False) w w' → Calls Tryd.prog 88 #[.pointer (some ⟨tb, 0, none⟩), .int .i64 h, .int .i64 ((f / 2 ^ h : Nat) : Int)] w' fun e w'' => ∃ g J c, e = .returned (.slice (some ⟨g, J, none⟩) wi c) ∧ Fr (fun _ => False) w' w'' ∧ Sl w'' (.slice (some ⟨g, J, none⟩) wi c) (mth wi (blk L f (2 ^ h))) := fun w' hf => by
    have := (hT.fr0 hf).kept hw1 hw32 h (f / 2 ^ h) (by rw [Nat.succ_mul, hq]; exact hl)
    rw [hq] at this
    exact this
  generalize mth wi (blk L f (2 ^ h)) = M at *
  have hdiv : Int.tdiv (f : Int) ((2 ^ h : Nat) : Int) = ((f / 2 ^ h : Nat) : Int) := by rw [Int.tdiv_eq_ediv_of_nonneg (by omega)]; rfl
  have hfq : f / 2 ^ h ≤ f := Nat.div_le_self _ _
  generalize f / 2 ^ h = q at *
  generalize hn : 2 ^ h = n at *
  have hwq : IntKind.i64.wrap (q : Int) = (q : Int) := by rw [IntKind.wrap_i64]; omega
  have hcv : IntKind.u64.wrap (n : Int) = (n : Int) := by rw [IntKind.wrap_u64]; omega
  have hn0 : ¬ n = 0 := by omega
  have hnz : ((n : Int) == 0) = false := beq_false_of_ne (by omega)
  have hclone : ∀ g J c w', Sl w' (.slice (some ⟨g, J, none⟩) wi c) M → Calls Tryd.prog 35 #[.slice (some ⟨g, J, none⟩) wi c] w' fun e w'' => ∃ yo yc, e = .returned (.slice yo wi yc) ∧ OB w' w'' yo yc M := fun g J c w' hs => clone_any g J wi c M w' hs hM (by omega)
  have HC := hide (And.intro hwh (And.intro htz (And.intro hkept hclone)))
  clear hwh htz hkept hclone hT hgt hLw hq hA hl hM hle hfq hn hp hh
  unfold pv at HC ⊢
  go_enter Tryd.func73, Tryd.ntmps73
  go_wp2_with fail
  refine ((unhide HC).1 _).mono ?_
  rintro e wA ⟨rfl, hFA⟩
  obtain ⟨b0, b1, b2, hFw⟩ := box3 hFA
  have HFA := hide hFw
  have lP := lt_of_cell b0
  clear hFA hFw
  generalize w.heap.size = P0 at *
  go_wp2_with fail
  go_region_held3 (fun w' => w'.cell? ⟨P0, 0, none⟩ = some (.pointer (some ⟨tb, 0, none⟩)) ∧ w'.cell? ⟨P0, 1, none⟩ = some (.int .i64 f) ∧ w'.cell? ⟨P0, 2, none⟩ = some (.int .i64 n))
    (first | assumption | exact ⟨b0, b1, b2⟩ | exact ⟨(fD.cell (p := ⟨P0, 0, none⟩) lP (fun h => h)).trans b0, (fD.cell (p := ⟨P0, 1, none⟩) lP (fun h => h)).trans b1, (fD.cell (p := ⟨P0, 2, none⟩) lP (fun h => h)).trans b2⟩ | exact ⟨(fC.cell (p := ⟨P0, 0, none⟩) lP (fun h => h)).trans b0, (fC.cell (p := ⟨P0, 1, none⟩) lP (fun h => h)).trans b1, (fC.cell (p := ⟨P0, 2, none⟩) lP (fun h => h)).trans b2⟩)
    (first
      | (go_at_call 92; refine ((unhide HC).2.1 _ (by first | exact (unhide HFA).drew | exact (unhide HFA))).mono ?_; rintro e wB ⟨rfl, rfl⟩)
      | (go_at_call 88; refine ((unhide HC).2.2.1 _ (by first | exact (unhide HFA).drew | exact (unhide HFA))).mono ?_; rintro e wC ⟨g, J, c, rfl, fC, sC⟩)
      | (go_at_call 35; refine ((unhide HC).2.2.2 _ _ _ _ sC).mono ?_; rintro e wD ⟨yo, yc, rfl, oD⟩; have fD := fC.trans oD.fr (fun _ _ h => h)))
  have HE := hide (oD.base' ((unhide HFA).drew.trans fC (fun _ _ h => h)))
  clear fC sC oD fD
  go_wp2_with fail
  go_ret
  exact ⟨yo, yc, rfl, unhide HE⟩
set_option maxRecDepth 100000 in
set_option maxHeartbeats 1000000 in
theorem root_split (tb wi : Nat) (hw1 : 1 ≤ wi) (hw32 : wi ≤ 32) (L : List (List Nat)) (f n : Nat) (w : World) (hT : Tk w tb wi L) (h3 : 3 ≤ n) (hnw : oc n ≠ 1) (hl : f + n ≤ L.length)
    (ih1 : ∀ w', Tk w' tb wi L → RootSays tb wi L f (hf n) w') (ih2 : ∀ w', Tk w' tb wi L → RootSays tb wi L (f + hf n) (n - hf n) w') : RootSays tb wi L f n w := by
  unfold RootSays at *
  have hle : L.length ≤ 8000000 := hT.len
  have hgs : GS w := hT.gs
  have hwh : ∀ w', Calls Tryd.prog 91 #[pv (.pointer (some ⟨tb, 0, none⟩)) f n] w' fun e w'' => e = .returned (.bool false) ∧ Fr (fun _ => False) w' w'' := fun w' => by
    have := whole_any (some ⟨tb, 0, none⟩) f n w' (by omega)
    rw [decide_eq_false hnw] at this
    exact this
  have hpt := fun w' => parts_any (some ⟨tb, 0, none⟩) f n w' (by omega) (by omega)
  have hM1 := hT.mw hw1 hw32 f (hf n)
  have hM2 := hT.mw hw1 hw32 (f + hf n) (n - hf n)
  have hb1 := hT.mb f (hf n)
  have hb2 := hT.mb (f + hf n) (n - hf n)
  have hMM := blk_halves L f n (by omega) hl wi
  have r1 := fun w' (hf : Fr (fun _ => False) w w') => ih1 w' (hT.fr0 hf)
  have r2 := fun w' (hf : Fr (fun _ => False) w w') => ih2 w' (hT.fr0 hf)
  rw [hMM]
  clear hMM ih1 ih2
  have hnd := nd_len wi hw1 hw32 (mth wi (blk L f (hf n))) (mth wi (blk L (f + hf n) (n - hf n)))
  generalize mth wi (blk L f (hf n)) = M1 at *
  generalize mth wi (blk L (f + hf n) (n - hf n)) = M2 at *
  generalize f + hf n = F2 at *
  generalize n - hf n = N2 at *
  generalize hf n = K at *
  have hnode : ∀ w' x y, GS w' → Sl w' x M1 → Sl w' y M2 → Calls Tryd.prog 87 #[.int .i64 wi, x, y] w' fun e w'' => ∃ yo, e = .returned (.slice yo wi wi) ∧ OB w' w'' yo wi (nd wi M1 M2) := fun w' x y hg hx hy => by
    have := node_any (wi : Int) x y M1 M2 w' hg hx hy (by omega) (by omega)
    rw [hnd] at this
    exact this
  obtain ⟨c0, c1, htb⟩ := hT.c0
  have HC := hide (And.intro hwh (And.intro hpt (And.intro r1 (And.intro r2 (And.intro hnode (And.intro hgs (And.intro hb1 (And.intro hb2 (And.intro hM1 hM2)))))))))
  have hn0 : ((n : Int) == 0) = false := beq_false_of_ne (by omega)
  have hn1 : ¬ n = 0 := by omega
  clear hwh hpt r1 r2 hnode hT hgs hb1 hb2 hM1 hM2 hle hl hnw hnd c1
  unfold pv at HC ⊢
  go_enter Tryd.func73, Tryd.ntmps73
  go_wp2_with fail
  refine ((unhide HC).1 _).mono ?_
  rintro e wA ⟨rfl, hFA⟩
  obtain ⟨b0, b1, b2, hFw⟩ := box3 hFA
  have HFA := hide hFw
  clear hFA hFw
  generalize hP0 : w.heap.size = P0 at *
  go_wp2_with fail
  refine ((unhide HC).2.1 _).mono ?_
  rintro e wB ⟨rfl, hFB⟩
  have a0 := (hFB.cell (p := ⟨P0, 0, none⟩) (lt_of_cell b0) (fun h => h)).trans b0
  have HFB := hide ((unhide HFA).trans hFB (fun _ _ h => h))
  clear hFB b0 b1 b2 HFA
  go_wp2_with fail
  obtain ⟨W, hW⟩ : ∃ W, (wB.alloc (.cells #[.pointer (some ⟨tb, 0, none⟩), .int .i64 f, .int .i64 K] 94)).alloc (.cells #[.pointer (some ⟨tb, 0, none⟩), .int .i64 F2, .int .i64 N2] 94) = W := ⟨_, rfl⟩
  rw [hW]
  obtain ⟨x0, x1, x2, y0, y1, y2, hFW⟩ := two3 wB _ _ _ _ _ _ _ W hW
  have p0 := (hFW.cell (p := ⟨P0, 0, none⟩) (lt_of_cell a0) (fun h => h)).trans a0
  have HFW := hide ((unhide HFB).trans hFW (fun _ _ h => h))
  have t0 := ((unhide HFW).cell (p := ⟨tb, 0, none⟩) (lt_of_cell c0) (fun h => h)).trans c0
  clear hW hFW a0
  generalize wB.heap.size = Z at *
  have hS : ∀ w', Fr (fun _ => False) W w' → w'.cell? ⟨P0, 0, none⟩ = some (.pointer (some ⟨tb, 0, none⟩)) ∧ w'.cell? ⟨tb, 0, none⟩ = some (.int .i64 wi) ∧ w'.cell? ⟨Z, 0, none⟩ = some (.pointer (some ⟨tb, 0, none⟩)) ∧ w'.cell? ⟨Z, 1, none⟩ = some (.int .i64 f) ∧ w'.cell? ⟨Z, 2, none⟩ = some (.int .i64 K) ∧ w'.cell? ⟨Z + 1, 0, none⟩ = some (.pointer (some ⟨tb, 0, none⟩)) ∧ w'.cell? ⟨Z + 1, 1, none⟩ = some (.int .i64 F2) ∧ w'.cell? ⟨Z + 1, 2, none⟩ = some (.int .i64 N2) := fun w' hf =>
    ⟨(hf.cell (lt_of_cell p0) (fun h => h)).trans p0, (hf.cell (lt_of_cell t0) (fun h => h)).trans t0, (hf.cell (lt_of_cell x0) (fun h => h)).trans x0, (hf.cell (lt_of_cell x1) (fun h => h)).trans x1, (hf.cell (lt_of_cell x2) (fun h => h)).trans x2, (hf.cell (lt_of_cell y0) (fun h => h)).trans y0, (hf.cell (lt_of_cell y1) (fun h => h)).trans y1, (hf.cell (lt_of_cell y2) (fun h => h)).trans y2⟩
  have HS := hide hS
  clear hS
  have T1 : True := trivial
  go_region_held3 (fun w' => w'.cell? ⟨P0, 0, none⟩ = some (.pointer (some ⟨tb, 0, none⟩)) ∧ w'.cell? ⟨tb, 0, none⟩ = some (.int .i64 wi) ∧ w'.cell? ⟨Z, 0, none⟩ = some (.pointer (some ⟨tb, 0, none⟩)) ∧ w'.cell? ⟨Z, 1, none⟩ = some (.int .i64 f) ∧ w'.cell? ⟨Z, 2, none⟩ = some (.int .i64 K) ∧ w'.cell? ⟨Z + 1, 0, none⟩ = some (.pointer (some ⟨tb, 0, none⟩)) ∧ w'.cell? ⟨Z + 1, 1, none⟩ = some (.int .i64 F2) ∧ w'.cell? ⟨Z + 1, 2, none⟩ = some (.int .i64 N2))
    (first | assumption | exact (unhide HS) _ (Fr.refl _ _).drew | exact (unhide HS) _ fE | exact (unhide HS) _ fD | exact (unhide HS) _ fC)
    (first
      | (go_at_call 73; clear T1; refine ((unhide HC).2.2.1 _ (by exact (unhide HFW).drew)).mono ?_; rintro e wC ⟨zo, zc, rfl, oC⟩; have fC : Fr (fun _ => False) W wC := (Fr.refl _ _).drew.trans oC.fr (fun _ _ h => h))
      | (go_at_call 73; refine ((unhide HC).2.2.2.1 _ (by exact (unhide HFW).trans fC (fun _ _ h => h))).mono ?_; rintro e wD ⟨yo, yc, rfl, oD⟩; have fD : Fr (fun _ => False) W wD := fC.trans oD.fr (fun _ _ h => h))
      | (go_at_call 87; refine ((unhide HC).2.2.2.2.1 _ _ _ (by exact (unhide HC).2.2.2.2.2.1.fr0 ((unhide HFW).trans fD (fun _ _ h => h))) (by have h := (oC.sl (unhide HC).2.2.2.2.2.2.1).fr0 oD.fr; rw [(unhide HC).2.2.2.2.2.2.2.2.1] at h; exact h) (by have h := oD.sl (unhide HC).2.2.2.2.2.2.2.1; rw [(unhide HC).2.2.2.2.2.2.2.2.2] at h; exact h)).mono ?_; rintro e wE ⟨vo, rfl, oE⟩; have fE : Fr (fun _ => False) W wE := fD.trans oE.fr (fun _ _ h => h)))
  have HE := hide (oE.base' ((unhide HFW).trans fD (fun _ _ h => h)))
  clear oC oD oE fC fD fE
  go_wp2_with fail
  go_ret
  exact ⟨vo, wi, rfl, unhide HE⟩
/-- The root of a part. -/
theorem root_any (tb wi : Nat) (hw1 : 1 ≤ wi) (hw32 : wi ≤ 32) (L : List (List Nat)) (m : Nat) : ∀ (f n : Nat) (w : World), n ≤ m → Tk w tb wi L → Al f n → f + n ≤ L.length → RootSays tb wi L f n w := by
  induction m with
  | zero =>
    intro f n w hm hT _ _
    have e : n = 0 := by omega
    subst e
    exact root_nil tb wi hw1 hw32 L f w hT
  | succ m ih =>
    intro f n w hm hT hA hl
    by_cases h0 : n = 0
    · subst h0
      exact root_nil tb wi hw1 hw32 L f w hT
    · have hle := hT.len
      by_cases h1 : oc n = 1
      · obtain ⟨k, rfl⟩ := oc_one n (by omega) h1
        exact root_whole tb wi hw1 hw32 L f k w hT hA hl
      · have h3 : 3 ≤ n := by
          have e1 : n ≠ 1 := fun e => h1 (by rw [e]; exact oc_pow 0 (by decide))
          have e2 : n ≠ 2 := fun e => h1 (by rw [e]; exact oc_pow 1 (by decide))
          omega
        have hlt := hf_lt n (by omega)
        have hpos := hf_pos n
        obtain ⟨hA1, hA2⟩ := hA.halves (by omega)
        exact root_split tb wi hw1 hw32 L f n w hT h3 h1 hl (fun w' hT' => ih f (hf n) w' (by omega) hT' hA1 (by omega)) (fun w' hT' => ih (f + hf n) (n - hf n) w' (by omega) hT' hA2 (by omega))
end Go.Proofs.YtjokmlnghpnlbaaDoor

namespace Go.Proofs.YtjokmlnghpnlbaaDoor
open Go.RowKit

set_option maxRecDepth 100000 in
theorem troot_in (tb wi : Nat) (hw1 : 1 ≤ wi) (hw32 : wi ≤ 32) (L : List (List Nat)) (n : Nat) (w : World) (hT : Tk w tb wi L) (hn : n ≤ L.length) :
    Calls Tryd.prog 44 #[.pointer (some ⟨tb, 0, none⟩), .int .i64 n] w fun e w' => ∃ yo yc, e = .returned (.tuple #[.slice yo wi yc, .int .i64 0]) ∧ OB w w' yo yc (mth wi (blk L 0 n)) := by
  obtain ⟨c0, c1, htb⟩ := hT.c0
  have hhas : Calls Tryd.prog 69 #[.pointer (some ⟨tb, 0, none⟩), .int .i64 n] w fun e w' => e = .returned (.bool true) ∧ w' = w := by
    have := has_any tb L.length wi n w c0 c1
    rw [decide_eq_true (by omega)] at this
    exact this
  have hroot : ∀ w', Fr (fun _ => False) w w' → RootSays tb wi L 0 n w' := fun w' hf => root_any tb wi hw1 hw32 L n 0 n w' (Nat.le_refl _) (hT.fr0 hf) (al_zero n) (by omega)
  unfold RootSays at hroot
  have HG := hide (And.intro hhas hroot)
  clear hhas hroot hT c0 c1 htb
  go_enter Tryd.func44, Tryd.ntmps44
  go_wp2_with fail
  refine (unhide HG).1.mono ?_
  rintro e w0 ⟨rfl, rfl⟩
  go_wp2_with fail
  refine (first_any _ _ _).mono ?_
  rintro e w1 ⟨rfl, hF1⟩
  have H1 := hide hF1
  clear hF1
  go_wp2_with fail
  refine ((unhide HG).2 w1 (unhide H1)).mono ?_
  rintro e w2 ⟨yo, yc, rfl, hO⟩
  have H2 := hide (hO.base' (unhide H1))
  clear hO
  go_wp2_with fail
  go_returns
  exact ⟨yo, yc, rfl, unhide H2⟩
set_option maxRecDepth 100000 in
theorem troot_no (tb n : Nat) (wi k : Int) (w : World) (c0 : w.cell? ⟨tb, 0, none⟩ = some (.int .i64 wi)) (c1 : w.cell? ⟨tb, 1, none⟩ = some (.int .i64 n)) (h : ¬ (1 ≤ wi ∧ wi ≤ 32 ∧ 0 ≤ k ∧ k ≤ n)) :
    Calls Tryd.prog 44 #[.pointer (some ⟨tb, 0, none⟩), .int .i64 k] w fun e w' => e = .returned (.tuple #[.slice none 0 0, .int .i64 1]) ∧ w' = w := by
  have hhas : Calls Tryd.prog 69 #[.pointer (some ⟨tb, 0, none⟩), .int .i64 k] w fun e w' => e = .returned (.bool false) ∧ w' = w := by
    have := has_any tb n wi k w c0 c1
    rw [decide_eq_false h] at this
    exact this
  have HG := hide hhas
  clear hhas h c0 c1
  go_enter Tryd.func44, Tryd.ntmps44
  go_wp2_with fail
  refine (unhide HG).mono ?_
  rintro e w0 ⟨rfl, rfl⟩
  go_wp2_with fail
  go_returns
  exact ⟨rfl, rfl⟩
/-- A tree of entries. -/
theorem tk_of {w w' : World} {tb wi : Nat} (hw1 : 1 ≤ wi) (hw32 : wi ≤ 32) {es : List (List Nat)} {base : Nat} {xo : Option Addr} {cp : Nat} {vs : List Value} {rs : List (List Nat)} (hT : TrAt w' base tb wi es.length xo cp vs rs) (hR : RowsOf wi (es.map (lf wi)) 0 rs) (hg : GS w) (ht : GT w) (hf : Fr (fun _ => False) w w') (hn : es.length ≤ 8000000) : Tk w' tb wi (es.map (lf wi)) :=
  ⟨⟨base, xo, cp, vs, rs, by rw [List.length_map]; exact hT, hR⟩, hg.fr0 hf, ht.fr0 hf, map_lf_len wi hw1 hw32 es, fun p hp => by
    obtain ⟨e, _, rfl⟩ := List.mem_map.1 hp
    exact lf_lt _ _, by rw [List.length_map]; exact hn⟩
theorem dep_le (m : Nat) : ∀ f n tf tn, n ≤ m → dep f n tf tn ≤ n := by
  induction m with
  | zero => intro f n tf tn h; rw [dep, dif_pos (by omega)]; exact Nat.zero_le _
  | succ m ih =>
    intro f n tf tn h
    by_cases e : (f = tf ∧ n = tn) ∨ n < 2
    · rw [dep, dif_pos e]; exact Nat.zero_le _
    · have hlt := hf_lt n (by omega)
      have hp := hf_pos n
      by_cases hl : tf < f + hf n
      · rw [dep_l (by omega) (by omega) hl]
        have := ih f (hf n) tf tn (by omega)
        omega
      · rw [dep_r (by omega) (by omega) hl]
        have := ih (f + hf n) (n - hf n) tf tn (by omega)
        omega
end Go.Proofs.YtjokmlnghpnlbaaDoor

namespace Go.Proofs.YtjokmlnghpnlbaaDoor
open Go.RowKit

theorem Tryd.guard_span : Tryd.prog.eqGuardType Tryd.prog.depth 92 = false := by kernel_rfl
theorem Tryd.held_span : Tryd.prog.stoodInHeld 92 = false := by kernel_rfl
theorem Tryd.fields_span : Tryd.prog.underlying 92 = some (.struct (Tryd.prog.fieldsOf 92)) := by kernel_rfl
/-- Are two spans the same? -/
theorem eq_span (f n g m : Nat) (w : World) : (binOp .eql 92 (.agg #[.int .i64 f, .int .i64 n]) (.agg #[.int .i64 g, .int .i64 m])).run Tryd.prog w = .ok (.bool (decide (f = g ∧ n = m))) w := by
  rw [run_eql_struct, show (10000 : Nat) = 9999 + 1 from rfl, run_equalIn_agg _ 9999 _ _ _ Tryd.fields_span Tryd.held_span]
  have ig : ((f : Int) == (g : Int)) = decide (f = g) := by
    by_cases h : f = g
    · simp [h]
    · simp [h]; omega
  have im : ((n : Int) == (m : Int)) = decide (n = m) := by
    by_cases h : n = m
    · simp [h]
    · simp [h]; omega
  simp [Program.fieldsOf, Tryd.underlying92, Op.eqFields, go_sem, ig, im]
  by_cases h1 : f = g
  · by_cases h2 : n = m
    · simp [h1, h2]
    · simp [h1, h2]
  · simp [h1]
theorem two2 (w : World) (a0 a1 b0 b1 : Value) (ty : Nat) (W : World) (hW : (w.alloc (.cells #[a0, a1] ty)).alloc (.cells #[b0, b1] ty) = W) :
    W.cell? ⟨w.heap.size, 0, none⟩ = some a0 ∧ W.cell? ⟨w.heap.size, 1, none⟩ = some a1 ∧ W.cell? ⟨w.heap.size + 1, 0, none⟩ = some b0 ∧ W.cell? ⟨w.heap.size + 1, 1, none⟩ = some b1 ∧ Fr (fun _ => False) w W := by
  subst hW
  have e1 : w.heap.size + 1 = (w.alloc (.cells #[a0, a1] ty)).heap.size := by simp
  have A : ∀ j : Nat, ((w.alloc (.cells #[a0, a1] ty)).alloc (.cells #[b0, b1] ty)).cell? ⟨w.heap.size, j, none⟩ = (#[a0, a1] : Array Value)[j]? := fun j => by
    rw [World.cell?_alloc_past _ _ _ (by simp), World.cell?_alloc_at _ _ _ _ rfl]
  have B : ∀ j : Nat, ((w.alloc (.cells #[a0, a1] ty)).alloc (.cells #[b0, b1] ty)).cell? ⟨w.heap.size + 1, j, none⟩ = (#[b0, b1] : Array Value)[j]? := fun j => by
    rw [e1, World.cell?_alloc_at _ _ _ _ rfl]
  exact ⟨A 0, A 1, B 0, B 1, ((Fr.refl _ _).alloc _).alloc _⟩
def DepSays (f n tf tn : Nat) (w : World) : Prop := Calls Tryd.prog 93 #[sv f n, sv tf tn] w fun e w' => e = .returned (.int .i64 (dep f n tf tn : Nat)) ∧ Fr (fun _ => False) w w'
set_option maxRecDepth 100000 in
set_option maxHeartbeats 1000000 in
theorem depth_any (m : Nat) : ∀ (f n tf tn : Nat) (w : World), n ≤ m → f + n < 9223372036854775808 → Rch f n tf tn → DepSays f n tf tn w := by
  induction m with
  | zero =>
    intro f n tf tn w hm hb hr
    by_cases e : f = tf ∧ n = tn
    · obtain ⟨rfl, rfl⟩ := e
      unfold DepSays sv
      rw [dep_eq]
      have eqs := fun w => eq_span f n f n w
      simp only [decide_true, and_self] at eqs
      have eg := Tryd.guard_span
      go_enter Tryd.func93, Tryd.ntmps93
      go_wp2_with fail
      go_ret
      exact ⟨rfl, ((Fr.refl _ _).alloc _).alloc _⟩
    · have := (rch_ne hr e).1; omega
  | succ m ih =>
    intro f n tf tn w hm hb hr
    by_cases e : f = tf ∧ n = tn
    · obtain ⟨rfl, rfl⟩ := e
      unfold DepSays sv
      rw [dep_eq]
      have eqs := fun w => eq_span f n f n w
      simp only [decide_true, and_self] at eqs
      have eg := Tryd.guard_span
      go_enter Tryd.func93, Tryd.ntmps93
      go_wp2_with fail
      go_ret
      exact ⟨rfl, ((Fr.refl _ _).alloc _).alloc _⟩
    · obtain ⟨h2, r1, r2⟩ := rch_ne hr e
      have hlt := hf_lt n h2
      have hp := hf_pos n
      have eqs := fun w => eq_span f n tf tn w
      rw [decide_eq_false e] at eqs
      have eg := Tryd.guard_span
      have hhv := fun w => halves_any f n w hb h2
      have hbf := fun w => before_any tf tn (f + hf n) (n - hf n) w
      by_cases hl : tf < f + hf n
      · rw [decide_eq_true hl] at hbf
        have hrec := fun w => ih f (hf n) tf tn w (by omega) (by omega) (r1 hl)
        have hdl := dep_le _ f (hf n) tf tn (Nat.le_refl _)
        unfold DepSays at hrec ⊢
        rw [dep_l h2 e hl]
        generalize dep f (hf n) tf tn = D at *
        have w1 : IntKind.i64.wrap (1 + (D : Int)) = 1 + (D : Int) := by rw [IntKind.wrap_i64]; omega
        have hD : ((D + 1 : Nat) : Int) = 1 + (D : Int) := by omega
        rw [hD]
        clear hD hdl
        generalize f + hf n = F2 at *
        generalize n - hf n = N2 at *
        generalize hf n = K at *
        have HC := hide (And.intro hhv (And.intro hbf hrec))
        clear hhv hbf hrec r1 r2 hr ih hlt hp hl hb hm h2 e
        unfold sv at HC ⊢
        go_enter Tryd.func93, Tryd.ntmps93
        go_wp2_with fail
        obtain ⟨W0, hW0⟩ : ∃ W0, (w.alloc (.cells #[.int .i64 f, .int .i64 n] 92)).alloc (.cells #[.int .i64 tf, .int .i64 tn] 92) = W0 := ⟨_, rfl⟩
        rw [hW0]
        obtain ⟨-, -, b0, b1, hF0⟩ := two2 w _ _ _ _ _ W0 hW0
        refine ((unhide HC).1 _).mono ?_
        rintro e' wA ⟨rfl, hFA⟩
        have c0 := (hFA.cell (lt_of_cell b0) (fun h => h)).trans b0
        have c1 := (hFA.cell (lt_of_cell b1) (fun h => h)).trans b1
        have HF := hide (hF0.trans hFA (fun _ _ h => h))
        clear hFA hF0 b0 b1 hW0
        generalize w.heap.size + 1 = PB at *
        have l0 : PB < wA.heap.size := lt_of_cell c0
        have l1 : PB < wA.heap.size + 1 := Nat.lt_succ_of_lt l0
        go_wp2_with fail
        obtain ⟨W1, hW1⟩ : ∃ W1, (wA.alloc (.cells #[.int .i64 f, .int .i64 K] 92)).alloc (.cells #[.int .i64 F2, .int .i64 N2] 92) = W1 := ⟨_, rfl⟩
        rw [hW1]
        obtain ⟨x0, x1, y0, y1, hF1⟩ := two2 wA _ _ _ _ _ W1 hW1
        refine ((unhide HC).2.1 _).mono ?_
        rintro e' wB ⟨rfl, hFB⟩
        have hF1B := hF1.trans hFB (fun _ _ h => h)
        have d0 := (hF1B.cell (lt_of_cell c0) (fun h => h)).trans c0
        have d1 := (hF1B.cell (lt_of_cell c1) (fun h => h)).trans c1
        have z0 := (hFB.cell (lt_of_cell x0) (fun h => h)).trans x0
        have z1 := (hFB.cell (lt_of_cell x1) (fun h => h)).trans x1
        have HF2 := hide ((unhide HF).trans hF1B (fun _ _ h => h))
        clear hF1 hFB hF1B hW1 x0 x1 y0 y1 c0 c1 HF
        generalize wA.heap.size = Z at *
        go_wp2_with fail
        refine ((unhide HC).2.2 _).mono ?_
        rintro e' wC ⟨rfl, hFC⟩
        have HF3 := hide ((unhide HF2).trans hFC (fun _ _ h => h))
        clear hFC
        go_wp2_with fail
        go_ret
        exact ⟨rfl, unhide HF3⟩
      · rw [decide_eq_false hl] at hbf
        have hrec := fun w => ih (f + hf n) (n - hf n) tf tn w (by omega) (by omega) (r2 hl)
        have hdl := dep_le _ (f + hf n) (n - hf n) tf tn (Nat.le_refl _)
        unfold DepSays at hrec ⊢
        rw [dep_r h2 e hl]
        generalize dep (f + hf n) (n - hf n) tf tn = D at *
        have w1 : IntKind.i64.wrap (1 + (D : Int)) = 1 + (D : Int) := by rw [IntKind.wrap_i64]; omega
        have hD : ((D + 1 : Nat) : Int) = 1 + (D : Int) := by omega
        rw [hD]
        clear hD hdl
        generalize f + hf n = F2 at *
        generalize n - hf n = N2 at *
        generalize hf n = K at *
        have HC := hide (And.intro hhv (And.intro hbf hrec))
        clear hhv hbf hrec r1 r2 hr ih hlt hp hl hb hm h2 e
        unfold sv at HC ⊢
        go_enter Tryd.func93, Tryd.ntmps93
        go_wp2_with fail
        obtain ⟨W0, hW0⟩ : ∃ W0, (w.alloc (.cells #[.int .i64 f, .int .i64 n] 92)).alloc (.cells #[.int .i64 tf, .int .i64 tn] 92) = W0 := ⟨_, rfl⟩
        rw [hW0]
        obtain ⟨-, -, b0, b1, hF0⟩ := two2 w _ _ _ _ _ W0 hW0
        refine ((unhide HC).1 _).mono ?_
        rintro e' wA ⟨rfl, hFA⟩
        have c0 := (hFA.cell (lt_of_cell b0) (fun h => h)).trans b0
        have c1 := (hFA.cell (lt_of_cell b1) (fun h => h)).trans b1
        have HF := hide (hF0.trans hFA (fun _ _ h => h))
        clear hFA hF0 b0 b1 hW0
        generalize w.heap.size + 1 = PB at *
        have l0 : PB < wA.heap.size := lt_of_cell c0
        have l1 : PB < wA.heap.size + 1 := Nat.lt_succ_of_lt l0
        go_wp2_with fail
        obtain ⟨W1, hW1⟩ : ∃ W1, (wA.alloc (.cells #[.int .i64 f, .int .i64 K] 92)).alloc (.cells #[.int .i64 F2, .int .i64 N2] 92) = W1 := ⟨_, rfl⟩
        rw [hW1]
        obtain ⟨x0, x1, y0, y1, hF1⟩ := two2 wA _ _ _ _ _ W1 hW1
        refine ((unhide HC).2.1 _).mono ?_
        rintro e' wB ⟨rfl, hFB⟩
        have hF1B := hF1.trans hFB (fun _ _ h => h)
        have d0 := (hF1B.cell (lt_of_cell c0) (fun h => h)).trans c0
        have d1 := (hF1B.cell (lt_of_cell c1) (fun h => h)).trans c1
        have z0 := (hFB.cell (lt_of_cell y0) (fun h => h)).trans y0
        have z1 := (hFB.cell (lt_of_cell y1) (fun h => h)).trans y1
        have HF2 := hide ((unhide HF).trans hF1B (fun _ _ h => h))
        clear hF1 hFB hF1B hW1 x0 x1 y0 y1 c0 c1 HF
        generalize wA.heap.size + 1 = Z at *
        go_wp2_with fail
        refine ((unhide HC).2.2 _).mono ?_
        rintro e' wC ⟨rfl, hFC⟩
        have HF3 := hide ((unhide HF2).trans hFC (fun _ _ h => h))
        clear hFC
        go_wp2_with fail
        go_ret
        exact ⟨rfl, unhide HF3⟩
end Go.Proofs.YtjokmlnghpnlbaaDoor

namespace Go.Proofs.YtjokmlnghpnlbaaDoor
open Go.RowKit

/-- A claim. -/
def cv (wi tf tn : Nat) (rv x : Value) : Value := .agg #[.int .i64 wi, .int .i64 tf, .int .i64 tn, rv, x]
theorem box52 (w : World) (a0 a1 a2 a3 a4 b0 b1 : Value) (ta tb : Nat) (W : World) (hW : (w.alloc (.cells #[a0, a1, a2, a3, a4] ta)).alloc (.cells #[b0, b1] tb) = W) :
    (W.cell? ⟨w.heap.size, 0, none⟩ = some a0 ∧ W.cell? ⟨w.heap.size, 1, none⟩ = some a1 ∧ W.cell? ⟨w.heap.size, 2, none⟩ = some a2 ∧ W.cell? ⟨w.heap.size, 3, none⟩ = some a3 ∧ W.cell? ⟨w.heap.size, 4, none⟩ = some a4) ∧ W.cell? ⟨w.heap.size + 1, 0, none⟩ = some b0 ∧ W.cell? ⟨w.heap.size + 1, 1, none⟩ = some b1 ∧ Fr (fun _ => False) w W := by
  subst hW
  have e1 : w.heap.size + 1 = (w.alloc (.cells #[a0, a1, a2, a3, a4] ta)).heap.size := by simp
  have A : ∀ j : Nat, ((w.alloc (.cells #[a0, a1, a2, a3, a4] ta)).alloc (.cells #[b0, b1] tb)).cell? ⟨w.heap.size, j, none⟩ = (#[a0, a1, a2, a3, a4] : Array Value)[j]? := fun j => by
    rw [World.cell?_alloc_past _ _ _ (by simp), World.cell?_alloc_at _ _ _ _ rfl]
  have B : ∀ j : Nat, ((w.alloc (.cells #[a0, a1, a2, a3, a4] ta)).alloc (.cells #[b0, b1] tb)).cell? ⟨w.heap.size + 1, j, none⟩ = (#[b0, b1] : Array Value)[j]? := fun j => by
    rw [e1, World.cell?_alloc_at _ _ _ _ rfl]
  exact ⟨⟨A 0, A 1, A 2, A 3, A 4⟩, B 0, B 1, ((Fr.refl _ _).alloc _).alloc _⟩
theorem box5 (w : World) (a0 a1 a2 a3 a4 : Value) (ta : Nat) (W : World) (hW : w.alloc (.cells #[a0, a1, a2, a3, a4] ta) = W) :
    (W.cell? ⟨w.heap.size, 0, none⟩ = some a0 ∧ W.cell? ⟨w.heap.size, 1, none⟩ = some a1 ∧ W.cell? ⟨w.heap.size, 2, none⟩ = some a2 ∧ W.cell? ⟨w.heap.size, 3, none⟩ = some a3 ∧ W.cell? ⟨w.heap.size, 4, none⟩ = some a4) ∧ Fr (fun _ => False) w W := by
  subst hW
  have A : ∀ j : Nat, (w.alloc (.cells #[a0, a1, a2, a3, a4] ta)).cell? ⟨w.heap.size, j, none⟩ = (#[a0, a1, a2, a3, a4] : Array Value)[j]? := fun j => by
    rw [World.cell?_alloc_at _ _ _ _ rfl]
  exact ⟨⟨A 0, A 1, A 2, A 3, A 4⟩, (Fr.refl _ _).alloc _⟩
set_option maxRecDepth 100000 in
set_option maxHeartbeats 1000000 in
theorem inner_any (wi tf tn N xc g o : Nat) (ro : Option Addr) (rn rc : Nat) (v : Value) (w : World) (hc : w.cell? ⟨g, o + N, none⟩ = some v) (hcp : N + 1 ≤ xc) (hN : N < 9223372036854775807) (hv : ∃ a n c, v = .slice a n c) :
    Calls Tryd.prog 100 #[cv wi tf tn (.slice ro rn rc) (.slice (some ⟨g, o, none⟩) (N + 1) xc)] w fun e w' => e = .returned (.tuple #[cv wi tf tn (.slice ro rn rc) (.slice (some ⟨g, o, none⟩) N xc), v]) ∧ Fr (fun _ => False) w w' := by
  obtain ⟨a, n, c, rfl⟩ := hv
  unfold cv
  have w1 : IntKind.i64.wrap ((N : Int) + 1 - 1) = (N : Int) := by rw [IntKind.wrap_i64]; omega
  have hgl : g < w.heap.size := lt_of_cell hc
  have hgl1 : g < w.heap.size + 1 := Nat.lt_succ_of_lt hgl
  have q1 : (N : Int) < (N : Int) + 1 := by omega
  have q2 : (N : Int) ≤ (xc : Int) := by omega
  go_enter Tryd.func100, Tryd.ntmps100
  go_wp2_with fail
  go_returns
  exact ⟨rfl, ((Fr.refl _ _).alloc _).alloc _⟩
set_option maxRecDepth 100000 in
set_option maxHeartbeats 1000000 in
theorem sides_l (wi tf tn f n N xc g o : Nat) (ro : Option Addr) (rn rc : Nat) (v : Value) (w : World) (hc : w.cell? ⟨g, o + N, none⟩ = some v) (hcp : N + 1 ≤ xc) (hN : N < 9223372036854775807) (hv : ∃ a n c, v = .slice a n c) (h2 : 2 ≤ n) (hb : f + n < 9223372036854775808) (hl : tf < f + hf n) (M : List Nat)
    (ht : ∀ w', Fr (fun _ => False) w w' → Calls Tryd.prog 79 #[cv wi tf tn (.slice ro rn rc) (.slice (some ⟨g, o, none⟩) N xc), sv f (hf n)] w' fun e w'' => ∃ uo un uc, e = .returned (.slice uo un uc) ∧ Sl w'' (.slice uo un uc) M ∧ Fr (fun _ => False) w' w'') :
    Calls Tryd.prog 94 #[cv wi tf tn (.slice ro rn rc) (.slice (some ⟨g, o, none⟩) (N + 1) xc), sv f n] w fun e w' => ∃ uo un uc, e = .returned (.tuple #[.slice uo un uc, v]) ∧ Sl w' (.slice uo un uc) M ∧ Fr (fun _ => False) w w' := by
  obtain ⟨va, vn, vc, rfl⟩ := hv
  have hin := fun (w' : World) (hf : Fr (fun _ => False) w w') => inner_any wi tf tn N xc g o ro rn rc (.slice va vn vc) w' ((hf.cell (lt_of_cell hc) (fun h => h)).trans hc) hcp hN ⟨_, _, _, rfl⟩
  have hhv := fun w => halves_any f n w hb h2
  have hbf := fun w => before_any tf tn (f + hf n) (n - hf n) w
  rw [decide_eq_true hl] at hbf
  clear hl hc hcp hN hb h2
  generalize f + hf n = F2 at *
  generalize n - hf n = N2 at *
  generalize hf n = K at *
  have HC := hide (And.intro hhv (And.intro hbf (And.intro hin ht)))
  clear hhv hbf hin ht
  unfold sv cv at *
  go_enter Tryd.func94, Tryd.ntmps94
  go_wp2_with fail
  obtain ⟨W0, hW0⟩ : ∃ W0, (w.alloc (.cells #[.int .i64 wi, .int .i64 tf, .int .i64 tn, .slice ro rn rc, .slice (some ⟨g, o, none⟩) (N + 1) xc] 99)).alloc (.cells #[.int .i64 f, .int .i64 n] 92) = W0 := ⟨_, rfl⟩
  rw [hW0]
  obtain ⟨⟨a0, a1, a2, a3, a4⟩, -, -, hF0⟩ := box52 w _ _ _ _ _ _ _ _ _ W0 hW0
  refine ((unhide HC).1 _).mono ?_
  rintro e' wA ⟨rfl, hFA⟩
  have b0 := (hFA.cell (lt_of_cell a0) (fun h => h)).trans a0
  have b1 := (hFA.cell (lt_of_cell a1) (fun h => h)).trans a1
  have b2 := (hFA.cell (lt_of_cell a2) (fun h => h)).trans a2
  have b3 := (hFA.cell (lt_of_cell a3) (fun h => h)).trans a3
  have b4 := (hFA.cell (lt_of_cell a4) (fun h => h)).trans a4
  have HF := hide (hF0.trans hFA (fun _ _ h => h))
  clear hFA hF0 a0 a1 a2 a3 a4 hW0
  generalize w.heap.size = P at *
  have l0 : P < wA.heap.size := lt_of_cell b0
  have l1 : P < wA.heap.size + 1 := Nat.lt_succ_of_lt l0
  go_wp2_with fail
  obtain ⟨W1, hW1⟩ : ∃ W1, (wA.alloc (.cells #[.int .i64 f, .int .i64 K] 92)).alloc (.cells #[.int .i64 F2, .int .i64 N2] 92) = W1 := ⟨_, rfl⟩
  rw [hW1]
  obtain ⟨x0, x1, y0, y1, hF1⟩ := two2 wA _ _ _ _ _ W1 hW1
  refine ((unhide HC).2.2.1 _ ((unhide HF).trans hF1 (fun _ _ h => h))).mono ?_
  rintro e' wB ⟨rfl, hFB⟩
  have hF1B := hF1.trans hFB (fun _ _ h => h)
  have c1 := (hF1B.cell (lt_of_cell b1) (fun h => h)).trans b1
  have c2 := (hF1B.cell (lt_of_cell b2) (fun h => h)).trans b2
  have u0 := (hFB.cell (lt_of_cell x0) (fun h => h)).trans x0
  have u1 := (hFB.cell (lt_of_cell x1) (fun h => h)).trans x1
  have v0 := (hFB.cell (lt_of_cell y0) (fun h => h)).trans y0
  have v1 := (hFB.cell (lt_of_cell y1) (fun h => h)).trans y1
  have HF2 := hide ((unhide HF).trans hF1B (fun _ _ h => h))
  clear hF1 hFB hF1B hW1 x0 x1 y0 y1 b0 b1 b2 b3 b4 HF l0 l1
  generalize wA.heap.size = Z at *
  have k0 : P < wB.heap.size := lt_of_cell c1
  have k1 : Z < wB.heap.size := lt_of_cell u0
  have k2 : Z + 1 < wB.heap.size := lt_of_cell v0
  go_wp2_with fail
  obtain ⟨W2, hW2⟩ : ∃ W2, wB.alloc (.cells #[.int .i64 wi, .int .i64 tf, .int .i64 tn, .slice ro rn rc, .slice (some ⟨g, o, none⟩) N xc] 99) = W2 := ⟨_, rfl⟩
  rw [hW2]
  obtain ⟨⟨p0, p1, p2, p3, p4⟩, hF3⟩ := box5 wB _ _ _ _ _ _ W2 hW2
  refine ((unhide HC).2.1 _).mono ?_
  rintro e' wC ⟨rfl, hFC⟩
  have hF3C := hF3.trans hFC (fun _ _ h => h)
  have q0 := (hFC.cell (lt_of_cell p0) (fun h => h)).trans p0
  have q1 := (hFC.cell (lt_of_cell p1) (fun h => h)).trans p1
  have q2 := (hFC.cell (lt_of_cell p2) (fun h => h)).trans p2
  have q3 := (hFC.cell (lt_of_cell p3) (fun h => h)).trans p3
  have q4 := (hFC.cell (lt_of_cell p4) (fun h => h)).trans p4
  have m0 := (hF3C.cell (lt_of_cell u0) (fun h => h)).trans u0
  have m1 := (hF3C.cell (lt_of_cell u1) (fun h => h)).trans u1
  have HF4 := hide ((unhide HF2).trans hF3C (fun _ _ h => h))
  clear hF3 hFC hF3C hW2 p0 p1 p2 p3 p4 HF2 u0 u1 v0 v1 c1 c2 k0 k1 k2
  generalize wB.heap.size = Y at *
  go_wp2_with fail
  refine ((unhide HC).2.2.2 _ (unhide HF4)).mono ?_
  rintro e' wD ⟨uo, un, uc, rfl, hS, hFD⟩
  have HD := hide (And.intro hS ((unhide HF4).trans hFD (fun _ _ h => h)))
  clear hS hFD
  go_wp2_with fail
  go_returns
  exact ⟨uo, un, uc, rfl, (unhide HD).1, (unhide HD).2⟩
set_option maxRecDepth 100000 in
set_option maxHeartbeats 1000000 in
theorem sides_r (wi tf tn f n N xc g o : Nat) (ro : Option Addr) (rn rc : Nat) (v : Value) (w : World) (hc : w.cell? ⟨g, o + N, none⟩ = some v) (hcp : N + 1 ≤ xc) (hN : N < 9223372036854775807) (hv : ∃ a n c, v = .slice a n c) (h2 : 2 ≤ n) (hb : f + n < 9223372036854775808) (hl : ¬ tf < f + hf n) (M : List Nat)
    (ht : ∀ w', Fr (fun _ => False) w w' → Calls Tryd.prog 79 #[cv wi tf tn (.slice ro rn rc) (.slice (some ⟨g, o, none⟩) N xc), sv (f + hf n) (n - hf n)] w' fun e w'' => ∃ uo un uc, e = .returned (.slice uo un uc) ∧ Sl w'' (.slice uo un uc) M ∧ Fr (fun _ => False) w' w'') :
    Calls Tryd.prog 94 #[cv wi tf tn (.slice ro rn rc) (.slice (some ⟨g, o, none⟩) (N + 1) xc), sv f n] w fun e w' => ∃ uo un uc, e = .returned (.tuple #[v, .slice uo un uc]) ∧ Sl w' (.slice uo un uc) M ∧ Fr (fun _ => False) w w' := by
  obtain ⟨va, vn, vc, rfl⟩ := hv
  have hin := fun (w' : World) (hf : Fr (fun _ => False) w w') => inner_any wi tf tn N xc g o ro rn rc (.slice va vn vc) w' ((hf.cell (lt_of_cell hc) (fun h => h)).trans hc) hcp hN ⟨_, _, _, rfl⟩
  have hhv := fun w => halves_any f n w hb h2
  have hbf := fun w => before_any tf tn (f + hf n) (n - hf n) w
  rw [decide_eq_false hl] at hbf
  clear hl hc hcp hN hb h2
  generalize f + hf n = F2 at *
  generalize n - hf n = N2 at *
  generalize hf n = K at *
  have HC := hide (And.intro hhv (And.intro hbf (And.intro hin ht)))
  clear hhv hbf hin ht
  unfold sv cv at *
  go_enter Tryd.func94, Tryd.ntmps94
  go_wp2_with fail
  obtain ⟨W0, hW0⟩ : ∃ W0, (w.alloc (.cells #[.int .i64 wi, .int .i64 tf, .int .i64 tn, .slice ro rn rc, .slice (some ⟨g, o, none⟩) (N + 1) xc] 99)).alloc (.cells #[.int .i64 f, .int .i64 n] 92) = W0 := ⟨_, rfl⟩
  rw [hW0]
  obtain ⟨⟨a0, a1, a2, a3, a4⟩, -, -, hF0⟩ := box52 w _ _ _ _ _ _ _ _ _ W0 hW0
  refine ((unhide HC).1 _).mono ?_
  rintro e' wA ⟨rfl, hFA⟩
  have b0 := (hFA.cell (lt_of_cell a0) (fun h => h)).trans a0
  have b1 := (hFA.cell (lt_of_cell a1) (fun h => h)).trans a1
  have b2 := (hFA.cell (lt_of_cell a2) (fun h => h)).trans a2
  have b3 := (hFA.cell (lt_of_cell a3) (fun h => h)).trans a3
  have b4 := (hFA.cell (lt_of_cell a4) (fun h => h)).trans a4
  have HF := hide (hF0.trans hFA (fun _ _ h => h))
  clear hFA hF0 a0 a1 a2 a3 a4 hW0
  generalize w.heap.size = P at *
  have l0 : P < wA.heap.size := lt_of_cell b0
  have l1 : P < wA.heap.size + 1 := Nat.lt_succ_of_lt l0
  go_wp2_with fail
  obtain ⟨W1, hW1⟩ : ∃ W1, (wA.alloc (.cells #[.int .i64 f, .int .i64 K] 92)).alloc (.cells #[.int .i64 F2, .int .i64 N2] 92) = W1 := ⟨_, rfl⟩
  rw [hW1]
  obtain ⟨x0, x1, y0, y1, hF1⟩ := two2 wA _ _ _ _ _ W1 hW1
  refine ((unhide HC).2.2.1 _ ((unhide HF).trans hF1 (fun _ _ h => h))).mono ?_
  rintro e' wB ⟨rfl, hFB⟩
  have hF1B := hF1.trans hFB (fun _ _ h => h)
  have c1 := (hF1B.cell (lt_of_cell b1) (fun h => h)).trans b1
  have c2 := (hF1B.cell (lt_of_cell b2) (fun h => h)).trans b2
  have u0 := (hFB.cell (lt_of_cell x0) (fun h => h)).trans x0
  have u1 := (hFB.cell (lt_of_cell x1) (fun h => h)).trans x1
  have v0 := (hFB.cell (lt_of_cell y0) (fun h => h)).trans y0
  have v1 := (hFB.cell (lt_of_cell y1) (fun h => h)).trans y1
  have HF2 := hide ((unhide HF).trans hF1B (fun _ _ h => h))
  clear hF1 hFB hF1B hW1 x0 x1 y0 y1 b0 b1 b2 b3 b4 HF l0 l1
  generalize wA.heap.size = Z at *
  have k0 : P < wB.heap.size := lt_of_cell c1
  have k1 : Z < wB.heap.size := lt_of_cell u0
  have k2 : Z + 1 < wB.heap.size := lt_of_cell v0
  go_wp2_with fail
  obtain ⟨W2, hW2⟩ : ∃ W2, wB.alloc (.cells #[.int .i64 wi, .int .i64 tf, .int .i64 tn, .slice ro rn rc, .slice (some ⟨g, o, none⟩) N xc] 99) = W2 := ⟨_, rfl⟩
  rw [hW2]
  obtain ⟨⟨p0, p1, p2, p3, p4⟩, hF3⟩ := box5 wB _ _ _ _ _ _ W2 hW2
  refine ((unhide HC).2.1 _).mono ?_
  rintro e' wC ⟨rfl, hFC⟩
  have hF3C := hF3.trans hFC (fun _ _ h => h)
  have q0 := (hFC.cell (lt_of_cell p0) (fun h => h)).trans p0
  have q1 := (hFC.cell (lt_of_cell p1) (fun h => h)).trans p1
  have q2 := (hFC.cell (lt_of_cell p2) (fun h => h)).trans p2
  have q3 := (hFC.cell (lt_of_cell p3) (fun h => h)).trans p3
  have q4 := (hFC.cell (lt_of_cell p4) (fun h => h)).trans p4
  have m0 := (hF3C.cell (lt_of_cell v0) (fun h => h)).trans v0
  have m1 := (hF3C.cell (lt_of_cell v1) (fun h => h)).trans v1
  have HF4 := hide ((unhide HF2).trans hF3C (fun _ _ h => h))
  clear hF3 hFC hF3C hW2 p0 p1 p2 p3 p4 HF2 u0 u1 v0 v1 c1 c2 k0 k1 k2
  generalize wB.heap.size = Y at *
  go_wp2_with fail
  refine ((unhide HC).2.2.2 _ (unhide HF4)).mono ?_
  rintro e' wD ⟨uo, un, uc, rfl, hS, hFD⟩
  have HD := hide (And.intro hS ((unhide HF4).trans hFD (fun _ _ h => h)))
  clear hS hFD
  go_wp2_with fail
  go_returns
  exact ⟨uo, un, uc, rfl, (unhide HD).1, (unhide HD).2⟩
end Go.Proofs.YtjokmlnghpnlbaaDoor

namespace Go.Proofs.YtjokmlnghpnlbaaDoor
open Go.RowKit

theorem topv_wid (wi : Nat) (hw1 : 1 ≤ wi) (hw32 : wi ≤ 32) (r : List Nat) (hr : r.length = wi) (m : Nat) : ∀ f n tf tn (ps : List (List Nat)), n ≤ m → (topv wi r f n tf tn ps).length = wi := by
  intro f n tf tn ps _
  by_cases e : (f = tf ∧ n = tn) ∨ n < 2
  · rw [topv, dif_pos e]; exact hr
  · by_cases hl : tf < f + hf n
    · rw [topv_l (by omega) (by omega) hl]; exact nd_len wi hw1 hw32 _ _
    · rw [topv_r (by omega) (by omega) hl]; exact nd_len wi hw1 hw32 _ _
theorem getLastD_at (ps : List (List Nat)) (D : Nat) (h : ps.length = D + 1) : ps.getLastD [] = ps[D]'(by omega) := by
  have e : ps.length - 1 = D := by omega
  rw [List.getLastD_eq_getLast?, List.getLast?_eq_getElem?, e, List.getElem?_eq_getElem (by omega)]; rfl
set_option maxRecDepth 100000 in
set_option maxHeartbeats 2000000 in
/-- The root of a span as it comes out of a claim. -/
theorem top_any (wi : Nat) (hw1 : 1 ≤ wi) (hw32 : wi ≤ 32) (m : Nat) : ∀ (f n tf tn : Nat) (w : World) (ro : Option Addr) (rn rc : Nat) (r : List Nat) (x : Value) (vs : List Value) (ps : List (List Nat)), n ≤ m → f + n < 9223372036854775808 → Rch f n tf tn → GS w → Sl w (.slice ro rn rc) r → r.length = wi → Pcs w x vs ps → Cp x → ps.length = dep f n tf tn → (∀ p ∈ ps, p.length = wi) →
    Calls Tryd.prog 79 #[cv wi tf tn (.slice ro rn rc) x, sv f n] w fun e w' => ∃ uo un uc, e = .returned (.slice uo un uc) ∧ Sl w' (.slice uo un uc) (topv wi r f n tf tn ps) ∧ Fr (fun _ => False) w w' := by
  induction m with
  | zero =>
    intro f n tf tn w ro rn rc r x vs ps hm hb hr hg hs hrw hp hcx hpd hpw
    by_cases e : f = tf ∧ n = tn
    · obtain ⟨rfl, rfl⟩ := e
      rw [topv_eq]
      have eqs := fun w => eq_span f n f n w
      simp only [decide_true, and_self] at eqs
      have eg := Tryd.guard_span
      obtain ⟨xo, xc, rfl⟩ := hp.form
      have HS := hide hs
      clear hs hg hp hcx hpd hpw hrw
      generalize ps.length = N at *
      unfold sv cv
      go_enter Tryd.func79, Tryd.ntmps79
      go_wp2_with fail
      go_ret
      exact ⟨ro, rn, rc, rfl, (unhide HS).fr0 (((Fr.refl _ _).alloc _).alloc _), ((Fr.refl _ _).alloc _).alloc _⟩
    · have := (rch_ne hr e).1; omega
  | succ m ih =>
    intro f n tf tn w ro rn rc r x vs ps hm hb hr hg hs hrw hp hcx hpd hpw
    by_cases e : f = tf ∧ n = tn
    · obtain ⟨rfl, rfl⟩ := e
      rw [topv_eq]
      have eqs := fun w => eq_span f n f n w
      simp only [decide_true, and_self] at eqs
      have eg := Tryd.guard_span
      obtain ⟨xo, xc, rfl⟩ := hp.form
      have HS := hide hs
      clear hs hg hp hcx hpd hpw hrw
      generalize ps.length = N at *
      unfold sv cv
      go_enter Tryd.func79, Tryd.ntmps79
      go_wp2_with fail
      go_ret
      exact ⟨ro, rn, rc, rfl, (unhide HS).fr0 (((Fr.refl _ _).alloc _).alloc _), ((Fr.refl _ _).alloc _).alloc _⟩
    · obtain ⟨h2, r1, r2⟩ := rch_ne hr e
      have hlt := hf_lt n h2
      have hpos := hf_pos n
      have eqs := fun w => eq_span f n tf tn w
      rw [decide_eq_false e] at eqs
      have eg := Tryd.guard_span
      by_cases hl : tf < f + hf n
      · have hdp := dep_l h2 e hl
        obtain ⟨D, hD⟩ : ∃ D, dep f (hf n) tf tn = D := ⟨_, rfl⟩
        rw [hD] at hdp
        have hlen : ps.length = D + 1 := by rw [hpd, hdp]
        obtain ⟨xo, xc, rfl⟩ := hp.form
        rw [hlen] at hp hcx ⊢
        obtain ⟨g, o, v, rfl, hcell, -⟩ := hp.cell (Fr.refl _ _) D (by omega)
        have hDb : D ≤ n := by rw [← hD]; have := dep_le _ f (hf n) tf tn (Nat.le_refl _); omega
        have hDc : D < 9223372036854775807 := by have h1 := dep_le _ f n tf tn (Nat.le_refl _); omega
        have hcap : D + 1 ≤ xc := hcx _ _ _ rfl
        have hvD : vs[D]? = some v := by
          have hvl : D < vs.length := by rw [hp.len]; omega
          rcases hp.at_ with ⟨e', _⟩ | ⟨_, _, e', _⟩ | ⟨g', o', c', e', _, hc'⟩
          · simp at e'
          · simp at e'
          · simp only [Value.slice.injEq, Option.some.injEq, Addr.mk.injEq, and_true] at e'
            obtain ⟨⟨rfl, rfl⟩, _⟩ := e'
            have h1 := hc' D _ (List.getElem?_eq_getElem hvl)
            rw [h1] at hcell
            rw [List.getElem?_eq_getElem hvl, Option.some.inj hcell]
        have hsv : Sl w v ps[D] := hp.sl D v _ hvD (List.getElem?_eq_getElem (by omega))
        have hdl : ps.dropLast = ps.take D := by rw [List.dropLast_eq_take, hlen]; rfl
        have hgl : ps.getLastD [] = ps[D] := getLastD_at ps D hlen
        have hp' := hp.take D (by omega)
        have htop : ∀ w', Fr (fun _ => False) w w' → _ := fun w' hf' => ih f (hf n) tf tn w' ro rn rc r _ _ (ps.take D) (by omega) (by omega) (r1 hl) (hg.fr0 hf') (hs.fr0 hf') hrw (hp'.fr0 hf') (fun _ _ _ e => by cases e; omega) (by rw [List.length_take]; omega) (fun p hp => hpw p (List.mem_of_mem_take hp))
        rw [topv_l h2 e hl, hdl, hgl]
        have hTw := topv_wid wi hw1 hw32 r hrw _ f (hf n) tf tn (ps.take D) (Nat.le_refl _)
        have hAw := hpw ps[D] (List.getElem_mem _)
        obtain ⟨va, vn, vc, rfl⟩ : ∃ a n c, v = .slice a n c := by
          obtain ⟨a, c, e⟩ := hsv.form
          exact ⟨_, _, _, e⟩
        have hsd := fun (w' : World) (hf' : Fr (fun _ => False) w w') => sides_l wi tf tn f n D xc g o ro rn rc (.slice va vn vc) w' ((hf'.cell (lt_of_cell hcell) (fun h => h)).trans hcell) hcap hDc ⟨_, _, _, rfl⟩ h2 hb hl _ (fun w'' hf'' => htop w'' (hf'.trans hf'' (fun _ _ h => h)))
        generalize topv wi r f (hf n) tf tn (ps.take D) = T at *
        generalize ps[D] = A at *
        have hnd := nd_len wi hw1 hw32 T A
        have hnode : ∀ w' x y, GS w' → Sl w' x T → Sl w' y A → Calls Tryd.prog 87 #[.int .i64 wi, x, y] w' fun e w'' => ∃ yo, e = .returned (.slice yo wi wi) ∧ OB w' w'' yo wi (nd wi T A) := fun w' x y hg hx hy => by
          have := node_any (wi : Int) x y T A w' hg hx hy (by omega) (by omega)
          rw [hnd] at this
          exact this
        have HC := hide (And.intro hsd (And.intro hnode (And.intro hg (And.intro hsv (And.intro (nd_lt (wi : Int) T A) hnd)))))
        clear hDc hsd hnode hg hsv hp hp' htop hTw hAw hdl hgl hvD hDb hcap hcell hlen hdp hD hs hpw hrw hcx hpd ih r1 r2 hr hlt hpos hl hnd hm h2 hb e
        unfold sv cv at *
        go_enter Tryd.func79, Tryd.ntmps79
        go_wp2_with fail
        obtain ⟨W0, hW0⟩ : ∃ W0, (w.alloc (.cells #[.int .i64 wi, .int .i64 tf, .int .i64 tn, .slice ro rn rc, .slice (some ⟨g, o, none⟩) (D + 1) xc] 99)).alloc (.cells #[.int .i64 f, .int .i64 n] 92) = W0 := ⟨_, rfl⟩
        rw [hW0]
        obtain ⟨⟨a0, -⟩, -, -, hF0⟩ := box52 w _ _ _ _ _ _ _ _ _ W0 hW0
        refine ((unhide HC).1 _ hF0).mono ?_
        rintro e' wA ⟨uo, un, uc, rfl, hS, hFA⟩
        have b0 := (hFA.cell (lt_of_cell a0) (fun h => h)).trans a0
        have HA := hide (And.intro hS (hF0.trans hFA (fun _ _ h => h)))
        clear hFA hF0 a0 hW0 hS
        generalize w.heap.size = P at *
        go_wp2_with fail
        refine ((unhide HC).2.1 _ _ _ ((unhide HC).2.2.1.fr0 (unhide HA).2) (unhide HA).1 ((unhide HC).2.2.2.1.fr0 (unhide HA).2)).mono ?_
        rintro e' wB ⟨zo, rfl, hO⟩
        have hsl := hO.sl (unhide HC).2.2.2.2.1
        rw [(unhide HC).2.2.2.2.2] at hsl
        have HB := hide (And.intro hsl ((unhide HA).2.trans hO.fr (fun _ _ h => h)))
        clear hO hsl
        go_wp2_with fail
        go_ret
        exact ⟨zo, wi, wi, rfl, (unhide HB).1, (unhide HB).2⟩
      · have hdp := dep_r h2 e hl
        obtain ⟨D, hD⟩ : ∃ D, dep (f + hf n) (n - hf n) tf tn = D := ⟨_, rfl⟩
        rw [hD] at hdp
        have hlen : ps.length = D + 1 := by rw [hpd, hdp]
        obtain ⟨xo, xc, rfl⟩ := hp.form
        rw [hlen] at hp hcx ⊢
        obtain ⟨g, o, v, rfl, hcell, -⟩ := hp.cell (Fr.refl _ _) D (by omega)
        have hDb : D ≤ n := by rw [← hD]; have := dep_le _ (f + hf n) (n - hf n) tf tn (Nat.le_refl _); omega
        have hDc : D < 9223372036854775807 := by have h1 := dep_le _ f n tf tn (Nat.le_refl _); omega
        have hcap : D + 1 ≤ xc := hcx _ _ _ rfl
        have hvD : vs[D]? = some v := by
          have hvl : D < vs.length := by rw [hp.len]; omega
          rcases hp.at_ with ⟨e', _⟩ | ⟨_, _, e', _⟩ | ⟨g', o', c', e', _, hc'⟩
          · simp at e'
          · simp at e'
          · simp only [Value.slice.injEq, Option.some.injEq, Addr.mk.injEq, and_true] at e'
            obtain ⟨⟨rfl, rfl⟩, _⟩ := e'
            have h1 := hc' D _ (List.getElem?_eq_getElem hvl)
            rw [h1] at hcell
            rw [List.getElem?_eq_getElem hvl, Option.some.inj hcell]
        have hsv : Sl w v ps[D] := hp.sl D v _ hvD (List.getElem?_eq_getElem (by omega))
        have hdl : ps.dropLast = ps.take D := by rw [List.dropLast_eq_take, hlen]; rfl
        have hgl : ps.getLastD [] = ps[D] := getLastD_at ps D hlen
        have hp' := hp.take D (by omega)
        have htop : ∀ w', Fr (fun _ => False) w w' → _ := fun w' hf' => ih (f + hf n) (n - hf n) tf tn w' ro rn rc r _ _ (ps.take D) (by omega) (by omega) (r2 hl) (hg.fr0 hf') (hs.fr0 hf') hrw (hp'.fr0 hf') (fun _ _ _ e => by cases e; omega) (by rw [List.length_take]; omega) (fun p hp => hpw p (List.mem_of_mem_take hp))
        rw [topv_r h2 e hl, hdl, hgl]
        have hTw := topv_wid wi hw1 hw32 r hrw _ (f + hf n) (n - hf n) tf tn (ps.take D) (Nat.le_refl _)
        have hAw := hpw ps[D] (List.getElem_mem _)
        obtain ⟨va, vn, vc, rfl⟩ : ∃ a n c, v = .slice a n c := by
          obtain ⟨a, c, e⟩ := hsv.form
          exact ⟨_, _, _, e⟩
        have hsd := fun (w' : World) (hf' : Fr (fun _ => False) w w') => sides_r wi tf tn f n D xc g o ro rn rc (.slice va vn vc) w' ((hf'.cell (lt_of_cell hcell) (fun h => h)).trans hcell) hcap hDc ⟨_, _, _, rfl⟩ h2 hb hl _ (fun w'' hf'' => htop w'' (hf'.trans hf'' (fun _ _ h => h)))
        generalize topv wi r (f + hf n) (n - hf n) tf tn (ps.take D) = T at *
        generalize ps[D] = A at *
        have hnd := nd_len wi hw1 hw32 A T
        have hnode : ∀ w' x y, GS w' → Sl w' x A → Sl w' y T → Calls Tryd.prog 87 #[.int .i64 wi, x, y] w' fun e w'' => ∃ yo, e = .returned (.slice yo wi wi) ∧ OB w' w'' yo wi (nd wi A T) := fun w' x y hg hx hy => by
          have := node_any (wi : Int) x y A T w' hg hx hy (by omega) (by omega)
          rw [hnd] at this
          exact this
        have HC := hide (And.intro hsd (And.intro hnode (And.intro hg (And.intro hsv (And.intro (nd_lt (wi : Int) A T) hnd)))))
        clear hDc hsd hnode hg hsv hp hp' htop hTw hAw hdl hgl hvD hDb hcap hcell hlen hdp hD hs hpw hrw hcx hpd ih r1 r2 hr hlt hpos hl hnd hm h2 hb e
        unfold sv cv at *
        go_enter Tryd.func79, Tryd.ntmps79
        go_wp2_with fail
        obtain ⟨W0, hW0⟩ : ∃ W0, (w.alloc (.cells #[.int .i64 wi, .int .i64 tf, .int .i64 tn, .slice ro rn rc, .slice (some ⟨g, o, none⟩) (D + 1) xc] 99)).alloc (.cells #[.int .i64 f, .int .i64 n] 92) = W0 := ⟨_, rfl⟩
        rw [hW0]
        obtain ⟨⟨a0, -⟩, -, -, hF0⟩ := box52 w _ _ _ _ _ _ _ _ _ W0 hW0
        refine ((unhide HC).1 _ hF0).mono ?_
        rintro e' wA ⟨uo, un, uc, rfl, hS, hFA⟩
        have b0 := (hFA.cell (lt_of_cell a0) (fun h => h)).trans a0
        have HA := hide (And.intro hS (hF0.trans hFA (fun _ _ h => h)))
        clear hFA hF0 a0 hW0 hS
        generalize w.heap.size = P at *
        go_wp2_with fail
        refine ((unhide HC).2.1 _ _ _ ((unhide HC).2.2.1.fr0 (unhide HA).2) ((unhide HC).2.2.2.1.fr0 (unhide HA).2) (unhide HA).1).mono ?_
        rintro e' wB ⟨zo, rfl, hO⟩
        have hsl := hO.sl (unhide HC).2.2.2.2.1
        rw [(unhide HC).2.2.2.2.2] at hsl
        have HB := hide (And.intro hsl ((unhide HA).2.trans hO.fr (fun _ _ h => h)))
        clear hO hsl
        go_wp2_with fail
        go_ret
        exact ⟨zo, wi, wi, rfl, (unhide HB).1, (unhide HB).2⟩
end Go.Proofs.YtjokmlnghpnlbaaDoor

namespace Go.Proofs.YtjokmlnghpnlbaaDoor
open Go.RowKit

/-- Has each the width? -/
def wdq (j : Int) (ps : List (List Nat)) : Bool := ps.all fun p => decide ((p.length : Int) = j)
theorem wdq_take (j : Int) (ps : List (List Nat)) (k : Nat) (hk : k < ps.length) : wdq j (ps.take (k + 1)) = (wdq j (ps.take k) && decide ((ps[k].length : Int) = j)) := by
  rw [wdq, wdq, List.take_add_one, List.getElem?_eq_getElem hk, Option.toList_some, List.all_append]; simp
theorem wdq_false (j : Int) (ps : List (List Nat)) (k : Nat) (hk : k < ps.length) (h : ¬ (ps[k].length : Int) = j) : wdq j ps = false := by
  rw [wdq, List.all_eq_false]
  exact ⟨ps[k], List.getElem_mem hk, by simp [h]⟩
theorem wdq_true {j : Int} {ps : List (List Nat)} (h : wdq j ps = true) : ∀ p ∈ ps, (p.length : Int) = j := fun p hp => by
  rw [wdq, List.all_eq_true] at h
  simpa using h p hp
theorem Pcs.nth {w w' : World} {xo : Option Addr} {n xc : Nat} {vs : List Value} {ps : List (List Nat)} (h : Pcs w (.slice xo n xc) vs ps) (hf : Fr (fun _ => False) w w') (k : Nat) (hk : k < ps.length) : ∃ g o vo vc, xo = some ⟨g, o, none⟩ ∧ w'.cell? ⟨g, o + k, none⟩ = some (.slice vo ps[k].length vc) ∧ Sl w' (.slice vo ps[k].length vc) ps[k] := by
  obtain ⟨g, o, v, e, hc, hs, hcap, hlt, _⟩ := h.cell hf k hk
  obtain ⟨vo, vc, rfl⟩ := hs.form
  exact ⟨g, o, vo, vc, e, hc, hs, hcap, hlt.imp id (fun hh g o n c e => Nat.lt_of_lt_of_le (hh g o n c e) hf.size), h.byt _ (List.getElem_mem hk)⟩
set_option maxRecDepth 100000 in
set_option maxHeartbeats 1000000 in
/-- merkle.wide. -/
theorem wide_any (j : Int) (x : Value) (vs : List Value) (ps : List (List Nat)) (w : World) (hp : Pcs w x vs ps) (hn : ps.length < 4611686018427387904) :
    Calls Tryd.prog 75 #[.int .i64 j, x] w fun e w' => e = .returned (.bool (wdq j ps)) ∧ w' = w := by
  obtain ⟨xo, xc, rfl⟩ := hp.form
  have HG := hide (And.intro hp hn)
  clear hp hn
  generalize hN : ps.length = N at *
  go_enter Tryd.func75, Tryd.ntmps75
  go_wp2_with fail
  go_loopw [9] (fun iv wr => ∃ (k : Nat), k ≤ N ∧ iv = .int .i64 (k : Nat) ∧ wr = w ∧ wdq j (ps.take k) = true) (fun iv _ => N - (intOf iv).toNat)
  case atStart => exact ⟨0, Nat.zero_le _, rfl, rfl, by simp [wdq]⟩
  case round =>
    obtain ⟨k, hk, rfl, rfl, hw⟩ := hrel
    have hN8 := (unhide HG).2
    by_cases hlt : k < N
    · have hlt' : (k : Int) < (N : Int) := by omega
      have hke : k < ps.length := by omega
      obtain ⟨g, o, vo, vc, rfl, hcell, -⟩ := (unhide HG).1.nth (Fr.refl _ _) k hke
      by_cases he : (ps[k].length : Int) = j
      · have hw2 : wdq j (ps.take (k + 1)) = true := by rw [wdq_take j ps k hke, hw, decide_eq_true he]; rfl
        have HW := hide hw2
        clear hw2 hw
        have w1 : IntKind.i64.wrap ((k : Int) + 1) = (k : Int) + 1 := by rw [IntKind.wrap_i64]; omega
        have hee : ((ps[k].length : Int) == j) = true := by rw [he]; simp
        subst he
        generalize ps[k].length = EL at *
        go_wp2_with fail
        exact ⟨⟨k + 1, by omega, by go_num, by first | rfl | trivial, unhide HW⟩, by simp [intOf]; omega⟩
      · have hf := wdq_false j ps k hke he
        have HW := hide hf
        clear hf hw
        have hee : ((ps[k].length : Int) == j) = false := beq_false_of_ne he
        generalize ps[k].length = EL at *
        go_wp2_with fail
        go_ret
        exact ⟨by rw [unhide HW]; rfl, rfl⟩
    · have hkN : k = N := by omega
      have hlt' : ¬ (k : Int) < (N : Int) := by omega
      have htk : ps.take k = ps := List.take_of_length_le (by omega)
      rw [htk] at hw
      have HW := hide hw
      clear hw htk hkN
      go_wp2_with fail
      go_ret
      exact ⟨by rw [unhide HW]; rfl, rfl⟩
set_option maxRecDepth 100000 in
theorem ofEntry_any (wi i : Nat) (ro : Option Addr) (rn rc : Nat) (xo : Option Addr) (xn xc : Nat) (w : World) :
    Calls Tryd.prog 76 #[.int .i64 wi, .slice ro rn rc, .int .i64 i, .slice xo xn xc] w fun e w' => e = .returned (cv wi i 1 (.slice ro rn rc) (.slice xo xn xc)) ∧ Fr (fun _ => False) w w' := by
  unfold cv
  go_enter Tryd.func76, Tryd.ntmps76
  go_wp2_with fail
  go_returns
  exact ⟨rfl, (Fr.refl _ _).alloc _⟩
set_option maxRecDepth 100000 in
set_option maxHeartbeats 1000000 in
theorem fits_any (wi f n tf tn : Nat) (ro : Option Addr) (rn rc : Nat) (xo : Option Addr) (N xc : Nat) (w : World) (hb : f + n < 9223372036854775808) (hr : Rch f n tf tn) :
    Calls Tryd.prog 77 #[cv wi tf tn (.slice ro rn rc) (.slice xo N xc), sv f n] w fun e w' => e = .returned (.bool (decide (N = dep f n tf tn))) ∧ Fr (fun _ => False) w w' := by
  have hd := fun w => depth_any n f n tf tn w (Nat.le_refl _) hb hr
  unfold DepSays at hd
  have hee : ((N : Int) == ((dep f n tf tn : Nat) : Int)) = decide (N = dep f n tf tn) := by
    by_cases h : N = dep f n tf tn
    · simp [h]
    · rw [decide_eq_false h]; exact beq_false_of_ne (by omega)
  generalize dep f n tf tn = D at *
  generalize hB : decide (N = D) = B1 at *
  have HD := hide hd
  clear hd hr hb hB
  unfold cv sv at *
  go_enter Tryd.func77, Tryd.ntmps77
  go_wp2_with fail
  obtain ⟨W0, hW0⟩ : ∃ W0, (w.alloc (.cells #[.int .i64 wi, .int .i64 tf, .int .i64 tn, .slice ro rn rc, .slice xo N xc] 99)).alloc (.cells #[.int .i64 f, .int .i64 n] 92) = W0 := ⟨_, rfl⟩
  rw [hW0]
  obtain ⟨⟨a0, a1, a2, a3, a4⟩, b0, b1, hF0⟩ := box52 w _ _ _ _ _ _ _ _ _ W0 hW0
  have HF := hide hF0
  clear hF0 hW0 a0 a3
  generalize w.heap.size = P at *
  have hS : ∀ w', Fr (fun _ => False) W0 w' → w'.cell? ⟨P, 1, none⟩ = some (.int .i64 tf) ∧ w'.cell? ⟨P, 2, none⟩ = some (.int .i64 tn) ∧ w'.cell? ⟨P, 4, none⟩ = some (.slice xo N xc) ∧ w'.cell? ⟨P + 1, 0, none⟩ = some (.int .i64 f) ∧ w'.cell? ⟨P + 1, 1, none⟩ = some (.int .i64 n) := fun w' hf =>
    ⟨(hf.cell (lt_of_cell a1) (fun h => h)).trans a1, (hf.cell (lt_of_cell a2) (fun h => h)).trans a2, (hf.cell (lt_of_cell a4) (fun h => h)).trans a4, (hf.cell (lt_of_cell b0) (fun h => h)).trans b0, (hf.cell (lt_of_cell b1) (fun h => h)).trans b1⟩
  have HS := hide hS
  clear hS
  go_region_held3 (fun w' => w'.cell? ⟨P, 1, none⟩ = some (.int .i64 tf) ∧ w'.cell? ⟨P, 2, none⟩ = some (.int .i64 tn) ∧ w'.cell? ⟨P, 4, none⟩ = some (.slice xo N xc) ∧ w'.cell? ⟨P + 1, 0, none⟩ = some (.int .i64 f) ∧ w'.cell? ⟨P + 1, 1, none⟩ = some (.int .i64 n))
    (first | assumption | exact (unhide HS) _ (Fr.refl _ _).drew | exact (unhide HS) _ ((Fr.refl _ _).drew.trans fC (fun _ _ h => h)))
    (first
      | (go_at_call 93; refine ((unhide HD) _).mono ?_; rintro e wC ⟨rfl, fC⟩))
  have HE := hide ((unhide HF).drew.trans fC (fun _ _ h => h))
  clear fC
  go_wp2_with fail
  go_ret
  exact ⟨rfl, unhide HE⟩
theorem Sl.ints {w : World} {xo : Option Addr} {n c : Nat} {l : List Nat} (h : Sl w (.slice xo n c) l) : (l.map fun v : Nat => (v : Int)).length = n ∧ Lib.BytesIn w xo n (l.map fun v : Nat => (v : Int)) := by
  obtain ⟨a, c', e⟩ := h.form
  simp only [Value.slice.injEq] at e
  have hn : l.length = n := e.2.1.symm
  refine ⟨by simp [hn], ?_⟩
  by_cases h0 : l = []
  · subst h0
    have : n = 0 := by rw [← hn]; rfl
    subst this
    rcases xo with _ | a
    · exact Lib.BytesIn.nil _ _ _
    · exact Lib.BytesIn.of_cells (fun i hi => by simp at hi)
  · obtain ⟨g, o, rfl, _⟩ := src_cell h.s 0 (List.length_pos_iff.2 h0) h.b
    refine Lib.BytesIn.of_cells (fun i hi => ?_)
    have hi' : i < l.length := by omega
    obtain ⟨g', o', e', hc⟩ := src_cell h.s i hi' h.b
    simp only [Option.some.injEq, Addr.mk.injEq, and_true] at e'
    obtain ⟨rfl, rfl⟩ := e'
    rw [add_at2, hc]
    simp [List.getD, List.getElem?_eq_getElem hi']
theorem bytesOf_inj {a b : List Nat} (ha : ∀ v ∈ a, v < 256) (hb : ∀ v ∈ b, v < 256) : (Lib.bytesOf (a.map fun v : Nat => (v : Int)) == Lib.bytesOf (b.map fun v : Nat => (v : Int))) = decide (a = b) := by
  by_cases h : a = b
  · subst h; simp
  · rw [decide_eq_false h, beq_eq_false_iff_ne]
    intro e
    apply h
    have key : ∀ l : List Nat, (∀ v ∈ l, v < 256) → (Lib.bytesOf (l.map fun v : Nat => (v : Int))).map UInt8.toNat = l := fun l hl => by
      rw [Lib.bytesOf, List.map_map, List.map_map]
      conv => rhs; rw [← List.map_id l]
      apply List.map_congr_left
      intro v hv
      have := hl v hv
      simp
      omega
    rw [← key a ha, ← key b hb, e]
/-- bytes.Equal. -/
theorem beq_sl (x y : Value) (a b : List Nat) (w : World) (hx : Sl w x a) (hy : Sl w y b) : Calls Tryd.prog 78 #[x, y] w fun e w' => e = .returned (.bool (decide (a = b))) ∧ w' = w := by
  obtain ⟨xo, xc, rfl⟩ := hx.form
  obtain ⟨yo, yc, rfl⟩ := hy.form
  have := beq_any xo yo a.length xc b.length yc _ _ w hx.ints.1 hy.ints.1 hx.ints.2 hy.ints.2
  rw [bytesOf_inj hx.b hy.b] at this
  exact this
end Go.Proofs.YtjokmlnghpnlbaaDoor

namespace Go.Proofs.YtjokmlnghpnlbaaDoor
open Go.RowKit

theorem pcs2 {w : World} {x y : Value} {a b : List Nat} (hx : Sl w x a) (hy : Sl w y b) (W : World) (hW : w.alloc (.cells #[x, y] 24) = W) : Pcs W (.slice (some ⟨w.heap.size, 0, none⟩) 2 2) [x, y] [a, b] := by
  have hF1 : Fr (fun _ => False) w W := by rw [← hW]; exact (Fr.refl _ _).alloc _
  have hx1 := hx.fr0 hF1
  have hy1 := hy.fr0 hF1
  have hc : ∀ j, j < 2 → W.cell? ⟨w.heap.size, 0 + j, none⟩ = (#[x, y] : Array Value)[j]? := fun j hj => by rw [Nat.zero_add, ← hW, World.cell?_alloc_at _ _ _ _ rfl]
  have hc0 := hc 0 (by decide)
  have hl : w.heap.size < W.heap.size := lt_of_cell (v := x) hc0
  refine ⟨rfl, .inr (.inr ⟨w.heap.size, 0, 2, rfl, hl, fun j v hv => ?_⟩), fun j v p hv hp => ?_, fun p hp => ?_⟩
  · match j with
    | 0 => rw [hc 0 (by decide)]; simpa using hv
    | 1 => rw [hc 1 (by decide)]; simpa using hv
    | j + 2 => simp at hv
  · match j with
    | 0 => simp at hv hp; subst hv hp; exact ⟨hx1.s, hx1.cap, hx1.lt⟩
    | 1 => simp at hv hp; subst hv hp; exact ⟨hy1.s, hy1.cap, hy1.lt⟩
    | j + 2 => simp at hv
  · simp at hp
    rcases hp with rfl | rfl
    · exact hx1.b
    · exact hy1.b
/-- What CheckPath answers. -/
def chkP (j : Int) (leaf : List Nat) (i n : Int) (ps : List (List Nat)) (root : List Nat) : Bool :=
  decide (1 ≤ j ∧ j ≤ 32) && (decide (0 ≤ i) && (decide (i < n) && (wdq j [leaf, root] && (wdq j ps && (decide (ps.length = dep 0 n.toNat i.toNat 1) && decide (topv j.toNat leaf 0 n.toNat i.toNat 1 ps = root))))))
set_option maxRecDepth 100000 in
set_option maxHeartbeats 2000000 in
theorem checkPath_any (j i n : Int) (lv rv x : Value) (leaf root : List Nat) (vs : List Value) (ps : List (List Nat)) (w : World) (hg : GS w) (hl : Sl w lv leaf) (hr : Sl w rv root) (hp : Pcs w x vs ps) (hcx : Cp x) (hn : n < 9223372036854775808) (hps : ps.length < 4611686018427387904) :
    Calls Tryd.prog 46 #[.int .i64 j, lv, .int .i64 i, .int .i64 n, x, rv] w fun e w' => e = .returned (.bool (chkP j leaf i n ps root)) ∧ Fr (fun _ => False) w w' := by
  obtain ⟨lo, lc, rfl⟩ := hl.form
  obtain ⟨rr, rc, rfl⟩ := hr.form
  obtain ⟨xo, xc, rfl⟩ := hp.form
  by_cases h1o : j < 1 ∨ 32 < j
  · have h1 : ¬ (1 ≤ j ∧ j ≤ 32) := by omega
    have hB : chkP j leaf i n ps root = false := by rw [chkP, decide_eq_false h1]; rfl
    rw [hB]
    have HM := hide h1
    clear hg hl hr hp hcx hn hps hB h1 h1o
    generalize leaf.length = LL at *
    generalize root.length = RL at *
    generalize ps.length = PL at *
    go_enter Tryd.func46, Tryd.ntmps46
    go_wp2_with (go_at_call 63; refine (maybe_any j _).mono ?_; rintro e' w' ⟨rfl, hw'⟩; rw [hw', decide_eq_false (unhide HM)])
    go_ret
    exact ⟨rfl, Fr.refl _ _⟩
  · have h1 : 1 ≤ j ∧ j ≤ 32 := by omega
    clear h1o
    have HM := hide h1
    by_cases h2' : i < 0
    · have h2 : ¬ 0 ≤ i := by omega
      have hB : chkP j leaf i n ps root = false := by rw [chkP, decide_eq_true h1, decide_eq_false h2]; rfl
      rw [hB]
      clear hg hl hr hp hcx hn hps hB h1
      generalize leaf.length = LL at *
      generalize root.length = RL at *
      generalize ps.length = PL at *
      go_enter Tryd.func46, Tryd.ntmps46
      go_wp2_with (go_at_call 63; refine (maybe_any j _).mono ?_; rintro e' w' ⟨rfl, hw'⟩; rw [hw', decide_eq_true (unhide HM)])
      go_ret
      exact ⟨rfl, Fr.refl _ _⟩
    · have h2 : 0 ≤ i := by omega
      by_cases h3' : n ≤ i
      · have h3 : ¬ i < n := by omega
        have hB : chkP j leaf i n ps root = false := by rw [chkP, decide_eq_true h1, decide_eq_true h2, decide_eq_false h3]; rfl
        rw [hB]
        clear hg hl hr hp hcx hn hps hB h1
        generalize leaf.length = LL at *
        generalize root.length = RL at *
        generalize ps.length = PL at *
        go_enter Tryd.func46, Tryd.ntmps46
        go_wp2_with (go_at_call 63; refine (maybe_any j _).mono ?_; rintro e' w' ⟨rfl, hw'⟩; rw [hw', decide_eq_true (unhide HM)])
        go_ret
        exact ⟨rfl, Fr.refl _ _⟩
      · have h3 : i < n := by omega
        clear h2' h3'
        obtain ⟨wi, rfl⟩ : ∃ k : Nat, j = (k : Int) := ⟨j.toNat, by omega⟩
        obtain ⟨I, rfl⟩ : ∃ k : Nat, i = (k : Int) := ⟨i.toNat, by omega⟩
        obtain ⟨N, rfl⟩ : ∃ k : Nat, n = (k : Int) := ⟨n.toNat, by omega⟩
        have h2' : ¬ (I : Int) < 0 := by omega
        have h3' : ¬ (N : Int) ≤ (I : Int) := by omega
        have hIN : I < N := by omega
        have hrch := rch_one N 0 N I (Nat.le_refl _) (by omega) (by omega)
        obtain ⟨W1, hW1⟩ : ∃ W1, w.alloc (.cells #[.slice lo leaf.length lc, .slice rr root.length rc] 24) = W1 := ⟨_, rfl⟩
        have hF1 : Fr (fun _ => False) w W1 := by rw [← hW1]; exact (Fr.refl _ _).alloc _
        have hwd1 := wide_any wi _ _ [leaf, root] W1 (pcs2 hl hr W1 hW1) (by simp)
        have hwd2 := wide_any wi _ vs ps W1 (hp.fr0 hF1) hps
        have hce : chkP wi leaf I N ps root = (wdq wi [leaf, root] && (wdq wi ps && (decide (ps.length = dep 0 N I 1) && decide (topv wi leaf 0 N I 1 ps = root)))) := by
          rw [chkP, decide_eq_true h1, decide_eq_true h2, decide_eq_true h3]; rfl
        rw [hce]
        clear hce
        cases hq1 : wdq wi [leaf, root] with
        | false =>
          rw [hq1] at hwd1
          rw [Bool.false_and]
          have HC := hide (And.intro hwd1 hF1)
          clear hg hl hr hp hcx hn hps h1 h2 h3 hwd1 hwd2 hF1 hrch hIN hq1
          generalize leaf.length = LL at *
          generalize root.length = RL at *
          generalize ps.length = PL at *
          go_enter Tryd.func46, Tryd.ntmps46
          go_wp2_with (go_at_call 63; refine (maybe_any wi _).mono ?_; rintro e' w' ⟨rfl, hw'⟩; rw [hw', decide_eq_true (unhide HM)])
          refine (unhide HC).1.mono ?_
          rintro e' w2 ⟨rfl, rfl⟩
          go_wp2_with fail
          go_ret
          exact ⟨rfl, (unhide HC).2⟩
        | true =>
          rw [hq1] at hwd1
          rw [Bool.true_and]
          cases hq2 : wdq wi ps with
          | false =>
            rw [hq2] at hwd2
            rw [Bool.false_and]
            have HC := hide (And.intro hwd1 (And.intro hwd2 hF1))
            clear hg hl hr hp hcx hn hps h1 h2 h3 hwd1 hwd2 hF1 hrch hIN hq1 hq2
            generalize leaf.length = LL at *
            generalize root.length = RL at *
            generalize ps.length = PL at *
            go_enter Tryd.func46, Tryd.ntmps46
            go_wp2_with (go_at_call 63; refine (maybe_any wi _).mono ?_; rintro e' w' ⟨rfl, hw'⟩; rw [hw', decide_eq_true (unhide HM)])
            refine (unhide HC).1.mono ?_
            rintro e' w2 ⟨rfl, rfl⟩
            go_wp2_with fail
            refine (unhide HC).2.1.mono ?_
            rintro e' w3 ⟨rfl, rfl⟩
            go_wp2_with fail
            go_ret
            exact ⟨rfl, (unhide HC).2.2⟩
          | true =>
            rw [hq2] at hwd2
            rw [Bool.true_and]
            have hlw : leaf.length = wi := by have := wdq_true hq1 leaf (by simp); omega
            have hpw : ∀ p ∈ ps, p.length = wi := fun p hp => by have := wdq_true hq2 p hp; omega
            have hoe := fun w' => ofEntry_any wi I lo leaf.length lc xo ps.length xc w'
            have hft := fun w' => fits_any wi 0 N I 1 lo leaf.length lc xo ps.length xc w' (by omega) hrch
            by_cases hD : ps.length = dep 0 N I 1
            · have htop := fun w' (hf : Fr (fun _ => False) w w') => top_any wi (by omega) (by omega) N 0 N I 1 w' lo leaf.length lc leaf _ vs ps (Nat.le_refl _) (by omega) hrch (hg.fr0 hf) (hl.fr0 hf) hlw (hp.fr0 hf) hcx hD hpw
              rw [decide_eq_true hD] at hft ⊢
              rw [Bool.true_and]
              have HC := hide (And.intro hwd1 (And.intro hwd2 (And.intro hoe (And.intro hft (And.intro htop (And.intro hr hF1))))))
              clear hg hl hp hcx hn hps h1 h2 h3 hwd1 hwd2 hF1 hrch hIN hq1 hq2 hoe hft htop hD hpw hlw hr
              generalize topv wi leaf 0 N I 1 ps = TV at *
              obtain ⟨BB, hBB⟩ : ∃ BB, decide (TV = root) = BB := ⟨_, rfl⟩
              rw [hBB]
              have HBB := hide hBB
              clear hBB
              generalize leaf.length = LL at *
              generalize root.length = RL at *
              generalize ps.length = PL at *
              unfold sv cv at HC
              have e1 : ((1 : Nat) : Int) = 1 := rfl
              have e0 : ((0 : Nat) : Int) = 0 := rfl
              simp only [e1, e0] at HC
              clear e1 e0
              go_enter Tryd.func46, Tryd.ntmps46
              go_wp2_with (go_at_call 63; refine (maybe_any wi _).mono ?_; rintro e' w' ⟨rfl, hw'⟩; rw [hw', decide_eq_true (unhide HM)])
              refine (unhide HC).1.mono ?_
              rintro e' w2 ⟨rfl, rfl⟩
              go_wp2_with fail
              refine (unhide HC).2.1.mono ?_
              rintro e' w3 ⟨rfl, rfl⟩
              go_wp2_with fail
              refine ((unhide HC).2.2.1 _).mono ?_
              rintro e' wA ⟨rfl, hFA⟩
              have HA := hide ((unhide HC).2.2.2.2.2.2.trans hFA (fun _ _ h => h))
              clear hFA
              go_wp2_with fail
              obtain ⟨W2, hW2⟩ : ∃ W2, (wA.alloc (.cells #[.int .i64 wi, .int .i64 I, .int .i64 1, .slice lo LL lc, .slice xo PL xc] 99)).alloc (.cells #[.int .i64 0, .int .i64 N] 92) = W2 := ⟨_, rfl⟩
              rw [hW2]
              obtain ⟨⟨a0, a1, a2, a3, a4⟩, b0, b1, hF2⟩ := box52 wA _ _ _ _ _ _ _ _ _ W2 hW2
              refine ((unhide HC).2.2.2.1 _).mono ?_
              rintro e' wB ⟨rfl, hFB⟩
              have c0 := (hFB.cell (lt_of_cell a0) (fun h => h)).trans a0
              have c1 := (hFB.cell (lt_of_cell a1) (fun h => h)).trans a1
              have c2 := (hFB.cell (lt_of_cell a2) (fun h => h)).trans a2
              have c3 := (hFB.cell (lt_of_cell a3) (fun h => h)).trans a3
              have c4 := (hFB.cell (lt_of_cell a4) (fun h => h)).trans a4
              have d0 := (hFB.cell (lt_of_cell b0) (fun h => h)).trans b0
              have d1 := (hFB.cell (lt_of_cell b1) (fun h => h)).trans b1
              have HB := hide (((unhide HA).trans hF2 (fun _ _ h => h)).trans hFB (fun _ _ h => h))
              clear hF2 hFB hW2 a0 a1 a2 a3 a4 b0 b1 HA
              generalize wA.heap.size = P at *
              go_wp2_with fail
              refine ((unhide HC).2.2.2.2.1 _ (unhide HB)).mono ?_
              rintro e' wC ⟨uo, un, uc, rfl, hS, hFC⟩
              have HS := hide (And.intro hS ((unhide HB).trans hFC (fun _ _ h => h)))
              clear hS hFC
              go_wp2_with fail
              refine (beq_sl _ _ _ _ _ (unhide HS).1 ((unhide HC).2.2.2.2.2.1.fr0 (unhide HS).2)).mono ?_
              rintro e' wD ⟨rfl, rfl⟩
              rw [unhide HBB]
              go_wp2_with fail
              go_ret
              exact ⟨rfl, (unhide HS).2⟩
            · rw [decide_eq_false hD] at hft ⊢
              rw [Bool.false_and]
              have HC := hide (And.intro hwd1 (And.intro hwd2 (And.intro hoe (And.intro hft hF1))))
              clear hg hl hp hcx hn hps h1 h2 h3 hwd1 hwd2 hF1 hrch hIN hq1 hq2 hoe hft hD hpw hlw hr
              generalize leaf.length = LL at *
              generalize root.length = RL at *
              generalize ps.length = PL at *
              unfold sv cv at HC
              have e1 : ((1 : Nat) : Int) = 1 := rfl
              have e0 : ((0 : Nat) : Int) = 0 := rfl
              simp only [e1, e0] at HC
              clear e1 e0
              go_enter Tryd.func46, Tryd.ntmps46
              go_wp2_with (go_at_call 63; refine (maybe_any wi _).mono ?_; rintro e' w' ⟨rfl, hw'⟩; rw [hw', decide_eq_true (unhide HM)])
              refine (unhide HC).1.mono ?_
              rintro e' w2 ⟨rfl, rfl⟩
              go_wp2_with fail
              refine (unhide HC).2.1.mono ?_
              rintro e' w3 ⟨rfl, rfl⟩
              go_wp2_with fail
              refine ((unhide HC).2.2.1 _).mono ?_
              rintro e' wA ⟨rfl, hFA⟩
              have HA := hide ((unhide HC).2.2.2.2.trans hFA (fun _ _ h => h))
              clear hFA
              go_wp2_with fail
              refine ((unhide HC).2.2.2.1 _).mono ?_
              rintro e' wB ⟨rfl, hFB⟩
              have HB := hide ((unhide HA).trans ((((Fr.refl _ _).alloc _).alloc _).trans hFB (fun _ _ h => h)) (fun _ _ h => h))
              clear hFB
              go_wp2_with fail
              go_ret
              exact ⟨rfl, unhide HB⟩
end Go.Proofs.YtjokmlnghpnlbaaDoor

namespace Go.Proofs.YtjokmlnghpnlbaaDoor
open Go.RowKit

theorem lf_len5 (wi : Nat) (hw1 : 1 ≤ wi) (hw32 : wi ≤ 32) (e : List Nat) : (lf (wi : Int) e).length = wi := by
  rw [lf, sm_len ⟨by omega, by omega⟩, Int.toNat_natCast]
theorem ent_lt (f : Nat → Nat → List Nat) (h : ∀ J V, ∀ v ∈ f J V, v < 256) (n : Nat) : ∀ v ∈ ent f n, v < 256 := by
  induction n with
  | zero => intro v hv; cases hv
  | succ n ih =>
    intro v hv
    rw [ent] at hv
    rcases List.mem_append.1 hv with hv | hv
    · rcases List.mem_append.1 hv with hv | hv
      · exact ih v hv
      · exact h _ _ v hv
    · exact h _ _ v hv
theorem lt5_lt (wi : Nat) (h p : List Nat) (hp : ∀ v ∈ p, v < 256) (J V : Nat) : ∀ v ∈ lt5 wi h p J V, v < 256 := by
  unfold lt5
  split
  · exact sm_lt _ _
  · exact fun v hv => hp v (List.mem_of_mem_drop (List.mem_of_mem_take hv))
/-- What Check answers, of a width, a height and a key that may be, and of lengths that fit. -/
def chk5 (wi H : Nat) (pub : List Nat) (K : Int) (m s : List Nat) : Bool :=
  chkP wi (lf wi (ent (lt5 wi (sm wi m) (s.take (16 * wi * wi))) (8 * wi))) K ((2 ^ H : Nat) : Int) (cuts wi (s.drop (16 * wi * wi)) H) pub
set_option maxRecDepth 100000 in
set_option maxHeartbeats 4000000 in
/-- lamport.Check, of what may be. -/
theorem lcheck_in (wi H : Nat) (hw1 : 1 ≤ wi) (hw32 : wi ≤ 32) (hH : H ≤ 6) (K : Int) (hK : 0 ≤ K ∧ K < ((2 ^ H : Nat) : Int)) (pv mv sv : Value) (pub m s : List Nat) (w : World) (hg : GS w) (hp : Sl w pv pub) (hm : Sl w mv m) (hs : Sl w sv s) (hpl : pub.length = wi) (hml : m.length < 9223372036854775808) (hsl : s.length = 16 * wi * wi + H * wi) :
    Calls Tryd.prog 16 #[.int .i64 wi, .int .i64 H, pv, .int .i64 K, mv, sv] w fun e w' => e = .returned (.bool (chk5 wi H pub K m s)) ∧ Fr (fun _ => False) w w' := by
  obtain ⟨po, pc, rfl⟩ := hp.form
  obtain ⟨so, sc, rfl⟩ := hs.form
  obtain ⟨mo, mc, rfl⟩ := hm.form
  have hps1 : 1 ≤ 16 * wi * wi := by
    have : 1 * 1 ≤ 16 * wi * wi := Nat.mul_le_mul (by omega) hw1
    exact this
  have hps9 : 16 * wi * wi ≤ 16384 := Nat.mul_le_mul (show 16 * wi ≤ 512 by omega) hw32
  have hhw9 : H * wi ≤ 192 := Nat.mul_le_mul hH hw32
  obtain ⟨g, o, rfl, _⟩ := src_cell hs.s 0 (by omega) hs.b
  have hsc : s.length ≤ sc := hs.cap _ _ _ rfl
  have hmay := fun w' => lmay_any wi H w'
  rw [decide_eq_true (by omega)] at hmay
  have hik := fun w' => liskey_any H hH K w'
  rw [decide_eq_true hK] at hik
  have hsz := fun w' => lsize_any wi H w'
  have esz : szF wi H = ((16 * wi * wi + H * wi : Nat) : Int) := by rw [szF, if_pos (by omega)]; simp
  rw [esz] at hsz
  have hpr := fun w' => lpairs_any wi hw32 w'
  have hkc := fun w' => lkeys_any H hH w'
  have hpt : (s.take (16 * wi * wi)).length = 16 * wi * wi := by rw [List.length_take]; omega
  have hsm : (sm (wi : Int) m).length = wi := by rw [sm_len ⟨by omega, by omega⟩, Int.toNat_natCast]
  have hsub := hs.sub 0 (16 * wi * wi) (by omega)
  rw [List.drop_zero, Nat.add_zero, Nat.sub_zero] at hsub
  have htold := fun w' (hf : Fr (fun _ => False) w w') => ltold_in wi hw1 hw32 _ _ m _ w' (hg.fr0 hf) (hm.fr0 hf) (hsub.fr0 hf) hml
  have hent := fun w' b0 b1 b2 hb ho (hf : Fr (fun _ => False) w w') (h : LtAt w' b0 b1 b2 hb ho wi (.slice (some ⟨g, o, none⟩) (16 * wi * wi) sc) (s.take (16 * wi * wi)) (sm wi m)) => lentry_any wi _ hw1 hw32 _ _ w' (h.f5 (hg.fr0 hf) hw1 hw32 hsm hpt)
  obtain ⟨EN, hEN⟩ : ∃ EN, ent (lt5 wi (sm wi m) (s.take (16 * wi * wi))) (8 * wi) = EN := ⟨_, rfl⟩
  have hENl : EN.length = 16 * wi * wi := by
    rw [← hEN, ent_len _ wi (8 * wi) (fun J V hJ _ => lt5_len wi hw1 hw32 _ _ J V hJ hpt), ← Nat.mul_assoc]
  have hENb : ∀ v ∈ EN, v < 256 := by rw [← hEN]; exact ent_lt _ (lt5_lt _ _ _ (fun v hv => hs.b v (List.mem_of_mem_take hv))) _
  have hleaf := fun w' x (hf : Fr (fun _ => False) w w') (h : Sl w' x EN) => leaf_any wi x EN w' (hg.fr0 hf) h (by omega)
  rw [lf_len5 wi hw1 hw32] at hleaf
  have hcut := fun w' xo c (hx : Sl w' (.slice xo (H * wi) c) (s.drop (16 * wi * wi))) => lcut_any wi H hw1 hw32 (by omega) xo c _ w' hx (by rw [List.length_drop]; omega)
  have hrest : ∀ w', Fr (fun _ => False) w w' → (¬ sc = 16 * wi * wi → Sl w' (.slice (some ⟨g, o + (16 * wi * wi), none⟩) (H * wi) (sc - 16 * wi * wi)) (s.drop (16 * wi * wi))) ∧ (sc = 16 * wi * wi → ∀ c, Sl w' (.slice (some ⟨g, o, none⟩) (H * wi) c) (s.drop (16 * wi * wi))) := fun w' hf => by
    constructor
    · intro _
      have h := (hs.fr0 hf).sub (16 * wi * wi) (H * wi) (by omega)
      rw [List.take_of_length_le (by rw [List.length_drop]; omega)] at h
      exact h
    · intro h c
      have h0 : H * wi = 0 := by omega
      have h1 : s.drop (16 * wi * wi) = [] := List.drop_eq_nil_of_le (by omega)
      rw [h0, h1]
      exact ⟨.inr (.inr ⟨_, _, rfl, rfl⟩), fun _ _ _ e => by cases e; exact Nat.zero_le _, .inl rfl, fun v hv => by cases hv⟩
  have hchk := fun w' lv x vs (hf : Fr (fun _ => False) w w') (h1 : Sl w' lv (lf wi EN)) (h2 : Pcs w' x vs (cuts wi (s.drop (16 * wi * wi)) H)) (h3 : Cp x) => checkPath_any wi K ((2 ^ H : Nat) : Int) lv _ x _ pub vs _ w' (hg.fr0 hf) h1 (hp.fr0 hf) h2 h3 (by have : 2 ^ H ≤ 2 ^ 6 := Nat.pow_le_pow_right (by decide) hH; omega) (by simp [cuts]; omega)
  unfold chk5
  rw [hEN]
  rw [hEN] at hent
  generalize chkP wi (lf wi EN) K ((2 ^ H : Nat) : Int) (cuts wi (s.drop (16 * wi * wi)) H) pub = B at *
  have hlb := lf_lt (wi : Int) EN
  have hll := lf_len5 wi hw1 hw32 EN
  rw [hsl] at *
  rw [hpl] at *
  generalize m.length = ML at *
  generalize 2 ^ H = N2 at *
  generalize hPS : 16 * wi * wi = PS at *
  generalize hHW : H * wi = HW at *
  have HC := hide (And.intro hmay (And.intro hik (And.intro hsz (And.intro hpr (And.intro hkc (And.intro htold (And.intro hent (And.intro hleaf (And.intro hcut (And.intro hrest (And.intro hchk (And.intro hENl (And.intro hENb (And.intro hll hlb))))))))))))))
  clear hmay hik hsz hpr hkc htold hent hleaf hcut hrest hchk hENl hENb hll hlb hp hm hs hg hsub hpt hsm esz hEN hPS hHW
  go_enter Tryd.func16, Tryd.ntmps16
  go_wp2_with fail
  refine ((unhide HC).1 _).mono ?_
  rintro e w0 ⟨rfl, rfl⟩
  go_wp2_with fail
  refine ((unhide HC).2.1 _).mono ?_
  rintro e w0' ⟨rfl, rfl⟩
  go_wp2_with fail
  refine ((unhide HC).2.2.1 _).mono ?_
  rintro e w0'' ⟨rfl, rfl⟩
  have p0 : (0 : Int) ≤ (PS : Int) := by omega
  have p1 : (PS : Int) ≤ (sc : Int) := by omega
  have p2 : (PS : Int) ≤ ((PS + HW : Nat) : Int) := by omega
  have p2' : (PS : Int) ≤ (PS : Int) + (HW : Int) := by omega
  have p3 : (PS : Int) + (HW : Int) ≤ (sc : Int) := by omega
  by_cases hcs : sc = PS
  · have hH0 : HW = 0 := by omega
    have hrest0 := fun w' (hf : Fr (fun _ => False) w0'' w') => ((unhide HC).2.2.2.2.2.2.2.2.2.1 w' hf).2 hcs
    have HR := hide hrest0
    clear hrest0
    subst hH0
    have hcs'' : PS = sc := hcs.symm
    clear hcs p2 p2' p3
    subst hcs''
    go_wp2_with fail
    go_region_held3 (fun _ => True)
      (trivial)
      (first
        | (go_at_call 28; refine ((unhide HC).2.2.2.1 _).mono ?_; rintro e wA ⟨rfl, rfl⟩))
    go_wp2_with fail
    refine ((unhide HC).2.2.2.2.2.1 _ (Fr.refl _ _).drew).mono ?_
    rintro e w1 ⟨b0, b1, b2, hb, ho, rfl, hL1, hF1⟩
    have H1 := hide (And.intro hL1 ((Fr.refl _ _).drew.trans hF1 (fun _ _ h => h)))
    clear hL1 hF1
    go_wp2_with fail
    refine ((unhide HC).2.2.2.2.2.2.1 _ _ _ _ _ _ (unhide H1).2 (unhide H1).1).mono ?_
    rintro e w2 ⟨eo, ec, rfl, hO2⟩
    have hS2 := hO2.sl (unhide HC).2.2.2.2.2.2.2.2.2.2.2.2.1
    rw [(unhide HC).2.2.2.2.2.2.2.2.2.2.2.1] at hS2
    have H2 := hide (And.intro hS2 ((unhide H1).2.trans hO2.fr (fun _ _ h => h)))
    clear hO2 hS2 H1
    go_wp2_with fail
    refine ((unhide HC).2.2.2.2.2.2.2.1 _ _ (unhide H2).2 (unhide H2).1).mono ?_
    rintro e w3 ⟨fo, rfl, hO3⟩
    have hS3 := hO3.sl (unhide HC).2.2.2.2.2.2.2.2.2.2.2.2.2.2
    rw [(unhide HC).2.2.2.2.2.2.2.2.2.2.2.2.2.1] at hS3
    have H3 := hide (And.intro hS3 ((unhide H2).2.trans hO3.fr (fun _ _ h => h)))
    clear hO3 hS3 H2
    go_wp2_with fail
    refine ((unhide HC).2.2.2.2.1 _).mono ?_
    rintro e w3' ⟨rfl, rfl⟩
    go_wp2_with fail
    refine ((unhide HC).2.2.2.2.2.2.2.2.1 _ _ _ ((unhide HR) _ (unhide H3).2 _)).mono ?_
    rintro e w4 ⟨ao, cp, us, rfl, hP4, hC4, hF4⟩
    have H4 := hide (And.intro hP4 (And.intro hC4 (And.intro ((unhide H3).1.fr0 hF4) ((unhide H3).2.trans hF4 (fun _ _ h => h)))))
    clear hP4 hC4 hF4 H3
    go_wp2_with fail
    refine ((unhide HC).2.2.2.2.2.2.2.2.2.2.1 _ _ _ _ (unhide H4).2.2.2 (unhide H4).2.2.1 (unhide H4).1 (unhide H4).2.1).mono ?_
    rintro e w5 ⟨rfl, hF5⟩
    have H5 := hide ((unhide H4).2.2.2.trans hF5 (fun _ _ h => h))
    clear hF5 H4
    go_wp2_with fail
    go_ret
    exact ⟨rfl, unhide H5⟩
  · have hcs' : ¬ PS = sc := fun h => hcs h.symm
    have hcs2 : ¬ (PS : Int) = (sc : Int) := by omega
    go_wp2_with fail
    go_region_held3 (fun _ => True)
      (trivial)
      (first
        | (go_at_call 28; refine ((unhide HC).2.2.2.1 _).mono ?_; rintro e wA ⟨rfl, rfl⟩))
    go_wp2_with fail
    refine ((unhide HC).2.2.2.2.2.1 _ (Fr.refl _ _).drew).mono ?_
    rintro e w1 ⟨b0, b1, b2, hb, ho, rfl, hL1, hF1⟩
    have H1 := hide (And.intro hL1 ((Fr.refl _ _).drew.trans hF1 (fun _ _ h => h)))
    clear hL1 hF1
    go_wp2_with fail
    refine ((unhide HC).2.2.2.2.2.2.1 _ _ _ _ _ _ (unhide H1).2 (unhide H1).1).mono ?_
    rintro e w2 ⟨eo, ec, rfl, hO2⟩
    have hS2 := hO2.sl (unhide HC).2.2.2.2.2.2.2.2.2.2.2.2.1
    rw [(unhide HC).2.2.2.2.2.2.2.2.2.2.2.1] at hS2
    have H2 := hide (And.intro hS2 ((unhide H1).2.trans hO2.fr (fun _ _ h => h)))
    clear hO2 hS2 H1
    go_wp2_with fail
    refine ((unhide HC).2.2.2.2.2.2.2.1 _ _ (unhide H2).2 (unhide H2).1).mono ?_
    rintro e w3 ⟨fo, rfl, hO3⟩
    have hS3 := hO3.sl (unhide HC).2.2.2.2.2.2.2.2.2.2.2.2.2.2
    rw [(unhide HC).2.2.2.2.2.2.2.2.2.2.2.2.2.1] at hS3
    have H3 := hide (And.intro hS3 ((unhide H2).2.trans hO3.fr (fun _ _ h => h)))
    clear hO3 hS3 H2
    go_wp2_with fail
    refine ((unhide HC).2.2.2.2.1 _).mono ?_
    rintro e w3' ⟨rfl, rfl⟩
    go_wp2_with fail
    refine ((unhide HC).2.2.2.2.2.2.2.2.1 _ _ _ (((unhide HC).2.2.2.2.2.2.2.2.2.1 _ (unhide H3).2).1 hcs)).mono ?_
    rintro e w4 ⟨ao, cp, us, rfl, hP4, hC4, hF4⟩
    have H4 := hide (And.intro hP4 (And.intro hC4 (And.intro ((unhide H3).1.fr0 hF4) ((unhide H3).2.trans hF4 (fun _ _ h => h)))))
    clear hP4 hC4 hF4 H3
    go_wp2_with fail
    refine ((unhide HC).2.2.2.2.2.2.2.2.2.2.1 _ _ _ _ (unhide H4).2.2.2 (unhide H4).2.2.1 (unhide H4).1 (unhide H4).2.1).mono ?_
    rintro e w5 ⟨rfl, hF5⟩
    have H5 := hide ((unhide H4).2.2.2.trans hF5 (fun _ _ h => h))
    clear hF5 H4
    go_wp2_with fail
    go_ret
    exact ⟨rfl, unhide H5⟩
end Go.Proofs.YtjokmlnghpnlbaaDoor

namespace Go.Proofs.YtjokmlnghpnlbaaDoor
open Go.RowKit

/-- May Check look at it? -/
def okL (j h K : Int) (pub s : List Nat) : Prop := ((1 ≤ j ∧ j ≤ 32) ∧ 0 ≤ h ∧ h ≤ 6) ∧ (pub.length : Int) = j ∧ (0 ≤ K ∧ K < ((2 ^ h.toNat : Nat) : Int)) ∧ (s.length : Int) = szF j h
instance (j h K : Int) (pub s : List Nat) : Decidable (okL j h K pub s) := by unfold okL; infer_instance
/-- What Check answers. -/
def chkL (j h : Int) (pub : List Nat) (K : Int) (m s : List Nat) : Bool := if okL j h K pub s then chk5 j.toNat h.toNat pub K m s else false
set_option maxRecDepth 100000 in
set_option maxHeartbeats 2000000 in
/-- lamport.Check, of what may not be. -/
theorem lcheck_no (j h K : Int) (po so : Option Addr) (pc sc : Nat) (mv : Value) (pub s : List Nat) (w : World) (hn : ¬ okL j h K pub s) :
    Calls Tryd.prog 16 #[.int .i64 j, .int .i64 h, .slice po pub.length pc, .int .i64 K, mv, .slice so s.length sc] w fun e w' => e = .returned (.bool false) ∧ Fr (fun _ => False) w w' := by
  have hmay := hide (lmay_any j h w)
  unfold okL at hn
  by_cases h1 : (1 ≤ j ∧ j ≤ 32) ∧ 0 ≤ h ∧ h ≤ 6
  · rw [decide_eq_true h1] at hmay
    by_cases h2 : (pub.length : Int) = j
    · obtain ⟨H, rfl⟩ : ∃ H : Nat, h = (H : Int) := ⟨h.toNat, by omega⟩
      rw [Int.toNat_natCast] at hn
      have hik := hide (liskey_any H (by omega) K w)
      by_cases h3 : 0 ≤ K ∧ K < ((2 ^ H : Nat) : Int)
      · rw [decide_eq_true h3] at hik
        have hsz := hide (lsize_any j H w)
        have h4 : ¬ (s.length : Int) = szF j H := fun e => hn ⟨h1, h2, h3, e⟩
        generalize szF j H = SZ at *
        generalize s.length = SN at *
        generalize pub.length = PN at *
        clear hn h3 h1
        subst h2
        go_enter Tryd.func16, Tryd.ntmps16
        go_wp2_with fail
        refine (unhide hmay).mono ?_
        rintro e w0 ⟨rfl, rfl⟩
        go_wp2_with fail
        refine (unhide hik).mono ?_
        rintro e w0' ⟨rfl, rfl⟩
        go_wp2_with fail
        refine (unhide hsz).mono ?_
        rintro e w0'' ⟨rfl, rfl⟩
        go_wp2_with fail
        go_ret
        exact ⟨rfl, Fr.refl _ _⟩
      · rw [decide_eq_false h3] at hik
        generalize s.length = SN at *
        generalize pub.length = PN at *
        clear hn h3 h1
        subst h2
        go_enter Tryd.func16, Tryd.ntmps16
        go_wp2_with fail
        refine (unhide hmay).mono ?_
        rintro e w0 ⟨rfl, rfl⟩
        go_wp2_with fail
        refine (unhide hik).mono ?_
        rintro e w0' ⟨rfl, rfl⟩
        go_wp2_with fail
        go_ret
        exact ⟨rfl, Fr.refl _ _⟩
    · generalize s.length = SN at *
      generalize pub.length = PN at *
      clear hn h1
      go_enter Tryd.func16, Tryd.ntmps16
      go_wp2_with fail
      refine (unhide hmay).mono ?_
      rintro e w0 ⟨rfl, rfl⟩
      go_wp2_with fail
      go_ret
      exact ⟨rfl, Fr.refl _ _⟩
  · rw [decide_eq_false h1] at hmay
    generalize s.length = SN at *
    generalize pub.length = PN at *
    clear hn h1
    go_enter Tryd.func16, Tryd.ntmps16
    go_wp2_with fail
    refine (unhide hmay).mono ?_
    rintro e w0 ⟨rfl, rfl⟩
    go_wp2_with fail
    go_ret
    exact ⟨rfl, Fr.refl _ _⟩
theorem szF_nat (wi H : Nat) (hw1 : 1 ≤ wi) (hw32 : wi ≤ 32) (hH : H ≤ 6) : szF wi H = ((16 * wi * wi + H * wi : Nat) : Int) := by rw [szF, if_pos (by omega)]; simp
/-- lamport.Check. -/
theorem lcheck_any (j h K : Int) (pv mv sv : Value) (pub m s : List Nat) (w : World) (hg : GS w) (hp : Sl w pv pub) (hm : Sl w mv m) (hs : Sl w sv s) (hml : m.length < 9223372036854775808) :
    Calls Tryd.prog 16 #[.int .i64 j, .int .i64 h, pv, .int .i64 K, mv, sv] w fun e w' => e = .returned (.bool (chkL j h pub K m s)) ∧ Fr (fun _ => False) w w' := by
  unfold chkL
  by_cases hok : okL j h K pub s
  · rw [if_pos hok]
    obtain ⟨h1, h2, h3, h4⟩ := hok
    obtain ⟨wi, rfl⟩ : ∃ wi : Nat, j = (wi : Int) := ⟨j.toNat, by omega⟩
    obtain ⟨H, rfl⟩ : ∃ H : Nat, h = (H : Int) := ⟨h.toNat, by omega⟩
    rw [Int.toNat_natCast] at h3
    rw [szF_nat wi H (by omega) (by omega) (by omega)] at h4
    rw [Int.toNat_natCast, Int.toNat_natCast]
    exact lcheck_in wi H (by omega) (by omega) (by omega) K h3 pv mv sv pub m s w hg hp hm hs (by omega) hml (by omega)
  · rw [if_neg hok]
    obtain ⟨po, pc, rfl⟩ := hp.form
    obtain ⟨so, sc, rfl⟩ := hs.form
    exact lcheck_no j h K po so pc sc mv pub s w hok
end Go.Proofs.YtjokmlnghpnlbaaDoor

namespace Go.Proofs.YtjokmlnghpnlbaaDoor
open Go.RowKit

set_option maxRecDepth 100000 in
set_option maxHeartbeats 2000000 in
/-- Keys.locks. -/
theorem llocks_any (kb wi K : Nat) (x : Value) (seed : List Nat) (w : World) (c0 : w.cell? ⟨kb, 0, none⟩ = some (.int .i64 (wi : Int))) (c2 : w.cell? ⟨kb, 2, none⟩ = some x) (hx : Sl w x seed) :
    Calls Tryd.prog 39 #[.pointer (some ⟨kb, 0, none⟩), .int .i64 K] w fun e w' => ∃ bk bi, e = .returned (.func (.func 65) #[] #[.pointer (some ⟨bk, 0, none⟩), .pointer (some ⟨bi, 0, none⟩)]) ∧ LkAt w' bk bi kb wi K x seed ∧ Fr (fun _ => False) w w' := by
  have hmf := mf
  obtain ⟨W2, hW2⟩ : ∃ W2, (w.alloc (.cells #[.pointer (some ⟨kb, 0, none⟩)] 26)).alloc (.cells #[.int .i64 (K : Int)] 3) = W2 := ⟨_, rfl⟩
  have hF2 : Fr (fun _ => False) w W2 := by rw [← hW2]; exact ((Fr.refl _ _).alloc _).alloc _
  have k1 : W2.cell? ⟨w.heap.size, 0, none⟩ = some (.pointer (some ⟨kb, 0, none⟩)) := by rw [← hW2]; simp [go_sem]
  have k2 : W2.cell? ⟨w.heap.size + 1, 0, none⟩ = some (.int .i64 (K : Int)) := by rw [← hW2]; simp [go_sem]
  have HW := hide (And.intro hF2 (show LkAt W2 _ _ kb wi K x seed from ⟨k1, k2, (hF2.cell (lt_of_cell c0) (fun h => h)).trans c0, (hF2.cell (lt_of_cell c2) (fun h => h)).trans c2, hx.fr0 hF2⟩))
  clear hF2 k1 k2 c0 c2 hx
  go_enter Tryd.func39, Tryd.ntmps39
  go_wp2_with fail
  go_ret
  try rw [hW2]
  exact ⟨_, _, rfl, (unhide HW).2, (unhide HW).1⟩
/-- Keys in memory, with the leaves that their tree has so far. -/
structure KyAt (w : World) (kb base tb wi H : Nat) (x : Value) (seed : List Nat) (L : List (List Nat)) : Prop where
  c0 : w.cell? ⟨kb, 0, none⟩ = some (.int .i64 (wi : Int))
  c1 : w.cell? ⟨kb, 1, none⟩ = some (.int .i64 (H : Int))
  c2 : w.cell? ⟨kb, 2, none⟩ = some x
  c3 : w.cell? ⟨kb, 3, none⟩ = some (.pointer (some ⟨tb, 0, none⟩))
  sl : Sl w x seed
  sb : seed = [] ∨ ∀ g o n c, x = .slice (some ⟨g, o, none⟩) n c → g < base
  gb : 6 ≤ base
  tr : ∃ xo cp vs rs, TrAt w base tb wi L.length xo cp vs rs ∧ RowsOf wi L 0 rs ∧ ¬ TOwn tb xo vs kb
  gs : GS w
  gt : GT w
  wid : ∀ p ∈ L, p.length = wi
  byt : ∀ p ∈ L, ∀ v ∈ p, v < 256
theorem KyAt.fr0 {w w' : World} {kb base tb wi H : Nat} {x : Value} {seed : List Nat} {L : List (List Nat)} (h : KyAt w kb base tb wi H x seed L) (hf : Fr (fun _ => False) w w') : KyAt w' kb base tb wi H x seed L := by
  obtain ⟨xo, cp, vs, rs, h1, h2, h3⟩ := h.tr
  have hc : ∀ j v, w.cell? ⟨kb, j, none⟩ = some v → w'.cell? ⟨kb, j, none⟩ = some v := fun j v hv => (hf.cell (p := ⟨kb, j, none⟩) (lt_of_cell hv) (fun h => h)).trans hv
  exact ⟨hc _ _ h.c0, hc _ _ h.c1, hc _ _ h.c2, hc _ _ h.c3, h.sl.fr0 hf, h.sb, h.gb, ⟨xo, cp, vs, rs, h1.fr hf (fun _ _ h => h), h2, h3⟩, h.gs.fr0 hf, h.gt.fr0 hf, h.wid, h.byt⟩
theorem KyAt.tk {w : World} {kb base tb wi H : Nat} {x : Value} {seed : List Nat} {L : List (List Nat)} (h : KyAt w kb base tb wi H x seed L) (hL : L.length ≤ 8000000) : Tk w tb wi L := by
  obtain ⟨xo, cp, vs, rs, h1, h2, _⟩ := h.tr
  exact ⟨⟨base, xo, cp, vs, rs, h1, h2⟩, h.gs, h.gt, h.wid, h.byt, hL⟩
/-- One entry more. -/
theorem KyAt.add {w : World} {kb base tb wi H : Nat} {x : Value} {seed : List Nat} {L : List (List Nat)} (h : KyAt w kb base tb wi H x seed L) (hw1 : 1 ≤ wi) (hw32 : wi ≤ 32) (hL : L.length ≤ 8000) (y : Value) (e : List Nat) (hy : Sl w y e) (he : e.length ≤ 16000000) :
    Calls Tryd.prog 37 #[.pointer (some ⟨tb, 0, none⟩), y] w fun e' w' => e' = .returned (.int .i64 L.length) ∧ KyAt w' kb base tb wi H x seed (L ++ [lf wi e]) ∧ Fr (fun k => base ≤ k) w w' := by
  obtain ⟨xo, cp, vs, rs, hT, hR, hK⟩ := h.tr
  obtain ⟨hs1, hs2⟩ := hR.small hw1 hw32 h.wid (by omega)
  refine (add_in wi hw1 hw32 base tb L.length h.gb w xo cp vs rs y e hT h.gs hy he hs1 hs2 (by omega)).mono ?_
  rintro e' w' ⟨rfl, xo', cp', vs', hT', hF, hO⟩
  have hwid : ∀ p ∈ L ++ [lf wi e], p.length = wi := fun p hp => (List.mem_append.1 hp).elim (h.wid p) (fun hp => by rw [List.mem_singleton.1 hp]; exact lf_len wi hw1 hw32 e)
  have hR' := hR.add hw1 hw32 (lf wi e) hwid
  have hown : ∀ k, TOwn tb xo vs k → base ≤ k := fun j hj => (hT.lt j hj).1
  have hc : ∀ j v, w.cell? ⟨kb, j, none⟩ = some v → w'.cell? ⟨kb, j, none⟩ = some v := fun j v hv => (hF.cell (p := ⟨kb, j, none⟩) (lt_of_cell hv) hK).trans hv
  have hFb : Fr (fun k => base ≤ k) w w' := hF.mono (fun k _ hk => hown k hk)
  have hkb : kb < w.heap.size := lt_of_cell h.c0
  have hgb := h.gb
  have hgf : GS w' := h.gs.fr hFb (fun k hk hb => by omega)
  have htf : GT w' := h.gt.fr hFb (fun k hk hb => by omega)
  refine ⟨rfl, ⟨hc _ _ h.c0, hc _ _ h.c1, hc _ _ h.c2, hc _ _ h.c3, h.sl.frD hFb (h.sb.imp id (fun hh g o n c ex hb => by have := hh g o n c ex; omega)), h.sb, h.gb, ⟨xo', cp', vs', _, by rw [List.length_append]; exact hT', hR', fun hk => ?_⟩, hgf, htf, hwid, fun p hp => (List.mem_append.1 hp).elim (h.byt p) (fun hp => by rw [List.mem_singleton.1 hp]; exact lf_lt _ e)⟩, hFb⟩
  rcases hO kb hk with h1 | h1
  · exact hK h1
  · omega
end Go.Proofs.YtjokmlnghpnlbaaDoor

namespace Go.Proofs.YtjokmlnghpnlbaaDoor
open Go.RowKit

/-- bytes.Clone of whatever bytes. -/
theorem clone_sl (x : Value) (l : List Nat) (w : World) (h : Sl w x l) (hn : l.length ≤ 1000000000) :
    Calls Tryd.prog 35 #[x] w fun e w' => ∃ yo yc, e = .returned (.slice yo l.length yc) ∧ OB w w' yo yc l := by
  rcases h.s with ⟨rfl, rfl⟩ | ⟨g, o, c, rfl, _⟩ | ⟨a, c, rfl, rfl⟩
  · refine (Any.bytes_Clone_nil laysSlK4 0 0 w).mono ?_
    rintro e w' ⟨rfl, rfl⟩
    exact ⟨none, 0, rfl, own_nil _ _, Fr.refl _ _⟩
  · exact clone_any g o _ c l w h rfl hn
  · refine (clone_at a 0 c [] w rfl (by omega) (fun i hi => by omega)).mono ?_
    rintro e w' ⟨v', rfl, hO, _, hB⟩
    obtain ⟨ao, cap, rfl⟩ := own_form hO
    exact ⟨ao, cap, rfl, hO, ⟨hB.os, hB.tape, hB.output, hB.size, fun k hk _ => hB.block k hk⟩⟩
set_option maxRecDepth 100000 in
theorem lkeylen_any (kb H : Nat) (hH : H ≤ 6) (w : World) (c1 : w.cell? ⟨kb, 1, none⟩ = some (.int .i64 (H : Int))) :
    Calls Tryd.prog 12 #[.pointer (some ⟨kb, 0, none⟩)] w fun e w' => e = .returned (.int .i64 ((2 ^ H : Nat) : Int)) ∧ w' = w := by
  have hk := hide (lkeys_any H hH w)
  generalize 2 ^ H = N at *
  go_enter Tryd.func12, Tryd.ntmps12
  go_wp2_with fail
  refine (unhide hk).mono ?_
  rintro e w0 ⟨rfl, rfl⟩
  go_wp2_with fail
  go_ret
  exact ⟨rfl, rfl⟩
/-- A key's entry; its leaf. -/
def eN (wi : Nat) (seed : List Nat) (k : Nat) : List Nat := ent (lk wi k seed) (8 * wi)
def lvs (wi : Nat) (seed : List Nat) (n : Nat) : List (List Nat) := (List.range n).map fun k => lf wi (eN wi seed k)
theorem lvs_succ (wi : Nat) (seed : List Nat) (n : Nat) : lvs wi seed (n + 1) = lvs wi seed n ++ [lf wi (eN wi seed n)] := by simp [lvs, List.range_succ]
theorem lvs_len (wi : Nat) (seed : List Nat) (n : Nat) : (lvs wi seed n).length = n := by simp [lvs]
theorem eN_len (wi : Nat) (hw1 : 1 ≤ wi) (hw32 : wi ≤ 32) (seed : List Nat) (k : Nat) : (eN wi seed k).length = 16 * wi * wi := by
  rw [eN, ent_len _ wi (8 * wi) (fun J V _ _ => lk_len wi k hw1 hw32 seed J V), ← Nat.mul_assoc]
theorem eN_lt (wi : Nat) (seed : List Nat) (k : Nat) : ∀ v ∈ eN wi seed k, v < 256 := ent_lt _ (lk_lt wi k seed) _
set_option maxRecDepth 100000 in
set_option maxHeartbeats 4000000 in
/-- New, of what may be. -/
theorem lnew_in (wi H : Nat) (hw1 : 1 ≤ wi) (hw32 : wi ≤ 32) (hH : H ≤ 6) (x : Value) (seed : List Nat) (w : World) (hg : GS w) (ht : GT w) (hx : Sl w x seed) (hs : seed.length ≤ 1000000000) :
    Calls Tryd.prog 11 #[.int .i64 wi, .int .i64 H, x] w fun e w' => ∃ kb base tb yo yc, e = .returned (.tuple #[.pointer (some ⟨kb, 0, none⟩), .int .i64 0]) ∧ KyAt w' kb base tb wi H (.slice yo seed.length yc) seed (lvs wi seed (2 ^ H)) ∧ Fr (fun _ => False) w w' := by
  obtain ⟨xo, xc, rfl⟩ := hx.form
  have hmay := fun w' => lmay_any wi H w'
  rw [decide_eq_true (by omega)] at hmay
  have hcl := clone_sl _ seed w hx hs
  have hN64 : 2 ^ H ≤ 64 := Nat.pow_le_pow_right (n := 2) (by decide) hH
  have hps9 : 16 * wi * wi ≤ 16384 := Nat.mul_le_mul (show 16 * wi ≤ 512 by omega) hw32
  have hlen := fun kb w' (c1 : w'.cell? ⟨kb, 1, none⟩ = some (.int .i64 (H : Int))) => lkeylen_any kb H hH w' c1
  have hNG : 6 ≤ w.heap.size := ht.2
  have hsb := hx.b
  generalize hSN : seed.length = SN at *
  generalize 2 ^ H = N at *
  have HC := hide (And.intro hmay (And.intro hcl (And.intro hlen (And.intro hg (And.intro ht (And.intro hNG (And.intro hs hsb)))))))
  clear hmay hcl hlen hg ht hx hNG hs hsb
  go_enter Tryd.func11, Tryd.ntmps11
  go_wp2_with fail
  refine ((unhide HC).1 _).mono ?_
  rintro e w0 ⟨rfl, rfl⟩
  go_wp2_with fail
  refine (unhide HC).2.1.mono ?_
  rintro e w1 ⟨yo, yc, rfl, hO1⟩
  have H1 := hide hO1
  clear hO1
  go_wp2_with fail
  refine (mnew_any _ _).mono ?_
  rintro e w2 ⟨rfl, hT, hF2⟩
  obtain ⟨W, hW⟩ : ∃ W, w2.alloc (.cells #[.int .i64 (wi : Int), .int .i64 (H : Int), .slice yo SN yc, .pointer (some ⟨w1.heap.size, 0, none⟩)] 57) = W := ⟨_, rfl⟩
  have hF3 : Fr (fun _ => False) w2 W := by rw [← hW]; exact (Fr.refl _ _).alloc _
  have hcc : ∀ j, W.cell? ⟨w2.heap.size, j, none⟩ = (#[.int .i64 (wi : Int), .int .i64 (H : Int), .slice yo SN yc, .pointer (some ⟨w1.heap.size, 0, none⟩)] : Array Value)[j]? := fun j => by rw [← hW]; exact World.cell?_alloc_at _ _ _ _ rfl
  have hFW : Fr (fun _ => False) w0 W := (unhide H1).fr.trans (hF2.trans hF3 (fun _ _ h => h)) (fun _ _ h => h)
  have hKy : KyAt W w2.heap.size w1.heap.size w1.heap.size wi H (.slice yo SN yc) seed [] := by
    obtain ⟨_, _, _, _, htl⟩ := hT.cells
    have hF23 := hF2.trans hF3 (fun _ _ h => h)
    have hsl := (unhide H1).sl (unhide HC).2.2.2.2.2.2.2
    have hlt := (unhide H1).lt
    rw [hSN] at hsl hlt
    refine ⟨hcc 0, hcc 1, hcc 2, hcc 3, hsl.fr0 hF23, .inr (fun g o n c e => hlt g o n c e), Nat.le_trans (unhide HC).2.2.2.2.2.1 (unhide H1).fr.size, ⟨none, 0, [], [], hT.fr hF3 (fun _ _ h => h), rows_nil wi, fun hk => ?_⟩, (unhide HC).2.2.2.1.fr0 hFW, (unhide HC).2.2.2.2.1.fr0 hFW, fun p hp => (by cases hp), fun p hp => (by cases hp)⟩
    rcases hk with h | ⟨o, h⟩ | ⟨v, h, _⟩
    · omega
    · cases h
    · cases h
  have hbt : w0.heap.size ≤ w1.heap.size := (unhide H1).fr.size
  have d1 := hcc 1
  have HW := hide (And.intro hKy hFW)
  clear hT hF2 hF3 hcc hKy hFW
  go_wp2_with fail
  try rw [hW]
  generalize w2.heap.size = kb at *
  generalize w1.heap.size = tb at *
  refine ((unhide HC).2.2.1 kb W d1).mono ?_
  rintro e w3 ⟨rfl, rfl⟩
  go_wp2_with fail
  clear d1 hW
  go_loopw [24] (fun iv wr => ∃ k : Nat, k ≤ N ∧ iv = .int .i64 (k : Nat) ∧ KyAt wr kb tb tb wi H (.slice yo SN yc) seed (lvs wi seed k) ∧ Fr (fun _ => False) w0 wr) (fun iv _ => N - (intOf iv).toNat)
  case atStart => exact ⟨0, Nat.zero_le _, rfl, (unhide HW).1, (unhide HW).2⟩
  case round =>
    obtain ⟨k, hk, rfl, hI, hF⟩ := hrel
    by_cases hlt : k < N
    · have hlt' : (k : Int) < (N : Int) := by omega
      have hs9 := (unhide HC).2.2.2.2.2.2.1
      have hlk := fun w' (hf : Fr (fun _ => False) wr w') => llocks_any kb wi k _ seed w' (hI.fr0 hf).c0 (hI.fr0 hf).c2 (hI.fr0 hf).sl
      have hen := fun w' bk bi (hf : Fr (fun _ => False) wr w') (h : LkAt w' bk bi kb wi k (.slice yo SN yc) seed) => lentry_any wi _ hw1 hw32 _ _ w' (h.f (hI.gs.fr0 hf) hw1 hw32 (by omega) (by omega))
      have hel := eN_len wi hw1 hw32 seed k
      have heb := eN_lt wi seed k
      have hls := lvs_succ wi seed k
      have hll := lvs_len wi seed k
      have had := fun w' y (hf : Fr (fun _ => False) wr w') (h : Sl w' y (eN wi seed k)) => (hI.fr0 hf).add hw1 hw32 (by omega) y _ h (by omega)
      rw [← hls, hll] at had
      have e0 : ent (lk wi k seed) (8 * wi) = eN wi seed k := rfl
      rw [e0] at hen
      have hc3 := fun w' (hf : Fr (fun _ => False) wr w') => (hI.fr0 hf).c3
      generalize hEN : eN wi seed k = EN at *
      generalize hPS : 16 * wi * wi = PS at *
      have HI := hide (And.intro hlk (And.intro hen (And.intro had (And.intro hc3 (And.intro hel (And.intro heb hF))))))
      clear hlk hen had hc3 hel heb hF hI hls hll e0 hEN hPS
      have T1 : True := trivial
      go_wp2_with fail
      go_region_held3 (fun w' => w'.cell? ⟨kb, 3, none⟩ = some (.pointer (some ⟨tb, 0, none⟩)))
        (first | assumption | exact (unhide HI).2.2.2.1 _ (Fr.refl _ _).drew | exact kC.c3 | exact (unhide HI).2.2.2.1 _ fB | exact (unhide HI).2.2.2.1 _ fA)
        (first
          | (go_at_call 39; clear T1; refine ((unhide HI).1 _ (Fr.refl _ _).drew).mono ?_; rintro e wA ⟨bk, bi, rfl, hA, gA⟩; have fA : Fr (fun _ => False) wr wA := (Fr.refl _ _).drew.trans gA (fun _ _ h => h))
          | (go_at_call 38; refine ((unhide HI).2.1 _ _ _ fA hA).mono ?_; rintro e wB ⟨eo, ec, rfl, hB⟩; have fB : Fr (fun _ => False) wr wB := fA.trans hB.fr (fun _ _ h => h); have sB := (unhide HI).2.2.2.2.1 ▸ hB.sl (unhide HI).2.2.2.2.2.1)
          | (go_at_call 37; refine ((unhide HI).2.2.1 _ _ fB sB).mono ?_; rintro e wC ⟨rfl, kC, gC⟩))
      have hFC := ((unhide HI).2.2.2.2.2.2.trans fB (fun _ _ h => h)).trans gC (fun j hj hb => by omega)
      have H5 := hide (And.intro kC hFC)
      clear fA fB gA gC kC hFC hA hB sB
      go_wp2_with fail
      exact ⟨⟨k + 1, by omega, by go_num, (unhide H5).1, (unhide H5).2⟩, by simp [intOf]; omega⟩
    · have hlt' : ¬ (k : Int) < (N : Int) := by omega
      have hkN : k = N := by omega
      subst hkN
      have H5 := hide (And.intro hI hF)
      clear hI hF
      go_wp2_with fail
      refine bodyPost_ret (v := .tuple #[.pointer (some ⟨kb, 0, none⟩), .int .i64 0]) (by simp [results, Tryd.results11, go_sem]) rfl ?_
      first | exact ⟨kb, rfl, ⟨tb, tb, yo, yc, (unhide H5).1⟩, (unhide H5).2⟩ | exact ⟨kb, tb, tb, yo, yc, rfl, (unhide H5).1, (unhide H5).2⟩
end Go.Proofs.YtjokmlnghpnlbaaDoor

namespace Go.Proofs.YtjokmlnghpnlbaaDoor
open Go.RowKit

set_option maxRecDepth 100000 in
set_option maxHeartbeats 4000000 in
/-- Keys.Public. -/
theorem lpublic_any (wi H kb base tb : Nat) (hw1 : 1 ≤ wi) (hw32 : wi ≤ 32) (hH : H ≤ 6) (x : Value) (seed : List Nat) (L : List (List Nat)) (w : World) (h : KyAt w kb base tb wi H x seed L) (hL : L.length = 2 ^ H) :
    Calls Tryd.prog 15 #[.pointer (some ⟨kb, 0, none⟩)] w fun e w' => ∃ yo yc, e = .returned (.slice yo wi yc) ∧ OB w w' yo yc (mth wi L) := by
  have hN64 : 2 ^ H ≤ 64 := Nat.pow_le_pow_right (n := 2) (by decide) hH
  have hlen := fun w' (hf : Fr (fun _ => False) w w') => lkeylen_any kb H hH w' (h.fr0 hf).c1
  have hrt := fun w' (hf : Fr (fun _ => False) w w') => troot_in tb wi hw1 hw32 L L.length w' ((h.fr0 hf).tk (by omega)) (Nat.le_refl _)
  have hbl : blk L 0 L.length = L := by simp [blk]
  rw [hbl, hL] at hrt
  have hc3 := fun w' (hf : Fr (fun _ => False) w w') => (h.fr0 hf).c3
  generalize 2 ^ H = N at *
  generalize mth wi L = M at *
  have HC := hide (And.intro hlen (And.intro hrt hc3))
  clear hlen hrt hc3 h hL hbl
  have T1 : True := trivial
  go_enter Tryd.func15, Tryd.ntmps15
  go_wp2_with fail
  go_region_held3 (fun w' => w'.cell? ⟨kb, 3, none⟩ = some (.pointer (some ⟨tb, 0, none⟩)))
    (first | assumption | exact (unhide HC).2.2 _ (Fr.refl _ _).drew | exact (unhide HC).2.2 _ fB | exact (unhide HC).2.2 _ fA)
    (first
      | (go_at_call 12; clear T1; refine ((unhide HC).1 _ (Fr.refl _ _).drew).mono ?_; rintro e wA ⟨rfl, rfl⟩; have fA : Fr (fun _ => False) w w.drew := (Fr.refl _ _).drew)
      | (go_at_call 44; refine ((unhide HC).2.1 _ fA).mono ?_; rintro e wB ⟨yo, yc, rfl, oB⟩; have fB : Fr (fun _ => False) w wB := fA.trans oB.fr (fun _ _ h => h)))
  have H5 := hide (oB.base fA)
  clear fA fB oB
  go_wp2_with fail
  go_ret
  exact ⟨yo, yc, rfl, unhide H5⟩
end Go.Proofs.YtjokmlnghpnlbaaDoor

namespace Go.Proofs.YtjokmlnghpnlbaaDoor
open Go.RowKit

set_option maxRecDepth 100000 in
set_option maxHeartbeats 4000000 in
/-- Keys.Leaf, of a key. -/
theorem lleaf_in (wi H kb base tb K : Nat) (hw1 : 1 ≤ wi) (hw32 : wi ≤ 32) (hH : H ≤ 6) (hK : K < 2 ^ H) (yo : Option Addr) (SN yc : Nat) (seed : List Nat) (L : List (List Nat)) (w : World) (h : KyAt w kb base tb wi H (.slice yo SN yc) seed L) (hs : seed.length ≤ 1000000000) :
    Calls Tryd.prog 13 #[.pointer (some ⟨kb, 0, none⟩), .int .i64 K] w fun e w' => ∃ zo, e = .returned (.tuple #[.slice zo wi wi, .int .i64 0]) ∧ OB w w' zo wi (lf wi (eN wi seed K)) := by
  have hN64 : 2 ^ H ≤ 64 := Nat.pow_le_pow_right (n := 2) (by decide) hH
  have hps9 : 16 * wi * wi ≤ 16384 := Nat.mul_le_mul (show 16 * wi ≤ 512 by omega) hw32
  have hik := fun w' => liskey_any H hH K w'
  rw [decide_eq_true (by omega)] at hik
  have hlk := fun w' (hf : Fr (fun _ => False) w w') => llocks_any kb wi K _ seed w' (h.fr0 hf).c0 (h.fr0 hf).c2 (h.fr0 hf).sl
  have hen := fun w' bk bi (hf : Fr (fun _ => False) w w') (hl : LkAt w' bk bi kb wi K (.slice yo SN yc) seed) => lentry_any wi _ hw1 hw32 _ _ w' (hl.f (h.gs.fr0 hf) hw1 hw32 (by omega) (by omega))
  have hel := eN_len wi hw1 hw32 seed K
  have heb := eN_lt wi seed K
  have e0 : ent (lk wi K seed) (8 * wi) = eN wi seed K := rfl
  rw [e0] at hen
  have hlf := fun w' x (hf : Fr (fun _ => False) w w') (hx : Sl w' x (eN wi seed K)) => leaf_any wi x _ w' (h.gs.fr0 hf) hx (by omega)
  rw [lf_len5 wi hw1 hw32] at hlf
  have hcc := fun w' (hf : Fr (fun _ => False) w w') => And.intro (h.fr0 hf).c0 (h.fr0 hf).c1
  have c0 := h.c0
  have c1 := h.c1
  generalize eN wi seed K = EN at *
  generalize 16 * wi * wi = PS at *
  have HC := hide (And.intro hik (And.intro hlk (And.intro hen (And.intro hlf (And.intro hcc (And.intro hel heb))))))
  clear hik hlk hen hlf hcc hel heb h e0 hK
  have T1 : True := trivial
  go_enter Tryd.func13, Tryd.ntmps13
  go_wp2_with fail
  refine ((unhide HC).1 _).mono ?_
  rintro e w0 ⟨rfl, rfl⟩
  go_wp2_with fail
  go_region_held3 (fun w' => w'.cell? ⟨kb, 0, none⟩ = some (.int .i64 (wi : Int)) ∧ w'.cell? ⟨kb, 1, none⟩ = some (.int .i64 (H : Int)))
    (first | assumption | exact (unhide HC).2.2.2.2.1 _ (Fr.refl _ _).drew | exact (unhide HC).2.2.2.2.1 _ fC | exact (unhide HC).2.2.2.2.1 _ fB | exact (unhide HC).2.2.2.2.1 _ fA)
    (first
      | (go_at_call 39; clear T1; refine ((unhide HC).2.1 _ (Fr.refl _ _).drew).mono ?_; rintro e wA ⟨bk, bi, rfl, hA, gA⟩; have fA : Fr (fun _ => False) w0 wA := (Fr.refl _ _).drew.trans gA (fun _ _ h => h))
      | (go_at_call 38; refine ((unhide HC).2.2.1 _ _ _ fA hA).mono ?_; rintro e wB ⟨eo, ec, rfl, hB⟩; have fB : Fr (fun _ => False) w0 wB := fA.trans hB.fr (fun _ _ h => h); have sB := (unhide HC).2.2.2.2.2.1 ▸ hB.sl (unhide HC).2.2.2.2.2.2)
      | (go_at_call 41; refine ((unhide HC).2.2.2.1 _ _ fB sB).mono ?_; rintro e wC ⟨zo, rfl, hC⟩; have fC : Fr (fun _ => False) w0 wC := fB.trans hC.fr (fun _ _ h => h)))
  have H5 := hide (hC.base fB)
  clear fA fB fC gA hA hB hC sB
  go_wp2_with fail
  refine bodyPost_ret (v := .tuple #[.slice zo wi wi, .int .i64 0]) (by simp [results, Tryd.results13, go_sem]) rfl ?_
  exact ⟨zo, rfl, unhide H5⟩
set_option maxRecDepth 100000 in
/-- Keys.Leaf, of what is no key. -/
theorem lleaf_no (H kb : Nat) (hH : H ≤ 6) (K : Int) (hK : ¬ (0 ≤ K ∧ K < ((2 ^ H : Nat) : Int))) (w : World) (c1 : w.cell? ⟨kb, 1, none⟩ = some (.int .i64 (H : Int))) :
    Calls Tryd.prog 13 #[.pointer (some ⟨kb, 0, none⟩), .int .i64 K] w fun e w' => e = .returned (.tuple #[.slice none 0 0, .int .i64 1]) ∧ w' = w := by
  have hik := liskey_any H hH K w
  rw [decide_eq_false hK] at hik
  have HC := hide hik
  clear hik hK
  go_enter Tryd.func13, Tryd.ntmps13
  go_wp2_with fail
  refine (unhide HC).mono ?_
  rintro e w0 ⟨rfl, rfl⟩
  go_wp2_with fail
  refine bodyPost_ret (v := .tuple #[.slice none 0 0, .int .i64 1]) (by simp [results, Tryd.results13, go_sem]) rfl ?_
  exact ⟨rfl, rfl⟩
end Go.Proofs.YtjokmlnghpnlbaaDoor

namespace Go.Proofs.YtjokmlnghpnlbaaDoor
open Go.RowKit

theorem OL.stepW {w wr w1 : World} {ao : Option Addr} {cp : Nat} {vs : List Value} {ps : List (List Nat)} (h : OL w wr ao cp vs ps) (l : List Nat) (wi : Nat) (hl : l.length = wi) (yo : Option Addr) (yc : Nat) (hO : OB wr w1 yo yc l) (hb : ∀ v ∈ l, v < 256) (hn : vs.length < 16000000) :
    ∃ ao' cp' w2, (Builtin.append_ #[40, 40] 40 #[.slice ao vs.length cp, .slice (some ⟨w1.heap.size, 0, none⟩) 1 1]).run Tryd.prog (w1.alloc (.cells #[.slice yo wi yc] 24)) = .ok (.slice ao' (vs.length + 1) cp') w2 ∧ OL w w2 ao' cp' (vs ++ [.slice yo wi yc]) (ps ++ [l]) := by
  subst hl
  exact h.step l yo yc hO hb hn
theorem boxAB (w : World) (a0 a1 a2 b0 b1 : Value) (ta tb : Nat) (W : World) (hW : (w.alloc (.cells #[a0, a1, a2] ta)).alloc (.cells #[b0, b1] tb) = W) :
    W.cell? ⟨w.heap.size + 1, 0, none⟩ = some b0 ∧ W.cell? ⟨w.heap.size + 1, 1, none⟩ = some b1 ∧ Fr (fun _ => False) w W := by
  subst hW
  have e1 : w.heap.size + 1 = (w.alloc (.cells #[a0, a1, a2] ta)).heap.size := by simp
  have B : ∀ j : Nat, ((w.alloc (.cells #[a0, a1, a2] ta)).alloc (.cells #[b0, b1] tb)).cell? ⟨w.heap.size + 1, j, none⟩ = (#[b0, b1] : Array Value)[j]? := fun j => by
    rw [e1, World.cell?_alloc_at _ _ _ _ rfl]
  exact ⟨B 0, B 1, ((Fr.refl _ _).alloc _).alloc _⟩
def BesSays (tb wi : Nat) (L : List (List Nat)) (f n tf tn : Nat) (w : World) : Prop :=
  Calls Tryd.prog 71 #[pv (.pointer (some ⟨tb, 0, none⟩)) f n, sv tf tn] w fun e w' => ∃ ao cp vs, e = .returned (.slice ao vs.length cp) ∧ OL w w' ao cp vs (bes wi L f n tf tn)
set_option maxRecDepth 100000 in
set_option maxHeartbeats 2000000 in
/-- The halves left aside on the way to a part. -/
theorem beside_any (tb wi : Nat) (hw1 : 1 ≤ wi) (hw32 : wi ≤ 32) (L : List (List Nat)) (m : Nat) : ∀ (f n tf tn : Nat) (w : World), n ≤ m → Tk w tb wi L → Al f n → f + n ≤ L.length → Rch f n tf tn → BesSays tb wi L f n tf tn w := by
  induction m with
  | zero =>
    intro f n tf tn w hm hT hA hL hr
    by_cases e : f = tf ∧ n = tn
    · obtain ⟨rfl, rfl⟩ := e
      unfold BesSays sv pv
      rw [bes_eq]
      have eqs := fun w => eq_span f n f n w
      simp only [decide_true, and_self] at eqs
      have eg := Tryd.guard_span
      go_enter Tryd.func71, Tryd.ntmps71
      go_wp2_with fail
      go_ret
      exact ⟨none, 0, [], rfl, (OL.nil _).base (((Fr.refl _ _).alloc _).alloc _)⟩
    · have := (rch_ne hr e).1; omega
  | succ m ih =>
    intro f n tf tn w hm hT hA hL hr
    by_cases e : f = tf ∧ n = tn
    · obtain ⟨rfl, rfl⟩ := e
      unfold BesSays sv pv
      rw [bes_eq]
      have eqs := fun w => eq_span f n f n w
      simp only [decide_true, and_self] at eqs
      have eg := Tryd.guard_span
      go_enter Tryd.func71, Tryd.ntmps71
      go_wp2_with fail
      go_ret
      exact ⟨none, 0, [], rfl, (OL.nil _).base (((Fr.refl _ _).alloc _).alloc _)⟩
    · obtain ⟨h2, r1, r2⟩ := rch_ne hr e
      have hlt := hf_lt n h2
      have hp := hf_pos n
      obtain ⟨hA1, hA2⟩ := hA.halves h2
      have hle := hT.len
      have eqs := fun w => eq_span f n tf tn w
      rw [decide_eq_false e] at eqs
      have eg := Tryd.guard_span
      have hpt := fun w => parts_any (some ⟨tb, 0, none⟩) f n w (by omega) h2
      have hbf := fun w => before_any tf tn (f + hf n) (n - hf n) w
      clear hle
      by_cases hl : tf < f + hf n
      · rw [decide_eq_true hl] at hbf
        have hrec := fun w' (hf' : Fr (fun _ => False) w w') => ih f (hf n) tf tn w' (by omega) (hT.fr0 hf') hA1 (by omega) (r1 hl)
        have hroot := fun w' (hf' : Fr (fun _ => False) w w') => root_any tb wi hw1 hw32 L _ (f + hf n) (n - hf n) w' (Nat.le_refl _) (hT.fr0 hf') hA2 (by omega)
        have hMw := hT.mw hw1 hw32 (f + hf n) (n - hf n)
        have hMb := hT.mb (f + hf n) (n - hf n)
        have hdl := dep_le _ f (hf n) tf tn (Nat.le_refl _)
        rw [← bes_len wi L _ f (hf n) tf tn (Nat.le_refl _)] at hdl
        unfold BesSays RootSays at *
        rw [bes_l h2 e hl]
        generalize bes wi L f (hf n) tf tn = BS at *
        generalize mth wi (blk L (f + hf n) (n - hf n)) = M at *
        have hbl : BS.length < 16000000 := by have := hT.len; omega
        clear hdl
        generalize f + hf n = F2 at *
        generalize n - hf n = N2 at *
        generalize hf n = K at *
        have HC := hide (And.intro hpt (And.intro hbf (And.intro hrec (And.intro hroot (And.intro hMw (And.intro hMb hbl))))))
        clear hpt hbf hrec hroot r1 r2 hr ih hlt hp hl hm h2 e hT hA1 hA2 hMw hMb hbl hL
        unfold sv pv at *
        go_enter Tryd.func71, Tryd.ntmps71
        go_wp2_with fail
        obtain ⟨W0, hW0⟩ : ∃ W0, (w.alloc (.cells #[.pointer (some ⟨tb, 0, none⟩), .int .i64 f, .int .i64 n] 94)).alloc (.cells #[.int .i64 tf, .int .i64 tn] 92) = W0 := ⟨_, rfl⟩
        rw [hW0]
        obtain ⟨b0, b1, hF0⟩ := boxAB w _ _ _ _ _ _ _ W0 hW0
        refine ((unhide HC).1 _).mono ?_
        rintro e' wA ⟨rfl, hFA⟩
        have c0 := (hFA.cell (lt_of_cell b0) (fun h => h)).trans b0
        have c1 := (hFA.cell (lt_of_cell b1) (fun h => h)).trans b1
        have HF := hide (hF0.trans hFA (fun _ _ h => h))
        clear hFA hF0 b0 b1 hW0
        generalize w.heap.size + 1 = PB at *
        have l0 : PB < wA.heap.size := lt_of_cell c0
        have l1 : PB < wA.heap.size + 1 := Nat.lt_succ_of_lt l0
        go_wp2_with fail
        obtain ⟨W1, hW1⟩ : ∃ W1, (wA.alloc (.cells #[.pointer (some ⟨tb, 0, none⟩), .int .i64 f, .int .i64 K] 94)).alloc (.cells #[.pointer (some ⟨tb, 0, none⟩), .int .i64 F2, .int .i64 N2] 94) = W1 := ⟨_, rfl⟩
        rw [hW1]
        obtain ⟨x0, x1, x2, y0, y1, y2, hF1⟩ := two3 wA _ _ _ _ _ _ _ W1 hW1
        refine ((unhide HC).2.1 _).mono ?_
        rintro e' wB ⟨rfl, hFB⟩
        have hF1B := hF1.trans hFB (fun _ _ h => h)
        have d0 := (hF1B.cell (lt_of_cell c0) (fun h => h)).trans c0
        have d1 := (hF1B.cell (lt_of_cell c1) (fun h => h)).trans c1
        have u0 := (hFB.cell (lt_of_cell x0) (fun h => h)).trans x0
        have u1 := (hFB.cell (lt_of_cell x1) (fun h => h)).trans x1
        have u2 := (hFB.cell (lt_of_cell x2) (fun h => h)).trans x2
        have v0 := (hFB.cell (lt_of_cell y0) (fun h => h)).trans y0
        have v1 := (hFB.cell (lt_of_cell y1) (fun h => h)).trans y1
        have v2 := (hFB.cell (lt_of_cell y2) (fun h => h)).trans y2
        have HF2 := hide ((unhide HF).trans hF1B (fun _ _ h => h))
        clear hF1 hFB hF1B hW1 x0 x1 x2 y0 y1 y2 c0 c1 HF l0 l1
        generalize wA.heap.size = Z at *
        have hS : ∀ w', Fr (fun _ => False) wB w' → w'.cell? ⟨Z, 0, none⟩ = some (.pointer (some ⟨tb, 0, none⟩)) ∧ w'.cell? ⟨Z, 1, none⟩ = some (.int .i64 f) ∧ w'.cell? ⟨Z, 2, none⟩ = some (.int .i64 K) ∧ w'.cell? ⟨Z + 1, 0, none⟩ = some (.pointer (some ⟨tb, 0, none⟩)) ∧ w'.cell? ⟨Z + 1, 1, none⟩ = some (.int .i64 F2) ∧ w'.cell? ⟨Z + 1, 2, none⟩ = some (.int .i64 N2) ∧ w'.cell? ⟨PB, 0, none⟩ = some (.int .i64 tf) ∧ w'.cell? ⟨PB, 1, none⟩ = some (.int .i64 tn) := fun w' hf =>
          ⟨(hf.cell (lt_of_cell u0) (fun h => h)).trans u0, (hf.cell (lt_of_cell u1) (fun h => h)).trans u1, (hf.cell (lt_of_cell u2) (fun h => h)).trans u2, (hf.cell (lt_of_cell v0) (fun h => h)).trans v0, (hf.cell (lt_of_cell v1) (fun h => h)).trans v1, (hf.cell (lt_of_cell v2) (fun h => h)).trans v2, (hf.cell (lt_of_cell d0) (fun h => h)).trans d0, (hf.cell (lt_of_cell d1) (fun h => h)).trans d1⟩
        have HS := hide hS
        clear hS
        go_wp2_with fail
        go_region_held3 (fun w' => w'.cell? ⟨Z, 0, none⟩ = some (.pointer (some ⟨tb, 0, none⟩)) ∧ w'.cell? ⟨Z, 1, none⟩ = some (.int .i64 f) ∧ w'.cell? ⟨Z, 2, none⟩ = some (.int .i64 K) ∧ w'.cell? ⟨Z + 1, 0, none⟩ = some (.pointer (some ⟨tb, 0, none⟩)) ∧ w'.cell? ⟨Z + 1, 1, none⟩ = some (.int .i64 F2) ∧ w'.cell? ⟨Z + 1, 2, none⟩ = some (.int .i64 N2) ∧ w'.cell? ⟨PB, 0, none⟩ = some (.int .i64 tf) ∧ w'.cell? ⟨PB, 1, none⟩ = some (.int .i64 tn))
          (first | assumption | exact (unhide HS) _ (Fr.refl _ _).drew | exact (unhide HS) _ fE | exact (unhide HS) _ (fD.alloc _) | exact (unhide HS) _ fD | exact (unhide HS) _ fC)
          (first
            | (go_at_call 71; refine ((unhide HC).2.2.1 _ (by exact (unhide HF2).drew)).mono ?_; rintro e wC ⟨ao, cp, us, rfl, oC⟩; have fC : Fr (fun _ => False) wB wC := (Fr.refl _ _).drew.trans oC.own.fr (fun _ _ h => h))
            | (go_at_call 73; refine ((unhide HC).2.2.2.1 _ (by exact (unhide HF2).trans fC (fun _ _ h => h))).mono ?_; rintro e wD ⟨yo, yc, rfl, oD⟩; have fD : Fr (fun _ => False) wB wD := fC.trans oD.fr (fun _ _ h => h))
            | (obtain ⟨ao2, cp2, wE, hr2, hO2⟩ := oC.stepW M wi (unhide HC).2.2.2.2.1 yo yc oD (unhide HC).2.2.2.2.2.1 (by rw [oC.len]; exact (unhide HC).2.2.2.2.2.2); have fE : Fr (fun _ => False) wB wE := (Fr.refl _ _).drew.trans hO2.own.fr (fun _ _ h => h); refine step_app rfl (.tmp 22) (.tmp 25) 40 40 rfl _ _ _ (by simp [Act.eval]) (by simp [Act.eval]) hr2 ?_))
        have HE := hide (hO2.base ((unhide HF2).drew))
        clear oC oD hO2 hr2 fC fD fE
        go_wp2_with fail
        go_ret
        exact ⟨ao2, cp2, _, by rw [List.length_append]; rfl, unhide HE⟩
      · rw [decide_eq_false hl] at hbf
        have hrec := fun w' (hf' : Fr (fun _ => False) w w') => ih (f + hf n) (n - hf n) tf tn w' (by omega) (hT.fr0 hf') hA2 (by omega) (r2 hl)
        have hroot := fun w' (hf' : Fr (fun _ => False) w w') => root_any tb wi hw1 hw32 L _ f (hf n) w' (Nat.le_refl _) (hT.fr0 hf') hA1 (by omega)
        have hMw := hT.mw hw1 hw32 f (hf n)
        have hMb := hT.mb f (hf n)
        have hdl := dep_le _ (f + hf n) (n - hf n) tf tn (Nat.le_refl _)
        rw [← bes_len wi L _ (f + hf n) (n - hf n) tf tn (Nat.le_refl _)] at hdl
        unfold BesSays RootSays at *
        rw [bes_r h2 e hl]
        generalize bes wi L (f + hf n) (n - hf n) tf tn = BS at *
        generalize mth wi (blk L f (hf n)) = M at *
        have hbl : BS.length < 16000000 := by have := hT.len; omega
        clear hdl
        generalize f + hf n = F2 at *
        generalize n - hf n = N2 at *
        generalize hf n = K at *
        have HC := hide (And.intro hpt (And.intro hbf (And.intro hrec (And.intro hroot (And.intro hMw (And.intro hMb hbl))))))
        clear hpt hbf hrec hroot r1 r2 hr ih hlt hp hl hm h2 e hT hA1 hA2 hMw hMb hbl hL
        unfold sv pv at *
        go_enter Tryd.func71, Tryd.ntmps71
        go_wp2_with fail
        obtain ⟨W0, hW0⟩ : ∃ W0, (w.alloc (.cells #[.pointer (some ⟨tb, 0, none⟩), .int .i64 f, .int .i64 n] 94)).alloc (.cells #[.int .i64 tf, .int .i64 tn] 92) = W0 := ⟨_, rfl⟩
        rw [hW0]
        obtain ⟨b0, b1, hF0⟩ := boxAB w _ _ _ _ _ _ _ W0 hW0
        refine ((unhide HC).1 _).mono ?_
        rintro e' wA ⟨rfl, hFA⟩
        have c0 := (hFA.cell (lt_of_cell b0) (fun h => h)).trans b0
        have c1 := (hFA.cell (lt_of_cell b1) (fun h => h)).trans b1
        have HF := hide (hF0.trans hFA (fun _ _ h => h))
        clear hFA hF0 b0 b1 hW0
        generalize w.heap.size + 1 = PB at *
        have l0 : PB < wA.heap.size := lt_of_cell c0
        have l1 : PB < wA.heap.size + 1 := Nat.lt_succ_of_lt l0
        go_wp2_with fail
        obtain ⟨W1, hW1⟩ : ∃ W1, (wA.alloc (.cells #[.pointer (some ⟨tb, 0, none⟩), .int .i64 f, .int .i64 K] 94)).alloc (.cells #[.pointer (some ⟨tb, 0, none⟩), .int .i64 F2, .int .i64 N2] 94) = W1 := ⟨_, rfl⟩
        rw [hW1]
        obtain ⟨x0, x1, x2, y0, y1, y2, hF1⟩ := two3 wA _ _ _ _ _ _ _ W1 hW1
        refine ((unhide HC).2.1 _).mono ?_
        rintro e' wB ⟨rfl, hFB⟩
        have hF1B := hF1.trans hFB (fun _ _ h => h)
        have d0 := (hF1B.cell (lt_of_cell c0) (fun h => h)).trans c0
        have d1 := (hF1B.cell (lt_of_cell c1) (fun h => h)).trans c1
        have u0 := (hFB.cell (lt_of_cell x0) (fun h => h)).trans x0
        have u1 := (hFB.cell (lt_of_cell x1) (fun h => h)).trans x1
        have u2 := (hFB.cell (lt_of_cell x2) (fun h => h)).trans x2
        have v0 := (hFB.cell (lt_of_cell y0) (fun h => h)).trans y0
        have v1 := (hFB.cell (lt_of_cell y1) (fun h => h)).trans y1
        have v2 := (hFB.cell (lt_of_cell y2) (fun h => h)).trans y2
        have HF2 := hide ((unhide HF).trans hF1B (fun _ _ h => h))
        clear hF1 hFB hF1B hW1 x0 x1 x2 y0 y1 y2 c0 c1 HF l0 l1
        generalize wA.heap.size = Z at *
        have hS : ∀ w', Fr (fun _ => False) wB w' → w'.cell? ⟨Z + 1, 0, none⟩ = some (.pointer (some ⟨tb, 0, none⟩)) ∧ w'.cell? ⟨Z + 1, 1, none⟩ = some (.int .i64 F2) ∧ w'.cell? ⟨Z + 1, 2, none⟩ = some (.int .i64 N2) ∧ w'.cell? ⟨Z, 0, none⟩ = some (.pointer (some ⟨tb, 0, none⟩)) ∧ w'.cell? ⟨Z, 1, none⟩ = some (.int .i64 f) ∧ w'.cell? ⟨Z, 2, none⟩ = some (.int .i64 K) ∧ w'.cell? ⟨PB, 0, none⟩ = some (.int .i64 tf) ∧ w'.cell? ⟨PB, 1, none⟩ = some (.int .i64 tn) := fun w' hf =>
          ⟨(hf.cell (lt_of_cell v0) (fun h => h)).trans v0, (hf.cell (lt_of_cell v1) (fun h => h)).trans v1, (hf.cell (lt_of_cell v2) (fun h => h)).trans v2, (hf.cell (lt_of_cell u0) (fun h => h)).trans u0, (hf.cell (lt_of_cell u1) (fun h => h)).trans u1, (hf.cell (lt_of_cell u2) (fun h => h)).trans u2, (hf.cell (lt_of_cell d0) (fun h => h)).trans d0, (hf.cell (lt_of_cell d1) (fun h => h)).trans d1⟩
        have HS := hide hS
        clear hS
        go_wp2_with fail
        go_region_held3 (fun w' => w'.cell? ⟨Z + 1, 0, none⟩ = some (.pointer (some ⟨tb, 0, none⟩)) ∧ w'.cell? ⟨Z + 1, 1, none⟩ = some (.int .i64 F2) ∧ w'.cell? ⟨Z + 1, 2, none⟩ = some (.int .i64 N2) ∧ w'.cell? ⟨Z, 0, none⟩ = some (.pointer (some ⟨tb, 0, none⟩)) ∧ w'.cell? ⟨Z, 1, none⟩ = some (.int .i64 f) ∧ w'.cell? ⟨Z, 2, none⟩ = some (.int .i64 K) ∧ w'.cell? ⟨PB, 0, none⟩ = some (.int .i64 tf) ∧ w'.cell? ⟨PB, 1, none⟩ = some (.int .i64 tn))
          (first | assumption | exact (unhide HS) _ (Fr.refl _ _).drew | exact (unhide HS) _ fE | exact (unhide HS) _ (fD.alloc _) | exact (unhide HS) _ fD | exact (unhide HS) _ fC)
          (first
            | (go_at_call 71; refine ((unhide HC).2.2.1 _ (by exact (unhide HF2).drew)).mono ?_; rintro e wC ⟨ao, cp, us, rfl, oC⟩; have fC : Fr (fun _ => False) wB wC := (Fr.refl _ _).drew.trans oC.own.fr (fun _ _ h => h))
            | (go_at_call 73; refine ((unhide HC).2.2.2.1 _ (by exact (unhide HF2).trans fC (fun _ _ h => h))).mono ?_; rintro e wD ⟨yo, yc, rfl, oD⟩; have fD : Fr (fun _ => False) wB wD := fC.trans oD.fr (fun _ _ h => h))
            | (obtain ⟨ao2, cp2, wE, hr2, hO2⟩ := oC.stepW M wi (unhide HC).2.2.2.2.1 yo yc oD (unhide HC).2.2.2.2.2.1 (by rw [oC.len]; exact (unhide HC).2.2.2.2.2.2); have fE : Fr (fun _ => False) wB wE := (Fr.refl _ _).drew.trans hO2.own.fr (fun _ _ h => h); refine step_app rfl (.tmp 29) (.tmp 32) 40 40 rfl _ _ _ (by simp [Act.eval]) (by simp [Act.eval]) hr2 ?_))
        have HE := hide (hO2.base ((unhide HF2).drew))
        clear oC oD hO2 hr2 fC fD fE
        go_wp2_with fail
        go_ret
        exact ⟨ao2, cp2, _, by rw [List.length_append]; rfl, unhide HE⟩
end Go.Proofs.YtjokmlnghpnlbaaDoor

