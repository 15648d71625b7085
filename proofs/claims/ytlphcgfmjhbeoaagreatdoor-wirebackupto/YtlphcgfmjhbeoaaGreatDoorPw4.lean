import Derived.Test.YtlphcgfmjhbeoaaGreatDoorPw3
import Derived.Test.YtlphcgfmjhbeoaaGreatDoorPw1
import Derived.Test.YtlphcgfmjhbeoaaGreatDoorKFai
import Derived.Test.YtlphcgfmjhbeoaaGreatDoorKTld
import Derived.Test.YtlphcgfmjhbeoaaGreatDoorKAwl
namespace Go.Proofs.YtlphcgfmjhbeoaaGreatDoor
open Go.RowKit
def CS.pHist (c : CS) (l : List SuM) : CS × List SuM := match c with
 | .wr s => (loopW (fun c v => c.pSummary v) ((CS.wr s).pInt n_history 64 (lrs 64 []) l.length).1 (l.take (min l.length 64)), l)
 | .rd q => loopR (fun c v => c.pSummary v) zSu (min ((q.named n_history).go 7 64).2.1 64) ((CS.rd q).pInt n_history 64 (lrs 64 []) 0).1
structure SuX (w : World) (c : CS) (x : Value) (l : List SuM) (F : Nat → Prop) (g : Nat) : Prop where
 wr : ∀ s, c = .wr s → ∃ xo xc, x = .slice xo l.length xc ∧ SuV w xo xc l F ∧ ∀ g' o, xo = some ⟨g', o, none⟩ → l ≠ [] → g' ≠ g
 rd : ∀ q, c = .rd q → x = .slice none 0 0 ∧ l = []
 n : l.length < 9223372036854775808
theorem SuX.stp {w w' : World} {c c' : CS} {x : Value} {l : List SuM} {F F' : Nat → Prop} {P : Nat → Nat → Prop} {g : Nat} (h : SuX w c x l F g) (hs : Stp w w' F F' P) (hP : ∀ k i, k < w.heap.size → P k i → k = g) (hm : c.sm c') : SuX w' c' x l F' g := by
 refine ⟨fun s hs' => ?_, fun q hq => ?_, h.n⟩
 ·obtain ⟨s', e⟩ := hm.1 s hs'
  obtain ⟨xo, xc, e1, e2, e3⟩ := h.wr s' e
  refine ⟨xo, xc, e1, ⟨e2.cap, fun j f hf => ?_⟩, e3⟩
  obtain ⟨h0, g', o, h1, h2, h3, h4, h5, h6⟩ := e2.el j f hf
  have hlt : g' < w.heap.size := ltC h3
  have hne : g' ≠ g := e3 g' o h1 (by rintro rfl; simp at hf)
  have hp : ∀ i, ¬ P g' i := fun i hp => hne (hP g' i hlt hp)
  exact ⟨h0, g', o, h1, hs.nF hlt h2, (hs.oth g' _ hlt h2 (hp _)).trans h3, (hs.oth g' _ hlt h2 (hp _)).trans h4, (hs.oth g' _ hlt h2 (hp _)).trans h5, (hs.oth g' _ hlt h2 (hp _)).trans h6⟩
 ·obtain ⟨q', e⟩ := hm.2 q hq
  exact h.rd q' e
structure SuO (w w' : World) (c : CS) (x x' : Value) (l' : List SuM) (F' : Nat → Prop) : Prop where
 wr : ∀ s, c = .wr s → x' = x
 rd : ∀ q, c = .rd q → OwZ w' w.heap.size x' l' F'
theorem SuO.of {w0 w w' : World} {c c' : CS} {x x' : Value} {l : List SuM} {F' : Nat → Prop} (h : SuO w w' c' x x' l F') (hm : c.sm c') (hs : w0.heap.size ≤ w.heap.size) : SuO w0 w' c x x' l F' := by
 refine ⟨fun s e => ?_, fun q e => ?_⟩
 ·cases hc : c' with
  | wr s' => exact h.wr s' hc
  | rd q' => obtain ⟨_, e'⟩ := hm.2 q' hc; rw [e] at e'; cases e'
 ·cases hc : c' with
  | wr s' => obtain ⟨_, e'⟩ := hm.1 s' hc; rw [e] at e'; cases e'
  | rd q' =>
   have h9 := h.rd q' hc
   exact ⟨h9.nF, ownsRow_base h9.row hs, h9.ok⟩
theorem hist_any (c : CS) (x : Value) (l : List SuM) (cb b g i : Nat) (F : Nat → Prop) (E : Nat → Addr) (w : World) (h : Cd w cb b F c E) (hp : w.cell? ⟨g, i, none⟩ = some x) (hX : SuX w c x l F g) (hL : Loc w cb F g i) (hroom : c.room 300) :
  Calls Tryz.prog 138 #[.pointer (some ⟨cb, 0, none⟩), .string n_history, .pointer (some ⟨g, i, none⟩), .int .i64 64, .func (.func 139) #[.pointer (some ⟨cb, 0, none⟩)] #[], .slice none 0 0] w fun e w' => e = .returned (.tuple #[]) ∧ ∃ F' x', Cd w' cb b F' (c.pHist l).1 E ∧ w'.cell? ⟨g, i, none⟩ = some x' ∧ SuO w w' c x x' (c.pHist l).2 F' ∧ Stp w w' F F' (fun k j => k = g ∧ j = i) := by
 cases c with
 | wr s =>
  obtain ⟨xo, xc, rfl, hV, _⟩ := hX.wr s rfl
  refine (list_Summary_w s cb b g i F E xo xc l w h hX.n hp hL hV hroom).mono ?_
  rintro e w' ⟨rfl, F', hC, hs⟩
  exact ⟨rfl, F', _, hC, (hs.oth g i hL.lt hL.nF (fun h => h)).trans hp, ⟨fun _ _ => rfl, fun q e => by cases e⟩, hs.mono (fun _ _ _ h => h.elim)⟩
 | rd q =>
  obtain ⟨rfl, rfl⟩ := hX.rd q rfl
  refine (list_Summary_r q cb b g i F E w h hp hL).mono ?_
  rintro e w' ⟨rfl, F', hC, x', hx', hO, hs⟩
  exact ⟨rfl, F', x', hC, hx', ⟨fun s e => (by cases e), fun _ _ => hO⟩, hs⟩
structure AnM where
 cl : Nat
 nu : Nat
 co : Nat
 re : Nat
 ve : Nat
 fs : List Fld
 hi : List SuM
structure AnM.ok (v : AnM) : Prop where
 cl : v.cl < 4294967296
 nu : v.nu < 4294967296
 co : v.co < 256
 re : v.re < 4294967296
 ve : v.ve < 4294967296
def CS.a1 (c : CS) (v : AnM) : CS × Nat × Nat := c.pId (v.cl, v.nu)
def CS.a2 (c : CS) (v : AnM) : CS × Nat := (c.a1 v).1.pCode v.co
def CS.a3 (c : CS) (v : AnM) : CS × Nat := (c.a2 v).1.pU32 n_record [] v.re
def CS.a4 (c : CS) (v : AnM) : CS × Nat := (c.a3 v).1.pU32 n_version [] v.ve
def CS.a5 (c : CS) (v : AnM) : CS × List Fld := (c.a4 v).1.pFields 2 [] v.fs
def CS.a6 (c : CS) (v : AnM) : CS × List SuM := (c.a5 v).1.pHist v.hi
def CS.pAnswer (c : CS) (v : AnM) : CS × AnM := ((c.a6 v).1, ⟨(c.a1 v).2.1, (c.a1 v).2.2, (c.a2 v).2, (c.a3 v).2, (c.a4 v).2, (c.a5 v).2, (c.a6 v).2⟩)
structure AnC (w : World) (g o : Nat) (v : AnM) (x y : Value) : Prop where
 c0 : w.cell? ⟨g, o, none⟩ = some (.int .u32 (v.cl : Nat))
 c1 : w.cell? ⟨g, o + 1, none⟩ = some (.int .u32 (v.nu : Nat))
 c2 : w.cell? ⟨g, o + 2, none⟩ = some (.int .u8 (v.co : Nat))
 c3 : w.cell? ⟨g, o + 3, none⟩ = some (.int .u32 (v.re : Nat))
 c4 : w.cell? ⟨g, o + 4, none⟩ = some (.int .u32 (v.ve : Nat))
 c5 : w.cell? ⟨g, o + 5, none⟩ = some x
 c6 : w.cell? ⟨g, o + 6, none⟩ = some y
set_option maxHeartbeats 2000000 in
set_option maxRecDepth 100000 in
theorem answer_any (c : CS) (v : AnM) (x y : Value) (cb b g o : Nat) (F : Nat → Prop) (E : Nat → Addr) (w : World) (h : Cd w cb b F c E) (hp : AnC w g o v x y) (hX : FdX w c x v.fs F g) (hY : SuX w c y v.hi F g) (hL : ∀ i, Loc w cb F g i) (hv : v.ok) (hroom : c.room 500) :
  Calls Tryz.prog 109 #[.pointer (some ⟨cb, 0, none⟩), .pointer (some ⟨g, o, none⟩)] w fun e w' => e = .returned (.tuple #[]) ∧ ∃ F' x' y', Cd w' cb b F' (c.pAnswer v).1 E ∧ AnC w' g o (c.pAnswer v).2 x' y' ∧ FdO w w' c x x' (c.pAnswer v).2.fs F' ∧ SuO w w' c y y' (c.pAnswer v).2.hi F' ∧ Stp w w' F F' (cellsAt g o 7) := by
 have hmf := mf
 have R1 : (c.a1 v).1.room 498 := CS.pId_room hroom _
 have R2 : (c.a2 v).1.room 497 := CS.pU8_room R1 _ _ _
 have R3 : (c.a3 v).1.room 496 := CS.pU32_room R2 _ _ _
 have R4 : (c.a4 v).1.room 495 := CS.pU32_room R3 _ _ _
 have R5 : (c.a5 v).1.room 366 := CS.pFields_room R4 _ _ _
 have M4 : c.sm (c.a4 v).1 := CS.sm_trans (CS.sm_trans (CS.sm_trans (c.pId_sm _) (CS.pU8_sm _ _ _ _)) (CS.pU32_sm _ _ _ _)) (CS.pU32_sm _ _ _ _)
 have M5 : c.sm (c.a5 v).1 := CS.sm_trans M4 (CS.pFields_sm _ _ _ _)
 have hgw := (hL 0).lt
 have hgF := (hL 0).nF
 have HR := hid (And.intro R1 (And.intro R2 (And.intro R3 (And.intro R4 (And.intro R5 (And.intro M4 M5))))))
 have HV := hid hv
 have HI := hid (id_any c (v.cl, v.nu) cb b g o F E w h hp.c0 hp.c1 hL hv.cl hv.nu (CS.room_le hroom (by decide)))
 have H := hid (And.intro hp (And.intro hX (And.intro hY hL)))
 clear h hp hX hY hL hv hroom R1 R2 R3 R4 R5 M4 M5
 go_enter Tryz.func109, Tryz.ntmps109
 go_wp2_with fail
 refine (uh HI).mono ?_
 rintro e w1 ⟨rfl, F1, hC1, i0, i1, hs1⟩
 obtain ⟨hp, hX, hY, hL⟩ := uh H
 have hL1 := fun i => (hL i).stp hs1
 have oth1 : ∀ i, 2 ≤ i → ∀ z, w.cell? ⟨g, o + i, none⟩ = some z → w1.cell? ⟨g, o + i, none⟩ = some z := fun i hi z hz => (hs1.oth g (o + i) hgw hgF (fun h => by have := h.2; omega)).trans hz
 have HD := hid (code_any (c.a1 v).1 v.co cb b g (o + 2) F1 E w1 hC1 (oth1 2 (by decide) _ hp.c2) (hL1 _) (uh HV).co (CS.room_le (uh HR).1 (by decide)))
 have H1 := hid (And.intro i0 (And.intro i1 (And.intro (oth1 3 (by decide) _ hp.c3) (And.intro (oth1 4 (by decide) _ hp.c4) (And.intro (oth1 5 (by decide) _ hp.c5) (And.intro (oth1 6 (by decide) _ hp.c6) (And.intro (hs1.mono (P' := cellsAt g o 7) (fun k j _ h => ⟨h.1, h.2.1, by have := h.2; omega⟩)) hL1)))))))
 clear hp hX hY hL hL1 oth1 hC1 i0 i1 hs1 HI
 go_wp2_with fail
 refine (uh HD).mono ?_
 rintro e w2 ⟨rfl, F2, hC2, hc2, hs2⟩
 obtain ⟨i0, i1, i3, i4, i5, i6, hs01, hL1⟩ := uh H1
 have oth2 : ∀ i, i ≠ 2 → ∀ z, w1.cell? ⟨g, o + i, none⟩ = some z → w2.cell? ⟨g, o + i, none⟩ = some z := fun i hi z hz => (hs2.oth g (o + i) (hL1 0).lt (hL1 0).nF (fun h => by omega)).trans hz
 have hL2 := fun i => (hL1 i).stp hs2
 have HN := hid (number_u32 (c.a2 v).1 n_record [] v.re cb b g (o + 3) F2 E (.slice none 0 0) w2 hC2 (oth2 3 (by decide) _ i3) (hL2 _) (uh HV).re (RuC.nil _ w2 F2 g E) (CS.room_le (uh HR).2.1 (by decide)))
 have H2 := hid (And.intro (oth2 0 (by decide) _ i0) (And.intro (oth2 1 (by decide) _ i1) (And.intro hc2 (And.intro (oth2 4 (by decide) _ i4) (And.intro (oth2 5 (by decide) _ i5) (And.intro (oth2 6 (by decide) _ i6) (And.intro (hs01.trans hs2 (fun k j _ h => ⟨h.1, by omega, by omega⟩)) hL2)))))))
 clear i0 i1 i3 i4 i5 i6 hs01 hL1 oth2 hL2 hC2 hc2 hs2 H1 HD
 go_wp2_with fail
 refine (uh HN).mono ?_
 rintro e w3 ⟨rfl, F3, hC3, hc3, hs3⟩
 obtain ⟨i0, i1, i2, i4, i5, i6, hs02, hL2⟩ := uh H2
 have oth3 : ∀ i, i ≠ 3 → ∀ z, w2.cell? ⟨g, o + i, none⟩ = some z → w3.cell? ⟨g, o + i, none⟩ = some z := fun i hi z hz => (hs3.oth g (o + i) (hL2 0).lt (hL2 0).nF (fun h => by omega)).trans hz
 have hL3 := fun i => (hL2 i).stp hs3
 have HN4 := hid (number_u32 (c.a3 v).1 n_version [] v.ve cb b g (o + 4) F3 E (.slice none 0 0) w3 hC3 (oth3 4 (by decide) _ i4) (hL3 _) (uh HV).ve (RuC.nil _ w3 F3 g E) (CS.room_le (uh HR).2.2.1 (by decide)))
 have H3 := hid (And.intro (oth3 0 (by decide) _ i0) (And.intro (oth3 1 (by decide) _ i1) (And.intro (oth3 2 (by decide) _ i2) (And.intro hc3 (And.intro (oth3 5 (by decide) _ i5) (And.intro (oth3 6 (by decide) _ i6) (And.intro (hs02.trans hs3 (fun k j _ h => ⟨h.1, by omega, by omega⟩)) hL3)))))))
 clear i0 i1 i2 i4 i5 i6 hs02 hL2 oth3 hL3 hC3 hc3 hs3 H2 HN
 go_wp2_with fail
 refine (uh HN4).mono ?_
 rintro e w4 ⟨rfl, F4, hC4, hc4, hs4⟩
 obtain ⟨i0, i1, i2, i3, i5, i6, hs03, hL3⟩ := uh H3
 have oth4 : ∀ i, i ≠ 4 → ∀ z, w3.cell? ⟨g, o + i, none⟩ = some z → w4.cell? ⟨g, o + i, none⟩ = some z := fun i hi z hz => (hs4.oth g (o + i) (hL3 0).lt (hL3 0).nF (fun h => by omega)).trans hz
 have hL4 := fun i => (hL3 i).stp hs4
 have hs04 := hs03.trans hs4 (fun k j _ h => ⟨h.1, by omega, by omega⟩)
 have hX4 : FdX w4 (c.a4 v).1 x v.fs F4 g := (uh H).2.1.stp hs04 (fun k i _ h => h.1) (uh HR).2.2.2.2.2.1.1 (uh HR).2.2.2.2.2.1.2
 have HFD := hid (fields_any (c.a4 v).1 2 [] none 0 x v.fs cb b g (o + 5) F4 E w4 hC4 (oth4 5 (by decide) _ i5) hX4 (hL4 _) ⟨_, Rus.nil _ w4 E, fun _ h => h.elim⟩ (by decide) (CS.room_le (uh HR).2.2.2.1 (by decide)))
 have H4 := hid (And.intro (oth4 0 (by decide) _ i0) (And.intro (oth4 1 (by decide) _ i1) (And.intro (oth4 2 (by decide) _ i2) (And.intro (oth4 3 (by decide) _ i3) (And.intro hc4 (And.intro (oth4 6 (by decide) _ i6) (And.intro hs04 hL4)))))))
 clear i0 i1 i2 i3 i5 i6 hs03 hL3 oth4 hL4 hs04 hX4 hC4 hc4 hs4 H3 HN4
 go_wp2_with fail
 refine (uh HFD).mono ?_
 rintro e w5 ⟨rfl, F5, x5, hC5, hc5, hO5, hs5⟩
 obtain ⟨i0, i1, i2, i3, i4, i6, hs04, hL4⟩ := uh H4
 have oth5 : ∀ i, i ≠ 5 → ∀ z, w4.cell? ⟨g, o + i, none⟩ = some z → w5.cell? ⟨g, o + i, none⟩ = some z := fun i hi z hz => (hs5.oth g (o + i) (hL4 0).lt (hL4 0).nF (fun h => by omega)).trans hz
 have hL5 := fun i => (hL4 i).stp hs5
 have hs05 := hs04.trans hs5 (fun k j _ h => ⟨h.1, by omega, by omega⟩)
 have hY5 : SuX w5 (c.a5 v).1 y v.hi F5 g := (uh H).2.2.1.stp hs05 (fun k i _ h => h.1) (uh HR).2.2.2.2.2.2
 have hO5' := hO5.of (uh HR).2.2.2.2.2.1 hs04.size
 have HHI := hid (hist_any (c.a5 v).1 y v.hi cb b g (o + 6) F5 E w5 hC5 (oth5 6 (by decide) _ i6) hY5 (hL5 _) (CS.room_le (uh HR).2.2.2.2.1 (by decide)))
 have H5 := hid (And.intro (oth5 0 (by decide) _ i0) (And.intro (oth5 1 (by decide) _ i1) (And.intro (oth5 2 (by decide) _ i2) (And.intro (oth5 3 (by decide) _ i3) (And.intro (oth5 4 (by decide) _ i4) (And.intro hc5 (And.intro hs05 (And.intro hL5 hO5'))))))))
 clear i0 i1 i2 i3 i4 i6 hs04 hL4 oth5 hL5 hs05 hY5 hO5' hC5 hc5 hO5 hs5 H4 HFD
 go_wp2_with fail
 refine (uh HHI).mono ?_
 rintro e w6 ⟨rfl, F6, y6, hC6, hc6, hO6, hs6⟩
 obtain ⟨i0, i1, i2, i3, i4, i5, hs05, hL5, hO5⟩ := uh H5
 have oth6 : ∀ i, i ≠ 6 → ∀ z, w5.cell? ⟨g, o + i, none⟩ = some z → w6.cell? ⟨g, o + i, none⟩ = some z := fun i hi z hz => (hs6.oth g (o + i) (hL5 0).lt (hL5 0).nF (fun h => by omega)).trans hz
 have HE : Hid (Cd w6 cb b F6 (c.pAnswer v).1 E ∧ AnC w6 g o (c.pAnswer v).2 x5 y6 ∧ FdO w w6 c x x5 (c.pAnswer v).2.fs F6 ∧ SuO w w6 c y y6 (c.pAnswer v).2.hi F6 ∧ Stp w w6 F F6 (cellsAt g o 7)) :=
  ⟨hC6, ⟨oth6 0 (by decide) _ i0, oth6 1 (by decide) _ i1, oth6 2 (by decide) _ i2, oth6 3 (by decide) _ i3, oth6 4 (by decide) _ i4, oth6 5 (by decide) _ i5, hc6⟩, hO5.stp hs6 hgw (fun k j _ h => h.1), hO6.of (uh HR).2.2.2.2.2.2 hs05.size, hs05.trans hs6 (fun k j _ h => ⟨h.1, by omega, by omega⟩)⟩
 clear i0 i1 i2 i3 i4 i5 hs05 hL5 hO5 oth6 hC6 hc6 hO6 hs6 H5 HHI
 go_wp2_with fail
 go_end0
 exact ⟨rfl, F6, x5, y6, (uh HE).1, (uh HE).2.1, (uh HE).2.2.1, (uh HE).2.2.2.1, (uh HE).2.2.2.2⟩
end Go.Proofs.YtlphcgfmjhbeoaaGreatDoor
namespace Go.Proofs.YtlphcgfmjhbeoaaGreatDoor
open Go.RowKit
end Go.Proofs.YtlphcgfmjhbeoaaGreatDoor
namespace Go.Proofs.YtlphcgfmjhbeoaaGreatDoor
open Go.RowKit
end Go.Proofs.YtlphcgfmjhbeoaaGreatDoor
namespace Go.Proofs.YtlphcgfmjhbeoaaGreatDoor
open Go.RowKit
end Go.Proofs.YtlphcgfmjhbeoaaGreatDoor
namespace Go.Proofs.YtlphcgfmjhbeoaaGreatDoor
open Go.RowKit
end Go.Proofs.YtlphcgfmjhbeoaaGreatDoor
namespace Go.Proofs.YtlphcgfmjhbeoaaGreatDoor
open Go.RowKit
end Go.Proofs.YtlphcgfmjhbeoaaGreatDoor
namespace Go.Proofs.YtlphcgfmjhbeoaaGreatDoor
open Go.RowKit
def C7 (w : World) (g : Nat) (a0 a1 a2 a3 a4 a5 a6 : Value) : Prop :=
 w.cell? ⟨g, 0, none⟩ = some a0 ∧ w.cell? ⟨g, 1, none⟩ = some a1 ∧ w.cell? ⟨g, 2, none⟩ = some a2 ∧ w.cell? ⟨g, 3, none⟩ = some a3 ∧ w.cell? ⟨g, 4, none⟩ = some a4 ∧ w.cell? ⟨g, 5, none⟩ = some a5 ∧ w.cell? ⟨g, 6, none⟩ = some a6 ∧ ∀ i, w.frozen? ⟨g, i, none⟩ = false
theorem C7.fr {w w' : World} {g : Nat} {a0 a1 a2 a3 a4 a5 a6 : Value} {S : Nat → Prop} (h : C7 w g a0 a1 a2 a3 a4 a5 a6) (hf : Fr S w w') (hS : ¬ S g) : C7 w' g a0 a1 a2 a3 a4 a5 a6 := by
 obtain ⟨h0, h1, h2, h3, h4, h5, h6, hz⟩ := h
 have hg : g < w.heap.size := ltC h0
 have key : ∀ {i : Nat} {v : Value}, w.cell? ⟨g, i, none⟩ = some v → w'.cell? ⟨g, i, none⟩ = some v := fun h => (hf.cell hg hS).trans h
 exact ⟨key h0, key h1, key h2, key h3, key h4, key h5, key h6, fun i => (hf.frozen hg hS).trans (hz i)⟩
def ftV (x : Option (ByteArray × Nat × Nat)) : ByteArray × Nat × Nat := match x with
 | none => (⟨#[]⟩, 0, 0)
 | some y => y
def Q.ended (q : Q) : ByteArray × Nat × Nat := if q.f = none ∧ q.place < q.all.length then (q.nm, q.place, 3) else ftV q.f
def ErrV (w : World) (v : Value) (x : ByteArray × Nat × Nat) (E : Nat → Addr) : Prop :=
 (x.2.2 = 0 ∧ v = .nilIface) ∨ (1 ≤ x.2.2 ∧ x.2.2 ≤ 7 ∧ ∃ fb, v = .iface 78 (.pointer (some ⟨fb, 0, none⟩)) ∧ w.heap[fb]? = some (faultObj x.1 x.2.1 (E x.2.2)))
theorem ErrV.fr {w w' : World} {v : Value} {x : ByteArray × Nat × Nat} {E : Nat → Addr} (h : ErrV w v x E) (hf : Fr (fun _ => False) w w') : ErrV w' v x E := by
 rcases h with h | ⟨h1, h7, fb, rfl, hb⟩
 ·exact .inl h
 ·have hlt : fb < w.heap.size := by
   rcases Nat.lt_or_ge fb w.heap.size with hx | hx
   ·exact hx
   ·rw [Array.getElem?_eq_none hx] at hb; cases hb
  exact .inr ⟨h1, h7, fb, rfl, (hf.block fb hlt (fun h => h)).trans hb⟩
set_option maxRecDepth 100000 in
theorem rDone_given (b : Nat) (F : Nat → Prop) (s : Rst) (what : ByteArray) (place : Nat) (ea : Addr) (w : World) (h : R w b F s) (hn : s.f = some (what, place, ea)) :
  Calls Tryz.prog 86 #[.pointer (some ⟨b, 0, none⟩)] w fun e w' => ∃ fa, e = .returned (.iface 78 (.pointer (some ⟨fa, 0, none⟩))) ∧ w'.heap[fa]? = some (faultObj what place ea) ∧ Fr (fun _ => False) w w' := by
 rcases h.st with ⟨h1, _⟩ | ⟨what', place', ea', fb, h1, h2, h3, h4, h5, h6, h7⟩
 ·rw [hn] at h1; cases h1
 rw [hn] at h1
 obtain ⟨rfl, rfl, rfl⟩ : what = what' ∧ place = place' ∧ ea = ea' := by simpa using h1
 have H7 := hid h7
 clear h1 h2 h3 h5 h6 h7 h hn
 go_enter Tryz.func86, Tryz.ntmps86
 go_wp2_with fail
 go_quiet (fail)
 go_wp2_with fail
 refine (told_some b fb place what ea (w.drewN nq) (by simpa using h4) (uh H7)).mono ?_
 rintro e w' ⟨rfl, rfl⟩
 go_wp2_with fail
 go_ret
 exact ⟨_, rfl, heap_alloc_new _ _, ((Fr.refl _ _).drewN _).alloc _⟩
theorem done_any (q : Q) (b : Nat) (F : Nat → Prop) (E : Nat → Addr) (w : World) (h : R w b F (q.rst E)) (hq : q.ok) (hg : Gl w E) :
  Calls Tryz.prog 86 #[.pointer (some ⟨b, 0, none⟩)] w fun e w' => ∃ v, e = .returned v ∧ ErrV w' v q.ended E ∧ Fr (fun _ => False) w w' := by
 obtain ⟨nm, all, place, part, f⟩ := q
 cases f with
 | none =>
  by_cases hp : place < all.length
  ·rw [Q.ended, if_pos ⟨rfl, hp⟩]
   refine (rDone_trail b F _ E w hg h rfl hp).mono ?_
   rintro e w' ⟨fb, rfl, hb, hf, _⟩
   exact ⟨_, rfl, .inr ⟨(by decide : 1 ≤ 3), (by decide : 3 ≤ 7), fb, rfl, hb⟩, hf⟩
  ·rw [Q.ended, if_neg (fun x => hp x.2)]
   have hple : place = all.length := Nat.le_antisymm hq.place (by omega)
   refine (rDone_end b F _ w h rfl hple).mono ?_
   rintro e w' ⟨rfl, hf⟩
   exact ⟨_, rfl, .inl ⟨rfl, rfl⟩, hf⟩
 | some y =>
  rw [Q.ended, if_neg (fun x => by cases x.1)]
  refine (rDone_given b F _ y.1 y.2.1 (E y.2.2) w h rfl).mono ?_
  rintro e w' ⟨fb, rfl, hb, hf⟩
  exact ⟨_, rfl, .inr ⟨(hq.f y rfl).2.1, (hq.f y rfl).2.2, fb, rfl, hb⟩, hf⟩
abbrev TS (w0 : World) (g : Nat) (a0 a1 a2 a3 a4 a5 a6 : Value) (w : World) : Prop :=
 w.cell? ⟨g, 0, none⟩ = some a0 ∧ w.cell? ⟨g, 1, none⟩ = some a1 ∧ w.cell? ⟨g, 2, none⟩ = some a2 ∧ w.cell? ⟨g, 3, none⟩ = some a3 ∧ w.cell? ⟨g, 4, none⟩ = some a4 ∧ w.cell? ⟨g, 5, none⟩ = some a5 ∧ w.cell? ⟨g, 6, none⟩ = some a6 ∧ Fr (fun _ => False) w0 w
theorem TS.next {w0 w w' : World} {g : Nat} {a0 a1 a2 a3 a4 a5 a6 : Value} (h : TS w0 g a0 a1 a2 a3 a4 a5 a6 w) (hf : Fr (fun _ => False) w w') : TS w0 g a0 a1 a2 a3 a4 a5 a6 w' := by
 obtain ⟨h0, h1, h2, h3, h4, h5, h6, hF⟩ := h
 have key : ∀ {i : Nat} {v : Value}, w.cell? ⟨g, i, none⟩ = some v → w'.cell? ⟨g, i, none⟩ = some v := fun h => (hf.cell (ltC h) (fun h => h)).trans h
 exact ⟨key h0, key h1, key h2, key h3, key h4, key h5, key h6, hF.trans hf (fun _ _ h => h)⟩
def CS.pProof (c : CS) (ps : List (List Nat)) : CS × List (List Nat) := match c with
 | .wr s => (loopW (fun c v => c.pHash n_hash v) ((CS.wr s).pInt n_hashes (4096 : Nat) (lrs (4096 : Nat) []) ps.length).1 (ps.take (min ps.length 4096)), ps)
 | .rd q => loopR (fun c v => c.pHash n_hash v) [] (min ((q.named n_hashes).go 7 (4096 : Nat)).2.1 4096) ((CS.rd q).pInt n_hashes (4096 : Nat) (lrs (4096 : Nat) []) 0).1
set_option maxRecDepth 100000 in
theorem proof_r (q : Q) (cb b g o : Nat) (F : Nat → Prop) (E : Nat → Addr) (w : World) (h : Cd w cb b F (.rd q) E) (hp : w.cell? ⟨g, o, none⟩ = some (.slice none 0 0)) (hL : Loc w cb F g o) :
  Calls Tryz.prog 113 #[.pointer (some ⟨cb, 0, none⟩), .pointer (some ⟨g, o, none⟩)] w fun e w' => e = .returned (.tuple #[]) ∧ ∃ F', Cd w' cb b F' ((CS.rd q).pProof []).1 E ∧ ∃ x, w'.cell? ⟨g, o, none⟩ = some x ∧ OwP w' w.heap.size x ((CS.rd q).pProof []).2 F' ∧ Stp w w' F F' (fun k j => k = g ∧ j = o) := by
 have hmf := mf
 have hlp := hL.lt
 have hbx := box1 w (.cells #[.pointer (some ⟨cb, 0, none⟩)] 138)
 have hng : ¬ F w.heap.size := fun hx => by have := h.lt _ hx; omega
 have HH : Hid (∀ wx, Fr (fun _ => False) (w.alloc (.cells #[.pointer (some ⟨cb, 0, none⟩)] 138)) wx → Calls Tryz.prog 142 #[.pointer (some ⟨cb, 0, none⟩), .string n_hashes, .pointer (some ⟨g, o, none⟩), .int .i64 4096, .func (.func 143) #[] #[.pointer (some ⟨w.heap.size, 0, none⟩)], .slice none 0 0] wx fun e w' => e = .returned (.tuple #[]) ∧ (∃ F', Cd w' cb b F' ((CS.rd q).pProof []).1 E ∧ ∃ x, w'.cell? ⟨g, o, none⟩ = some x ∧ OwP w' w.heap.size x ((CS.rd q).pProof []).2 F' ∧ Stp w w' F F' (fun k j => k = g ∧ j = o)) ∧ w'.cell? ⟨w.heap.size, 0, none⟩ = some (.pointer (some ⟨cb, 0, none⟩))) := by
  intro wx hfx
  have hf := hbx.trans hfx (fun _ _ h => h)
  have hcx : wx.cell? ⟨w.heap.size, 0, none⟩ = some (.pointer (some ⟨cb, 0, none⟩)) := (hfx.cell (p := ⟨w.heap.size, 0, none⟩) (by simp) (fun h => h)).trans (by simp)
  refine (list_byt_r q n_hashes 4096 cb b g o w.heap.size F E wx (h.fr0 hf) (by decide) ((hf.cell (p := ⟨g, o, none⟩) hlp (fun h => h)).trans hp) (hL.fr0 hf) hcx hng (by omega)).mono ?_
  rintro e w1 ⟨rfl, F1, hC1, x, hx, hO, hs1⟩
  exact ⟨rfl, ⟨F1, hC1, x, hx, hO.base hf.size, (Stp.of_fr hf F _).trans hs1 (fun _ _ _ h => h)⟩, (hs1.oth w.heap.size 0 (ltC hcx) hng (fun h => by omega)).trans hcx⟩
 have hS0 : Fr (fun _ => False) (w.alloc (.cells #[.pointer (some ⟨cb, 0, none⟩)] 138)) (w.alloc (.cells #[.pointer (some ⟨cb, 0, none⟩)] 138)) := Fr.refl _ _
 have hcb : (w.alloc (.cells #[.pointer (some ⟨cb, 0, none⟩)] 138)).cell? ⟨w.heap.size, 0, none⟩ = some (.pointer (some ⟨cb, 0, none⟩)) := by simp
 clear h hL hbx hng
 go_enter Tryz.func113, Tryz.ntmps113
 go_wp2_with fail
 go_region_held3 (fun w' => w'.cell? ⟨w.heap.size, 0, none⟩ = some (.pointer (some ⟨cb, 0, none⟩))) (first | assumption | (simp only [World.cell?_drew, World.cell?_drewN]; assumption)) (first
  | (go_at_call 142; refine ((uh HH) _ (by first | assumption | exact Fr.drew (by assumption))).mono ?_; rintro e w1 ⟨rfl, h1, hc1⟩))
 have H1 := hid h1
 clear h1
 go_wp2_with fail
 go_end0
 exact ⟨rfl, uh H1⟩
theorem CS.pForm_room {c : CS} {n : Nat} (h : c.room (n + 1)) (k : Nat) : (c.pForm k).room n := CS.pU8_room h _ _ _
set_option maxRecDepth 100000 in
theorem whole_Head (c : CS) (size : Nat) (root : List Nat) (x : Value) (cb b g : Nat) (F : Nat → Prop) (E : Nat → Addr) (w : World) (h : Cd w cb b F c E) (hp0 : w.cell? ⟨g, 0, none⟩ = some (.int .u32 (size : Nat))) (hp1 : w.cell? ⟨g, 1, none⟩ = some x) (hB : BVg w x root F g) (hL : ∀ i, Loc w cb F g i) (hsz : size < 4294967296) (hroom : c.room 3) :
  Calls Tryz.prog 68 #[.pointer (some ⟨cb, 0, none⟩), .iface 173 (.pointer (some ⟨g, 0, none⟩))] w fun e w' => e = .returned (.tuple #[]) ∧ ∃ F', Cd w' cb b F' ((c.pForm 4).pHead (size, root)).1 E ∧ w'.cell? ⟨g, 0, none⟩ = some (.int .u32 (((c.pForm 4).pHead (size, root)).2.1 : Nat)) ∧ ∃ x', w'.cell? ⟨g, 1, none⟩ = some x' ∧ BO w w' c x' ((c.pForm 4).pHead (size, root)).2.2 F' g ∧ Stp w w' F F' (cellsAt g 0 2) := by
 have t0 := Tryz.wh_Head
 have t1 := Tryz.wm_Head_Request
 have t2 := Tryz.wm_Head_Answer
 have t3 := Tryz.wm_Head_Event
 have HF := hid (form_any c 4 cb b F E w h (by decide) (by simp only [CS.room] at *; omega))
 have hgl := (hL 0).lt
 have hgF := (hL 0).nF
 have H := hid (And.intro hB hL)
 clear h hB hL
 go_enter Tryz.func68, Tryz.ntmps68
 go_wp2_with fail
 refine (uh HF).mono ?_
 rintro e w1 ⟨rfl, F1, hC1, hs1⟩
 have HH := hid (head_any (c.pForm 4) size root x cb b g 0 F1 E w1 hC1 ((hs1.oth g 0 hgl hgF (fun h => h)).trans hp0) ((hs1.oth g 1 hgl hgF (fun h => h)).trans hp1) ((uh H).1.stp hs1 (fun _ _ _ h => h.elim)) (fun i => ((uh H).2 i).stp hs1) hsz (CS.pForm_room hroom 4))
 have H1 := hid hs1
 clear hC1 hs1
 go_wp2_with fail
 refine (uh HH).mono ?_
 rintro e w2 ⟨rfl, F2, hC2, hc2, x2, hx2, ho2, hs2⟩
 have H2 := hid (And.intro hC2 (And.intro hc2 (And.intro hx2 (And.intro (ho2.mode (w0 := w) (c := c) (uh H1).size (by rintro q rfl; exact ⟨_, rfl⟩)) (((uh H1).mono (fun _ _ _ h => h.elim)).trans hs2 (fun _ _ _ h => h))))))
 clear hC2 hc2 hx2 ho2 hs2
 go_wp2_with fail
 go_end0
 obtain ⟨a1, a2, a3, a4, a5⟩ := uh H2
 exact ⟨rfl, F2, a1, a2, x2, a3, a4, a5⟩
set_option maxRecDepth 100000 in
theorem whole_Signed (c : CS) (size key : Nat) (root sig : List Nat) (x y : Value) (cb b g : Nat) (F : Nat → Prop) (E : Nat → Addr) (w : World) (h : Cd w cb b F c E) (hp0 : w.cell? ⟨g, 0, none⟩ = some (.int .u32 (size : Nat))) (hp1 : w.cell? ⟨g, 1, none⟩ = some x) (hp2 : w.cell? ⟨g, 2, none⟩ = some (.int .u32 (key : Nat))) (hp3 : w.cell? ⟨g, 3, none⟩ = some y) (hB : BVg w x root F g) (hB2 : BVg w y sig F g) (hL : ∀ i, Loc w cb F g i) (hsz : size < 4294967296) (hkey : key < 4294967296) (hroom : c.room 5) :
  Calls Tryz.prog 68 #[.pointer (some ⟨cb, 0, none⟩), .iface 213 (.pointer (some ⟨g, 0, none⟩))] w fun e w' => e = .returned (.tuple #[]) ∧ ∃ F', Cd w' cb b F' ((c.pForm 5).pSigned ((size, root), key, sig)).1 E ∧ w'.cell? ⟨g, 0, none⟩ = some (.int .u32 (((c.pForm 5).pSigned ((size, root), key, sig)).2.1.1 : Nat)) ∧ w'.cell? ⟨g, 2, none⟩ = some (.int .u32 (((c.pForm 5).pSigned ((size, root), key, sig)).2.2.1 : Nat)) ∧ ∃ x' y', w'.cell? ⟨g, 1, none⟩ = some x' ∧ w'.cell? ⟨g, 3, none⟩ = some y' ∧ BO w w' c x' ((c.pForm 5).pSigned ((size, root), key, sig)).2.1.2 F' g ∧ BO w w' c y' ((c.pForm 5).pSigned ((size, root), key, sig)).2.2.2 F' g ∧ Stp w w' F F' (cellsAt g 0 4) := by
 have t0 := Tryz.wh_Signed
 have t1 := Tryz.wm_Signed_Request
 have t2 := Tryz.wm_Signed_Answer
 have t3 := Tryz.wm_Signed_Event
 have t4 := Tryz.wm_Signed_Head
 have HF := hid (form_any c 5 cb b F E w h (by decide) (by simp only [CS.room] at *; omega))
 have hgl := (hL 0).lt
 have hgF := (hL 0).nF
 have H := hid (And.intro hB (And.intro hB2 hL))
 clear h hB hB2 hL
 go_enter Tryz.func68, Tryz.ntmps68
 go_wp2_with fail
 refine (uh HF).mono ?_
 rintro e w1 ⟨rfl, F1, hC1, hs1⟩
 have HH := hid (signed_any (c.pForm 5) size key root sig x y cb b g 0 F1 E w1 hC1 ((hs1.oth g 0 hgl hgF (fun h => h)).trans hp0) ((hs1.oth g 1 hgl hgF (fun h => h)).trans hp1) ((hs1.oth g 2 hgl hgF (fun h => h)).trans hp2) ((hs1.oth g 3 hgl hgF (fun h => h)).trans hp3) ((uh H).1.stp hs1 (fun _ _ _ h => h.elim)) ((uh H).2.1.stp hs1 (fun _ _ _ h => h.elim)) (fun i => ((uh H).2.2 i).stp hs1) hsz hkey (CS.pForm_room hroom 5))
 have H1 := hid hs1
 clear hC1 hs1
 go_wp2_with fail
 refine (uh HH).mono ?_
 rintro e w2 ⟨rfl, F2, hC2, hc2, hd2, x2, y2, hx2, hy2, ho2, hq2, hs2⟩
 have hm : ∀ q, c = .rd q → ∃ q', (c.pForm 5) = .rd q' := by rintro q rfl; exact ⟨_, rfl⟩
 have H2 := hid (And.intro hC2 (And.intro hc2 (And.intro hd2 (And.intro hx2 (And.intro hy2 (And.intro (ho2.mode (w0 := w) (c := c) (uh H1).size hm) (And.intro (hq2.mode (w0 := w) (c := c) (uh H1).size hm) (((uh H1).mono (fun _ _ _ h => h.elim)).trans hs2 (fun _ _ _ h => h)))))))))
 clear hC2 hc2 hd2 hx2 hy2 ho2 hq2 hs2 hm
 go_wp2_with fail
 go_end0
 obtain ⟨a1, a2, a3, a4, a5, a6, a7, a8⟩ := uh H2
 exact ⟨rfl, F2, a1, a2, a3, x2, y2, a4, a5, a6, a7, a8⟩
set_option maxRecDepth 100000 in
theorem whole_Proof_r (q : Q) (cb b g : Nat) (F : Nat → Prop) (E : Nat → Addr) (w : World) (h : Cd w cb b F (.rd q) E) (hp : w.cell? ⟨g, 0, none⟩ = some (.slice none 0 0)) (hL : Loc w cb F g 0) :
  Calls Tryz.prog 68 #[.pointer (some ⟨cb, 0, none⟩), .iface 215 (.pointer (some ⟨g, 0, none⟩))] w fun e w' => e = .returned (.tuple #[]) ∧ ∃ F', Cd w' cb b F' (((CS.rd q).pForm 6).pProof []).1 E ∧ ∃ x, w'.cell? ⟨g, 0, none⟩ = some x ∧ OwP w' w.heap.size x (((CS.rd q).pForm 6).pProof []).2 F' ∧ Stp w w' F F' (fun k j => k = g ∧ j = 0) := by
 have t0 := Tryz.wh_Proof
 have t1 := Tryz.wm_Proof_Request
 have t2 := Tryz.wm_Proof_Answer
 have t3 := Tryz.wm_Proof_Event
 have t4 := Tryz.wm_Proof_Head
 have t5 := Tryz.wm_Proof_Signed
 have HF := hid (form_any (.rd q) 6 cb b F E w h (by decide) (by simp only [CS.room, CS.len]; omega))
 have hgl := hL.lt
 have hgF := hL.nF
 have H := hid hL
 clear h hL
 go_enter Tryz.func68, Tryz.ntmps68
 go_wp2_with fail
 refine (uh HF).mono ?_
 rintro e w1 ⟨rfl, F1, hC1, hs1⟩
 have HH := hid (proof_r _ cb b g 0 F1 E w1 hC1 ((hs1.oth g 0 hgl hgF (fun h => h)).trans hp) ((uh H).stp hs1))
 have H1 := hid hs1
 clear hC1 hs1
 go_wp2_with fail
 refine (uh HH).mono ?_
 rintro e w2 ⟨rfl, F2, hC2, x, hx, hO, hs2⟩
 have H2 := hid (And.intro hC2 (And.intro hx (And.intro (hO.base (uh H1).size) (((uh H1).mono (fun _ _ _ h => h.elim)).trans hs2 (fun _ _ _ h => h)))))
 clear hC2 hs2 hx hO
 go_wp2_with fail
 go_end0
 exact ⟨rfl, F2, (uh H2).1, x, (uh H2).2.1, (uh H2).2.2.1, (uh H2).2.2.2⟩
variable {L : List Nat}
theorem loopR_length {α : Type} (each : CS → α → CS × α) (z : α) (c : CS) : ∀ n, (loopR each z n c).2.length = n
 | 0 => rfl
 | n + 1 => by
  show ((loopR each z n c).2 ++ [_]).length = n + 1
  rw [List.length_append, loopR_length each z c n]; rfl
theorem CS.pForm_sm (c : CS) (k : Nat) : c.sm (c.pForm k) := CS.pU8_sm _ _ _ _
theorem AnC.stp {w w' : World} {g o : Nat} {v : AnM} {x y : Value} {F F' : Nat → Prop} {P : Nat → Nat → Prop} (h : AnC w g o v x y) (hs : Stp w w' F F' P) (hg : ¬ F g) (hP : ∀ i, i < 7 → ¬ P g (o + i)) : AnC w' g o v x y :=
 ⟨(hs.oth g o (ltC h.c0) hg (hP 0 (by decide))).trans h.c0, (hs.oth g (o + 1) (ltC h.c0) hg (hP 1 (by decide))).trans h.c1, (hs.oth g (o + 2) (ltC h.c0) hg (hP 2 (by decide))).trans h.c2, (hs.oth g (o + 3) (ltC h.c0) hg (hP 3 (by decide))).trans h.c3, (hs.oth g (o + 4) (ltC h.c0) hg (hP 4 (by decide))).trans h.c4, (hs.oth g (o + 5) (ltC h.c0) hg (hP 5 (by decide))).trans h.c5, (hs.oth g (o + 6) (ltC h.c0) hg (hP 6 (by decide))).trans h.c6⟩
theorem EvC.stp {w w' : World} {g o : Nat} {v : EvM} {x y : Value} {F F' : Nat → Prop} {P : Nat → Nat → Prop} (h : EvC w g o v x y) (hs : Stp w w' F F' P) (hg : ¬ F g) (hP : ∀ i, i < 13 → ¬ P g (o + i)) : EvC w' g o v x y :=
 ⟨(hs.oth g o (ltC h.c0) hg (hP 0 (by decide))).trans h.c0, h.r.stp hs hg (fun i hi => by have := hP (1 + i) (by omega); rwa [← Nat.add_assoc] at this), (hs.oth g (o + 11) (ltC h.c0) hg (hP 11 (by decide))).trans h.c11, (hs.oth g (o + 12) (ltC h.c0) hg (hP 12 (by decide))).trans h.c12⟩
set_option maxRecDepth 100000 in
set_option maxHeartbeats 2000000 in
theorem whole_Request (c : CS) (v : RqM) (x : Value) (cb b g : Nat) (F : Nat → Prop) (E : Nat → Addr) (w : World) (h : Cd w cb b F c E) (hp : RqC w g 0 v x) (hX : FdX w c x v.fs F g) (hL : ∀ i, Loc w cb F g i) (hv : v.ok) (hroom : c.room 221) :
  Calls Tryz.prog 68 #[.pointer (some ⟨cb, 0, none⟩), .iface 157 (.pointer (some ⟨g, 0, none⟩))] w fun e w' => e = .returned (.tuple #[]) ∧ ∃ F' x', Cd w' cb b F' ((c.pForm 1).pRequest v).1 E ∧ RqC w' g 0 { ((c.pForm 1).pRequest v).2 with fs := v.fs } x' ∧ FdO w w' c x x' ((c.pForm 1).pRequest v).2.fs F' ∧ Stp w w' F F' (cellsAt g 0 10) := by
 have t0 := Tryz.wh_Request
 have HF := hid (form_any c 1 cb b F E w h (by decide) (by simp only [CS.room] at *; omega))
 have hgF := (hL 0).nF
 have hM := c.pForm_sm 1
 have H := hid (And.intro hp (And.intro hL hX))
 clear h hp hL hX
 go_enter Tryz.func68, Tryz.ntmps68
 go_wp2_with fail
 refine (uh HF).mono ?_
 rintro e w1 ⟨rfl, F1, hC1, hs1⟩
 have HH := hid (request_any (c.pForm 1) v x cb b g 0 F1 E w1 hC1 ((uh H).1.stp hs1 hgF (fun _ _ h => h)) ((uh H).2.2.stp (c' := c.pForm 1) hs1 (fun _ _ _ h => h.elim) hM.1 hM.2) (fun i => ((uh H).2.1 i).stp hs1) hv (CS.pForm_room (by simp only [CS.room] at *; omega) 1))
 have H1 := hid hs1
 clear hC1 hs1
 go_wp2_with fail
 refine (uh HH).mono ?_
 rintro e w2 ⟨rfl, F2, x2, hC2, hr2, ho2, hs2⟩
 have H2 := hid (And.intro hC2 (And.intro (hr2) (And.intro (ho2.of hM (uh H1).size) (((uh H1).mono (fun _ _ _ h => h.elim)).trans hs2 (fun _ _ _ h => h)))))
 clear hC2 hr2 ho2 hs2
 go_wp2_with fail
 go_end0
 exact ⟨rfl, F2, x2, uh H2⟩
set_option maxRecDepth 100000 in
set_option maxHeartbeats 2000000 in
theorem whole_Answer (c : CS) (v : AnM) (x y : Value) (cb b g : Nat) (F : Nat → Prop) (E : Nat → Addr) (w : World) (h : Cd w cb b F c E) (hp : AnC w g 0 v x y) (hX : FdX w c x v.fs F g) (hY : SuX w c y v.hi F g) (hL : ∀ i, Loc w cb F g i) (hv : v.ok) (hroom : c.room 501) :
  Calls Tryz.prog 68 #[.pointer (some ⟨cb, 0, none⟩), .iface 158 (.pointer (some ⟨g, 0, none⟩))] w fun e w' => e = .returned (.tuple #[]) ∧ ∃ F' x' y', Cd w' cb b F' ((c.pForm 2).pAnswer v).1 E ∧ AnC w' g 0 ((c.pForm 2).pAnswer v).2 x' y' ∧ FdO w w' c x x' ((c.pForm 2).pAnswer v).2.fs F' ∧ SuO w w' c y y' ((c.pForm 2).pAnswer v).2.hi F' ∧ Stp w w' F F' (cellsAt g 0 7) := by
 have t0 := Tryz.wh_Answer
 have t1 := Tryz.wm_Answer_Request
 have HF := hid (form_any c 2 cb b F E w h (by decide) (by simp only [CS.room] at *; omega))
 have hgF := (hL 0).nF
 have hM := c.pForm_sm 2
 have H := hid (And.intro hp (And.intro hL (And.intro hX hY)))
 clear h hp hL hX hY
 go_enter Tryz.func68, Tryz.ntmps68
 go_wp2_with fail
 refine (uh HF).mono ?_
 rintro e w1 ⟨rfl, F1, hC1, hs1⟩
 have HH := hid (answer_any (c.pForm 2) v x y cb b g 0 F1 E w1 hC1 ((uh H).1.stp hs1 hgF (fun _ _ h => h)) ((uh H).2.2.1.stp (c' := c.pForm 2) hs1 (fun _ _ _ h => h.elim) hM.1 hM.2) ((uh H).2.2.2.stp (c' := c.pForm 2) hs1 (fun _ _ _ h => h.elim) hM) (fun i => ((uh H).2.1 i).stp hs1) hv (CS.pForm_room (by simp only [CS.room] at *; omega) 2))
 have H1 := hid hs1
 clear hC1 hs1
 go_wp2_with fail
 refine (uh HH).mono ?_
 rintro e w2 ⟨rfl, F2, x2, y2, hC2, hr2, ho2, hq2, hs2⟩
 have H2 := hid (And.intro hC2 (And.intro (hr2) (And.intro (ho2.of hM (uh H1).size) (And.intro (hq2.of hM (uh H1).size) (((uh H1).mono (fun _ _ _ h => h.elim)).trans hs2 (fun _ _ _ h => h))))))
 clear hC2 hr2 ho2 hq2 hs2
 go_wp2_with fail
 go_end0
 exact ⟨rfl, F2, x2, y2, uh H2⟩
set_option maxRecDepth 100000 in
set_option maxHeartbeats 2000000 in
theorem whole_Event (c : CS) (v : EvM) (x y : Value) (cb b g : Nat) (F : Nat → Prop) (E : Nat → Addr) (w : World) (h : Cd w cb b F c E) (hp : EvC w g 0 v x y) (hX : FdX w c x v.rq.fs F g) (hY : BVg w y v.dg F g) (hL : ∀ i, Loc w cb F g i) (hv : v.ok) (hroom : c.room 231) :
  Calls Tryz.prog 68 #[.pointer (some ⟨cb, 0, none⟩), .iface 210 (.pointer (some ⟨g, 0, none⟩))] w fun e w' => e = .returned (.tuple #[]) ∧ ∃ F' x' y', Cd w' cb b F' ((c.pForm 3).pEvent v).1 E ∧ EvC w' g 0 { ((c.pForm 3).pEvent v).2 with rq := { ((c.pForm 3).pEvent v).2.rq with fs := v.rq.fs } } x' y' ∧ FdO w w' c x x' ((c.pForm 3).pEvent v).2.rq.fs F' ∧ BO w w' c y' ((c.pForm 3).pEvent v).2.dg F' g ∧ Stp w w' F F' (cellsAt g 0 13) := by
 have t0 := Tryz.wh_Event
 have t1 := Tryz.wm_Event_Request
 have t2 := Tryz.wm_Event_Answer
 have HF := hid (form_any c 3 cb b F E w h (by decide) (by simp only [CS.room] at *; omega))
 have hgF := (hL 0).nF
 have hM := c.pForm_sm 3
 have H := hid (And.intro hp (And.intro hL (And.intro hX hY)))
 clear h hp hL hX hY
 go_enter Tryz.func68, Tryz.ntmps68
 go_wp2_with fail
 refine (uh HF).mono ?_
 rintro e w1 ⟨rfl, F1, hC1, hs1⟩
 have HH := hid (event_any (c.pForm 3) v x y cb b g 0 F1 E w1 hC1 ((uh H).1.stp hs1 hgF (fun _ _ h => h)) ((uh H).2.2.1.stp (c' := c.pForm 3) hs1 (fun _ _ _ h => h.elim) hM.1 hM.2) ((uh H).2.2.2.stp hs1 (fun _ _ _ h => h.elim)) (fun i => ((uh H).2.1 i).stp hs1) hv (CS.pForm_room (by simp only [CS.room] at *; omega) 3))
 have H1 := hid hs1
 clear hC1 hs1
 go_wp2_with fail
 refine (uh HH).mono ?_
 rintro e w2 ⟨rfl, F2, x2, y2, hC2, hr2, ho2, hq2, hs2⟩
 have H2 := hid (And.intro hC2 (And.intro (hr2) (And.intro (ho2.of hM (uh H1).size) (And.intro (hq2.mode (w0 := w) (c := c) (uh H1).size (by rintro q rfl; exact ⟨_, rfl⟩)) (((uh H1).mono (fun _ _ _ h => h.elim)).trans hs2 (fun _ _ _ h => h))))))
 clear hC2 hr2 ho2 hq2 hs2
 go_wp2_with fail
 go_end0
 exact ⟨rfl, F2, x2, y2, uh H2⟩
def Wq.out (s : Wq) : List Nat := if s.f = none then s.l else []
theorem wDone_q (s : Wq) (b : Nat) (F : Nat → Prop) (E : Nat → Addr) (w : World) (h : W w b F (s.wst E)) (hok : s.ok) (hl : s.l.length ≤ 140737488355328) :
  Calls Tryz.prog 69 #[.pointer (some ⟨b, 0, none⟩)] w fun e w' => ∃ v err, e = .returned (.tuple #[v, err]) ∧ w'.ownsRow w.heap.size 5 1 v s.out.length (cellsOf s.out) ∧ ErrV w' err (ftV s.f) E ∧ Fr (fun _ => False) w w' := by
 obtain ⟨nm, l, f⟩ := s
 cases f with
 | none =>
  refine (wDone_ok b F _ w h rfl hl).mono ?_
  rintro e w' ⟨v, rfl, hown, hf⟩
  exact ⟨v, .nilIface, rfl, hown, .inl ⟨rfl, rfl⟩, hf⟩
 | some y =>
  refine (wDone_bad b F _ y.1 y.2.1 (E y.2.2) w h rfl).mono ?_
  rintro e w' ⟨rfl, rfl⟩
  exact ⟨.slice none 0 0, _, rfl, World.ownsRow_nil _ _ _ _, .inr ⟨(hok y rfl).1, (hok y rfl).2, _, rfl, heap_alloc_new _ _⟩, box1 w _⟩
set_option maxRecDepth 100000 in
theorem put_Head (vs : Array Value) (s' : Wq) (E : Nat → Addr) (w : World) (hg : G6 w E) (hw : 9 ≤ w.heap.size)
  (hwhole : ∀ w1 cb b F, Cd w1 cb b F (.wr ⟨ByteArray.empty, [], none⟩) E → (∀ (i : Nat) v, vs[i]? = some v → w1.cell? ⟨w.heap.size, i, none⟩ = some v) → (∀ i, Loc w1 cb F w.heap.size i) → (∀ k, F k → w.heap.size < k) → Fr (fun _ => False) w w1 → Calls Tryz.prog 68 #[.pointer (some ⟨cb, 0, none⟩), .iface 173 (.pointer (some ⟨w.heap.size, 0, none⟩))] w1 fun e w' => e = .returned (.tuple #[]) ∧ ∃ F', Cd w' cb b F' (.wr s') E ∧ Stp w1 w' F F' (fun k _ => k = w.heap.size)) (hlen : s'.l.length ≤ 140737488355328) :
  Calls Tryz.prog 47 #[.agg vs] w fun e w' => ∃ v err, e = .returned (.tuple #[v, err]) ∧ w'.ownsRow w.heap.size 5 1 v s'.out.length (cellsOf s'.out) ∧ ErrV w' err (ftV s'.f) E ∧ Fr (fun _ => False) w w' := by
 have hbx := box1 w (.cells vs 25)
 have HN := hid (newWriter_any (w.alloc (.cells vs 25)) (by simp; omega))
 have H := hid (And.intro hg (And.intro hwhole hbx))
 clear hg hwhole hbx
 go_enter Tryz.func47, Tryz.ntmps47
 go_wp2_with fail
 refine (uh HN).mono ?_
 rintro e w1 ⟨rfl, hW1, hf1⟩
 have H1 := hid (And.intro hW1 hf1)
 clear hW1 hf1
 go_wp2_with fail
 obtain ⟨W2, hW2⟩ : ∃ W2, w1.alloc (.cells #[.pointer (some ⟨w.heap.size + 1, 0, none⟩), .pointer none] 143) = W2 := ⟨_, rfl⟩
 have hf12 : Fr (fun _ => False) w1 W2 := by rw [← hW2]; exact box1 _ _
 have hs0 : (w.alloc (.cells vs 25)).heap.size = w.heap.size + 1 := by simp
 have hf02 : Fr (fun _ => False) w W2 := ((uh H).2.2.trans (uh H1).2 (fun _ _ h => h)).trans hf12 (fun _ _ h => h)
 have hW1 := (uh H1).1
 rw [hs0] at hW1
 have hs1 := (uh H1).2.size
 have hlt1 := hW1.lt (w.heap.size + 1) rfl
 have hsz2 : W2.heap.size = w1.heap.size + 1 := by rw [← hW2]; simp
 have hC2 : Cd W2 w1.heap.size (w.heap.size + 1) (fun k => k = w.heap.size + 1) (.wr ⟨ByteArray.empty, [], none⟩) E := by
  refine ⟨(uh H).1.fr hf02 (fun _ h => h.elim), fun hx => by omega, fun k hk => by omega, fun k hk => by omega, by omega, ?_, ?_, W.frame hW1 hf12 (fun _ _ h => h), fun y hy => by cases hy⟩
  ·rw [← hW2, World.cell?_alloc_at _ _ _ _ rfl]; rfl
  ·rw [← hW2, World.cell?_alloc_at _ _ _ _ rfl]; rfl
 have hcs : ∀ (i : Nat) v, vs[i]? = some v → W2.cell? ⟨w.heap.size, i, none⟩ = some v := fun i v hv => by
  refine (((uh H1).2.trans hf12 (fun _ _ h => h)).cell (p := ⟨w.heap.size, i, none⟩) (by simp) (fun h => h)).trans ?_
  rw [World.cell?_alloc_at _ _ _ _ rfl]; exact hv
 have hLo : ∀ i, Loc W2 w1.heap.size (fun k => k = w.heap.size + 1) w.heap.size i := fun i =>
  ⟨(((uh H1).2.trans hf12 (fun _ _ h => h)).frozen (p := ⟨w.heap.size, i, none⟩) (by simp) (fun h => h)).trans (by simp), by omega, by omega, by omega, by omega⟩
 have HW := hid ((uh H).2.1 W2 w1.heap.size (w.heap.size + 1) _ hC2 hcs hLo (fun k hk => by omega) hf02)
 have hx2 := Nat.le_of_lt hlt1
 have H2 := hid (And.intro hf02 (And.intro hsz2 hlt1))
 clear hC2 hf02 hLo hsz2 hcs hf12 hW1 hs1 hs0 hlt1 hx2
 rw [hW2]
 clear hW2
 refine (uh HW).mono ?_
 rintro e w3 ⟨rfl, F3, hC3, hs3⟩
 have h0 : w3.cell? ⟨w1.heap.size, 0, none⟩ = some (.pointer (some ⟨w.heap.size + 1, 0, none⟩)) := hC3.c0
 have hl0 := ltC h0
 have hf03 : Fr (fun _ => False) w w3 := ((uh H2).1.mono (fun _ _ h => h)).trans hs3.fr (fun k hk hx => by rcases hx with hx | ⟨_, hx⟩ <;> omega)
 have HD := hid (wDone_q s' (w.heap.size + 1) F3 E w3 hC3.st hC3.fok hlen)
 have H3 := hid hf03
 clear hC3 hs3 hf03
 go_wp2_with fail
 refine (uh HD).mono ?_
 rintro e w4 ⟨v, err, rfl, hown, hE, hf4⟩
 have H4 := hid (And.intro (ownsRow_base hown (uh H3).size) (And.intro hE ((uh H3).trans hf4 (fun _ _ h => h))))
 clear hown hE hf4
 go_wp2_with fail
 go_ret2
 exact ⟨v, err, rfl, (uh H4).1, (uh H4).2.1, (uh H4).2.2⟩
set_option maxRecDepth 100000 in
theorem put_Signed (vs : Array Value) (s' : Wq) (E : Nat → Addr) (w : World) (hg : G6 w E) (hw : 9 ≤ w.heap.size)
  (hwhole : ∀ w1 cb b F, Cd w1 cb b F (.wr ⟨ByteArray.empty, [], none⟩) E → (∀ (i : Nat) v, vs[i]? = some v → w1.cell? ⟨w.heap.size, i, none⟩ = some v) → (∀ i, Loc w1 cb F w.heap.size i) → (∀ k, F k → w.heap.size < k) → Fr (fun _ => False) w w1 → Calls Tryz.prog 68 #[.pointer (some ⟨cb, 0, none⟩), .iface 213 (.pointer (some ⟨w.heap.size, 0, none⟩))] w1 fun e w' => e = .returned (.tuple #[]) ∧ ∃ F', Cd w' cb b F' (.wr s') E ∧ Stp w1 w' F F' (fun k _ => k = w.heap.size)) (hlen : s'.l.length ≤ 140737488355328) :
  Calls Tryz.prog 75 #[.agg vs] w fun e w' => ∃ v err, e = .returned (.tuple #[v, err]) ∧ w'.ownsRow w.heap.size 5 1 v s'.out.length (cellsOf s'.out) ∧ ErrV w' err (ftV s'.f) E ∧ Fr (fun _ => False) w w' := by
 have hbx := box1 w (.cells vs 37)
 have HN := hid (newWriter_any (w.alloc (.cells vs 37)) (by simp; omega))
 have H := hid (And.intro hg (And.intro hwhole hbx))
 clear hg hwhole hbx
 go_enter Tryz.func75, Tryz.ntmps75
 go_wp2_with fail
 refine (uh HN).mono ?_
 rintro e w1 ⟨rfl, hW1, hf1⟩
 have H1 := hid (And.intro hW1 hf1)
 clear hW1 hf1
 go_wp2_with fail
 obtain ⟨W2, hW2⟩ : ∃ W2, w1.alloc (.cells #[.pointer (some ⟨w.heap.size + 1, 0, none⟩), .pointer none] 143) = W2 := ⟨_, rfl⟩
 have hf12 : Fr (fun _ => False) w1 W2 := by rw [← hW2]; exact box1 _ _
 have hs0 : (w.alloc (.cells vs 37)).heap.size = w.heap.size + 1 := by simp
 have hf02 : Fr (fun _ => False) w W2 := ((uh H).2.2.trans (uh H1).2 (fun _ _ h => h)).trans hf12 (fun _ _ h => h)
 have hW1 := (uh H1).1
 rw [hs0] at hW1
 have hs1 := (uh H1).2.size
 have hlt1 := hW1.lt (w.heap.size + 1) rfl
 have hsz2 : W2.heap.size = w1.heap.size + 1 := by rw [← hW2]; simp
 have hC2 : Cd W2 w1.heap.size (w.heap.size + 1) (fun k => k = w.heap.size + 1) (.wr ⟨ByteArray.empty, [], none⟩) E := by
  refine ⟨(uh H).1.fr hf02 (fun _ h => h.elim), fun hx => by omega, fun k hk => by omega, fun k hk => by omega, by omega, ?_, ?_, W.frame hW1 hf12 (fun _ _ h => h), fun y hy => by cases hy⟩
  ·rw [← hW2, World.cell?_alloc_at _ _ _ _ rfl]; rfl
  ·rw [← hW2, World.cell?_alloc_at _ _ _ _ rfl]; rfl
 have hcs : ∀ (i : Nat) v, vs[i]? = some v → W2.cell? ⟨w.heap.size, i, none⟩ = some v := fun i v hv => by
  refine (((uh H1).2.trans hf12 (fun _ _ h => h)).cell (p := ⟨w.heap.size, i, none⟩) (by simp) (fun h => h)).trans ?_
  rw [World.cell?_alloc_at _ _ _ _ rfl]; exact hv
 have hLo : ∀ i, Loc W2 w1.heap.size (fun k => k = w.heap.size + 1) w.heap.size i := fun i =>
  ⟨(((uh H1).2.trans hf12 (fun _ _ h => h)).frozen (p := ⟨w.heap.size, i, none⟩) (by simp) (fun h => h)).trans (by simp), by omega, by omega, by omega, by omega⟩
 have HW := hid ((uh H).2.1 W2 w1.heap.size (w.heap.size + 1) _ hC2 hcs hLo (fun k hk => by omega) hf02)
 have hx2 := Nat.le_of_lt hlt1
 have H2 := hid (And.intro hf02 (And.intro hsz2 hlt1))
 clear hC2 hf02 hLo hsz2 hcs hf12 hW1 hs1 hs0 hlt1 hx2
 rw [hW2]
 clear hW2
 refine (uh HW).mono ?_
 rintro e w3 ⟨rfl, F3, hC3, hs3⟩
 have h0 : w3.cell? ⟨w1.heap.size, 0, none⟩ = some (.pointer (some ⟨w.heap.size + 1, 0, none⟩)) := hC3.c0
 have hl0 := ltC h0
 have hf03 : Fr (fun _ => False) w w3 := ((uh H2).1.mono (fun _ _ h => h)).trans hs3.fr (fun k hk hx => by rcases hx with hx | ⟨_, hx⟩ <;> omega)
 have HD := hid (wDone_q s' (w.heap.size + 1) F3 E w3 hC3.st hC3.fok hlen)
 have H3 := hid hf03
 clear hC3 hs3 hf03
 go_wp2_with fail
 refine (uh HD).mono ?_
 rintro e w4 ⟨v, err, rfl, hown, hE, hf4⟩
 have H4 := hid (And.intro (ownsRow_base hown (uh H3).size) (And.intro hE ((uh H3).trans hf4 (fun _ _ h => h))))
 clear hown hE hf4
 go_wp2_with fail
 go_ret2
 exact ⟨v, err, rfl, (uh H4).1, (uh H4).2.1, (uh H4).2.2⟩
set_option maxRecDepth 100000 in
theorem put_Proof (vs : Array Value) (s' : Wq) (E : Nat → Addr) (w : World) (hg : G6 w E) (hw : 9 ≤ w.heap.size)
  (hwhole : ∀ w1 cb b F, Cd w1 cb b F (.wr ⟨ByteArray.empty, [], none⟩) E → (∀ (i : Nat) v, vs[i]? = some v → w1.cell? ⟨w.heap.size, i, none⟩ = some v) → (∀ i, Loc w1 cb F w.heap.size i) → (∀ k, F k → w.heap.size < k) → Fr (fun _ => False) w w1 → Calls Tryz.prog 68 #[.pointer (some ⟨cb, 0, none⟩), .iface 215 (.pointer (some ⟨w.heap.size, 0, none⟩))] w1 fun e w' => e = .returned (.tuple #[]) ∧ ∃ F', Cd w' cb b F' (.wr s') E ∧ Stp w1 w' F F' (fun k _ => k = w.heap.size)) (hlen : s'.l.length ≤ 140737488355328) :
  Calls Tryz.prog 76 #[.agg vs] w fun e w' => ∃ v err, e = .returned (.tuple #[v, err]) ∧ w'.ownsRow w.heap.size 5 1 v s'.out.length (cellsOf s'.out) ∧ ErrV w' err (ftV s'.f) E ∧ Fr (fun _ => False) w w' := by
 have hbx := box1 w (.cells vs 40)
 have HN := hid (newWriter_any (w.alloc (.cells vs 40)) (by simp; omega))
 have H := hid (And.intro hg (And.intro hwhole hbx))
 clear hg hwhole hbx
 go_enter Tryz.func76, Tryz.ntmps76
 go_wp2_with fail
 refine (uh HN).mono ?_
 rintro e w1 ⟨rfl, hW1, hf1⟩
 have H1 := hid (And.intro hW1 hf1)
 clear hW1 hf1
 go_wp2_with fail
 obtain ⟨W2, hW2⟩ : ∃ W2, w1.alloc (.cells #[.pointer (some ⟨w.heap.size + 1, 0, none⟩), .pointer none] 143) = W2 := ⟨_, rfl⟩
 have hf12 : Fr (fun _ => False) w1 W2 := by rw [← hW2]; exact box1 _ _
 have hs0 : (w.alloc (.cells vs 40)).heap.size = w.heap.size + 1 := by simp
 have hf02 : Fr (fun _ => False) w W2 := ((uh H).2.2.trans (uh H1).2 (fun _ _ h => h)).trans hf12 (fun _ _ h => h)
 have hW1 := (uh H1).1
 rw [hs0] at hW1
 have hs1 := (uh H1).2.size
 have hlt1 := hW1.lt (w.heap.size + 1) rfl
 have hsz2 : W2.heap.size = w1.heap.size + 1 := by rw [← hW2]; simp
 have hC2 : Cd W2 w1.heap.size (w.heap.size + 1) (fun k => k = w.heap.size + 1) (.wr ⟨ByteArray.empty, [], none⟩) E := by
  refine ⟨(uh H).1.fr hf02 (fun _ h => h.elim), fun hx => by omega, fun k hk => by omega, fun k hk => by omega, by omega, ?_, ?_, W.frame hW1 hf12 (fun _ _ h => h), fun y hy => by cases hy⟩
  ·rw [← hW2, World.cell?_alloc_at _ _ _ _ rfl]; rfl
  ·rw [← hW2, World.cell?_alloc_at _ _ _ _ rfl]; rfl
 have hcs : ∀ (i : Nat) v, vs[i]? = some v → W2.cell? ⟨w.heap.size, i, none⟩ = some v := fun i v hv => by
  refine (((uh H1).2.trans hf12 (fun _ _ h => h)).cell (p := ⟨w.heap.size, i, none⟩) (by simp) (fun h => h)).trans ?_
  rw [World.cell?_alloc_at _ _ _ _ rfl]; exact hv
 have hLo : ∀ i, Loc W2 w1.heap.size (fun k => k = w.heap.size + 1) w.heap.size i := fun i =>
  ⟨(((uh H1).2.trans hf12 (fun _ _ h => h)).frozen (p := ⟨w.heap.size, i, none⟩) (by simp) (fun h => h)).trans (by simp), by omega, by omega, by omega, by omega⟩
 have HW := hid ((uh H).2.1 W2 w1.heap.size (w.heap.size + 1) _ hC2 hcs hLo (fun k hk => by omega) hf02)
 have hx2 := Nat.le_of_lt hlt1
 have H2 := hid (And.intro hf02 (And.intro hsz2 hlt1))
 clear hC2 hf02 hLo hsz2 hcs hf12 hW1 hs1 hs0 hlt1 hx2
 rw [hW2]
 clear hW2
 refine (uh HW).mono ?_
 rintro e w3 ⟨rfl, F3, hC3, hs3⟩
 have h0 : w3.cell? ⟨w1.heap.size, 0, none⟩ = some (.pointer (some ⟨w.heap.size + 1, 0, none⟩)) := hC3.c0
 have hl0 := ltC h0
 have hf03 : Fr (fun _ => False) w w3 := ((uh H2).1.mono (fun _ _ h => h)).trans hs3.fr (fun k hk hx => by rcases hx with hx | ⟨_, hx⟩ <;> omega)
 have HD := hid (wDone_q s' (w.heap.size + 1) F3 E w3 hC3.st hC3.fok hlen)
 have H3 := hid hf03
 clear hC3 hs3 hf03
 go_wp2_with fail
 refine (uh HD).mono ?_
 rintro e w4 ⟨v, err, rfl, hown, hE, hf4⟩
 have H4 := hid (And.intro (ownsRow_base hown (uh H3).size) (And.intro hE ((uh H3).trans hf4 (fun _ _ h => h))))
 clear hown hE hf4
 go_wp2_with fail
 go_ret2
 exact ⟨v, err, rfl, (uh H4).1, (uh H4).2.1, (uh H4).2.2⟩
set_option maxRecDepth 100000 in
theorem put_Request (vs : Array Value) (s' : Wq) (E : Nat → Addr) (w : World) (hg : G6 w E) (hw : 9 ≤ w.heap.size)
  (hwhole : ∀ w1 cb b F, Cd w1 cb b F (.wr ⟨ByteArray.empty, [], none⟩) E → (∀ (i : Nat) v, vs[i]? = some v → w1.cell? ⟨w.heap.size, i, none⟩ = some v) → (∀ i, Loc w1 cb F w.heap.size i) → (∀ k, F k → w.heap.size < k) → Fr (fun _ => False) w w1 → Calls Tryz.prog 68 #[.pointer (some ⟨cb, 0, none⟩), .iface 157 (.pointer (some ⟨w.heap.size, 0, none⟩))] w1 fun e w' => e = .returned (.tuple #[]) ∧ ∃ F', Cd w' cb b F' (.wr s') E ∧ Stp w1 w' F F' (fun k _ => k = w.heap.size)) (hlen : s'.l.length ≤ 140737488355328) :
  Calls Tryz.prog 29 #[.agg vs] w fun e w' => ∃ v err, e = .returned (.tuple #[v, err]) ∧ w'.ownsRow w.heap.size 5 1 v s'.out.length (cellsOf s'.out) ∧ ErrV w' err (ftV s'.f) E ∧ Fr (fun _ => False) w w' := by
 have hbx := box1 w (.cells vs 30)
 have HN := hid (newWriter_any (w.alloc (.cells vs 30)) (by simp; omega))
 have H := hid (And.intro hg (And.intro hwhole hbx))
 clear hg hwhole hbx
 go_enter Tryz.func29, Tryz.ntmps29
 go_wp2_with fail
 refine (uh HN).mono ?_
 rintro e w1 ⟨rfl, hW1, hf1⟩
 have H1 := hid (And.intro hW1 hf1)
 clear hW1 hf1
 go_wp2_with fail
 obtain ⟨W2, hW2⟩ : ∃ W2, w1.alloc (.cells #[.pointer (some ⟨w.heap.size + 1, 0, none⟩), .pointer none] 143) = W2 := ⟨_, rfl⟩
 have hf12 : Fr (fun _ => False) w1 W2 := by rw [← hW2]; exact box1 _ _
 have hs0 : (w.alloc (.cells vs 30)).heap.size = w.heap.size + 1 := by simp
 have hf02 : Fr (fun _ => False) w W2 := ((uh H).2.2.trans (uh H1).2 (fun _ _ h => h)).trans hf12 (fun _ _ h => h)
 have hW1 := (uh H1).1
 rw [hs0] at hW1
 have hs1 := (uh H1).2.size
 have hlt1 := hW1.lt (w.heap.size + 1) rfl
 have hsz2 : W2.heap.size = w1.heap.size + 1 := by rw [← hW2]; simp
 have hC2 : Cd W2 w1.heap.size (w.heap.size + 1) (fun k => k = w.heap.size + 1) (.wr ⟨ByteArray.empty, [], none⟩) E := by
  refine ⟨(uh H).1.fr hf02 (fun _ h => h.elim), fun hx => by omega, fun k hk => by omega, fun k hk => by omega, by omega, ?_, ?_, W.frame hW1 hf12 (fun _ _ h => h), fun y hy => by cases hy⟩
  ·rw [← hW2, World.cell?_alloc_at _ _ _ _ rfl]; rfl
  ·rw [← hW2, World.cell?_alloc_at _ _ _ _ rfl]; rfl
 have hcs : ∀ (i : Nat) v, vs[i]? = some v → W2.cell? ⟨w.heap.size, i, none⟩ = some v := fun i v hv => by
  refine (((uh H1).2.trans hf12 (fun _ _ h => h)).cell (p := ⟨w.heap.size, i, none⟩) (by simp) (fun h => h)).trans ?_
  rw [World.cell?_alloc_at _ _ _ _ rfl]; exact hv
 have hLo : ∀ i, Loc W2 w1.heap.size (fun k => k = w.heap.size + 1) w.heap.size i := fun i =>
  ⟨(((uh H1).2.trans hf12 (fun _ _ h => h)).frozen (p := ⟨w.heap.size, i, none⟩) (by simp) (fun h => h)).trans (by simp), by omega, by omega, by omega, by omega⟩
 have HW := hid ((uh H).2.1 W2 w1.heap.size (w.heap.size + 1) _ hC2 hcs hLo (fun k hk => by omega) hf02)
 have hx2 := Nat.le_of_lt hlt1
 have H2 := hid (And.intro hf02 (And.intro hsz2 hlt1))
 clear hC2 hf02 hLo hsz2 hcs hf12 hW1 hs1 hs0 hlt1 hx2
 rw [hW2]
 clear hW2
 refine (uh HW).mono ?_
 rintro e w3 ⟨rfl, F3, hC3, hs3⟩
 have h0 : w3.cell? ⟨w1.heap.size, 0, none⟩ = some (.pointer (some ⟨w.heap.size + 1, 0, none⟩)) := hC3.c0
 have hl0 := ltC h0
 have hf03 : Fr (fun _ => False) w w3 := ((uh H2).1.mono (fun _ _ h => h)).trans hs3.fr (fun k hk hx => by rcases hx with hx | ⟨_, hx⟩ <;> omega)
 have HD := hid (wDone_q s' (w.heap.size + 1) F3 E w3 hC3.st hC3.fok hlen)
 have H3 := hid hf03
 clear hC3 hs3 hf03
 go_wp2_with fail
 refine (uh HD).mono ?_
 rintro e w4 ⟨v, err, rfl, hown, hE, hf4⟩
 have H4 := hid (And.intro (ownsRow_base hown (uh H3).size) (And.intro hE ((uh H3).trans hf4 (fun _ _ h => h))))
 clear hown hE hf4
 go_wp2_with fail
 go_ret2
 exact ⟨v, err, rfl, (uh H4).1, (uh H4).2.1, (uh H4).2.2⟩
set_option maxRecDepth 100000 in
theorem put_Answer (vs : Array Value) (s' : Wq) (E : Nat → Addr) (w : World) (hg : G6 w E) (hw : 9 ≤ w.heap.size)
  (hwhole : ∀ w1 cb b F, Cd w1 cb b F (.wr ⟨ByteArray.empty, [], none⟩) E → (∀ (i : Nat) v, vs[i]? = some v → w1.cell? ⟨w.heap.size, i, none⟩ = some v) → (∀ i, Loc w1 cb F w.heap.size i) → (∀ k, F k → w.heap.size < k) → Fr (fun _ => False) w w1 → Calls Tryz.prog 68 #[.pointer (some ⟨cb, 0, none⟩), .iface 158 (.pointer (some ⟨w.heap.size, 0, none⟩))] w1 fun e w' => e = .returned (.tuple #[]) ∧ ∃ F', Cd w' cb b F' (.wr s') E ∧ Stp w1 w' F F' (fun k _ => k = w.heap.size)) (hlen : s'.l.length ≤ 140737488355328) :
  Calls Tryz.prog 30 #[.agg vs] w fun e w' => ∃ v err, e = .returned (.tuple #[v, err]) ∧ w'.ownsRow w.heap.size 5 1 v s'.out.length (cellsOf s'.out) ∧ ErrV w' err (ftV s'.f) E ∧ Fr (fun _ => False) w w' := by
 have hbx := box1 w (.cells vs 33)
 have HN := hid (newWriter_any (w.alloc (.cells vs 33)) (by simp; omega))
 have H := hid (And.intro hg (And.intro hwhole hbx))
 clear hg hwhole hbx
 go_enter Tryz.func30, Tryz.ntmps30
 go_wp2_with fail
 refine (uh HN).mono ?_
 rintro e w1 ⟨rfl, hW1, hf1⟩
 have H1 := hid (And.intro hW1 hf1)
 clear hW1 hf1
 go_wp2_with fail
 obtain ⟨W2, hW2⟩ : ∃ W2, w1.alloc (.cells #[.pointer (some ⟨w.heap.size + 1, 0, none⟩), .pointer none] 143) = W2 := ⟨_, rfl⟩
 have hf12 : Fr (fun _ => False) w1 W2 := by rw [← hW2]; exact box1 _ _
 have hs0 : (w.alloc (.cells vs 33)).heap.size = w.heap.size + 1 := by simp
 have hf02 : Fr (fun _ => False) w W2 := ((uh H).2.2.trans (uh H1).2 (fun _ _ h => h)).trans hf12 (fun _ _ h => h)
 have hW1 := (uh H1).1
 rw [hs0] at hW1
 have hs1 := (uh H1).2.size
 have hlt1 := hW1.lt (w.heap.size + 1) rfl
 have hsz2 : W2.heap.size = w1.heap.size + 1 := by rw [← hW2]; simp
 have hC2 : Cd W2 w1.heap.size (w.heap.size + 1) (fun k => k = w.heap.size + 1) (.wr ⟨ByteArray.empty, [], none⟩) E := by
  refine ⟨(uh H).1.fr hf02 (fun _ h => h.elim), fun hx => by omega, fun k hk => by omega, fun k hk => by omega, by omega, ?_, ?_, W.frame hW1 hf12 (fun _ _ h => h), fun y hy => by cases hy⟩
  ·rw [← hW2, World.cell?_alloc_at _ _ _ _ rfl]; rfl
  ·rw [← hW2, World.cell?_alloc_at _ _ _ _ rfl]; rfl
 have hcs : ∀ (i : Nat) v, vs[i]? = some v → W2.cell? ⟨w.heap.size, i, none⟩ = some v := fun i v hv => by
  refine (((uh H1).2.trans hf12 (fun _ _ h => h)).cell (p := ⟨w.heap.size, i, none⟩) (by simp) (fun h => h)).trans ?_
  rw [World.cell?_alloc_at _ _ _ _ rfl]; exact hv
 have hLo : ∀ i, Loc W2 w1.heap.size (fun k => k = w.heap.size + 1) w.heap.size i := fun i =>
  ⟨(((uh H1).2.trans hf12 (fun _ _ h => h)).frozen (p := ⟨w.heap.size, i, none⟩) (by simp) (fun h => h)).trans (by simp), by omega, by omega, by omega, by omega⟩
 have HW := hid ((uh H).2.1 W2 w1.heap.size (w.heap.size + 1) _ hC2 hcs hLo (fun k hk => by omega) hf02)
 have hx2 := Nat.le_of_lt hlt1
 have H2 := hid (And.intro hf02 (And.intro hsz2 hlt1))
 clear hC2 hf02 hLo hsz2 hcs hf12 hW1 hs1 hs0 hlt1 hx2
 rw [hW2]
 clear hW2
 refine (uh HW).mono ?_
 rintro e w3 ⟨rfl, F3, hC3, hs3⟩
 have h0 : w3.cell? ⟨w1.heap.size, 0, none⟩ = some (.pointer (some ⟨w.heap.size + 1, 0, none⟩)) := hC3.c0
 have hl0 := ltC h0
 have hf03 : Fr (fun _ => False) w w3 := ((uh H2).1.mono (fun _ _ h => h)).trans hs3.fr (fun k hk hx => by rcases hx with hx | ⟨_, hx⟩ <;> omega)
 have HD := hid (wDone_q s' (w.heap.size + 1) F3 E w3 hC3.st hC3.fok hlen)
 have H3 := hid hf03
 clear hC3 hs3 hf03
 go_wp2_with fail
 refine (uh HD).mono ?_
 rintro e w4 ⟨v, err, rfl, hown, hE, hf4⟩
 have H4 := hid (And.intro (ownsRow_base hown (uh H3).size) (And.intro hE ((uh H3).trans hf4 (fun _ _ h => h))))
 clear hown hE hf4
 go_wp2_with fail
 go_ret2
 exact ⟨v, err, rfl, (uh H4).1, (uh H4).2.1, (uh H4).2.2⟩
set_option maxRecDepth 100000 in
theorem put_Event (vs : Array Value) (s' : Wq) (E : Nat → Addr) (w : World) (hg : G6 w E) (hw : 9 ≤ w.heap.size)
  (hwhole : ∀ w1 cb b F, Cd w1 cb b F (.wr ⟨ByteArray.empty, [], none⟩) E → (∀ (i : Nat) v, vs[i]? = some v → w1.cell? ⟨w.heap.size, i, none⟩ = some v) → (∀ i, Loc w1 cb F w.heap.size i) → (∀ k, F k → w.heap.size < k) → Fr (fun _ => False) w w1 → Calls Tryz.prog 68 #[.pointer (some ⟨cb, 0, none⟩), .iface 210 (.pointer (some ⟨w.heap.size, 0, none⟩))] w1 fun e w' => e = .returned (.tuple #[]) ∧ ∃ F', Cd w' cb b F' (.wr s') E ∧ Stp w1 w' F F' (fun k _ => k = w.heap.size)) (hlen : s'.l.length ≤ 140737488355328) :
  Calls Tryz.prog 74 #[.agg vs] w fun e w' => ∃ v err, e = .returned (.tuple #[v, err]) ∧ w'.ownsRow w.heap.size 5 1 v s'.out.length (cellsOf s'.out) ∧ ErrV w' err (ftV s'.f) E ∧ Fr (fun _ => False) w w' := by
 have hbx := box1 w (.cells vs 35)
 have HN := hid (newWriter_any (w.alloc (.cells vs 35)) (by simp; omega))
 have H := hid (And.intro hg (And.intro hwhole hbx))
 clear hg hwhole hbx
 go_enter Tryz.func74, Tryz.ntmps74
 go_wp2_with fail
 refine (uh HN).mono ?_
 rintro e w1 ⟨rfl, hW1, hf1⟩
 have H1 := hid (And.intro hW1 hf1)
 clear hW1 hf1
 go_wp2_with fail
 obtain ⟨W2, hW2⟩ : ∃ W2, w1.alloc (.cells #[.pointer (some ⟨w.heap.size + 1, 0, none⟩), .pointer none] 143) = W2 := ⟨_, rfl⟩
 have hf12 : Fr (fun _ => False) w1 W2 := by rw [← hW2]; exact box1 _ _
 have hs0 : (w.alloc (.cells vs 35)).heap.size = w.heap.size + 1 := by simp
 have hf02 : Fr (fun _ => False) w W2 := ((uh H).2.2.trans (uh H1).2 (fun _ _ h => h)).trans hf12 (fun _ _ h => h)
 have hW1 := (uh H1).1
 rw [hs0] at hW1
 have hs1 := (uh H1).2.size
 have hlt1 := hW1.lt (w.heap.size + 1) rfl
 have hsz2 : W2.heap.size = w1.heap.size + 1 := by rw [← hW2]; simp
 have hC2 : Cd W2 w1.heap.size (w.heap.size + 1) (fun k => k = w.heap.size + 1) (.wr ⟨ByteArray.empty, [], none⟩) E := by
  refine ⟨(uh H).1.fr hf02 (fun _ h => h.elim), fun hx => by omega, fun k hk => by omega, fun k hk => by omega, by omega, ?_, ?_, W.frame hW1 hf12 (fun _ _ h => h), fun y hy => by cases hy⟩
  ·rw [← hW2, World.cell?_alloc_at _ _ _ _ rfl]; rfl
  ·rw [← hW2, World.cell?_alloc_at _ _ _ _ rfl]; rfl
 have hcs : ∀ (i : Nat) v, vs[i]? = some v → W2.cell? ⟨w.heap.size, i, none⟩ = some v := fun i v hv => by
  refine (((uh H1).2.trans hf12 (fun _ _ h => h)).cell (p := ⟨w.heap.size, i, none⟩) (by simp) (fun h => h)).trans ?_
  rw [World.cell?_alloc_at _ _ _ _ rfl]; exact hv
 have hLo : ∀ i, Loc W2 w1.heap.size (fun k => k = w.heap.size + 1) w.heap.size i := fun i =>
  ⟨(((uh H1).2.trans hf12 (fun _ _ h => h)).frozen (p := ⟨w.heap.size, i, none⟩) (by simp) (fun h => h)).trans (by simp), by omega, by omega, by omega, by omega⟩
 have HW := hid ((uh H).2.1 W2 w1.heap.size (w.heap.size + 1) _ hC2 hcs hLo (fun k hk => by omega) hf02)
 have hx2 := Nat.le_of_lt hlt1
 have H2 := hid (And.intro hf02 (And.intro hsz2 hlt1))
 clear hC2 hf02 hLo hsz2 hcs hf12 hW1 hs1 hs0 hlt1 hx2
 rw [hW2]
 clear hW2
 refine (uh HW).mono ?_
 rintro e w3 ⟨rfl, F3, hC3, hs3⟩
 have h0 : w3.cell? ⟨w1.heap.size, 0, none⟩ = some (.pointer (some ⟨w.heap.size + 1, 0, none⟩)) := hC3.c0
 have hl0 := ltC h0
 have hf03 : Fr (fun _ => False) w w3 := ((uh H2).1.mono (fun _ _ h => h)).trans hs3.fr (fun k hk hx => by rcases hx with hx | ⟨_, hx⟩ <;> omega)
 have HD := hid (wDone_q s' (w.heap.size + 1) F3 E w3 hC3.st hC3.fok hlen)
 have H3 := hid hf03
 clear hC3 hs3 hf03
 go_wp2_with fail
 refine (uh HD).mono ?_
 rintro e w4 ⟨v, err, rfl, hown, hE, hf4⟩
 have H4 := hid (And.intro (ownsRow_base hown (uh H3).size) (And.intro hE ((uh H3).trans hf4 (fun _ _ h => h))))
 clear hown hE hf4
 go_wp2_with fail
 go_ret2
 exact ⟨v, err, rfl, (uh H4).1, (uh H4).2.1, (uh H4).2.2⟩
set_option maxRecDepth 100000 in
theorem put_Message (vs : Array Value) (s' : Wq) (E : Nat → Addr) (w : World) (hg : G6 w E) (hw : 9 ≤ w.heap.size)
  (hwhole : ∀ w1 cb b F, Cd w1 cb b F (.wr ⟨ByteArray.empty, [], none⟩) E → (∀ (i : Nat) v, vs[i]? = some v → w1.cell? ⟨w.heap.size, i, none⟩ = some v) → (∀ i, Loc w1 cb F w.heap.size i) → (∀ k, F k → w.heap.size < k) → Fr (fun _ => False) w w1 → Calls Tryz.prog 68 #[.pointer (some ⟨cb, 0, none⟩), .iface 145 (.pointer (some ⟨w.heap.size, 0, none⟩))] w1 fun e w' => e = .returned (.tuple #[]) ∧ ∃ F', Cd w' cb b F' (.wr s') E ∧ Stp w1 w' F F' (fun k _ => k = w.heap.size)) (hlen : s'.l.length ≤ 140737488355328) :
  Calls Tryz.prog 26 #[.agg vs] w fun e w' => ∃ v err, e = .returned (.tuple #[v, err]) ∧ w'.ownsRow w.heap.size 5 1 v s'.out.length (cellsOf s'.out) ∧ ErrV w' err (ftV s'.f) E ∧ Fr (fun _ => False) w w' := by
 have hbx := box1 w (.cells vs 42)
 have HN := hid (newWriter_any (w.alloc (.cells vs 42)) (by simp; omega))
 have H := hid (And.intro hg (And.intro hwhole hbx))
 clear hg hwhole hbx
 go_enter Tryz.func26, Tryz.ntmps26
 go_wp2_with fail
 refine (uh HN).mono ?_
 rintro e w1 ⟨rfl, hW1, hf1⟩
 have H1 := hid (And.intro hW1 hf1)
 clear hW1 hf1
 go_wp2_with fail
 obtain ⟨W2, hW2⟩ : ∃ W2, w1.alloc (.cells #[.pointer (some ⟨w.heap.size + 1, 0, none⟩), .pointer none] 143) = W2 := ⟨_, rfl⟩
 have hf12 : Fr (fun _ => False) w1 W2 := by rw [← hW2]; exact box1 _ _
 have hs0 : (w.alloc (.cells vs 42)).heap.size = w.heap.size + 1 := by simp
 have hf02 : Fr (fun _ => False) w W2 := ((uh H).2.2.trans (uh H1).2 (fun _ _ h => h)).trans hf12 (fun _ _ h => h)
 have hW1 := (uh H1).1
 rw [hs0] at hW1
 have hs1 := (uh H1).2.size
 have hlt1 := hW1.lt (w.heap.size + 1) rfl
 have hsz2 : W2.heap.size = w1.heap.size + 1 := by rw [← hW2]; simp
 have hC2 : Cd W2 w1.heap.size (w.heap.size + 1) (fun k => k = w.heap.size + 1) (.wr ⟨ByteArray.empty, [], none⟩) E := by
  refine ⟨(uh H).1.fr hf02 (fun _ h => h.elim), fun hx => by omega, fun k hk => by omega, fun k hk => by omega, by omega, ?_, ?_, W.frame hW1 hf12 (fun _ _ h => h), fun y hy => by cases hy⟩
  ·rw [← hW2, World.cell?_alloc_at _ _ _ _ rfl]; rfl
  ·rw [← hW2, World.cell?_alloc_at _ _ _ _ rfl]; rfl
 have hcs : ∀ (i : Nat) v, vs[i]? = some v → W2.cell? ⟨w.heap.size, i, none⟩ = some v := fun i v hv => by
  refine (((uh H1).2.trans hf12 (fun _ _ h => h)).cell (p := ⟨w.heap.size, i, none⟩) (by simp) (fun h => h)).trans ?_
  rw [World.cell?_alloc_at _ _ _ _ rfl]; exact hv
 have hLo : ∀ i, Loc W2 w1.heap.size (fun k => k = w.heap.size + 1) w.heap.size i := fun i =>
  ⟨(((uh H1).2.trans hf12 (fun _ _ h => h)).frozen (p := ⟨w.heap.size, i, none⟩) (by simp) (fun h => h)).trans (by simp), by omega, by omega, by omega, by omega⟩
 have HW := hid ((uh H).2.1 W2 w1.heap.size (w.heap.size + 1) _ hC2 hcs hLo (fun k hk => by omega) hf02)
 have hx2 := Nat.le_of_lt hlt1
 have H2 := hid (And.intro hf02 (And.intro hsz2 hlt1))
 clear hC2 hf02 hLo hsz2 hcs hf12 hW1 hs1 hs0 hlt1 hx2
 rw [hW2]
 clear hW2
 refine (uh HW).mono ?_
 rintro e w3 ⟨rfl, F3, hC3, hs3⟩
 have h0 : w3.cell? ⟨w1.heap.size, 0, none⟩ = some (.pointer (some ⟨w.heap.size + 1, 0, none⟩)) := hC3.c0
 have hl0 := ltC h0
 have hf03 : Fr (fun _ => False) w w3 := ((uh H2).1.mono (fun _ _ h => h)).trans hs3.fr (fun k hk hx => by rcases hx with hx | ⟨_, hx⟩ <;> omega)
 have HD := hid (wDone_q s' (w.heap.size + 1) F3 E w3 hC3.st hC3.fok hlen)
 have H3 := hid hf03
 clear hC3 hs3 hf03
 go_wp2_with fail
 refine (uh HD).mono ?_
 rintro e w4 ⟨v, err, rfl, hown, hE, hf4⟩
 have H4 := hid (And.intro (ownsRow_base hown (uh H3).size) (And.intro hE ((uh H3).trans hf4 (fun _ _ h => h))))
 clear hown hE hf4
 go_wp2_with fail
 go_ret2
 exact ⟨v, err, rfl, (uh H4).1, (uh H4).2.1, (uh H4).2.2⟩
def Q.fin (q : Q) : ByteArray × Nat × Nat := (q.named n_end).ended
set_option maxRecDepth 100000 in
set_option maxHeartbeats 2000000 in
theorem get_Head (x : Value) (l : List Nat) (q' : Q) (Res : World → (Nat → Prop) → Nat → Array Value → Prop) (E : Nat → Addr) (w : World) (hg : G6 w E) (hw : 9 ≤ w.heap.size) (hx : Src w x l) (hl : l.length ≤ 140737488355328)
  (hst : ∀ w2 w' F F' P g vs, Res w2 F g vs → Stp w2 w' F F' P → (∀ k j, P k j → k = w.heap.size) → Res w' F' g vs)
  (hwhole : ∀ w1 cb b F g, Cd w1 cb b F (.rd ⟨ByteArray.empty, l, 0, 0, none⟩) E → w1.cell? ⟨g, 0, none⟩ = some (.int .u32 0) → w1.cell? ⟨g, 1, none⟩ = some (.slice none 0 0) → (∀ i, Loc w1 cb F g i) → (∀ k, F k → w.heap.size < k) → w.heap.size < g → Fr (fun _ => False) w w1 → Calls Tryz.prog 68 #[.pointer (some ⟨cb, 0, none⟩), .iface 173 (.pointer (some ⟨g, 0, none⟩))] w1 fun e w' => e = .returned (.tuple #[]) ∧ ∃ F', Cd w' cb b F' (.rd q') E ∧ ∃ v0 v1, w'.cell? ⟨g, 0, none⟩ = some v0 ∧ w'.cell? ⟨g, 1, none⟩ = some v1 ∧ (∀ v ∈ ([v0, v1] : List Value), v.oneCell' = true) ∧ Res w' F' g #[v0, v1] ∧ Stp w1 w' F F' (fun k _ => k = g)) :
  Calls Tryz.prog 48 #[x] w fun e w' => ∃ vs err, e = .returned (.tuple #[.agg vs, err]) ∧ ErrV w' err q'.fin E ∧ (q'.fin.2.2 ≠ 0 → vs = #[.int .u32 0, .slice none 0 0]) ∧ (q'.fin.2.2 = 0 → ∃ F' g, Res w' F' g vs ∧ w.heap.size ≤ g) ∧ Fr (fun _ => False) w w' := by
 obtain ⟨xo, xc, rfl⟩ := hx.form
 have hbx := box1 w (.cells #[.int .u32 0, .slice none 0 0] 25)
 have HN := hid (newReader_any _ l (w.alloc (.cells #[.int .u32 0, .slice none 0 0] 25)) (by simp; omega) (hx.fr hbx (fun _ _ _ _ _ h => h)) hl)
 have H := hid (And.intro hg (And.intro hst hwhole))
 have HB := hid hbx
 clear hg hst hwhole hx hbx
 go_enter Tryz.func48, Tryz.ntmps48
 go_wp2_with fail
 refine (uh HN).mono ?_
 rintro e w1 ⟨b, F, rfl, hR1, hf1', hF1'⟩
 have hf1 : Fr (fun _ => False) w w1 := (uh HB).trans hf1' (fun _ _ h => h)
 have hF1 : ∀ k, F k → w.heap.size < k := fun k hk => by have := hF1' k hk; simp at this; omega
 have hr0 : w1.cell? ⟨w.heap.size, 0, none⟩ = some (.int .u32 0) := (hf1'.cell (p := ⟨w.heap.size, 0, none⟩) (by simp) (fun h => h)).trans (by simp)
 have hrz : ∀ i, w1.frozen? ⟨w.heap.size, i, none⟩ = false := fun i => (hf1'.frozen (p := ⟨w.heap.size, i, none⟩) (by simp) (fun h => h)).trans (by simp)
 have hrb : w1.heap[w.heap.size]? = some (.cells #[.int .u32 0, .slice none 0 0] 25) := (hf1'.block w.heap.size (by simp) (fun h => h)).trans (heap_alloc_new _ _)
 have hrl := ltC hr0
 clear hf1' hF1'
 have hbl := hR1.lt b hR1.fb
 have H1 := hid (And.intro hR1 (And.intro hf1 hF1))
 clear hR1 hf1 hF1
 go_wp2_with fail
 obtain ⟨W2, hW2⟩ : ∃ W2, ((w1.alloc (.cells #[.pointer none, .pointer (some ⟨b, 0, none⟩)] 143)).alloc (.cells #[.int .u32 0, .slice none 0 0] 25)).alloc (.cells #[.int .u32 0, .slice none 0 0] 25) = W2 := ⟨_, rfl⟩
 have hf12 : Fr (fun _ => False) w1 W2 := by rw [← hW2]; exact box3 _ _ _ _
 have HF12 := hid hf12
 have hf02 := (uh H1).2.1.trans hf12 (fun _ _ h => h)
 have hsz2 : W2.heap.size = w1.heap.size + 3 := by rw [← hW2]; simp
 have hC2 : Cd W2 w1.heap.size b F (.rd ⟨ByteArray.empty, l, 0, 0, none⟩) E := by
  have hb1 := (uh H1).1.lt
  have hw1 := (uh H1).2.1.size
  refine ⟨(uh H).1.fr hf02 (fun _ h => h.elim), fun hx => by have := hb1 _ hx; omega, fun k hk => by have := hb1 k hk; omega, (uh H1).1.lo, by omega, ?_, ?_, ⟨(uh H1).1.frame hf12 (fun _ _ h => h), ⟨Nat.zero_le _, Nat.zero_le _, fun y hy => by cases hy⟩, hl⟩, trivial⟩
  ·rw [← hW2, World.cell?_alloc_past _ _ _ (by simp; omega), World.cell?_alloc_past _ _ _ (by simp), World.cell?_alloc_at _ _ _ _ (by simp)]; rfl
  ·rw [← hW2, World.cell?_alloc_past _ _ _ (by simp; omega), World.cell?_alloc_past _ _ _ (by simp), World.cell?_alloc_at _ _ _ _ (by simp)]; rfl
 have hcs : ∀ (i : Nat) v, (#[.int .u32 0, .slice none 0 0] : Array Value)[i]? = some v → W2.cell? ⟨w1.heap.size + 1, i, none⟩ = some v := fun i v hv => by
  rw [← hW2, World.cell?_alloc_past _ _ _ (by simp), World.cell?_alloc_at _ _ _ _ (by simp)]; exact hv
 have hnn : ∀ (i : Nat) v, (#[.int .u32 0, .slice none 0 0] : Array Value)[i]? = some v → W2.cell? ⟨w1.heap.size + 1 + 1, i, none⟩ = some v := fun i v hv => by
  rw [← hW2, World.cell?_alloc_at _ _ _ _ (by simp)]; exact hv
 have hLo : ∀ i, Loc W2 w1.heap.size F (w1.heap.size + 1) i := fun i => by
  have hb1 := (uh H1).1.lt
  have hw1 := (uh H1).2.1.size
  exact ⟨(((by rw [← hW2]; exact box1 _ _) : Fr (fun _ => False) ((w1.alloc (.cells #[.pointer none, .pointer (some ⟨b, 0, none⟩)] 143)).alloc (.cells #[.int .u32 0, .slice none 0 0] 25)) W2).frozen (p := ⟨w1.heap.size + 1, i, none⟩) (by simp) (fun h => h)).trans (by simp), by omega, fun hx => by have := hb1 _ hx; omega, by omega, by omega⟩
 have HW := hid ((uh H).2.2 W2 w1.heap.size b F (w1.heap.size + 1) hC2 (hcs 0 _ rfl) (hcs 1 _ rfl) hLo (uh H1).2.2 (by omega) hf02)
 have H2 := hid (And.intro hf02 (And.intro hnn hsz2))
 clear hC2 hf02 hLo hsz2 hcs hf12 hnn
 rw [hW2]
 clear hW2
 refine (uh HW).mono ?_
 rintro e w3 ⟨rfl, F3, hC3, v0, v1, hv0, hv1, hone, hRes, hs3⟩
 have hst0 : ∀ (a : Addr) (m : Mode) (W : World), (store a v0 m).run Tryz.prog W = stored Tryz.prog W a v0 m := fun _ _ _ => run_store _ _ _ _ _ (hone v0 (by simp))
 have hst1 : ∀ (a : Addr) (m : Mode) (W : World), (store a v1 m).run Tryz.prog W = stored Tryz.prog W a v1 m := fun _ _ _ => run_store _ _ _ _ _ (hone v1 (by simp))
 clear hone
 have h1 : w3.cell? ⟨w1.heap.size, 1, none⟩ = some (.pointer (some ⟨b, 0, none⟩)) := hC3.c1
 have hl1 := ltC h1
 obtain ⟨hf02, hnn, hsz2⟩ := uh H2
 have hFb : ∀ k, F k → k < w1.heap.size := (uh H1).1.lt
 have hne : ∀ i, w3.cell? ⟨w1.heap.size + 1 + 1, i, none⟩ = W2.cell? ⟨w1.heap.size + 1 + 1, i, none⟩ := fun i => hs3.oth (w1.heap.size + 1 + 1) i (by omega) (fun hx => by have := hFb _ hx; omega) (fun h => by omega)
 have hn0 := (hne 0).trans (hnn 0 _ rfl)
 have hn1 := (hne 1).trans (hnn 1 _ rfl)
 have hrF : ¬ F w.heap.size := fun hx => by have := (uh H1).2.2 _ hx; omega
 have hrb3 : w3.heap[w.heap.size]? = some (.cells #[.int .u32 0, .slice none 0 0] 25) := (hs3.block (by omega) hrF (fun i h => by omega)).trans ((uh HF12).block _ hrl (fun h => h) |>.trans hrb)
 have hf03 : Fr (fun _ => False) w w3 := hf02.trans hs3.fr (fun k hk hx => hx.elim (fun hx => by have := (uh H1).2.2 k hx; omega) (fun ⟨_, hx⟩ => by omega))
 have hst3 : R w3 b F3 (q'.rst E) ∧ q'.ok ∧ q'.all.length ≤ 140737488355328 := hC3.st
 have HD := hid (rName_step q' n_end b F3 E w3 hst3.1)
 have H3 := hid (And.intro hC3 (And.intro hs3 (And.intro hRes (And.intro hf03 (And.intro hst3.2.1 hrF)))))
 clear hC3 hs3 hRes hf03 hst3 hrF hf02 hnn hsz2 hFb hne
 go_wp2_with fail
 refine (uh HD).mono ?_
 rintro e w4 ⟨rfl, hR4, hch4⟩
 have hgF3 := (uh H3).2.1.nF (by have := (uh H2).2.2; omega) (show ¬ F (w1.heap.size + 1) from fun hx => by have := (uh H1).1.lt _ hx; omega)
 have hnF3 := (uh H3).2.1.nF (by have := (uh H2).2.2; omega) (show ¬ F (w1.heap.size + 1 + 1) from fun hx => by have := (uh H1).1.lt _ hx; omega)
 have hcF3 := (uh H3).1.nf
 have hv04 := (hch4.fr.cell (p := ⟨w1.heap.size + 1, 0, none⟩) (ltC hv0) hgF3).trans hv0
 have hv14 := (hch4.fr.cell (p := ⟨w1.heap.size + 1, 1, none⟩) (ltC hv1) hgF3).trans hv1
 have hn04 := (hch4.fr.cell (p := ⟨w1.heap.size + 1 + 1, 0, none⟩) (ltC hn0) hnF3).trans hn0
 have hn14 := (hch4.fr.cell (p := ⟨w1.heap.size + 1 + 1, 1, none⟩) (ltC hn1) hnF3).trans hn1
 have h14 : w4.cell? ⟨w1.heap.size, 1, none⟩ = some (.pointer (some ⟨b, 0, none⟩)) := (hch4.fr.cell (p := ⟨w1.heap.size, 1, none⟩) hl1 hcF3).trans h1
 have hrb4 : w4.heap[w.heap.size]? = some (.cells #[.int .u32 0, .slice none 0 0] 25) := (hch4.fr.block w.heap.size (by omega) ((uh H3).2.1.nF (by have := (uh H2).2.2; omega) (uh H3).2.2.2.2.2)).trans hrb3
 have HE := hid (done_any (q'.named n_end) b F3 E w4 hR4 (Q.named_ok (uh H3).2.2.2.2.1 n_end) ((uh H3).1.g7.fr hch4.fr (uh H3).1.lo).gl)
 have hs4 : Stp w3 w4 F3 F3 (fun _ _ => False) := Stp.of_ch hch4 _
 have hf04 : Fr (fun _ => False) w w4 := (uh H3).2.2.2.1.trans hch4.fr (fun k hk hx => by
  rcases (uh H3).2.1.new k hx with h | h
  ·have := (uh H1).2.2 k h; omega
  ·have := (uh H1).2.1.size; have := (uh H2).2.2; omega)
 have H4 := hid (And.intro hs4 hf04)
 clear hR4 hch4 hs4 hf04 hgF3 hnF3 hcF3
 go_wp2_with fail
 refine (uh HE).mono ?_
 rintro e w5 ⟨err, rfl, hEr, hf5⟩
 have hrb5 : w5.heap[w.heap.size]? = some (.cells #[.int .u32 0, .slice none 0 0] 25) := (hf5.block w.heap.size (by have := (uh H4).1.size; have := (uh H3).2.1.size; have := (uh H2).2.2; omega) (fun h => h)).trans hrb4
 have hv05 := (hf5.cell (p := ⟨w1.heap.size + 1, 0, none⟩) (ltC hv04) (fun h => h)).trans hv04
 have hn05 := (hf5.cell (p := ⟨w1.heap.size + 1 + 1, 0, none⟩) (ltC hn04) (fun h => h)).trans hn04
 have hv15 := (hf5.cell (p := ⟨w1.heap.size + 1, 1, none⟩) (ltC hv14) (fun h => h)).trans hv14
 have hn15 := (hf5.cell (p := ⟨w1.heap.size + 1 + 1, 1, none⟩) (ltC hn14) (fun h => h)).trans hn14
 have hr05 : w5.cell? ⟨w.heap.size, 0, none⟩ = some (.int .u32 0) := by simp [World.cell?, hrb5]
 have hr15 : w5.cell? ⟨w.heap.size, 1, none⟩ = some (.slice none 0 0) := by simp [World.cell?, hrb5]
 have hrz5 : ∀ i, w5.frozen? ⟨w.heap.size, i, none⟩ = false := fun i => by simp [World.frozen?, hrb5]
 have hrl5 := ltC hr05
 have hlv5 := ltC hv05
 have hln5 := ltC hn05
 have hnr1 : w1.heap.size + 1 ≠ w.heap.size := by omega
 have hnr2 : w1.heap.size + 1 + 1 ≠ w.heap.size := by omega
 have hsF : ∀ (i : Nat) v W, Fr (fun k => k = w.heap.size) w5 W → Fr (fun k => k = w.heap.size) w5 (W.setCell ⟨w.heap.size, i, none⟩ v) := fun i v W h => h.setCell (.inl rfl) v
 have H5 := hid (And.intro hf5 (hEr))
 rcases hEr with ⟨h0, rfl⟩ | ⟨h1', h7, fb, rfl, hb⟩
 ·clear hf5
  go_wp2_with fail
  refine bodyPost_ret (v := .tuple #[.agg #[v0, v1], .nilIface]) (by simp [results, Tryz.results48, go_sem, hr05, hr15]) rfl ?_
  have hfin : q'.fin.2.2 = 0 := h0
  refine ⟨_, _, rfl, .inl ⟨hfin, rfl⟩, fun h => absurd hfin h, fun _ => ⟨F3, w1.heap.size + 1, ?_, by omega⟩, ?_⟩
  ·have hR5 := (uh H).2.1 _ _ _ _ _ _ _ ((uh H).2.1 _ _ _ _ _ _ _ (uh H3).2.2.1 (uh H4).1 (fun _ _ h => h.elim)) (Stp.of_fr (uh H5).1 F3 (fun _ _ => False)) (fun _ _ h => h.elim)
   exact (uh H).2.1 _ _ _ _ _ _ _ hR5 (((Stp.refl w5 F3 (fun k _ => k = w.heap.size)).trans (Stp.set w.heap.size 0 _) (fun k j _ h => h.1)).trans (Stp.set w.heap.size 1 _) (fun k j _ h => h.1)) (fun k j h => h)
  ·exact (((uh H4).2.trans (uh H5).1 (fun _ _ h => h)).setCell (.inr (Nat.le_refl _)) _).setCell (.inr (Nat.le_refl _)) _
 ·have hfb : fb ≠ w.heap.size := fun e => by rw [e, hrb5] at hb; simp [faultObj] at hb
  have HB5 := hid hb
  clear hf5 hb
  go_wp2_with fail
  refine bodyPost_ret (v := .tuple #[.agg #[.int .u32 0, .slice none 0 0], .iface 78 (.pointer (some ⟨fb, 0, none⟩))]) (by simp [results, Tryz.results48, go_sem, hr05, hr15]) rfl ?_
  have hfin : q'.fin.2.2 ≠ 0 := fun e => by have : 1 ≤ q'.fin.2.2 := h1'; omega
  refine ⟨_, _, rfl, .inr ⟨h1', h7, fb, rfl, ?_⟩, fun _ => rfl, fun h => absurd h hfin, ?_⟩
  ·rw [Below.heap_setCell _ _ _ _ hfb, Below.heap_setCell _ _ _ _ hfb]
   exact uh HB5
  ·exact (((uh H4).2.trans (uh H5).1 (fun _ _ h => h)).setCell (.inr (Nat.le_refl _)) _).setCell (.inr (Nat.le_refl _)) _
set_option maxRecDepth 100000 in
set_option maxHeartbeats 2000000 in
theorem get_Signed (x : Value) (l : List Nat) (q' : Q) (Res : World → (Nat → Prop) → Nat → Array Value → Prop) (E : Nat → Addr) (w : World) (hg : G6 w E) (hw : 9 ≤ w.heap.size) (hx : Src w x l) (hl : l.length ≤ 140737488355328)
  (hst : ∀ w2 w' F F' P g vs, Res w2 F g vs → Stp w2 w' F F' P → (∀ k j, P k j → k = w.heap.size) → Res w' F' g vs)
  (hwhole : ∀ w1 cb b F g, Cd w1 cb b F (.rd ⟨ByteArray.empty, l, 0, 0, none⟩) E → w1.cell? ⟨g, 0, none⟩ = some (.int .u32 0) → w1.cell? ⟨g, 1, none⟩ = some (.slice none 0 0) → w1.cell? ⟨g, 2, none⟩ = some (.int .u32 0) → w1.cell? ⟨g, 3, none⟩ = some (.slice none 0 0) → (∀ i, Loc w1 cb F g i) → (∀ k, F k → w.heap.size < k) → w.heap.size < g → Fr (fun _ => False) w w1 → Calls Tryz.prog 68 #[.pointer (some ⟨cb, 0, none⟩), .iface 213 (.pointer (some ⟨g, 0, none⟩))] w1 fun e w' => e = .returned (.tuple #[]) ∧ ∃ F', Cd w' cb b F' (.rd q') E ∧ ∃ v0 v1 v2 v3, w'.cell? ⟨g, 0, none⟩ = some v0 ∧ w'.cell? ⟨g, 1, none⟩ = some v1 ∧ w'.cell? ⟨g, 2, none⟩ = some v2 ∧ w'.cell? ⟨g, 3, none⟩ = some v3 ∧ (∀ v ∈ ([v0, v1, v2, v3] : List Value), v.oneCell' = true) ∧ Res w' F' g #[v0, v1, v2, v3] ∧ Stp w1 w' F F' (fun k _ => k = g)) :
  Calls Tryz.prog 80 #[x] w fun e w' => ∃ vs err, e = .returned (.tuple #[.agg vs, err]) ∧ ErrV w' err q'.fin E ∧ (q'.fin.2.2 ≠ 0 → vs = #[.int .u32 0, .slice none 0 0, .int .u32 0, .slice none 0 0]) ∧ (q'.fin.2.2 = 0 → ∃ F' g, Res w' F' g vs ∧ w.heap.size ≤ g) ∧ Fr (fun _ => False) w w' := by
 obtain ⟨xo, xc, rfl⟩ := hx.form
 have hbx := box1 w (.cells #[.int .u32 0, .slice none 0 0, .int .u32 0, .slice none 0 0] 37)
 have HN := hid (newReader_any _ l (w.alloc (.cells #[.int .u32 0, .slice none 0 0, .int .u32 0, .slice none 0 0] 37)) (by simp; omega) (hx.fr hbx (fun _ _ _ _ _ h => h)) hl)
 have H := hid (And.intro hg (And.intro hst hwhole))
 have HB := hid hbx
 clear hg hst hwhole hx hbx
 go_enter Tryz.func80, Tryz.ntmps80
 go_wp2_with fail
 refine (uh HN).mono ?_
 rintro e w1 ⟨b, F, rfl, hR1, hf1', hF1'⟩
 have hf1 : Fr (fun _ => False) w w1 := (uh HB).trans hf1' (fun _ _ h => h)
 have hF1 : ∀ k, F k → w.heap.size < k := fun k hk => by have := hF1' k hk; simp at this; omega
 have hr0 : w1.cell? ⟨w.heap.size, 0, none⟩ = some (.int .u32 0) := (hf1'.cell (p := ⟨w.heap.size, 0, none⟩) (by simp) (fun h => h)).trans (by simp)
 have hrz : ∀ i, w1.frozen? ⟨w.heap.size, i, none⟩ = false := fun i => (hf1'.frozen (p := ⟨w.heap.size, i, none⟩) (by simp) (fun h => h)).trans (by simp)
 have hrb : w1.heap[w.heap.size]? = some (.cells #[.int .u32 0, .slice none 0 0, .int .u32 0, .slice none 0 0] 37) := (hf1'.block w.heap.size (by simp) (fun h => h)).trans (heap_alloc_new _ _)
 have hrl := ltC hr0
 clear hf1' hF1'
 have hbl := hR1.lt b hR1.fb
 have H1 := hid (And.intro hR1 (And.intro hf1 hF1))
 clear hR1 hf1 hF1
 go_wp2_with fail
 obtain ⟨W2, hW2⟩ : ∃ W2, ((w1.alloc (.cells #[.pointer none, .pointer (some ⟨b, 0, none⟩)] 143)).alloc (.cells #[.int .u32 0, .slice none 0 0, .int .u32 0, .slice none 0 0] 37)).alloc (.cells #[.int .u32 0, .slice none 0 0, .int .u32 0, .slice none 0 0] 37) = W2 := ⟨_, rfl⟩
 have hf12 : Fr (fun _ => False) w1 W2 := by rw [← hW2]; exact box3 _ _ _ _
 have HF12 := hid hf12
 have hf02 := (uh H1).2.1.trans hf12 (fun _ _ h => h)
 have hsz2 : W2.heap.size = w1.heap.size + 3 := by rw [← hW2]; simp
 have hC2 : Cd W2 w1.heap.size b F (.rd ⟨ByteArray.empty, l, 0, 0, none⟩) E := by
  have hb1 := (uh H1).1.lt
  have hw1 := (uh H1).2.1.size
  refine ⟨(uh H).1.fr hf02 (fun _ h => h.elim), fun hx => by have := hb1 _ hx; omega, fun k hk => by have := hb1 k hk; omega, (uh H1).1.lo, by omega, ?_, ?_, ⟨(uh H1).1.frame hf12 (fun _ _ h => h), ⟨Nat.zero_le _, Nat.zero_le _, fun y hy => by cases hy⟩, hl⟩, trivial⟩
  ·rw [← hW2, World.cell?_alloc_past _ _ _ (by simp; omega), World.cell?_alloc_past _ _ _ (by simp), World.cell?_alloc_at _ _ _ _ (by simp)]; rfl
  ·rw [← hW2, World.cell?_alloc_past _ _ _ (by simp; omega), World.cell?_alloc_past _ _ _ (by simp), World.cell?_alloc_at _ _ _ _ (by simp)]; rfl
 have hcs : ∀ (i : Nat) v, (#[.int .u32 0, .slice none 0 0, .int .u32 0, .slice none 0 0] : Array Value)[i]? = some v → W2.cell? ⟨w1.heap.size + 1, i, none⟩ = some v := fun i v hv => by
  rw [← hW2, World.cell?_alloc_past _ _ _ (by simp), World.cell?_alloc_at _ _ _ _ (by simp)]; exact hv
 have hnn : ∀ (i : Nat) v, (#[.int .u32 0, .slice none 0 0, .int .u32 0, .slice none 0 0] : Array Value)[i]? = some v → W2.cell? ⟨w1.heap.size + 1 + 1, i, none⟩ = some v := fun i v hv => by
  rw [← hW2, World.cell?_alloc_at _ _ _ _ (by simp)]; exact hv
 have hLo : ∀ i, Loc W2 w1.heap.size F (w1.heap.size + 1) i := fun i => by
  have hb1 := (uh H1).1.lt
  have hw1 := (uh H1).2.1.size
  exact ⟨(((by rw [← hW2]; exact box1 _ _) : Fr (fun _ => False) ((w1.alloc (.cells #[.pointer none, .pointer (some ⟨b, 0, none⟩)] 143)).alloc (.cells #[.int .u32 0, .slice none 0 0, .int .u32 0, .slice none 0 0] 37)) W2).frozen (p := ⟨w1.heap.size + 1, i, none⟩) (by simp) (fun h => h)).trans (by simp), by omega, fun hx => by have := hb1 _ hx; omega, by omega, by omega⟩
 have HW := hid ((uh H).2.2 W2 w1.heap.size b F (w1.heap.size + 1) hC2 (hcs 0 _ rfl) (hcs 1 _ rfl) (hcs 2 _ rfl) (hcs 3 _ rfl) hLo (uh H1).2.2 (by omega) hf02)
 have H2 := hid (And.intro hf02 (And.intro hnn hsz2))
 clear hC2 hf02 hLo hsz2 hcs hf12 hnn
 rw [hW2]
 clear hW2
 refine (uh HW).mono ?_
 rintro e w3 ⟨rfl, F3, hC3, v0, v1, v2, v3, hv0, hv1, hv2, hv3, hone, hRes, hs3⟩
 have hst0 : ∀ (a : Addr) (m : Mode) (W : World), (store a v0 m).run Tryz.prog W = stored Tryz.prog W a v0 m := fun _ _ _ => run_store _ _ _ _ _ (hone v0 (by simp))
 have hst1 : ∀ (a : Addr) (m : Mode) (W : World), (store a v1 m).run Tryz.prog W = stored Tryz.prog W a v1 m := fun _ _ _ => run_store _ _ _ _ _ (hone v1 (by simp))
 have hst2 : ∀ (a : Addr) (m : Mode) (W : World), (store a v2 m).run Tryz.prog W = stored Tryz.prog W a v2 m := fun _ _ _ => run_store _ _ _ _ _ (hone v2 (by simp))
 have hst3 : ∀ (a : Addr) (m : Mode) (W : World), (store a v3 m).run Tryz.prog W = stored Tryz.prog W a v3 m := fun _ _ _ => run_store _ _ _ _ _ (hone v3 (by simp))
 clear hone
 have h1 : w3.cell? ⟨w1.heap.size, 1, none⟩ = some (.pointer (some ⟨b, 0, none⟩)) := hC3.c1
 have hl1 := ltC h1
 obtain ⟨hf02, hnn, hsz2⟩ := uh H2
 have hFb : ∀ k, F k → k < w1.heap.size := (uh H1).1.lt
 have hne : ∀ i, w3.cell? ⟨w1.heap.size + 1 + 1, i, none⟩ = W2.cell? ⟨w1.heap.size + 1 + 1, i, none⟩ := fun i => hs3.oth (w1.heap.size + 1 + 1) i (by omega) (fun hx => by have := hFb _ hx; omega) (fun h => by omega)
 have hn0 := (hne 0).trans (hnn 0 _ rfl)
 have hn1 := (hne 1).trans (hnn 1 _ rfl)
 have hn2 := (hne 2).trans (hnn 2 _ rfl)
 have hn3 := (hne 3).trans (hnn 3 _ rfl)
 have hrF : ¬ F w.heap.size := fun hx => by have := (uh H1).2.2 _ hx; omega
 have hrb3 : w3.heap[w.heap.size]? = some (.cells #[.int .u32 0, .slice none 0 0, .int .u32 0, .slice none 0 0] 37) := (hs3.block (by omega) hrF (fun i h => by omega)).trans ((uh HF12).block _ hrl (fun h => h) |>.trans hrb)
 have hf03 : Fr (fun _ => False) w w3 := hf02.trans hs3.fr (fun k hk hx => hx.elim (fun hx => by have := (uh H1).2.2 k hx; omega) (fun ⟨_, hx⟩ => by omega))
 have hst3 : R w3 b F3 (q'.rst E) ∧ q'.ok ∧ q'.all.length ≤ 140737488355328 := hC3.st
 have HD := hid (rName_step q' n_end b F3 E w3 hst3.1)
 have H3 := hid (And.intro hC3 (And.intro hs3 (And.intro hRes (And.intro hf03 (And.intro hst3.2.1 hrF)))))
 clear hC3 hs3 hRes hf03 hst3 hrF hf02 hnn hsz2 hFb hne
 go_wp2_with fail
 refine (uh HD).mono ?_
 rintro e w4 ⟨rfl, hR4, hch4⟩
 have hgF3 := (uh H3).2.1.nF (by have := (uh H2).2.2; omega) (show ¬ F (w1.heap.size + 1) from fun hx => by have := (uh H1).1.lt _ hx; omega)
 have hnF3 := (uh H3).2.1.nF (by have := (uh H2).2.2; omega) (show ¬ F (w1.heap.size + 1 + 1) from fun hx => by have := (uh H1).1.lt _ hx; omega)
 have hcF3 := (uh H3).1.nf
 have hv04 := (hch4.fr.cell (p := ⟨w1.heap.size + 1, 0, none⟩) (ltC hv0) hgF3).trans hv0
 have hv14 := (hch4.fr.cell (p := ⟨w1.heap.size + 1, 1, none⟩) (ltC hv1) hgF3).trans hv1
 have hv24 := (hch4.fr.cell (p := ⟨w1.heap.size + 1, 2, none⟩) (ltC hv2) hgF3).trans hv2
 have hv34 := (hch4.fr.cell (p := ⟨w1.heap.size + 1, 3, none⟩) (ltC hv3) hgF3).trans hv3
 have hn04 := (hch4.fr.cell (p := ⟨w1.heap.size + 1 + 1, 0, none⟩) (ltC hn0) hnF3).trans hn0
 have hn14 := (hch4.fr.cell (p := ⟨w1.heap.size + 1 + 1, 1, none⟩) (ltC hn1) hnF3).trans hn1
 have hn24 := (hch4.fr.cell (p := ⟨w1.heap.size + 1 + 1, 2, none⟩) (ltC hn2) hnF3).trans hn2
 have hn34 := (hch4.fr.cell (p := ⟨w1.heap.size + 1 + 1, 3, none⟩) (ltC hn3) hnF3).trans hn3
 have h14 : w4.cell? ⟨w1.heap.size, 1, none⟩ = some (.pointer (some ⟨b, 0, none⟩)) := (hch4.fr.cell (p := ⟨w1.heap.size, 1, none⟩) hl1 hcF3).trans h1
 have hrb4 : w4.heap[w.heap.size]? = some (.cells #[.int .u32 0, .slice none 0 0, .int .u32 0, .slice none 0 0] 37) := (hch4.fr.block w.heap.size (by omega) ((uh H3).2.1.nF (by have := (uh H2).2.2; omega) (uh H3).2.2.2.2.2)).trans hrb3
 have HE := hid (done_any (q'.named n_end) b F3 E w4 hR4 (Q.named_ok (uh H3).2.2.2.2.1 n_end) ((uh H3).1.g7.fr hch4.fr (uh H3).1.lo).gl)
 have hs4 : Stp w3 w4 F3 F3 (fun _ _ => False) := Stp.of_ch hch4 _
 have hf04 : Fr (fun _ => False) w w4 := (uh H3).2.2.2.1.trans hch4.fr (fun k hk hx => by
  rcases (uh H3).2.1.new k hx with h | h
  ·have := (uh H1).2.2 k h; omega
  ·have := (uh H1).2.1.size; have := (uh H2).2.2; omega)
 have H4 := hid (And.intro hs4 hf04)
 clear hR4 hch4 hs4 hf04 hgF3 hnF3 hcF3
 go_wp2_with fail
 refine (uh HE).mono ?_
 rintro e w5 ⟨err, rfl, hEr, hf5⟩
 have hrb5 : w5.heap[w.heap.size]? = some (.cells #[.int .u32 0, .slice none 0 0, .int .u32 0, .slice none 0 0] 37) := (hf5.block w.heap.size (by have := (uh H4).1.size; have := (uh H3).2.1.size; have := (uh H2).2.2; omega) (fun h => h)).trans hrb4
 have hv05 := (hf5.cell (p := ⟨w1.heap.size + 1, 0, none⟩) (ltC hv04) (fun h => h)).trans hv04
 have hn05 := (hf5.cell (p := ⟨w1.heap.size + 1 + 1, 0, none⟩) (ltC hn04) (fun h => h)).trans hn04
 have hv15 := (hf5.cell (p := ⟨w1.heap.size + 1, 1, none⟩) (ltC hv14) (fun h => h)).trans hv14
 have hn15 := (hf5.cell (p := ⟨w1.heap.size + 1 + 1, 1, none⟩) (ltC hn14) (fun h => h)).trans hn14
 have hv25 := (hf5.cell (p := ⟨w1.heap.size + 1, 2, none⟩) (ltC hv24) (fun h => h)).trans hv24
 have hn25 := (hf5.cell (p := ⟨w1.heap.size + 1 + 1, 2, none⟩) (ltC hn24) (fun h => h)).trans hn24
 have hv35 := (hf5.cell (p := ⟨w1.heap.size + 1, 3, none⟩) (ltC hv34) (fun h => h)).trans hv34
 have hn35 := (hf5.cell (p := ⟨w1.heap.size + 1 + 1, 3, none⟩) (ltC hn34) (fun h => h)).trans hn34
 have hr05 : w5.cell? ⟨w.heap.size, 0, none⟩ = some (.int .u32 0) := by simp [World.cell?, hrb5]
 have hr15 : w5.cell? ⟨w.heap.size, 1, none⟩ = some (.slice none 0 0) := by simp [World.cell?, hrb5]
 have hr25 : w5.cell? ⟨w.heap.size, 2, none⟩ = some (.int .u32 0) := by simp [World.cell?, hrb5]
 have hr35 : w5.cell? ⟨w.heap.size, 3, none⟩ = some (.slice none 0 0) := by simp [World.cell?, hrb5]
 have hrz5 : ∀ i, w5.frozen? ⟨w.heap.size, i, none⟩ = false := fun i => by simp [World.frozen?, hrb5]
 have hrl5 := ltC hr05
 have hlv5 := ltC hv05
 have hln5 := ltC hn05
 have hnr1 : w1.heap.size + 1 ≠ w.heap.size := by omega
 have hnr2 : w1.heap.size + 1 + 1 ≠ w.heap.size := by omega
 have hsF : ∀ (i : Nat) v W, Fr (fun k => k = w.heap.size) w5 W → Fr (fun k => k = w.heap.size) w5 (W.setCell ⟨w.heap.size, i, none⟩ v) := fun i v W h => h.setCell (.inl rfl) v
 have H5 := hid (And.intro hf5 (hEr))
 rcases hEr with ⟨h0, rfl⟩ | ⟨h1', h7, fb, rfl, hb⟩
 ·clear hf5
  go_wp2_with fail
  refine bodyPost_ret (v := .tuple #[.agg #[v0, v1, v2, v3], .nilIface]) (by simp [results, Tryz.results80, go_sem, hr05, hr15, hr25, hr35]) rfl ?_
  have hfin : q'.fin.2.2 = 0 := h0
  refine ⟨_, _, rfl, .inl ⟨hfin, rfl⟩, fun h => absurd hfin h, fun _ => ⟨F3, w1.heap.size + 1, ?_, by omega⟩, ?_⟩
  ·have hR5 := (uh H).2.1 _ _ _ _ _ _ _ ((uh H).2.1 _ _ _ _ _ _ _ (uh H3).2.2.1 (uh H4).1 (fun _ _ h => h.elim)) (Stp.of_fr (uh H5).1 F3 (fun _ _ => False)) (fun _ _ h => h.elim)
   exact (uh H).2.1 _ _ _ _ _ _ _ hR5 (((((Stp.refl w5 F3 (fun k _ => k = w.heap.size)).trans (Stp.set w.heap.size 0 _) (fun k j _ h => h.1)).trans (Stp.set w.heap.size 1 _) (fun k j _ h => h.1)).trans (Stp.set w.heap.size 2 _) (fun k j _ h => h.1)).trans (Stp.set w.heap.size 3 _) (fun k j _ h => h.1)) (fun k j h => h)
  ·exact (((((uh H4).2.trans (uh H5).1 (fun _ _ h => h)).setCell (.inr (Nat.le_refl _)) _).setCell (.inr (Nat.le_refl _)) _).setCell (.inr (Nat.le_refl _)) _).setCell (.inr (Nat.le_refl _)) _
 ·have hfb : fb ≠ w.heap.size := fun e => by rw [e, hrb5] at hb; simp [faultObj] at hb
  have HB5 := hid hb
  clear hf5 hb
  go_wp2_with fail
  refine bodyPost_ret (v := .tuple #[.agg #[.int .u32 0, .slice none 0 0, .int .u32 0, .slice none 0 0], .iface 78 (.pointer (some ⟨fb, 0, none⟩))]) (by simp [results, Tryz.results80, go_sem, hr05, hr15, hr25, hr35]) rfl ?_
  have hfin : q'.fin.2.2 ≠ 0 := fun e => by have : 1 ≤ q'.fin.2.2 := h1'; omega
  refine ⟨_, _, rfl, .inr ⟨h1', h7, fb, rfl, ?_⟩, fun _ => rfl, fun h => absurd h hfin, ?_⟩
  ·rw [Below.heap_setCell _ _ _ _ hfb, Below.heap_setCell _ _ _ _ hfb, Below.heap_setCell _ _ _ _ hfb, Below.heap_setCell _ _ _ _ hfb]
   exact uh HB5
  ·exact (((((uh H4).2.trans (uh H5).1 (fun _ _ h => h)).setCell (.inr (Nat.le_refl _)) _).setCell (.inr (Nat.le_refl _)) _).setCell (.inr (Nat.le_refl _)) _).setCell (.inr (Nat.le_refl _)) _
set_option maxRecDepth 100000 in
set_option maxHeartbeats 2000000 in
theorem get_Proof (x : Value) (l : List Nat) (q' : Q) (Res : World → (Nat → Prop) → Nat → Array Value → Prop) (E : Nat → Addr) (w : World) (hg : G6 w E) (hw : 9 ≤ w.heap.size) (hx : Src w x l) (hl : l.length ≤ 140737488355328)
  (hst : ∀ w2 w' F F' P g vs, Res w2 F g vs → Stp w2 w' F F' P → (∀ k j, P k j → k = w.heap.size) → Res w' F' g vs)
  (hwhole : ∀ w1 cb b F g, Cd w1 cb b F (.rd ⟨ByteArray.empty, l, 0, 0, none⟩) E → w1.cell? ⟨g, 0, none⟩ = some (.slice none 0 0) → (∀ i, Loc w1 cb F g i) → (∀ k, F k → w.heap.size < k) → w.heap.size < g → Fr (fun _ => False) w w1 → Calls Tryz.prog 68 #[.pointer (some ⟨cb, 0, none⟩), .iface 215 (.pointer (some ⟨g, 0, none⟩))] w1 fun e w' => e = .returned (.tuple #[]) ∧ ∃ F', Cd w' cb b F' (.rd q') E ∧ ∃ v0, w'.cell? ⟨g, 0, none⟩ = some v0 ∧ (∀ v ∈ ([v0] : List Value), v.oneCell' = true) ∧ Res w' F' g #[v0] ∧ Stp w1 w' F F' (fun k _ => k = g)) :
  Calls Tryz.prog 81 #[x] w fun e w' => ∃ vs err, e = .returned (.tuple #[.agg vs, err]) ∧ ErrV w' err q'.fin E ∧ (q'.fin.2.2 ≠ 0 → vs = #[.slice none 0 0]) ∧ (q'.fin.2.2 = 0 → ∃ F' g, Res w' F' g vs ∧ w.heap.size ≤ g) ∧ Fr (fun _ => False) w w' := by
 obtain ⟨xo, xc, rfl⟩ := hx.form
 have hbx := box1 w (.cells #[.slice none 0 0] 40)
 have HN := hid (newReader_any _ l (w.alloc (.cells #[.slice none 0 0] 40)) (by simp; omega) (hx.fr hbx (fun _ _ _ _ _ h => h)) hl)
 have H := hid (And.intro hg (And.intro hst hwhole))
 have HB := hid hbx
 clear hg hst hwhole hx hbx
 go_enter Tryz.func81, Tryz.ntmps81
 go_wp2_with fail
 refine (uh HN).mono ?_
 rintro e w1 ⟨b, F, rfl, hR1, hf1', hF1'⟩
 have hf1 : Fr (fun _ => False) w w1 := (uh HB).trans hf1' (fun _ _ h => h)
 have hF1 : ∀ k, F k → w.heap.size < k := fun k hk => by have := hF1' k hk; simp at this; omega
 have hr0 : w1.cell? ⟨w.heap.size, 0, none⟩ = some (.slice none 0 0) := (hf1'.cell (p := ⟨w.heap.size, 0, none⟩) (by simp) (fun h => h)).trans (by simp)
 have hrz : ∀ i, w1.frozen? ⟨w.heap.size, i, none⟩ = false := fun i => (hf1'.frozen (p := ⟨w.heap.size, i, none⟩) (by simp) (fun h => h)).trans (by simp)
 have hrb : w1.heap[w.heap.size]? = some (.cells #[.slice none 0 0] 40) := (hf1'.block w.heap.size (by simp) (fun h => h)).trans (heap_alloc_new _ _)
 have hrl := ltC hr0
 clear hf1' hF1'
 have hbl := hR1.lt b hR1.fb
 have H1 := hid (And.intro hR1 (And.intro hf1 hF1))
 clear hR1 hf1 hF1
 go_wp2_with fail
 obtain ⟨W2, hW2⟩ : ∃ W2, ((w1.alloc (.cells #[.pointer none, .pointer (some ⟨b, 0, none⟩)] 143)).alloc (.cells #[.slice none 0 0] 40)).alloc (.cells #[.slice none 0 0] 40) = W2 := ⟨_, rfl⟩
 have hf12 : Fr (fun _ => False) w1 W2 := by rw [← hW2]; exact box3 _ _ _ _
 have HF12 := hid hf12
 have hf02 := (uh H1).2.1.trans hf12 (fun _ _ h => h)
 have hsz2 : W2.heap.size = w1.heap.size + 3 := by rw [← hW2]; simp
 have hC2 : Cd W2 w1.heap.size b F (.rd ⟨ByteArray.empty, l, 0, 0, none⟩) E := by
  have hb1 := (uh H1).1.lt
  have hw1 := (uh H1).2.1.size
  refine ⟨(uh H).1.fr hf02 (fun _ h => h.elim), fun hx => by have := hb1 _ hx; omega, fun k hk => by have := hb1 k hk; omega, (uh H1).1.lo, by omega, ?_, ?_, ⟨(uh H1).1.frame hf12 (fun _ _ h => h), ⟨Nat.zero_le _, Nat.zero_le _, fun y hy => by cases hy⟩, hl⟩, trivial⟩
  ·rw [← hW2, World.cell?_alloc_past _ _ _ (by simp; omega), World.cell?_alloc_past _ _ _ (by simp), World.cell?_alloc_at _ _ _ _ (by simp)]; rfl
  ·rw [← hW2, World.cell?_alloc_past _ _ _ (by simp; omega), World.cell?_alloc_past _ _ _ (by simp), World.cell?_alloc_at _ _ _ _ (by simp)]; rfl
 have hcs : ∀ (i : Nat) v, (#[.slice none 0 0] : Array Value)[i]? = some v → W2.cell? ⟨w1.heap.size + 1, i, none⟩ = some v := fun i v hv => by
  rw [← hW2, World.cell?_alloc_past _ _ _ (by simp), World.cell?_alloc_at _ _ _ _ (by simp)]; exact hv
 have hnn : ∀ (i : Nat) v, (#[.slice none 0 0] : Array Value)[i]? = some v → W2.cell? ⟨w1.heap.size + 1 + 1, i, none⟩ = some v := fun i v hv => by
  rw [← hW2, World.cell?_alloc_at _ _ _ _ (by simp)]; exact hv
 have hLo : ∀ i, Loc W2 w1.heap.size F (w1.heap.size + 1) i := fun i => by
  have hb1 := (uh H1).1.lt
  have hw1 := (uh H1).2.1.size
  exact ⟨(((by rw [← hW2]; exact box1 _ _) : Fr (fun _ => False) ((w1.alloc (.cells #[.pointer none, .pointer (some ⟨b, 0, none⟩)] 143)).alloc (.cells #[.slice none 0 0] 40)) W2).frozen (p := ⟨w1.heap.size + 1, i, none⟩) (by simp) (fun h => h)).trans (by simp), by omega, fun hx => by have := hb1 _ hx; omega, by omega, by omega⟩
 have HW := hid ((uh H).2.2 W2 w1.heap.size b F (w1.heap.size + 1) hC2 (hcs 0 _ rfl) hLo (uh H1).2.2 (by omega) hf02)
 have H2 := hid (And.intro hf02 (And.intro hnn hsz2))
 clear hC2 hf02 hLo hsz2 hcs hf12 hnn
 rw [hW2]
 clear hW2
 refine (uh HW).mono ?_
 rintro e w3 ⟨rfl, F3, hC3, v0, hv0, hone, hRes, hs3⟩
 have hst0 : ∀ (a : Addr) (m : Mode) (W : World), (store a v0 m).run Tryz.prog W = stored Tryz.prog W a v0 m := fun _ _ _ => run_store _ _ _ _ _ (hone v0 (by simp))
 clear hone
 have h1 : w3.cell? ⟨w1.heap.size, 1, none⟩ = some (.pointer (some ⟨b, 0, none⟩)) := hC3.c1
 have hl1 := ltC h1
 obtain ⟨hf02, hnn, hsz2⟩ := uh H2
 have hFb : ∀ k, F k → k < w1.heap.size := (uh H1).1.lt
 have hne : ∀ i, w3.cell? ⟨w1.heap.size + 1 + 1, i, none⟩ = W2.cell? ⟨w1.heap.size + 1 + 1, i, none⟩ := fun i => hs3.oth (w1.heap.size + 1 + 1) i (by omega) (fun hx => by have := hFb _ hx; omega) (fun h => by omega)
 have hn0 := (hne 0).trans (hnn 0 _ rfl)
 have hrF : ¬ F w.heap.size := fun hx => by have := (uh H1).2.2 _ hx; omega
 have hrb3 : w3.heap[w.heap.size]? = some (.cells #[.slice none 0 0] 40) := (hs3.block (by omega) hrF (fun i h => by omega)).trans ((uh HF12).block _ hrl (fun h => h) |>.trans hrb)
 have hf03 : Fr (fun _ => False) w w3 := hf02.trans hs3.fr (fun k hk hx => hx.elim (fun hx => by have := (uh H1).2.2 k hx; omega) (fun ⟨_, hx⟩ => by omega))
 have hst3 : R w3 b F3 (q'.rst E) ∧ q'.ok ∧ q'.all.length ≤ 140737488355328 := hC3.st
 have HD := hid (rName_step q' n_end b F3 E w3 hst3.1)
 have H3 := hid (And.intro hC3 (And.intro hs3 (And.intro hRes (And.intro hf03 (And.intro hst3.2.1 hrF)))))
 clear hC3 hs3 hRes hf03 hst3 hrF hf02 hnn hsz2 hFb hne
 go_wp2_with fail
 refine (uh HD).mono ?_
 rintro e w4 ⟨rfl, hR4, hch4⟩
 have hgF3 := (uh H3).2.1.nF (by have := (uh H2).2.2; omega) (show ¬ F (w1.heap.size + 1) from fun hx => by have := (uh H1).1.lt _ hx; omega)
 have hnF3 := (uh H3).2.1.nF (by have := (uh H2).2.2; omega) (show ¬ F (w1.heap.size + 1 + 1) from fun hx => by have := (uh H1).1.lt _ hx; omega)
 have hcF3 := (uh H3).1.nf
 have hv04 := (hch4.fr.cell (p := ⟨w1.heap.size + 1, 0, none⟩) (ltC hv0) hgF3).trans hv0
 have hn04 := (hch4.fr.cell (p := ⟨w1.heap.size + 1 + 1, 0, none⟩) (ltC hn0) hnF3).trans hn0
 have h14 : w4.cell? ⟨w1.heap.size, 1, none⟩ = some (.pointer (some ⟨b, 0, none⟩)) := (hch4.fr.cell (p := ⟨w1.heap.size, 1, none⟩) hl1 hcF3).trans h1
 have hrb4 : w4.heap[w.heap.size]? = some (.cells #[.slice none 0 0] 40) := (hch4.fr.block w.heap.size (by omega) ((uh H3).2.1.nF (by have := (uh H2).2.2; omega) (uh H3).2.2.2.2.2)).trans hrb3
 have HE := hid (done_any (q'.named n_end) b F3 E w4 hR4 (Q.named_ok (uh H3).2.2.2.2.1 n_end) ((uh H3).1.g7.fr hch4.fr (uh H3).1.lo).gl)
 have hs4 : Stp w3 w4 F3 F3 (fun _ _ => False) := Stp.of_ch hch4 _
 have hf04 : Fr (fun _ => False) w w4 := (uh H3).2.2.2.1.trans hch4.fr (fun k hk hx => by
  rcases (uh H3).2.1.new k hx with h | h
  ·have := (uh H1).2.2 k h; omega
  ·have := (uh H1).2.1.size; have := (uh H2).2.2; omega)
 have H4 := hid (And.intro hs4 hf04)
 clear hR4 hch4 hs4 hf04 hgF3 hnF3 hcF3
 go_wp2_with fail
 refine (uh HE).mono ?_
 rintro e w5 ⟨err, rfl, hEr, hf5⟩
 have hrb5 : w5.heap[w.heap.size]? = some (.cells #[.slice none 0 0] 40) := (hf5.block w.heap.size (by have := (uh H4).1.size; have := (uh H3).2.1.size; have := (uh H2).2.2; omega) (fun h => h)).trans hrb4
 have hv05 := (hf5.cell (p := ⟨w1.heap.size + 1, 0, none⟩) (ltC hv04) (fun h => h)).trans hv04
 have hn05 := (hf5.cell (p := ⟨w1.heap.size + 1 + 1, 0, none⟩) (ltC hn04) (fun h => h)).trans hn04
 have hr05 : w5.cell? ⟨w.heap.size, 0, none⟩ = some (.slice none 0 0) := by simp [World.cell?, hrb5]
 have hrz5 : ∀ i, w5.frozen? ⟨w.heap.size, i, none⟩ = false := fun i => by simp [World.frozen?, hrb5]
 have hrl5 := ltC hr05
 have hlv5 := ltC hv05
 have hln5 := ltC hn05
 have hnr1 : w1.heap.size + 1 ≠ w.heap.size := by omega
 have hnr2 : w1.heap.size + 1 + 1 ≠ w.heap.size := by omega
 have hsF : ∀ (i : Nat) v W, Fr (fun k => k = w.heap.size) w5 W → Fr (fun k => k = w.heap.size) w5 (W.setCell ⟨w.heap.size, i, none⟩ v) := fun i v W h => h.setCell (.inl rfl) v
 have H5 := hid (And.intro hf5 (hEr))
 rcases hEr with ⟨h0, rfl⟩ | ⟨h1', h7, fb, rfl, hb⟩
 ·clear hf5
  go_wp2_with fail
  refine bodyPost_ret (v := .tuple #[.agg #[v0], .nilIface]) (by simp [results, Tryz.results81, go_sem, hr05]) rfl ?_
  have hfin : q'.fin.2.2 = 0 := h0
  refine ⟨_, _, rfl, .inl ⟨hfin, rfl⟩, fun h => absurd hfin h, fun _ => ⟨F3, w1.heap.size + 1, ?_, by omega⟩, ?_⟩
  ·have hR5 := (uh H).2.1 _ _ _ _ _ _ _ ((uh H).2.1 _ _ _ _ _ _ _ (uh H3).2.2.1 (uh H4).1 (fun _ _ h => h.elim)) (Stp.of_fr (uh H5).1 F3 (fun _ _ => False)) (fun _ _ h => h.elim)
   exact (uh H).2.1 _ _ _ _ _ _ _ hR5 ((Stp.refl w5 F3 (fun k _ => k = w.heap.size)).trans (Stp.set w.heap.size 0 _) (fun k j _ h => h.1)) (fun k j h => h)
  ·exact ((uh H4).2.trans (uh H5).1 (fun _ _ h => h)).setCell (.inr (Nat.le_refl _)) _
 ·have hfb : fb ≠ w.heap.size := fun e => by rw [e, hrb5] at hb; simp [faultObj] at hb
  have HB5 := hid hb
  clear hf5 hb
  go_wp2_with fail
  refine bodyPost_ret (v := .tuple #[.agg #[.slice none 0 0], .iface 78 (.pointer (some ⟨fb, 0, none⟩))]) (by simp [results, Tryz.results81, go_sem, hr05]) rfl ?_
  have hfin : q'.fin.2.2 ≠ 0 := fun e => by have : 1 ≤ q'.fin.2.2 := h1'; omega
  refine ⟨_, _, rfl, .inr ⟨h1', h7, fb, rfl, ?_⟩, fun _ => rfl, fun h => absurd h hfin, ?_⟩
  ·rw [Below.heap_setCell _ _ _ _ hfb]
   exact uh HB5
  ·exact ((uh H4).2.trans (uh H5).1 (fun _ _ h => h)).setCell (.inr (Nat.le_refl _)) _
set_option maxRecDepth 100000 in
set_option maxHeartbeats 2000000 in
theorem get_Request (x : Value) (l : List Nat) (q' : Q) (Res : World → (Nat → Prop) → Nat → Array Value → Prop) (E : Nat → Addr) (w : World) (hg : G6 w E) (hw : 9 ≤ w.heap.size) (hx : Src w x l) (hl : l.length ≤ 140737488355328)
  (hst : ∀ w2 w' F F' P g vs, Res w2 F g vs → Stp w2 w' F F' P → (∀ k j, P k j → k = w.heap.size) → Res w' F' g vs)
  (hwhole : ∀ w1 cb b F g, Cd w1 cb b F (.rd ⟨ByteArray.empty, l, 0, 0, none⟩) E → w1.cell? ⟨g, 0, none⟩ = some (.int .u32 0) → w1.cell? ⟨g, 1, none⟩ = some (.int .u32 0) → w1.cell? ⟨g, 2, none⟩ = some (.int .u32 0) → w1.cell? ⟨g, 3, none⟩ = some (.int .u8 0) → w1.cell? ⟨g, 4, none⟩ = some (.int .u32 0) → w1.cell? ⟨g, 5, none⟩ = some (.int .u32 0) → w1.cell? ⟨g, 6, none⟩ = some (.int .u32 0) → w1.cell? ⟨g, 7, none⟩ = some (.int .u32 0) → w1.cell? ⟨g, 8, none⟩ = some (.slice none 0 0) → w1.cell? ⟨g, 9, none⟩ = some (.string ⟨#[]⟩) → (∀ i, Loc w1 cb F g i) → (∀ k, F k → w.heap.size < k) → w.heap.size < g → Fr (fun _ => False) w w1 → Calls Tryz.prog 68 #[.pointer (some ⟨cb, 0, none⟩), .iface 157 (.pointer (some ⟨g, 0, none⟩))] w1 fun e w' => e = .returned (.tuple #[]) ∧ ∃ F', Cd w' cb b F' (.rd q') E ∧ ∃ v0 v1 v2 v3 v4 v5 v6 v7 v8 v9, w'.cell? ⟨g, 0, none⟩ = some v0 ∧ w'.cell? ⟨g, 1, none⟩ = some v1 ∧ w'.cell? ⟨g, 2, none⟩ = some v2 ∧ w'.cell? ⟨g, 3, none⟩ = some v3 ∧ w'.cell? ⟨g, 4, none⟩ = some v4 ∧ w'.cell? ⟨g, 5, none⟩ = some v5 ∧ w'.cell? ⟨g, 6, none⟩ = some v6 ∧ w'.cell? ⟨g, 7, none⟩ = some v7 ∧ w'.cell? ⟨g, 8, none⟩ = some v8 ∧ w'.cell? ⟨g, 9, none⟩ = some v9 ∧ (∀ v ∈ ([v0, v1, v2, v3, v4, v5, v6, v7, v8, v9] : List Value), v.oneCell' = true) ∧ Res w' F' g #[v0, v1, v2, v3, v4, v5, v6, v7, v8, v9] ∧ Stp w1 w' F F' (fun k _ => k = g)) :
  Calls Tryz.prog 77 #[x] w fun e w' => ∃ vs err, e = .returned (.tuple #[.agg vs, err]) ∧ ErrV w' err q'.fin E ∧ (q'.fin.2.2 ≠ 0 → vs = #[.int .u32 0, .int .u32 0, .int .u32 0, .int .u8 0, .int .u32 0, .int .u32 0, .int .u32 0, .int .u32 0, .slice none 0 0, .string ⟨#[]⟩]) ∧ (q'.fin.2.2 = 0 → ∃ F' g, Res w' F' g vs ∧ w.heap.size ≤ g) ∧ Fr (fun _ => False) w w' := by
 obtain ⟨xo, xc, rfl⟩ := hx.form
 have hbx := box1 w (.cells #[.int .u32 0, .int .u32 0, .int .u32 0, .int .u8 0, .int .u32 0, .int .u32 0, .int .u32 0, .int .u32 0, .slice none 0 0, .string ⟨#[]⟩] 30)
 have HN := hid (newReader_any _ l (w.alloc (.cells #[.int .u32 0, .int .u32 0, .int .u32 0, .int .u8 0, .int .u32 0, .int .u32 0, .int .u32 0, .int .u32 0, .slice none 0 0, .string ⟨#[]⟩] 30)) (by simp; omega) (hx.fr hbx (fun _ _ _ _ _ h => h)) hl)
 have H := hid (And.intro hg (And.intro hst hwhole))
 have HB := hid hbx
 clear hg hst hwhole hx hbx
 go_enter Tryz.func77, Tryz.ntmps77
 go_wp2_with fail
 refine (uh HN).mono ?_
 rintro e w1 ⟨b, F, rfl, hR1, hf1', hF1'⟩
 have hf1 : Fr (fun _ => False) w w1 := (uh HB).trans hf1' (fun _ _ h => h)
 have hF1 : ∀ k, F k → w.heap.size < k := fun k hk => by have := hF1' k hk; simp at this; omega
 have hr0 : w1.cell? ⟨w.heap.size, 0, none⟩ = some (.int .u32 0) := (hf1'.cell (p := ⟨w.heap.size, 0, none⟩) (by simp) (fun h => h)).trans (by simp)
 have hrz : ∀ i, w1.frozen? ⟨w.heap.size, i, none⟩ = false := fun i => (hf1'.frozen (p := ⟨w.heap.size, i, none⟩) (by simp) (fun h => h)).trans (by simp)
 have hrb : w1.heap[w.heap.size]? = some (.cells #[.int .u32 0, .int .u32 0, .int .u32 0, .int .u8 0, .int .u32 0, .int .u32 0, .int .u32 0, .int .u32 0, .slice none 0 0, .string ⟨#[]⟩] 30) := (hf1'.block w.heap.size (by simp) (fun h => h)).trans (heap_alloc_new _ _)
 have hrl := ltC hr0
 clear hf1' hF1'
 have hbl := hR1.lt b hR1.fb
 have H1 := hid (And.intro hR1 (And.intro hf1 hF1))
 clear hR1 hf1 hF1
 go_wp2_with fail
 obtain ⟨W2, hW2⟩ : ∃ W2, ((w1.alloc (.cells #[.pointer none, .pointer (some ⟨b, 0, none⟩)] 143)).alloc (.cells #[.int .u32 0, .int .u32 0, .int .u32 0, .int .u8 0, .int .u32 0, .int .u32 0, .int .u32 0, .int .u32 0, .slice none 0 0, .string ⟨#[]⟩] 30)).alloc (.cells #[.int .u32 0, .int .u32 0, .int .u32 0, .int .u8 0, .int .u32 0, .int .u32 0, .int .u32 0, .int .u32 0, .slice none 0 0, .string ⟨#[]⟩] 30) = W2 := ⟨_, rfl⟩
 have hf12 : Fr (fun _ => False) w1 W2 := by rw [← hW2]; exact box3 _ _ _ _
 have HF12 := hid hf12
 have hf02 := (uh H1).2.1.trans hf12 (fun _ _ h => h)
 have hsz2 : W2.heap.size = w1.heap.size + 3 := by rw [← hW2]; simp
 have hC2 : Cd W2 w1.heap.size b F (.rd ⟨ByteArray.empty, l, 0, 0, none⟩) E := by
  have hb1 := (uh H1).1.lt
  have hw1 := (uh H1).2.1.size
  refine ⟨(uh H).1.fr hf02 (fun _ h => h.elim), fun hx => by have := hb1 _ hx; omega, fun k hk => by have := hb1 k hk; omega, (uh H1).1.lo, by omega, ?_, ?_, ⟨(uh H1).1.frame hf12 (fun _ _ h => h), ⟨Nat.zero_le _, Nat.zero_le _, fun y hy => by cases hy⟩, hl⟩, trivial⟩
  ·rw [← hW2, World.cell?_alloc_past _ _ _ (by simp; omega), World.cell?_alloc_past _ _ _ (by simp), World.cell?_alloc_at _ _ _ _ (by simp)]; rfl
  ·rw [← hW2, World.cell?_alloc_past _ _ _ (by simp; omega), World.cell?_alloc_past _ _ _ (by simp), World.cell?_alloc_at _ _ _ _ (by simp)]; rfl
 have hcs : ∀ (i : Nat) v, (#[.int .u32 0, .int .u32 0, .int .u32 0, .int .u8 0, .int .u32 0, .int .u32 0, .int .u32 0, .int .u32 0, .slice none 0 0, .string ⟨#[]⟩] : Array Value)[i]? = some v → W2.cell? ⟨w1.heap.size + 1, i, none⟩ = some v := fun i v hv => by
  rw [← hW2, World.cell?_alloc_past _ _ _ (by simp), World.cell?_alloc_at _ _ _ _ (by simp)]; exact hv
 have hnn : ∀ (i : Nat) v, (#[.int .u32 0, .int .u32 0, .int .u32 0, .int .u8 0, .int .u32 0, .int .u32 0, .int .u32 0, .int .u32 0, .slice none 0 0, .string ⟨#[]⟩] : Array Value)[i]? = some v → W2.cell? ⟨w1.heap.size + 1 + 1, i, none⟩ = some v := fun i v hv => by
  rw [← hW2, World.cell?_alloc_at _ _ _ _ (by simp)]; exact hv
 have hLo : ∀ i, Loc W2 w1.heap.size F (w1.heap.size + 1) i := fun i => by
  have hb1 := (uh H1).1.lt
  have hw1 := (uh H1).2.1.size
  exact ⟨(((by rw [← hW2]; exact box1 _ _) : Fr (fun _ => False) ((w1.alloc (.cells #[.pointer none, .pointer (some ⟨b, 0, none⟩)] 143)).alloc (.cells #[.int .u32 0, .int .u32 0, .int .u32 0, .int .u8 0, .int .u32 0, .int .u32 0, .int .u32 0, .int .u32 0, .slice none 0 0, .string ⟨#[]⟩] 30)) W2).frozen (p := ⟨w1.heap.size + 1, i, none⟩) (by simp) (fun h => h)).trans (by simp), by omega, fun hx => by have := hb1 _ hx; omega, by omega, by omega⟩
 have HW := hid ((uh H).2.2 W2 w1.heap.size b F (w1.heap.size + 1) hC2 (hcs 0 _ rfl) (hcs 1 _ rfl) (hcs 2 _ rfl) (hcs 3 _ rfl) (hcs 4 _ rfl) (hcs 5 _ rfl) (hcs 6 _ rfl) (hcs 7 _ rfl) (hcs 8 _ rfl) (hcs 9 _ rfl) hLo (uh H1).2.2 (by omega) hf02)
 have H2 := hid (And.intro hf02 (And.intro hnn hsz2))
 clear hC2 hf02 hLo hsz2 hcs hf12 hnn
 rw [hW2]
 clear hW2
 refine (uh HW).mono ?_
 rintro e w3 ⟨rfl, F3, hC3, v0, v1, v2, v3, v4, v5, v6, v7, v8, v9, hv0, hv1, hv2, hv3, hv4, hv5, hv6, hv7, hv8, hv9, hone, hRes, hs3⟩
 have hst0 : ∀ (a : Addr) (m : Mode) (W : World), (store a v0 m).run Tryz.prog W = stored Tryz.prog W a v0 m := fun _ _ _ => run_store _ _ _ _ _ (hone v0 (by simp))
 have hst1 : ∀ (a : Addr) (m : Mode) (W : World), (store a v1 m).run Tryz.prog W = stored Tryz.prog W a v1 m := fun _ _ _ => run_store _ _ _ _ _ (hone v1 (by simp))
 have hst2 : ∀ (a : Addr) (m : Mode) (W : World), (store a v2 m).run Tryz.prog W = stored Tryz.prog W a v2 m := fun _ _ _ => run_store _ _ _ _ _ (hone v2 (by simp))
 have hst3 : ∀ (a : Addr) (m : Mode) (W : World), (store a v3 m).run Tryz.prog W = stored Tryz.prog W a v3 m := fun _ _ _ => run_store _ _ _ _ _ (hone v3 (by simp))
 have hst4 : ∀ (a : Addr) (m : Mode) (W : World), (store a v4 m).run Tryz.prog W = stored Tryz.prog W a v4 m := fun _ _ _ => run_store _ _ _ _ _ (hone v4 (by simp))
 have hst5 : ∀ (a : Addr) (m : Mode) (W : World), (store a v5 m).run Tryz.prog W = stored Tryz.prog W a v5 m := fun _ _ _ => run_store _ _ _ _ _ (hone v5 (by simp))
 have hst6 : ∀ (a : Addr) (m : Mode) (W : World), (store a v6 m).run Tryz.prog W = stored Tryz.prog W a v6 m := fun _ _ _ => run_store _ _ _ _ _ (hone v6 (by simp))
 have hst7 : ∀ (a : Addr) (m : Mode) (W : World), (store a v7 m).run Tryz.prog W = stored Tryz.prog W a v7 m := fun _ _ _ => run_store _ _ _ _ _ (hone v7 (by simp))
 have hst8 : ∀ (a : Addr) (m : Mode) (W : World), (store a v8 m).run Tryz.prog W = stored Tryz.prog W a v8 m := fun _ _ _ => run_store _ _ _ _ _ (hone v8 (by simp))
 have hst9 : ∀ (a : Addr) (m : Mode) (W : World), (store a v9 m).run Tryz.prog W = stored Tryz.prog W a v9 m := fun _ _ _ => run_store _ _ _ _ _ (hone v9 (by simp))
 clear hone
 have h1 : w3.cell? ⟨w1.heap.size, 1, none⟩ = some (.pointer (some ⟨b, 0, none⟩)) := hC3.c1
 have hl1 := ltC h1
 obtain ⟨hf02, hnn, hsz2⟩ := uh H2
 have hFb : ∀ k, F k → k < w1.heap.size := (uh H1).1.lt
 have hne : ∀ i, w3.cell? ⟨w1.heap.size + 1 + 1, i, none⟩ = W2.cell? ⟨w1.heap.size + 1 + 1, i, none⟩ := fun i => hs3.oth (w1.heap.size + 1 + 1) i (by omega) (fun hx => by have := hFb _ hx; omega) (fun h => by omega)
 have hn0 := (hne 0).trans (hnn 0 _ rfl)
 have hn1 := (hne 1).trans (hnn 1 _ rfl)
 have hn2 := (hne 2).trans (hnn 2 _ rfl)
 have hn3 := (hne 3).trans (hnn 3 _ rfl)
 have hn4 := (hne 4).trans (hnn 4 _ rfl)
 have hn5 := (hne 5).trans (hnn 5 _ rfl)
 have hn6 := (hne 6).trans (hnn 6 _ rfl)
 have hn7 := (hne 7).trans (hnn 7 _ rfl)
 have hn8 := (hne 8).trans (hnn 8 _ rfl)
 have hn9 := (hne 9).trans (hnn 9 _ rfl)
 have hrF : ¬ F w.heap.size := fun hx => by have := (uh H1).2.2 _ hx; omega
 have hrb3 : w3.heap[w.heap.size]? = some (.cells #[.int .u32 0, .int .u32 0, .int .u32 0, .int .u8 0, .int .u32 0, .int .u32 0, .int .u32 0, .int .u32 0, .slice none 0 0, .string ⟨#[]⟩] 30) := (hs3.block (by omega) hrF (fun i h => by omega)).trans ((uh HF12).block _ hrl (fun h => h) |>.trans hrb)
 have hf03 : Fr (fun _ => False) w w3 := hf02.trans hs3.fr (fun k hk hx => hx.elim (fun hx => by have := (uh H1).2.2 k hx; omega) (fun ⟨_, hx⟩ => by omega))
 have hst3 : R w3 b F3 (q'.rst E) ∧ q'.ok ∧ q'.all.length ≤ 140737488355328 := hC3.st
 have HD := hid (rName_step q' n_end b F3 E w3 hst3.1)
 have H3 := hid (And.intro hC3 (And.intro hs3 (And.intro hRes (And.intro hf03 (And.intro hst3.2.1 hrF)))))
 clear hC3 hs3 hRes hf03 hst3 hrF hf02 hnn hsz2 hFb hne
 go_wp2_with fail
 refine (uh HD).mono ?_
 rintro e w4 ⟨rfl, hR4, hch4⟩
 have hgF3 := (uh H3).2.1.nF (by have := (uh H2).2.2; omega) (show ¬ F (w1.heap.size + 1) from fun hx => by have := (uh H1).1.lt _ hx; omega)
 have hnF3 := (uh H3).2.1.nF (by have := (uh H2).2.2; omega) (show ¬ F (w1.heap.size + 1 + 1) from fun hx => by have := (uh H1).1.lt _ hx; omega)
 have hcF3 := (uh H3).1.nf
 have hv04 := (hch4.fr.cell (p := ⟨w1.heap.size + 1, 0, none⟩) (ltC hv0) hgF3).trans hv0
 have hv14 := (hch4.fr.cell (p := ⟨w1.heap.size + 1, 1, none⟩) (ltC hv1) hgF3).trans hv1
 have hv24 := (hch4.fr.cell (p := ⟨w1.heap.size + 1, 2, none⟩) (ltC hv2) hgF3).trans hv2
 have hv34 := (hch4.fr.cell (p := ⟨w1.heap.size + 1, 3, none⟩) (ltC hv3) hgF3).trans hv3
 have hv44 := (hch4.fr.cell (p := ⟨w1.heap.size + 1, 4, none⟩) (ltC hv4) hgF3).trans hv4
 have hv54 := (hch4.fr.cell (p := ⟨w1.heap.size + 1, 5, none⟩) (ltC hv5) hgF3).trans hv5
 have hv64 := (hch4.fr.cell (p := ⟨w1.heap.size + 1, 6, none⟩) (ltC hv6) hgF3).trans hv6
 have hv74 := (hch4.fr.cell (p := ⟨w1.heap.size + 1, 7, none⟩) (ltC hv7) hgF3).trans hv7
 have hv84 := (hch4.fr.cell (p := ⟨w1.heap.size + 1, 8, none⟩) (ltC hv8) hgF3).trans hv8
 have hv94 := (hch4.fr.cell (p := ⟨w1.heap.size + 1, 9, none⟩) (ltC hv9) hgF3).trans hv9
 have hn04 := (hch4.fr.cell (p := ⟨w1.heap.size + 1 + 1, 0, none⟩) (ltC hn0) hnF3).trans hn0
 have hn14 := (hch4.fr.cell (p := ⟨w1.heap.size + 1 + 1, 1, none⟩) (ltC hn1) hnF3).trans hn1
 have hn24 := (hch4.fr.cell (p := ⟨w1.heap.size + 1 + 1, 2, none⟩) (ltC hn2) hnF3).trans hn2
 have hn34 := (hch4.fr.cell (p := ⟨w1.heap.size + 1 + 1, 3, none⟩) (ltC hn3) hnF3).trans hn3
 have hn44 := (hch4.fr.cell (p := ⟨w1.heap.size + 1 + 1, 4, none⟩) (ltC hn4) hnF3).trans hn4
 have hn54 := (hch4.fr.cell (p := ⟨w1.heap.size + 1 + 1, 5, none⟩) (ltC hn5) hnF3).trans hn5
 have hn64 := (hch4.fr.cell (p := ⟨w1.heap.size + 1 + 1, 6, none⟩) (ltC hn6) hnF3).trans hn6
 have hn74 := (hch4.fr.cell (p := ⟨w1.heap.size + 1 + 1, 7, none⟩) (ltC hn7) hnF3).trans hn7
 have hn84 := (hch4.fr.cell (p := ⟨w1.heap.size + 1 + 1, 8, none⟩) (ltC hn8) hnF3).trans hn8
 have hn94 := (hch4.fr.cell (p := ⟨w1.heap.size + 1 + 1, 9, none⟩) (ltC hn9) hnF3).trans hn9
 have h14 : w4.cell? ⟨w1.heap.size, 1, none⟩ = some (.pointer (some ⟨b, 0, none⟩)) := (hch4.fr.cell (p := ⟨w1.heap.size, 1, none⟩) hl1 hcF3).trans h1
 have hrb4 : w4.heap[w.heap.size]? = some (.cells #[.int .u32 0, .int .u32 0, .int .u32 0, .int .u8 0, .int .u32 0, .int .u32 0, .int .u32 0, .int .u32 0, .slice none 0 0, .string ⟨#[]⟩] 30) := (hch4.fr.block w.heap.size (by omega) ((uh H3).2.1.nF (by have := (uh H2).2.2; omega) (uh H3).2.2.2.2.2)).trans hrb3
 have HE := hid (done_any (q'.named n_end) b F3 E w4 hR4 (Q.named_ok (uh H3).2.2.2.2.1 n_end) ((uh H3).1.g7.fr hch4.fr (uh H3).1.lo).gl)
 have hs4 : Stp w3 w4 F3 F3 (fun _ _ => False) := Stp.of_ch hch4 _
 have hf04 : Fr (fun _ => False) w w4 := (uh H3).2.2.2.1.trans hch4.fr (fun k hk hx => by
  rcases (uh H3).2.1.new k hx with h | h
  ·have := (uh H1).2.2 k h; omega
  ·have := (uh H1).2.1.size; have := (uh H2).2.2; omega)
 have H4 := hid (And.intro hs4 hf04)
 clear hR4 hch4 hs4 hf04 hgF3 hnF3 hcF3
 go_wp2_with fail
 refine (uh HE).mono ?_
 rintro e w5 ⟨err, rfl, hEr, hf5⟩
 have hrb5 : w5.heap[w.heap.size]? = some (.cells #[.int .u32 0, .int .u32 0, .int .u32 0, .int .u8 0, .int .u32 0, .int .u32 0, .int .u32 0, .int .u32 0, .slice none 0 0, .string ⟨#[]⟩] 30) := (hf5.block w.heap.size (by have := (uh H4).1.size; have := (uh H3).2.1.size; have := (uh H2).2.2; omega) (fun h => h)).trans hrb4
 have hv05 := (hf5.cell (p := ⟨w1.heap.size + 1, 0, none⟩) (ltC hv04) (fun h => h)).trans hv04
 have hn05 := (hf5.cell (p := ⟨w1.heap.size + 1 + 1, 0, none⟩) (ltC hn04) (fun h => h)).trans hn04
 have hv15 := (hf5.cell (p := ⟨w1.heap.size + 1, 1, none⟩) (ltC hv14) (fun h => h)).trans hv14
 have hn15 := (hf5.cell (p := ⟨w1.heap.size + 1 + 1, 1, none⟩) (ltC hn14) (fun h => h)).trans hn14
 have hv25 := (hf5.cell (p := ⟨w1.heap.size + 1, 2, none⟩) (ltC hv24) (fun h => h)).trans hv24
 have hn25 := (hf5.cell (p := ⟨w1.heap.size + 1 + 1, 2, none⟩) (ltC hn24) (fun h => h)).trans hn24
 have hv35 := (hf5.cell (p := ⟨w1.heap.size + 1, 3, none⟩) (ltC hv34) (fun h => h)).trans hv34
 have hn35 := (hf5.cell (p := ⟨w1.heap.size + 1 + 1, 3, none⟩) (ltC hn34) (fun h => h)).trans hn34
 have hv45 := (hf5.cell (p := ⟨w1.heap.size + 1, 4, none⟩) (ltC hv44) (fun h => h)).trans hv44
 have hn45 := (hf5.cell (p := ⟨w1.heap.size + 1 + 1, 4, none⟩) (ltC hn44) (fun h => h)).trans hn44
 have hv55 := (hf5.cell (p := ⟨w1.heap.size + 1, 5, none⟩) (ltC hv54) (fun h => h)).trans hv54
 have hn55 := (hf5.cell (p := ⟨w1.heap.size + 1 + 1, 5, none⟩) (ltC hn54) (fun h => h)).trans hn54
 have hv65 := (hf5.cell (p := ⟨w1.heap.size + 1, 6, none⟩) (ltC hv64) (fun h => h)).trans hv64
 have hn65 := (hf5.cell (p := ⟨w1.heap.size + 1 + 1, 6, none⟩) (ltC hn64) (fun h => h)).trans hn64
 have hv75 := (hf5.cell (p := ⟨w1.heap.size + 1, 7, none⟩) (ltC hv74) (fun h => h)).trans hv74
 have hn75 := (hf5.cell (p := ⟨w1.heap.size + 1 + 1, 7, none⟩) (ltC hn74) (fun h => h)).trans hn74
 have hv85 := (hf5.cell (p := ⟨w1.heap.size + 1, 8, none⟩) (ltC hv84) (fun h => h)).trans hv84
 have hn85 := (hf5.cell (p := ⟨w1.heap.size + 1 + 1, 8, none⟩) (ltC hn84) (fun h => h)).trans hn84
 have hv95 := (hf5.cell (p := ⟨w1.heap.size + 1, 9, none⟩) (ltC hv94) (fun h => h)).trans hv94
 have hn95 := (hf5.cell (p := ⟨w1.heap.size + 1 + 1, 9, none⟩) (ltC hn94) (fun h => h)).trans hn94
 have hr05 : w5.cell? ⟨w.heap.size, 0, none⟩ = some (.int .u32 0) := by simp [World.cell?, hrb5]
 have hr15 : w5.cell? ⟨w.heap.size, 1, none⟩ = some (.int .u32 0) := by simp [World.cell?, hrb5]
 have hr25 : w5.cell? ⟨w.heap.size, 2, none⟩ = some (.int .u32 0) := by simp [World.cell?, hrb5]
 have hr35 : w5.cell? ⟨w.heap.size, 3, none⟩ = some (.int .u8 0) := by simp [World.cell?, hrb5]
 have hr45 : w5.cell? ⟨w.heap.size, 4, none⟩ = some (.int .u32 0) := by simp [World.cell?, hrb5]
 have hr55 : w5.cell? ⟨w.heap.size, 5, none⟩ = some (.int .u32 0) := by simp [World.cell?, hrb5]
 have hr65 : w5.cell? ⟨w.heap.size, 6, none⟩ = some (.int .u32 0) := by simp [World.cell?, hrb5]
 have hr75 : w5.cell? ⟨w.heap.size, 7, none⟩ = some (.int .u32 0) := by simp [World.cell?, hrb5]
 have hr85 : w5.cell? ⟨w.heap.size, 8, none⟩ = some (.slice none 0 0) := by simp [World.cell?, hrb5]
 have hr95 : w5.cell? ⟨w.heap.size, 9, none⟩ = some (.string ⟨#[]⟩) := by simp [World.cell?, hrb5]
 have hrz5 : ∀ i, w5.frozen? ⟨w.heap.size, i, none⟩ = false := fun i => by simp [World.frozen?, hrb5]
 have hrl5 := ltC hr05
 have hlv5 := ltC hv05
 have hln5 := ltC hn05
 have hnr1 : w1.heap.size + 1 ≠ w.heap.size := by omega
 have hnr2 : w1.heap.size + 1 + 1 ≠ w.heap.size := by omega
 have hsF : ∀ (i : Nat) v W, Fr (fun k => k = w.heap.size) w5 W → Fr (fun k => k = w.heap.size) w5 (W.setCell ⟨w.heap.size, i, none⟩ v) := fun i v W h => h.setCell (.inl rfl) v
 have H5 := hid (And.intro hf5 (hEr))
 rcases hEr with ⟨h0, rfl⟩ | ⟨h1', h7, fb, rfl, hb⟩
 ·clear hf5
  go_wp2_with fail
  refine bodyPost_ret (v := .tuple #[.agg #[v0, v1, v2, v3, v4, v5, v6, v7, v8, v9], .nilIface]) (by simp [results, Tryz.results77, go_sem, hr05, hr15, hr25, hr35, hr45, hr55, hr65, hr75, hr85, hr95]) rfl ?_
  have hfin : q'.fin.2.2 = 0 := h0
  refine ⟨_, _, rfl, .inl ⟨hfin, rfl⟩, fun h => absurd hfin h, fun _ => ⟨F3, w1.heap.size + 1, ?_, by omega⟩, ?_⟩
  ·have hR5 := (uh H).2.1 _ _ _ _ _ _ _ ((uh H).2.1 _ _ _ _ _ _ _ (uh H3).2.2.1 (uh H4).1 (fun _ _ h => h.elim)) (Stp.of_fr (uh H5).1 F3 (fun _ _ => False)) (fun _ _ h => h.elim)
   exact (uh H).2.1 _ _ _ _ _ _ _ hR5 (((((((((((Stp.refl w5 F3 (fun k _ => k = w.heap.size)).trans (Stp.set w.heap.size 0 _) (fun k j _ h => h.1)).trans (Stp.set w.heap.size 1 _) (fun k j _ h => h.1)).trans (Stp.set w.heap.size 2 _) (fun k j _ h => h.1)).trans (Stp.set w.heap.size 3 _) (fun k j _ h => h.1)).trans (Stp.set w.heap.size 4 _) (fun k j _ h => h.1)).trans (Stp.set w.heap.size 5 _) (fun k j _ h => h.1)).trans (Stp.set w.heap.size 6 _) (fun k j _ h => h.1)).trans (Stp.set w.heap.size 7 _) (fun k j _ h => h.1)).trans (Stp.set w.heap.size 8 _) (fun k j _ h => h.1)).trans (Stp.set w.heap.size 9 _) (fun k j _ h => h.1)) (fun k j h => h)
  ·exact (((((((((((uh H4).2.trans (uh H5).1 (fun _ _ h => h)).setCell (.inr (Nat.le_refl _)) _).setCell (.inr (Nat.le_refl _)) _).setCell (.inr (Nat.le_refl _)) _).setCell (.inr (Nat.le_refl _)) _).setCell (.inr (Nat.le_refl _)) _).setCell (.inr (Nat.le_refl _)) _).setCell (.inr (Nat.le_refl _)) _).setCell (.inr (Nat.le_refl _)) _).setCell (.inr (Nat.le_refl _)) _).setCell (.inr (Nat.le_refl _)) _
 ·have hfb : fb ≠ w.heap.size := fun e => by rw [e, hrb5] at hb; simp [faultObj] at hb
  have HB5 := hid hb
  clear hf5 hb
  go_wp2_with fail
  refine bodyPost_ret (v := .tuple #[.agg #[.int .u32 0, .int .u32 0, .int .u32 0, .int .u8 0, .int .u32 0, .int .u32 0, .int .u32 0, .int .u32 0, .slice none 0 0, .string ⟨#[]⟩], .iface 78 (.pointer (some ⟨fb, 0, none⟩))]) (by simp [results, Tryz.results77, go_sem, hr05, hr15, hr25, hr35, hr45, hr55, hr65, hr75, hr85, hr95]) rfl ?_
  have hfin : q'.fin.2.2 ≠ 0 := fun e => by have : 1 ≤ q'.fin.2.2 := h1'; omega
  refine ⟨_, _, rfl, .inr ⟨h1', h7, fb, rfl, ?_⟩, fun _ => rfl, fun h => absurd h hfin, ?_⟩
  ·rw [Below.heap_setCell _ _ _ _ hfb, Below.heap_setCell _ _ _ _ hfb, Below.heap_setCell _ _ _ _ hfb, Below.heap_setCell _ _ _ _ hfb, Below.heap_setCell _ _ _ _ hfb, Below.heap_setCell _ _ _ _ hfb, Below.heap_setCell _ _ _ _ hfb, Below.heap_setCell _ _ _ _ hfb, Below.heap_setCell _ _ _ _ hfb, Below.heap_setCell _ _ _ _ hfb]
   exact uh HB5
  ·exact (((((((((((uh H4).2.trans (uh H5).1 (fun _ _ h => h)).setCell (.inr (Nat.le_refl _)) _).setCell (.inr (Nat.le_refl _)) _).setCell (.inr (Nat.le_refl _)) _).setCell (.inr (Nat.le_refl _)) _).setCell (.inr (Nat.le_refl _)) _).setCell (.inr (Nat.le_refl _)) _).setCell (.inr (Nat.le_refl _)) _).setCell (.inr (Nat.le_refl _)) _).setCell (.inr (Nat.le_refl _)) _).setCell (.inr (Nat.le_refl _)) _
set_option maxRecDepth 100000 in
set_option maxHeartbeats 2000000 in
theorem get_Answer (x : Value) (l : List Nat) (q' : Q) (Res : World → (Nat → Prop) → Nat → Array Value → Prop) (E : Nat → Addr) (w : World) (hg : G6 w E) (hw : 9 ≤ w.heap.size) (hx : Src w x l) (hl : l.length ≤ 140737488355328)
  (hst : ∀ w2 w' F F' P g vs, Res w2 F g vs → Stp w2 w' F F' P → (∀ k j, P k j → k = w.heap.size) → Res w' F' g vs)
  (hwhole : ∀ w1 cb b F g, Cd w1 cb b F (.rd ⟨ByteArray.empty, l, 0, 0, none⟩) E → w1.cell? ⟨g, 0, none⟩ = some (.int .u32 0) → w1.cell? ⟨g, 1, none⟩ = some (.int .u32 0) → w1.cell? ⟨g, 2, none⟩ = some (.int .u8 0) → w1.cell? ⟨g, 3, none⟩ = some (.int .u32 0) → w1.cell? ⟨g, 4, none⟩ = some (.int .u32 0) → w1.cell? ⟨g, 5, none⟩ = some (.slice none 0 0) → w1.cell? ⟨g, 6, none⟩ = some (.slice none 0 0) → (∀ i, Loc w1 cb F g i) → (∀ k, F k → w.heap.size < k) → w.heap.size < g → Fr (fun _ => False) w w1 → Calls Tryz.prog 68 #[.pointer (some ⟨cb, 0, none⟩), .iface 158 (.pointer (some ⟨g, 0, none⟩))] w1 fun e w' => e = .returned (.tuple #[]) ∧ ∃ F', Cd w' cb b F' (.rd q') E ∧ ∃ v0 v1 v2 v3 v4 v5 v6, w'.cell? ⟨g, 0, none⟩ = some v0 ∧ w'.cell? ⟨g, 1, none⟩ = some v1 ∧ w'.cell? ⟨g, 2, none⟩ = some v2 ∧ w'.cell? ⟨g, 3, none⟩ = some v3 ∧ w'.cell? ⟨g, 4, none⟩ = some v4 ∧ w'.cell? ⟨g, 5, none⟩ = some v5 ∧ w'.cell? ⟨g, 6, none⟩ = some v6 ∧ (∀ v ∈ ([v0, v1, v2, v3, v4, v5, v6] : List Value), v.oneCell' = true) ∧ Res w' F' g #[v0, v1, v2, v3, v4, v5, v6] ∧ Stp w1 w' F F' (fun k _ => k = g)) :
  Calls Tryz.prog 78 #[x] w fun e w' => ∃ vs err, e = .returned (.tuple #[.agg vs, err]) ∧ ErrV w' err q'.fin E ∧ (q'.fin.2.2 ≠ 0 → vs = #[.int .u32 0, .int .u32 0, .int .u8 0, .int .u32 0, .int .u32 0, .slice none 0 0, .slice none 0 0]) ∧ (q'.fin.2.2 = 0 → ∃ F' g, Res w' F' g vs ∧ w.heap.size ≤ g) ∧ Fr (fun _ => False) w w' := by
 obtain ⟨xo, xc, rfl⟩ := hx.form
 have hbx := box1 w (.cells #[.int .u32 0, .int .u32 0, .int .u8 0, .int .u32 0, .int .u32 0, .slice none 0 0, .slice none 0 0] 33)
 have HN := hid (newReader_any _ l (w.alloc (.cells #[.int .u32 0, .int .u32 0, .int .u8 0, .int .u32 0, .int .u32 0, .slice none 0 0, .slice none 0 0] 33)) (by simp; omega) (hx.fr hbx (fun _ _ _ _ _ h => h)) hl)
 have H := hid (And.intro hg (And.intro hst hwhole))
 have HB := hid hbx
 clear hg hst hwhole hx hbx
 go_enter Tryz.func78, Tryz.ntmps78
 go_wp2_with fail
 refine (uh HN).mono ?_
 rintro e w1 ⟨b, F, rfl, hR1, hf1', hF1'⟩
 have hf1 : Fr (fun _ => False) w w1 := (uh HB).trans hf1' (fun _ _ h => h)
 have hF1 : ∀ k, F k → w.heap.size < k := fun k hk => by have := hF1' k hk; simp at this; omega
 have hr0 : w1.cell? ⟨w.heap.size, 0, none⟩ = some (.int .u32 0) := (hf1'.cell (p := ⟨w.heap.size, 0, none⟩) (by simp) (fun h => h)).trans (by simp)
 have hrz : ∀ i, w1.frozen? ⟨w.heap.size, i, none⟩ = false := fun i => (hf1'.frozen (p := ⟨w.heap.size, i, none⟩) (by simp) (fun h => h)).trans (by simp)
 have hrb : w1.heap[w.heap.size]? = some (.cells #[.int .u32 0, .int .u32 0, .int .u8 0, .int .u32 0, .int .u32 0, .slice none 0 0, .slice none 0 0] 33) := (hf1'.block w.heap.size (by simp) (fun h => h)).trans (heap_alloc_new _ _)
 have hrl := ltC hr0
 clear hf1' hF1'
 have hbl := hR1.lt b hR1.fb
 have H1 := hid (And.intro hR1 (And.intro hf1 hF1))
 clear hR1 hf1 hF1
 go_wp2_with fail
 obtain ⟨W2, hW2⟩ : ∃ W2, ((w1.alloc (.cells #[.pointer none, .pointer (some ⟨b, 0, none⟩)] 143)).alloc (.cells #[.int .u32 0, .int .u32 0, .int .u8 0, .int .u32 0, .int .u32 0, .slice none 0 0, .slice none 0 0] 33)).alloc (.cells #[.int .u32 0, .int .u32 0, .int .u8 0, .int .u32 0, .int .u32 0, .slice none 0 0, .slice none 0 0] 33) = W2 := ⟨_, rfl⟩
 have hf12 : Fr (fun _ => False) w1 W2 := by rw [← hW2]; exact box3 _ _ _ _
 have HF12 := hid hf12
 have hf02 := (uh H1).2.1.trans hf12 (fun _ _ h => h)
 have hsz2 : W2.heap.size = w1.heap.size + 3 := by rw [← hW2]; simp
 have hC2 : Cd W2 w1.heap.size b F (.rd ⟨ByteArray.empty, l, 0, 0, none⟩) E := by
  have hb1 := (uh H1).1.lt
  have hw1 := (uh H1).2.1.size
  refine ⟨(uh H).1.fr hf02 (fun _ h => h.elim), fun hx => by have := hb1 _ hx; omega, fun k hk => by have := hb1 k hk; omega, (uh H1).1.lo, by omega, ?_, ?_, ⟨(uh H1).1.frame hf12 (fun _ _ h => h), ⟨Nat.zero_le _, Nat.zero_le _, fun y hy => by cases hy⟩, hl⟩, trivial⟩
  ·rw [← hW2, World.cell?_alloc_past _ _ _ (by simp; omega), World.cell?_alloc_past _ _ _ (by simp), World.cell?_alloc_at _ _ _ _ (by simp)]; rfl
  ·rw [← hW2, World.cell?_alloc_past _ _ _ (by simp; omega), World.cell?_alloc_past _ _ _ (by simp), World.cell?_alloc_at _ _ _ _ (by simp)]; rfl
 have hcs : ∀ (i : Nat) v, (#[.int .u32 0, .int .u32 0, .int .u8 0, .int .u32 0, .int .u32 0, .slice none 0 0, .slice none 0 0] : Array Value)[i]? = some v → W2.cell? ⟨w1.heap.size + 1, i, none⟩ = some v := fun i v hv => by
  rw [← hW2, World.cell?_alloc_past _ _ _ (by simp), World.cell?_alloc_at _ _ _ _ (by simp)]; exact hv
 have hnn : ∀ (i : Nat) v, (#[.int .u32 0, .int .u32 0, .int .u8 0, .int .u32 0, .int .u32 0, .slice none 0 0, .slice none 0 0] : Array Value)[i]? = some v → W2.cell? ⟨w1.heap.size + 1 + 1, i, none⟩ = some v := fun i v hv => by
  rw [← hW2, World.cell?_alloc_at _ _ _ _ (by simp)]; exact hv
 have hLo : ∀ i, Loc W2 w1.heap.size F (w1.heap.size + 1) i := fun i => by
  have hb1 := (uh H1).1.lt
  have hw1 := (uh H1).2.1.size
  exact ⟨(((by rw [← hW2]; exact box1 _ _) : Fr (fun _ => False) ((w1.alloc (.cells #[.pointer none, .pointer (some ⟨b, 0, none⟩)] 143)).alloc (.cells #[.int .u32 0, .int .u32 0, .int .u8 0, .int .u32 0, .int .u32 0, .slice none 0 0, .slice none 0 0] 33)) W2).frozen (p := ⟨w1.heap.size + 1, i, none⟩) (by simp) (fun h => h)).trans (by simp), by omega, fun hx => by have := hb1 _ hx; omega, by omega, by omega⟩
 have HW := hid ((uh H).2.2 W2 w1.heap.size b F (w1.heap.size + 1) hC2 (hcs 0 _ rfl) (hcs 1 _ rfl) (hcs 2 _ rfl) (hcs 3 _ rfl) (hcs 4 _ rfl) (hcs 5 _ rfl) (hcs 6 _ rfl) hLo (uh H1).2.2 (by omega) hf02)
 have H2 := hid (And.intro hf02 (And.intro hnn hsz2))
 clear hC2 hf02 hLo hsz2 hcs hf12 hnn
 rw [hW2]
 clear hW2
 refine (uh HW).mono ?_
 rintro e w3 ⟨rfl, F3, hC3, v0, v1, v2, v3, v4, v5, v6, hv0, hv1, hv2, hv3, hv4, hv5, hv6, hone, hRes, hs3⟩
 have hst0 : ∀ (a : Addr) (m : Mode) (W : World), (store a v0 m).run Tryz.prog W = stored Tryz.prog W a v0 m := fun _ _ _ => run_store _ _ _ _ _ (hone v0 (by simp))
 have hst1 : ∀ (a : Addr) (m : Mode) (W : World), (store a v1 m).run Tryz.prog W = stored Tryz.prog W a v1 m := fun _ _ _ => run_store _ _ _ _ _ (hone v1 (by simp))
 have hst2 : ∀ (a : Addr) (m : Mode) (W : World), (store a v2 m).run Tryz.prog W = stored Tryz.prog W a v2 m := fun _ _ _ => run_store _ _ _ _ _ (hone v2 (by simp))
 have hst3 : ∀ (a : Addr) (m : Mode) (W : World), (store a v3 m).run Tryz.prog W = stored Tryz.prog W a v3 m := fun _ _ _ => run_store _ _ _ _ _ (hone v3 (by simp))
 have hst4 : ∀ (a : Addr) (m : Mode) (W : World), (store a v4 m).run Tryz.prog W = stored Tryz.prog W a v4 m := fun _ _ _ => run_store _ _ _ _ _ (hone v4 (by simp))
 have hst5 : ∀ (a : Addr) (m : Mode) (W : World), (store a v5 m).run Tryz.prog W = stored Tryz.prog W a v5 m := fun _ _ _ => run_store _ _ _ _ _ (hone v5 (by simp))
 have hst6 : ∀ (a : Addr) (m : Mode) (W : World), (store a v6 m).run Tryz.prog W = stored Tryz.prog W a v6 m := fun _ _ _ => run_store _ _ _ _ _ (hone v6 (by simp))
 clear hone
 have h1 : w3.cell? ⟨w1.heap.size, 1, none⟩ = some (.pointer (some ⟨b, 0, none⟩)) := hC3.c1
 have hl1 := ltC h1
 obtain ⟨hf02, hnn, hsz2⟩ := uh H2
 have hFb : ∀ k, F k → k < w1.heap.size := (uh H1).1.lt
 have hne : ∀ i, w3.cell? ⟨w1.heap.size + 1 + 1, i, none⟩ = W2.cell? ⟨w1.heap.size + 1 + 1, i, none⟩ := fun i => hs3.oth (w1.heap.size + 1 + 1) i (by omega) (fun hx => by have := hFb _ hx; omega) (fun h => by omega)
 have hn0 := (hne 0).trans (hnn 0 _ rfl)
 have hn1 := (hne 1).trans (hnn 1 _ rfl)
 have hn2 := (hne 2).trans (hnn 2 _ rfl)
 have hn3 := (hne 3).trans (hnn 3 _ rfl)
 have hn4 := (hne 4).trans (hnn 4 _ rfl)
 have hn5 := (hne 5).trans (hnn 5 _ rfl)
 have hn6 := (hne 6).trans (hnn 6 _ rfl)
 have hrF : ¬ F w.heap.size := fun hx => by have := (uh H1).2.2 _ hx; omega
 have hrb3 : w3.heap[w.heap.size]? = some (.cells #[.int .u32 0, .int .u32 0, .int .u8 0, .int .u32 0, .int .u32 0, .slice none 0 0, .slice none 0 0] 33) := (hs3.block (by omega) hrF (fun i h => by omega)).trans ((uh HF12).block _ hrl (fun h => h) |>.trans hrb)
 have hf03 : Fr (fun _ => False) w w3 := hf02.trans hs3.fr (fun k hk hx => hx.elim (fun hx => by have := (uh H1).2.2 k hx; omega) (fun ⟨_, hx⟩ => by omega))
 have hst3 : R w3 b F3 (q'.rst E) ∧ q'.ok ∧ q'.all.length ≤ 140737488355328 := hC3.st
 have HD := hid (rName_step q' n_end b F3 E w3 hst3.1)
 have H3 := hid (And.intro hC3 (And.intro hs3 (And.intro hRes (And.intro hf03 (And.intro hst3.2.1 hrF)))))
 clear hC3 hs3 hRes hf03 hst3 hrF hf02 hnn hsz2 hFb hne
 go_wp2_with fail
 refine (uh HD).mono ?_
 rintro e w4 ⟨rfl, hR4, hch4⟩
 have hgF3 := (uh H3).2.1.nF (by have := (uh H2).2.2; omega) (show ¬ F (w1.heap.size + 1) from fun hx => by have := (uh H1).1.lt _ hx; omega)
 have hnF3 := (uh H3).2.1.nF (by have := (uh H2).2.2; omega) (show ¬ F (w1.heap.size + 1 + 1) from fun hx => by have := (uh H1).1.lt _ hx; omega)
 have hcF3 := (uh H3).1.nf
 have hv04 := (hch4.fr.cell (p := ⟨w1.heap.size + 1, 0, none⟩) (ltC hv0) hgF3).trans hv0
 have hv14 := (hch4.fr.cell (p := ⟨w1.heap.size + 1, 1, none⟩) (ltC hv1) hgF3).trans hv1
 have hv24 := (hch4.fr.cell (p := ⟨w1.heap.size + 1, 2, none⟩) (ltC hv2) hgF3).trans hv2
 have hv34 := (hch4.fr.cell (p := ⟨w1.heap.size + 1, 3, none⟩) (ltC hv3) hgF3).trans hv3
 have hv44 := (hch4.fr.cell (p := ⟨w1.heap.size + 1, 4, none⟩) (ltC hv4) hgF3).trans hv4
 have hv54 := (hch4.fr.cell (p := ⟨w1.heap.size + 1, 5, none⟩) (ltC hv5) hgF3).trans hv5
 have hv64 := (hch4.fr.cell (p := ⟨w1.heap.size + 1, 6, none⟩) (ltC hv6) hgF3).trans hv6
 have hn04 := (hch4.fr.cell (p := ⟨w1.heap.size + 1 + 1, 0, none⟩) (ltC hn0) hnF3).trans hn0
 have hn14 := (hch4.fr.cell (p := ⟨w1.heap.size + 1 + 1, 1, none⟩) (ltC hn1) hnF3).trans hn1
 have hn24 := (hch4.fr.cell (p := ⟨w1.heap.size + 1 + 1, 2, none⟩) (ltC hn2) hnF3).trans hn2
 have hn34 := (hch4.fr.cell (p := ⟨w1.heap.size + 1 + 1, 3, none⟩) (ltC hn3) hnF3).trans hn3
 have hn44 := (hch4.fr.cell (p := ⟨w1.heap.size + 1 + 1, 4, none⟩) (ltC hn4) hnF3).trans hn4
 have hn54 := (hch4.fr.cell (p := ⟨w1.heap.size + 1 + 1, 5, none⟩) (ltC hn5) hnF3).trans hn5
 have hn64 := (hch4.fr.cell (p := ⟨w1.heap.size + 1 + 1, 6, none⟩) (ltC hn6) hnF3).trans hn6
 have h14 : w4.cell? ⟨w1.heap.size, 1, none⟩ = some (.pointer (some ⟨b, 0, none⟩)) := (hch4.fr.cell (p := ⟨w1.heap.size, 1, none⟩) hl1 hcF3).trans h1
 have hrb4 : w4.heap[w.heap.size]? = some (.cells #[.int .u32 0, .int .u32 0, .int .u8 0, .int .u32 0, .int .u32 0, .slice none 0 0, .slice none 0 0] 33) := (hch4.fr.block w.heap.size (by omega) ((uh H3).2.1.nF (by have := (uh H2).2.2; omega) (uh H3).2.2.2.2.2)).trans hrb3
 have HE := hid (done_any (q'.named n_end) b F3 E w4 hR4 (Q.named_ok (uh H3).2.2.2.2.1 n_end) ((uh H3).1.g7.fr hch4.fr (uh H3).1.lo).gl)
 have hs4 : Stp w3 w4 F3 F3 (fun _ _ => False) := Stp.of_ch hch4 _
 have hf04 : Fr (fun _ => False) w w4 := (uh H3).2.2.2.1.trans hch4.fr (fun k hk hx => by
  rcases (uh H3).2.1.new k hx with h | h
  ·have := (uh H1).2.2 k h; omega
  ·have := (uh H1).2.1.size; have := (uh H2).2.2; omega)
 have H4 := hid (And.intro hs4 hf04)
 clear hR4 hch4 hs4 hf04 hgF3 hnF3 hcF3
 go_wp2_with fail
 refine (uh HE).mono ?_
 rintro e w5 ⟨err, rfl, hEr, hf5⟩
 have hrb5 : w5.heap[w.heap.size]? = some (.cells #[.int .u32 0, .int .u32 0, .int .u8 0, .int .u32 0, .int .u32 0, .slice none 0 0, .slice none 0 0] 33) := (hf5.block w.heap.size (by have := (uh H4).1.size; have := (uh H3).2.1.size; have := (uh H2).2.2; omega) (fun h => h)).trans hrb4
 have hv05 := (hf5.cell (p := ⟨w1.heap.size + 1, 0, none⟩) (ltC hv04) (fun h => h)).trans hv04
 have hn05 := (hf5.cell (p := ⟨w1.heap.size + 1 + 1, 0, none⟩) (ltC hn04) (fun h => h)).trans hn04
 have hv15 := (hf5.cell (p := ⟨w1.heap.size + 1, 1, none⟩) (ltC hv14) (fun h => h)).trans hv14
 have hn15 := (hf5.cell (p := ⟨w1.heap.size + 1 + 1, 1, none⟩) (ltC hn14) (fun h => h)).trans hn14
 have hv25 := (hf5.cell (p := ⟨w1.heap.size + 1, 2, none⟩) (ltC hv24) (fun h => h)).trans hv24
 have hn25 := (hf5.cell (p := ⟨w1.heap.size + 1 + 1, 2, none⟩) (ltC hn24) (fun h => h)).trans hn24
 have hv35 := (hf5.cell (p := ⟨w1.heap.size + 1, 3, none⟩) (ltC hv34) (fun h => h)).trans hv34
 have hn35 := (hf5.cell (p := ⟨w1.heap.size + 1 + 1, 3, none⟩) (ltC hn34) (fun h => h)).trans hn34
 have hv45 := (hf5.cell (p := ⟨w1.heap.size + 1, 4, none⟩) (ltC hv44) (fun h => h)).trans hv44
 have hn45 := (hf5.cell (p := ⟨w1.heap.size + 1 + 1, 4, none⟩) (ltC hn44) (fun h => h)).trans hn44
 have hv55 := (hf5.cell (p := ⟨w1.heap.size + 1, 5, none⟩) (ltC hv54) (fun h => h)).trans hv54
 have hn55 := (hf5.cell (p := ⟨w1.heap.size + 1 + 1, 5, none⟩) (ltC hn54) (fun h => h)).trans hn54
 have hv65 := (hf5.cell (p := ⟨w1.heap.size + 1, 6, none⟩) (ltC hv64) (fun h => h)).trans hv64
 have hn65 := (hf5.cell (p := ⟨w1.heap.size + 1 + 1, 6, none⟩) (ltC hn64) (fun h => h)).trans hn64
 have hr05 : w5.cell? ⟨w.heap.size, 0, none⟩ = some (.int .u32 0) := by simp [World.cell?, hrb5]
 have hr15 : w5.cell? ⟨w.heap.size, 1, none⟩ = some (.int .u32 0) := by simp [World.cell?, hrb5]
 have hr25 : w5.cell? ⟨w.heap.size, 2, none⟩ = some (.int .u8 0) := by simp [World.cell?, hrb5]
 have hr35 : w5.cell? ⟨w.heap.size, 3, none⟩ = some (.int .u32 0) := by simp [World.cell?, hrb5]
 have hr45 : w5.cell? ⟨w.heap.size, 4, none⟩ = some (.int .u32 0) := by simp [World.cell?, hrb5]
 have hr55 : w5.cell? ⟨w.heap.size, 5, none⟩ = some (.slice none 0 0) := by simp [World.cell?, hrb5]
 have hr65 : w5.cell? ⟨w.heap.size, 6, none⟩ = some (.slice none 0 0) := by simp [World.cell?, hrb5]
 have hrz5 : ∀ i, w5.frozen? ⟨w.heap.size, i, none⟩ = false := fun i => by simp [World.frozen?, hrb5]
 have hrl5 := ltC hr05
 have hlv5 := ltC hv05
 have hln5 := ltC hn05
 have hnr1 : w1.heap.size + 1 ≠ w.heap.size := by omega
 have hnr2 : w1.heap.size + 1 + 1 ≠ w.heap.size := by omega
 have hsF : ∀ (i : Nat) v W, Fr (fun k => k = w.heap.size) w5 W → Fr (fun k => k = w.heap.size) w5 (W.setCell ⟨w.heap.size, i, none⟩ v) := fun i v W h => h.setCell (.inl rfl) v
 have H5 := hid (And.intro hf5 (hEr))
 rcases hEr with ⟨h0, rfl⟩ | ⟨h1', h7, fb, rfl, hb⟩
 ·clear hf5
  go_wp2_with fail
  refine bodyPost_ret (v := .tuple #[.agg #[v0, v1, v2, v3, v4, v5, v6], .nilIface]) (by simp [results, Tryz.results78, go_sem, hr05, hr15, hr25, hr35, hr45, hr55, hr65]) rfl ?_
  have hfin : q'.fin.2.2 = 0 := h0
  refine ⟨_, _, rfl, .inl ⟨hfin, rfl⟩, fun h => absurd hfin h, fun _ => ⟨F3, w1.heap.size + 1, ?_, by omega⟩, ?_⟩
  ·have hR5 := (uh H).2.1 _ _ _ _ _ _ _ ((uh H).2.1 _ _ _ _ _ _ _ (uh H3).2.2.1 (uh H4).1 (fun _ _ h => h.elim)) (Stp.of_fr (uh H5).1 F3 (fun _ _ => False)) (fun _ _ h => h.elim)
   exact (uh H).2.1 _ _ _ _ _ _ _ hR5 ((((((((Stp.refl w5 F3 (fun k _ => k = w.heap.size)).trans (Stp.set w.heap.size 0 _) (fun k j _ h => h.1)).trans (Stp.set w.heap.size 1 _) (fun k j _ h => h.1)).trans (Stp.set w.heap.size 2 _) (fun k j _ h => h.1)).trans (Stp.set w.heap.size 3 _) (fun k j _ h => h.1)).trans (Stp.set w.heap.size 4 _) (fun k j _ h => h.1)).trans (Stp.set w.heap.size 5 _) (fun k j _ h => h.1)).trans (Stp.set w.heap.size 6 _) (fun k j _ h => h.1)) (fun k j h => h)
  ·exact ((((((((uh H4).2.trans (uh H5).1 (fun _ _ h => h)).setCell (.inr (Nat.le_refl _)) _).setCell (.inr (Nat.le_refl _)) _).setCell (.inr (Nat.le_refl _)) _).setCell (.inr (Nat.le_refl _)) _).setCell (.inr (Nat.le_refl _)) _).setCell (.inr (Nat.le_refl _)) _).setCell (.inr (Nat.le_refl _)) _
 ·have hfb : fb ≠ w.heap.size := fun e => by rw [e, hrb5] at hb; simp [faultObj] at hb
  have HB5 := hid hb
  clear hf5 hb
  go_wp2_with fail
  refine bodyPost_ret (v := .tuple #[.agg #[.int .u32 0, .int .u32 0, .int .u8 0, .int .u32 0, .int .u32 0, .slice none 0 0, .slice none 0 0], .iface 78 (.pointer (some ⟨fb, 0, none⟩))]) (by simp [results, Tryz.results78, go_sem, hr05, hr15, hr25, hr35, hr45, hr55, hr65]) rfl ?_
  have hfin : q'.fin.2.2 ≠ 0 := fun e => by have : 1 ≤ q'.fin.2.2 := h1'; omega
  refine ⟨_, _, rfl, .inr ⟨h1', h7, fb, rfl, ?_⟩, fun _ => rfl, fun h => absurd h hfin, ?_⟩
  ·rw [Below.heap_setCell _ _ _ _ hfb, Below.heap_setCell _ _ _ _ hfb, Below.heap_setCell _ _ _ _ hfb, Below.heap_setCell _ _ _ _ hfb, Below.heap_setCell _ _ _ _ hfb, Below.heap_setCell _ _ _ _ hfb, Below.heap_setCell _ _ _ _ hfb]
   exact uh HB5
  ·exact ((((((((uh H4).2.trans (uh H5).1 (fun _ _ h => h)).setCell (.inr (Nat.le_refl _)) _).setCell (.inr (Nat.le_refl _)) _).setCell (.inr (Nat.le_refl _)) _).setCell (.inr (Nat.le_refl _)) _).setCell (.inr (Nat.le_refl _)) _).setCell (.inr (Nat.le_refl _)) _).setCell (.inr (Nat.le_refl _)) _
set_option maxRecDepth 100000 in
set_option maxHeartbeats 2000000 in
theorem get_Event (x : Value) (l : List Nat) (q' : Q) (Res : World → (Nat → Prop) → Nat → Array Value → Prop) (E : Nat → Addr) (w : World) (hg : G6 w E) (hw : 9 ≤ w.heap.size) (hx : Src w x l) (hl : l.length ≤ 140737488355328)
  (hst : ∀ w2 w' F F' P g vs, Res w2 F g vs → Stp w2 w' F F' P → (∀ k j, P k j → k = w.heap.size) → Res w' F' g vs)
  (hwhole : ∀ w1 cb b F g, Cd w1 cb b F (.rd ⟨ByteArray.empty, l, 0, 0, none⟩) E → w1.cell? ⟨g, 0, none⟩ = some (.int .u32 0) → w1.cell? ⟨g, 1, none⟩ = some (.int .u32 0) → w1.cell? ⟨g, 2, none⟩ = some (.int .u32 0) → w1.cell? ⟨g, 3, none⟩ = some (.int .u32 0) → w1.cell? ⟨g, 4, none⟩ = some (.int .u8 0) → w1.cell? ⟨g, 5, none⟩ = some (.int .u32 0) → w1.cell? ⟨g, 6, none⟩ = some (.int .u32 0) → w1.cell? ⟨g, 7, none⟩ = some (.int .u32 0) → w1.cell? ⟨g, 8, none⟩ = some (.int .u32 0) → w1.cell? ⟨g, 9, none⟩ = some (.slice none 0 0) → w1.cell? ⟨g, 10, none⟩ = some (.string ⟨#[]⟩) → w1.cell? ⟨g, 11, none⟩ = some (.int .u8 0) → w1.cell? ⟨g, 12, none⟩ = some (.slice none 0 0) → (∀ i, Loc w1 cb F g i) → (∀ k, F k → w.heap.size < k) → w.heap.size < g → Fr (fun _ => False) w w1 → Calls Tryz.prog 68 #[.pointer (some ⟨cb, 0, none⟩), .iface 210 (.pointer (some ⟨g, 0, none⟩))] w1 fun e w' => e = .returned (.tuple #[]) ∧ ∃ F', Cd w' cb b F' (.rd q') E ∧ ∃ v0 v1 v2 v3 v4 v5 v6 v7 v8 v9 v10 v11 v12, w'.cell? ⟨g, 0, none⟩ = some v0 ∧ w'.cell? ⟨g, 1, none⟩ = some v1 ∧ w'.cell? ⟨g, 2, none⟩ = some v2 ∧ w'.cell? ⟨g, 3, none⟩ = some v3 ∧ w'.cell? ⟨g, 4, none⟩ = some v4 ∧ w'.cell? ⟨g, 5, none⟩ = some v5 ∧ w'.cell? ⟨g, 6, none⟩ = some v6 ∧ w'.cell? ⟨g, 7, none⟩ = some v7 ∧ w'.cell? ⟨g, 8, none⟩ = some v8 ∧ w'.cell? ⟨g, 9, none⟩ = some v9 ∧ w'.cell? ⟨g, 10, none⟩ = some v10 ∧ w'.cell? ⟨g, 11, none⟩ = some v11 ∧ w'.cell? ⟨g, 12, none⟩ = some v12 ∧ (∀ v ∈ ([v0, v1, v2, v3, v4, v5, v6, v7, v8, v9, v10, v11, v12] : List Value), v.oneCell' = true) ∧ Res w' F' g #[v0, v1, v2, v3, v4, v5, v6, v7, v8, v9, v10, v11, v12] ∧ Stp w1 w' F F' (fun k _ => k = g)) :
  Calls Tryz.prog 79 #[x] w fun e w' => ∃ vs err, e = .returned (.tuple #[.agg vs, err]) ∧ ErrV w' err q'.fin E ∧ (q'.fin.2.2 ≠ 0 → vs = #[.int .u32 0, .int .u32 0, .int .u32 0, .int .u32 0, .int .u8 0, .int .u32 0, .int .u32 0, .int .u32 0, .int .u32 0, .slice none 0 0, .string ⟨#[]⟩, .int .u8 0, .slice none 0 0]) ∧ (q'.fin.2.2 = 0 → ∃ F' g, Res w' F' g vs ∧ w.heap.size ≤ g) ∧ Fr (fun _ => False) w w' := by
 obtain ⟨xo, xc, rfl⟩ := hx.form
 have hbx := box1 w (.cells #[.int .u32 0, .int .u32 0, .int .u32 0, .int .u32 0, .int .u8 0, .int .u32 0, .int .u32 0, .int .u32 0, .int .u32 0, .slice none 0 0, .string ⟨#[]⟩, .int .u8 0, .slice none 0 0] 35)
 have HN := hid (newReader_any _ l (w.alloc (.cells #[.int .u32 0, .int .u32 0, .int .u32 0, .int .u32 0, .int .u8 0, .int .u32 0, .int .u32 0, .int .u32 0, .int .u32 0, .slice none 0 0, .string ⟨#[]⟩, .int .u8 0, .slice none 0 0] 35)) (by simp; omega) (hx.fr hbx (fun _ _ _ _ _ h => h)) hl)
 have H := hid (And.intro hg (And.intro hst hwhole))
 have HB := hid hbx
 clear hg hst hwhole hx hbx
 go_enter Tryz.func79, Tryz.ntmps79
 go_wp2_with fail
 refine (uh HN).mono ?_
 rintro e w1 ⟨b, F, rfl, hR1, hf1', hF1'⟩
 have hf1 : Fr (fun _ => False) w w1 := (uh HB).trans hf1' (fun _ _ h => h)
 have hF1 : ∀ k, F k → w.heap.size < k := fun k hk => by have := hF1' k hk; simp at this; omega
 have hr0 : w1.cell? ⟨w.heap.size, 0, none⟩ = some (.int .u32 0) := (hf1'.cell (p := ⟨w.heap.size, 0, none⟩) (by simp) (fun h => h)).trans (by simp)
 have hrz : ∀ i, w1.frozen? ⟨w.heap.size, i, none⟩ = false := fun i => (hf1'.frozen (p := ⟨w.heap.size, i, none⟩) (by simp) (fun h => h)).trans (by simp)
 have hrb : w1.heap[w.heap.size]? = some (.cells #[.int .u32 0, .int .u32 0, .int .u32 0, .int .u32 0, .int .u8 0, .int .u32 0, .int .u32 0, .int .u32 0, .int .u32 0, .slice none 0 0, .string ⟨#[]⟩, .int .u8 0, .slice none 0 0] 35) := (hf1'.block w.heap.size (by simp) (fun h => h)).trans (heap_alloc_new _ _)
 have hrl := ltC hr0
 clear hf1' hF1'
 have hbl := hR1.lt b hR1.fb
 have H1 := hid (And.intro hR1 (And.intro hf1 hF1))
 clear hR1 hf1 hF1
 go_wp2_with fail
 obtain ⟨W2, hW2⟩ : ∃ W2, ((w1.alloc (.cells #[.pointer none, .pointer (some ⟨b, 0, none⟩)] 143)).alloc (.cells #[.int .u32 0, .int .u32 0, .int .u32 0, .int .u32 0, .int .u8 0, .int .u32 0, .int .u32 0, .int .u32 0, .int .u32 0, .slice none 0 0, .string ⟨#[]⟩, .int .u8 0, .slice none 0 0] 35)).alloc (.cells #[.int .u32 0, .int .u32 0, .int .u32 0, .int .u32 0, .int .u8 0, .int .u32 0, .int .u32 0, .int .u32 0, .int .u32 0, .slice none 0 0, .string ⟨#[]⟩, .int .u8 0, .slice none 0 0] 35) = W2 := ⟨_, rfl⟩
 have hf12 : Fr (fun _ => False) w1 W2 := by rw [← hW2]; exact box3 _ _ _ _
 have HF12 := hid hf12
 have hf02 := (uh H1).2.1.trans hf12 (fun _ _ h => h)
 have hsz2 : W2.heap.size = w1.heap.size + 3 := by rw [← hW2]; simp
 have hC2 : Cd W2 w1.heap.size b F (.rd ⟨ByteArray.empty, l, 0, 0, none⟩) E := by
  have hb1 := (uh H1).1.lt
  have hw1 := (uh H1).2.1.size
  refine ⟨(uh H).1.fr hf02 (fun _ h => h.elim), fun hx => by have := hb1 _ hx; omega, fun k hk => by have := hb1 k hk; omega, (uh H1).1.lo, by omega, ?_, ?_, ⟨(uh H1).1.frame hf12 (fun _ _ h => h), ⟨Nat.zero_le _, Nat.zero_le _, fun y hy => by cases hy⟩, hl⟩, trivial⟩
  ·rw [← hW2, World.cell?_alloc_past _ _ _ (by simp; omega), World.cell?_alloc_past _ _ _ (by simp), World.cell?_alloc_at _ _ _ _ (by simp)]; rfl
  ·rw [← hW2, World.cell?_alloc_past _ _ _ (by simp; omega), World.cell?_alloc_past _ _ _ (by simp), World.cell?_alloc_at _ _ _ _ (by simp)]; rfl
 have hcs : ∀ (i : Nat) v, (#[.int .u32 0, .int .u32 0, .int .u32 0, .int .u32 0, .int .u8 0, .int .u32 0, .int .u32 0, .int .u32 0, .int .u32 0, .slice none 0 0, .string ⟨#[]⟩, .int .u8 0, .slice none 0 0] : Array Value)[i]? = some v → W2.cell? ⟨w1.heap.size + 1, i, none⟩ = some v := fun i v hv => by
  rw [← hW2, World.cell?_alloc_past _ _ _ (by simp), World.cell?_alloc_at _ _ _ _ (by simp)]; exact hv
 have hnn : ∀ (i : Nat) v, (#[.int .u32 0, .int .u32 0, .int .u32 0, .int .u32 0, .int .u8 0, .int .u32 0, .int .u32 0, .int .u32 0, .int .u32 0, .slice none 0 0, .string ⟨#[]⟩, .int .u8 0, .slice none 0 0] : Array Value)[i]? = some v → W2.cell? ⟨w1.heap.size + 1 + 1, i, none⟩ = some v := fun i v hv => by
  rw [← hW2, World.cell?_alloc_at _ _ _ _ (by simp)]; exact hv
 have hLo : ∀ i, Loc W2 w1.heap.size F (w1.heap.size + 1) i := fun i => by
  have hb1 := (uh H1).1.lt
  have hw1 := (uh H1).2.1.size
  exact ⟨(((by rw [← hW2]; exact box1 _ _) : Fr (fun _ => False) ((w1.alloc (.cells #[.pointer none, .pointer (some ⟨b, 0, none⟩)] 143)).alloc (.cells #[.int .u32 0, .int .u32 0, .int .u32 0, .int .u32 0, .int .u8 0, .int .u32 0, .int .u32 0, .int .u32 0, .int .u32 0, .slice none 0 0, .string ⟨#[]⟩, .int .u8 0, .slice none 0 0] 35)) W2).frozen (p := ⟨w1.heap.size + 1, i, none⟩) (by simp) (fun h => h)).trans (by simp), by omega, fun hx => by have := hb1 _ hx; omega, by omega, by omega⟩
 have HW := hid ((uh H).2.2 W2 w1.heap.size b F (w1.heap.size + 1) hC2 (hcs 0 _ rfl) (hcs 1 _ rfl) (hcs 2 _ rfl) (hcs 3 _ rfl) (hcs 4 _ rfl) (hcs 5 _ rfl) (hcs 6 _ rfl) (hcs 7 _ rfl) (hcs 8 _ rfl) (hcs 9 _ rfl) (hcs 10 _ rfl) (hcs 11 _ rfl) (hcs 12 _ rfl) hLo (uh H1).2.2 (by omega) hf02)
 have H2 := hid (And.intro hf02 (And.intro hnn hsz2))
 clear hC2 hf02 hLo hsz2 hcs hf12 hnn
 rw [hW2]
 clear hW2
 refine (uh HW).mono ?_
 rintro e w3 ⟨rfl, F3, hC3, v0, v1, v2, v3, v4, v5, v6, v7, v8, v9, v10, v11, v12, hv0, hv1, hv2, hv3, hv4, hv5, hv6, hv7, hv8, hv9, hv10, hv11, hv12, hone, hRes, hs3⟩
 have hst0 : ∀ (a : Addr) (m : Mode) (W : World), (store a v0 m).run Tryz.prog W = stored Tryz.prog W a v0 m := fun _ _ _ => run_store _ _ _ _ _ (hone v0 (by simp))
 have hst1 : ∀ (a : Addr) (m : Mode) (W : World), (store a v1 m).run Tryz.prog W = stored Tryz.prog W a v1 m := fun _ _ _ => run_store _ _ _ _ _ (hone v1 (by simp))
 have hst2 : ∀ (a : Addr) (m : Mode) (W : World), (store a v2 m).run Tryz.prog W = stored Tryz.prog W a v2 m := fun _ _ _ => run_store _ _ _ _ _ (hone v2 (by simp))
 have hst3 : ∀ (a : Addr) (m : Mode) (W : World), (store a v3 m).run Tryz.prog W = stored Tryz.prog W a v3 m := fun _ _ _ => run_store _ _ _ _ _ (hone v3 (by simp))
 have hst4 : ∀ (a : Addr) (m : Mode) (W : World), (store a v4 m).run Tryz.prog W = stored Tryz.prog W a v4 m := fun _ _ _ => run_store _ _ _ _ _ (hone v4 (by simp))
 have hst5 : ∀ (a : Addr) (m : Mode) (W : World), (store a v5 m).run Tryz.prog W = stored Tryz.prog W a v5 m := fun _ _ _ => run_store _ _ _ _ _ (hone v5 (by simp))
 have hst6 : ∀ (a : Addr) (m : Mode) (W : World), (store a v6 m).run Tryz.prog W = stored Tryz.prog W a v6 m := fun _ _ _ => run_store _ _ _ _ _ (hone v6 (by simp))
 have hst7 : ∀ (a : Addr) (m : Mode) (W : World), (store a v7 m).run Tryz.prog W = stored Tryz.prog W a v7 m := fun _ _ _ => run_store _ _ _ _ _ (hone v7 (by simp))
 have hst8 : ∀ (a : Addr) (m : Mode) (W : World), (store a v8 m).run Tryz.prog W = stored Tryz.prog W a v8 m := fun _ _ _ => run_store _ _ _ _ _ (hone v8 (by simp))
 have hst9 : ∀ (a : Addr) (m : Mode) (W : World), (store a v9 m).run Tryz.prog W = stored Tryz.prog W a v9 m := fun _ _ _ => run_store _ _ _ _ _ (hone v9 (by simp))
 have hst10 : ∀ (a : Addr) (m : Mode) (W : World), (store a v10 m).run Tryz.prog W = stored Tryz.prog W a v10 m := fun _ _ _ => run_store _ _ _ _ _ (hone v10 (by simp))
 have hst11 : ∀ (a : Addr) (m : Mode) (W : World), (store a v11 m).run Tryz.prog W = stored Tryz.prog W a v11 m := fun _ _ _ => run_store _ _ _ _ _ (hone v11 (by simp))
 have hst12 : ∀ (a : Addr) (m : Mode) (W : World), (store a v12 m).run Tryz.prog W = stored Tryz.prog W a v12 m := fun _ _ _ => run_store _ _ _ _ _ (hone v12 (by simp))
 clear hone
 have h1 : w3.cell? ⟨w1.heap.size, 1, none⟩ = some (.pointer (some ⟨b, 0, none⟩)) := hC3.c1
 have hl1 := ltC h1
 obtain ⟨hf02, hnn, hsz2⟩ := uh H2
 have hFb : ∀ k, F k → k < w1.heap.size := (uh H1).1.lt
 have hne : ∀ i, w3.cell? ⟨w1.heap.size + 1 + 1, i, none⟩ = W2.cell? ⟨w1.heap.size + 1 + 1, i, none⟩ := fun i => hs3.oth (w1.heap.size + 1 + 1) i (by omega) (fun hx => by have := hFb _ hx; omega) (fun h => by omega)
 have hn0 := (hne 0).trans (hnn 0 _ rfl)
 have hn1 := (hne 1).trans (hnn 1 _ rfl)
 have hn2 := (hne 2).trans (hnn 2 _ rfl)
 have hn3 := (hne 3).trans (hnn 3 _ rfl)
 have hn4 := (hne 4).trans (hnn 4 _ rfl)
 have hn5 := (hne 5).trans (hnn 5 _ rfl)
 have hn6 := (hne 6).trans (hnn 6 _ rfl)
 have hn7 := (hne 7).trans (hnn 7 _ rfl)
 have hn8 := (hne 8).trans (hnn 8 _ rfl)
 have hn9 := (hne 9).trans (hnn 9 _ rfl)
 have hn10 := (hne 10).trans (hnn 10 _ rfl)
 have hn11 := (hne 11).trans (hnn 11 _ rfl)
 have hn12 := (hne 12).trans (hnn 12 _ rfl)
 have hrF : ¬ F w.heap.size := fun hx => by have := (uh H1).2.2 _ hx; omega
 have hrb3 : w3.heap[w.heap.size]? = some (.cells #[.int .u32 0, .int .u32 0, .int .u32 0, .int .u32 0, .int .u8 0, .int .u32 0, .int .u32 0, .int .u32 0, .int .u32 0, .slice none 0 0, .string ⟨#[]⟩, .int .u8 0, .slice none 0 0] 35) := (hs3.block (by omega) hrF (fun i h => by omega)).trans ((uh HF12).block _ hrl (fun h => h) |>.trans hrb)
 have hf03 : Fr (fun _ => False) w w3 := hf02.trans hs3.fr (fun k hk hx => hx.elim (fun hx => by have := (uh H1).2.2 k hx; omega) (fun ⟨_, hx⟩ => by omega))
 have hst3 : R w3 b F3 (q'.rst E) ∧ q'.ok ∧ q'.all.length ≤ 140737488355328 := hC3.st
 have HD := hid (rName_step q' n_end b F3 E w3 hst3.1)
 have H3 := hid (And.intro hC3 (And.intro hs3 (And.intro hRes (And.intro hf03 (And.intro hst3.2.1 hrF)))))
 clear hC3 hs3 hRes hf03 hst3 hrF hf02 hnn hsz2 hFb hne
 go_wp2_with fail
 refine (uh HD).mono ?_
 rintro e w4 ⟨rfl, hR4, hch4⟩
 have hgF3 := (uh H3).2.1.nF (by have := (uh H2).2.2; omega) (show ¬ F (w1.heap.size + 1) from fun hx => by have := (uh H1).1.lt _ hx; omega)
 have hnF3 := (uh H3).2.1.nF (by have := (uh H2).2.2; omega) (show ¬ F (w1.heap.size + 1 + 1) from fun hx => by have := (uh H1).1.lt _ hx; omega)
 have hcF3 := (uh H3).1.nf
 have hv04 := (hch4.fr.cell (p := ⟨w1.heap.size + 1, 0, none⟩) (ltC hv0) hgF3).trans hv0
 have hv14 := (hch4.fr.cell (p := ⟨w1.heap.size + 1, 1, none⟩) (ltC hv1) hgF3).trans hv1
 have hv24 := (hch4.fr.cell (p := ⟨w1.heap.size + 1, 2, none⟩) (ltC hv2) hgF3).trans hv2
 have hv34 := (hch4.fr.cell (p := ⟨w1.heap.size + 1, 3, none⟩) (ltC hv3) hgF3).trans hv3
 have hv44 := (hch4.fr.cell (p := ⟨w1.heap.size + 1, 4, none⟩) (ltC hv4) hgF3).trans hv4
 have hv54 := (hch4.fr.cell (p := ⟨w1.heap.size + 1, 5, none⟩) (ltC hv5) hgF3).trans hv5
 have hv64 := (hch4.fr.cell (p := ⟨w1.heap.size + 1, 6, none⟩) (ltC hv6) hgF3).trans hv6
 have hv74 := (hch4.fr.cell (p := ⟨w1.heap.size + 1, 7, none⟩) (ltC hv7) hgF3).trans hv7
 have hv84 := (hch4.fr.cell (p := ⟨w1.heap.size + 1, 8, none⟩) (ltC hv8) hgF3).trans hv8
 have hv94 := (hch4.fr.cell (p := ⟨w1.heap.size + 1, 9, none⟩) (ltC hv9) hgF3).trans hv9
 have hv104 := (hch4.fr.cell (p := ⟨w1.heap.size + 1, 10, none⟩) (ltC hv10) hgF3).trans hv10
 have hv114 := (hch4.fr.cell (p := ⟨w1.heap.size + 1, 11, none⟩) (ltC hv11) hgF3).trans hv11
 have hv124 := (hch4.fr.cell (p := ⟨w1.heap.size + 1, 12, none⟩) (ltC hv12) hgF3).trans hv12
 have hn04 := (hch4.fr.cell (p := ⟨w1.heap.size + 1 + 1, 0, none⟩) (ltC hn0) hnF3).trans hn0
 have hn14 := (hch4.fr.cell (p := ⟨w1.heap.size + 1 + 1, 1, none⟩) (ltC hn1) hnF3).trans hn1
 have hn24 := (hch4.fr.cell (p := ⟨w1.heap.size + 1 + 1, 2, none⟩) (ltC hn2) hnF3).trans hn2
 have hn34 := (hch4.fr.cell (p := ⟨w1.heap.size + 1 + 1, 3, none⟩) (ltC hn3) hnF3).trans hn3
 have hn44 := (hch4.fr.cell (p := ⟨w1.heap.size + 1 + 1, 4, none⟩) (ltC hn4) hnF3).trans hn4
 have hn54 := (hch4.fr.cell (p := ⟨w1.heap.size + 1 + 1, 5, none⟩) (ltC hn5) hnF3).trans hn5
 have hn64 := (hch4.fr.cell (p := ⟨w1.heap.size + 1 + 1, 6, none⟩) (ltC hn6) hnF3).trans hn6
 have hn74 := (hch4.fr.cell (p := ⟨w1.heap.size + 1 + 1, 7, none⟩) (ltC hn7) hnF3).trans hn7
 have hn84 := (hch4.fr.cell (p := ⟨w1.heap.size + 1 + 1, 8, none⟩) (ltC hn8) hnF3).trans hn8
 have hn94 := (hch4.fr.cell (p := ⟨w1.heap.size + 1 + 1, 9, none⟩) (ltC hn9) hnF3).trans hn9
 have hn104 := (hch4.fr.cell (p := ⟨w1.heap.size + 1 + 1, 10, none⟩) (ltC hn10) hnF3).trans hn10
 have hn114 := (hch4.fr.cell (p := ⟨w1.heap.size + 1 + 1, 11, none⟩) (ltC hn11) hnF3).trans hn11
 have hn124 := (hch4.fr.cell (p := ⟨w1.heap.size + 1 + 1, 12, none⟩) (ltC hn12) hnF3).trans hn12
 have h14 : w4.cell? ⟨w1.heap.size, 1, none⟩ = some (.pointer (some ⟨b, 0, none⟩)) := (hch4.fr.cell (p := ⟨w1.heap.size, 1, none⟩) hl1 hcF3).trans h1
 have hrb4 : w4.heap[w.heap.size]? = some (.cells #[.int .u32 0, .int .u32 0, .int .u32 0, .int .u32 0, .int .u8 0, .int .u32 0, .int .u32 0, .int .u32 0, .int .u32 0, .slice none 0 0, .string ⟨#[]⟩, .int .u8 0, .slice none 0 0] 35) := (hch4.fr.block w.heap.size (by omega) ((uh H3).2.1.nF (by have := (uh H2).2.2; omega) (uh H3).2.2.2.2.2)).trans hrb3
 have HE := hid (done_any (q'.named n_end) b F3 E w4 hR4 (Q.named_ok (uh H3).2.2.2.2.1 n_end) ((uh H3).1.g7.fr hch4.fr (uh H3).1.lo).gl)
 have hs4 : Stp w3 w4 F3 F3 (fun _ _ => False) := Stp.of_ch hch4 _
 have hf04 : Fr (fun _ => False) w w4 := (uh H3).2.2.2.1.trans hch4.fr (fun k hk hx => by
  rcases (uh H3).2.1.new k hx with h | h
  ·have := (uh H1).2.2 k h; omega
  ·have := (uh H1).2.1.size; have := (uh H2).2.2; omega)
 have H4 := hid (And.intro hs4 hf04)
 clear hR4 hch4 hs4 hf04 hgF3 hnF3 hcF3
 go_wp2_with fail
 refine (uh HE).mono ?_
 rintro e w5 ⟨err, rfl, hEr, hf5⟩
 have hrb5 : w5.heap[w.heap.size]? = some (.cells #[.int .u32 0, .int .u32 0, .int .u32 0, .int .u32 0, .int .u8 0, .int .u32 0, .int .u32 0, .int .u32 0, .int .u32 0, .slice none 0 0, .string ⟨#[]⟩, .int .u8 0, .slice none 0 0] 35) := (hf5.block w.heap.size (by have := (uh H4).1.size; have := (uh H3).2.1.size; have := (uh H2).2.2; omega) (fun h => h)).trans hrb4
 have hv05 := (hf5.cell (p := ⟨w1.heap.size + 1, 0, none⟩) (ltC hv04) (fun h => h)).trans hv04
 have hn05 := (hf5.cell (p := ⟨w1.heap.size + 1 + 1, 0, none⟩) (ltC hn04) (fun h => h)).trans hn04
 have hv15 := (hf5.cell (p := ⟨w1.heap.size + 1, 1, none⟩) (ltC hv14) (fun h => h)).trans hv14
 have hn15 := (hf5.cell (p := ⟨w1.heap.size + 1 + 1, 1, none⟩) (ltC hn14) (fun h => h)).trans hn14
 have hv25 := (hf5.cell (p := ⟨w1.heap.size + 1, 2, none⟩) (ltC hv24) (fun h => h)).trans hv24
 have hn25 := (hf5.cell (p := ⟨w1.heap.size + 1 + 1, 2, none⟩) (ltC hn24) (fun h => h)).trans hn24
 have hv35 := (hf5.cell (p := ⟨w1.heap.size + 1, 3, none⟩) (ltC hv34) (fun h => h)).trans hv34
 have hn35 := (hf5.cell (p := ⟨w1.heap.size + 1 + 1, 3, none⟩) (ltC hn34) (fun h => h)).trans hn34
 have hv45 := (hf5.cell (p := ⟨w1.heap.size + 1, 4, none⟩) (ltC hv44) (fun h => h)).trans hv44
 have hn45 := (hf5.cell (p := ⟨w1.heap.size + 1 + 1, 4, none⟩) (ltC hn44) (fun h => h)).trans hn44
 have hv55 := (hf5.cell (p := ⟨w1.heap.size + 1, 5, none⟩) (ltC hv54) (fun h => h)).trans hv54
 have hn55 := (hf5.cell (p := ⟨w1.heap.size + 1 + 1, 5, none⟩) (ltC hn54) (fun h => h)).trans hn54
 have hv65 := (hf5.cell (p := ⟨w1.heap.size + 1, 6, none⟩) (ltC hv64) (fun h => h)).trans hv64
 have hn65 := (hf5.cell (p := ⟨w1.heap.size + 1 + 1, 6, none⟩) (ltC hn64) (fun h => h)).trans hn64
 have hv75 := (hf5.cell (p := ⟨w1.heap.size + 1, 7, none⟩) (ltC hv74) (fun h => h)).trans hv74
 have hn75 := (hf5.cell (p := ⟨w1.heap.size + 1 + 1, 7, none⟩) (ltC hn74) (fun h => h)).trans hn74
 have hv85 := (hf5.cell (p := ⟨w1.heap.size + 1, 8, none⟩) (ltC hv84) (fun h => h)).trans hv84
 have hn85 := (hf5.cell (p := ⟨w1.heap.size + 1 + 1, 8, none⟩) (ltC hn84) (fun h => h)).trans hn84
 have hv95 := (hf5.cell (p := ⟨w1.heap.size + 1, 9, none⟩) (ltC hv94) (fun h => h)).trans hv94
 have hn95 := (hf5.cell (p := ⟨w1.heap.size + 1 + 1, 9, none⟩) (ltC hn94) (fun h => h)).trans hn94
 have hv105 := (hf5.cell (p := ⟨w1.heap.size + 1, 10, none⟩) (ltC hv104) (fun h => h)).trans hv104
 have hn105 := (hf5.cell (p := ⟨w1.heap.size + 1 + 1, 10, none⟩) (ltC hn104) (fun h => h)).trans hn104
 have hv115 := (hf5.cell (p := ⟨w1.heap.size + 1, 11, none⟩) (ltC hv114) (fun h => h)).trans hv114
 have hn115 := (hf5.cell (p := ⟨w1.heap.size + 1 + 1, 11, none⟩) (ltC hn114) (fun h => h)).trans hn114
 have hv125 := (hf5.cell (p := ⟨w1.heap.size + 1, 12, none⟩) (ltC hv124) (fun h => h)).trans hv124
 have hn125 := (hf5.cell (p := ⟨w1.heap.size + 1 + 1, 12, none⟩) (ltC hn124) (fun h => h)).trans hn124
 have hr05 : w5.cell? ⟨w.heap.size, 0, none⟩ = some (.int .u32 0) := by simp [World.cell?, hrb5]
 have hr15 : w5.cell? ⟨w.heap.size, 1, none⟩ = some (.int .u32 0) := by simp [World.cell?, hrb5]
 have hr25 : w5.cell? ⟨w.heap.size, 2, none⟩ = some (.int .u32 0) := by simp [World.cell?, hrb5]
 have hr35 : w5.cell? ⟨w.heap.size, 3, none⟩ = some (.int .u32 0) := by simp [World.cell?, hrb5]
 have hr45 : w5.cell? ⟨w.heap.size, 4, none⟩ = some (.int .u8 0) := by simp [World.cell?, hrb5]
 have hr55 : w5.cell? ⟨w.heap.size, 5, none⟩ = some (.int .u32 0) := by simp [World.cell?, hrb5]
 have hr65 : w5.cell? ⟨w.heap.size, 6, none⟩ = some (.int .u32 0) := by simp [World.cell?, hrb5]
 have hr75 : w5.cell? ⟨w.heap.size, 7, none⟩ = some (.int .u32 0) := by simp [World.cell?, hrb5]
 have hr85 : w5.cell? ⟨w.heap.size, 8, none⟩ = some (.int .u32 0) := by simp [World.cell?, hrb5]
 have hr95 : w5.cell? ⟨w.heap.size, 9, none⟩ = some (.slice none 0 0) := by simp [World.cell?, hrb5]
 have hr105 : w5.cell? ⟨w.heap.size, 10, none⟩ = some (.string ⟨#[]⟩) := by simp [World.cell?, hrb5]
 have hr115 : w5.cell? ⟨w.heap.size, 11, none⟩ = some (.int .u8 0) := by simp [World.cell?, hrb5]
 have hr125 : w5.cell? ⟨w.heap.size, 12, none⟩ = some (.slice none 0 0) := by simp [World.cell?, hrb5]
 have hrz5 : ∀ i, w5.frozen? ⟨w.heap.size, i, none⟩ = false := fun i => by simp [World.frozen?, hrb5]
 have hrl5 := ltC hr05
 have hlv5 := ltC hv05
 have hln5 := ltC hn05
 have hnr1 : w1.heap.size + 1 ≠ w.heap.size := by omega
 have hnr2 : w1.heap.size + 1 + 1 ≠ w.heap.size := by omega
 have hsF : ∀ (i : Nat) v W, Fr (fun k => k = w.heap.size) w5 W → Fr (fun k => k = w.heap.size) w5 (W.setCell ⟨w.heap.size, i, none⟩ v) := fun i v W h => h.setCell (.inl rfl) v
 have H5 := hid (And.intro hf5 (hEr))
 rcases hEr with ⟨h0, rfl⟩ | ⟨h1', h7, fb, rfl, hb⟩
 ·clear hf5
  go_wp2_with fail
  refine bodyPost_ret (v := .tuple #[.agg #[v0, v1, v2, v3, v4, v5, v6, v7, v8, v9, v10, v11, v12], .nilIface]) (by simp [results, Tryz.results79, go_sem, hr05, hr15, hr25, hr35, hr45, hr55, hr65, hr75, hr85, hr95, hr105, hr115, hr125]) rfl ?_
  have hfin : q'.fin.2.2 = 0 := h0
  refine ⟨_, _, rfl, .inl ⟨hfin, rfl⟩, fun h => absurd hfin h, fun _ => ⟨F3, w1.heap.size + 1, ?_, by omega⟩, ?_⟩
  ·have hR5 := (uh H).2.1 _ _ _ _ _ _ _ ((uh H).2.1 _ _ _ _ _ _ _ (uh H3).2.2.1 (uh H4).1 (fun _ _ h => h.elim)) (Stp.of_fr (uh H5).1 F3 (fun _ _ => False)) (fun _ _ h => h.elim)
   exact (uh H).2.1 _ _ _ _ _ _ _ hR5 ((((((((((((((Stp.refl w5 F3 (fun k _ => k = w.heap.size)).trans (Stp.set w.heap.size 0 _) (fun k j _ h => h.1)).trans (Stp.set w.heap.size 1 _) (fun k j _ h => h.1)).trans (Stp.set w.heap.size 2 _) (fun k j _ h => h.1)).trans (Stp.set w.heap.size 3 _) (fun k j _ h => h.1)).trans (Stp.set w.heap.size 4 _) (fun k j _ h => h.1)).trans (Stp.set w.heap.size 5 _) (fun k j _ h => h.1)).trans (Stp.set w.heap.size 6 _) (fun k j _ h => h.1)).trans (Stp.set w.heap.size 7 _) (fun k j _ h => h.1)).trans (Stp.set w.heap.size 8 _) (fun k j _ h => h.1)).trans (Stp.set w.heap.size 9 _) (fun k j _ h => h.1)).trans (Stp.set w.heap.size 10 _) (fun k j _ h => h.1)).trans (Stp.set w.heap.size 11 _) (fun k j _ h => h.1)).trans (Stp.set w.heap.size 12 _) (fun k j _ h => h.1)) (fun k j h => h)
  ·exact ((((((((((((((uh H4).2.trans (uh H5).1 (fun _ _ h => h)).setCell (.inr (Nat.le_refl _)) _).setCell (.inr (Nat.le_refl _)) _).setCell (.inr (Nat.le_refl _)) _).setCell (.inr (Nat.le_refl _)) _).setCell (.inr (Nat.le_refl _)) _).setCell (.inr (Nat.le_refl _)) _).setCell (.inr (Nat.le_refl _)) _).setCell (.inr (Nat.le_refl _)) _).setCell (.inr (Nat.le_refl _)) _).setCell (.inr (Nat.le_refl _)) _).setCell (.inr (Nat.le_refl _)) _).setCell (.inr (Nat.le_refl _)) _).setCell (.inr (Nat.le_refl _)) _
 ·have hfb : fb ≠ w.heap.size := fun e => by rw [e, hrb5] at hb; simp [faultObj] at hb
  have HB5 := hid hb
  clear hf5 hb
  go_wp2_with fail
  refine bodyPost_ret (v := .tuple #[.agg #[.int .u32 0, .int .u32 0, .int .u32 0, .int .u32 0, .int .u8 0, .int .u32 0, .int .u32 0, .int .u32 0, .int .u32 0, .slice none 0 0, .string ⟨#[]⟩, .int .u8 0, .slice none 0 0], .iface 78 (.pointer (some ⟨fb, 0, none⟩))]) (by simp [results, Tryz.results79, go_sem, hr05, hr15, hr25, hr35, hr45, hr55, hr65, hr75, hr85, hr95, hr105, hr115, hr125]) rfl ?_
  have hfin : q'.fin.2.2 ≠ 0 := fun e => by have : 1 ≤ q'.fin.2.2 := h1'; omega
  refine ⟨_, _, rfl, .inr ⟨h1', h7, fb, rfl, ?_⟩, fun _ => rfl, fun h => absurd h hfin, ?_⟩
  ·rw [Below.heap_setCell _ _ _ _ hfb, Below.heap_setCell _ _ _ _ hfb, Below.heap_setCell _ _ _ _ hfb, Below.heap_setCell _ _ _ _ hfb, Below.heap_setCell _ _ _ _ hfb, Below.heap_setCell _ _ _ _ hfb, Below.heap_setCell _ _ _ _ hfb, Below.heap_setCell _ _ _ _ hfb, Below.heap_setCell _ _ _ _ hfb, Below.heap_setCell _ _ _ _ hfb, Below.heap_setCell _ _ _ _ hfb, Below.heap_setCell _ _ _ _ hfb, Below.heap_setCell _ _ _ _ hfb]
   exact uh HB5
  ·exact ((((((((((((((uh H4).2.trans (uh H5).1 (fun _ _ h => h)).setCell (.inr (Nat.le_refl _)) _).setCell (.inr (Nat.le_refl _)) _).setCell (.inr (Nat.le_refl _)) _).setCell (.inr (Nat.le_refl _)) _).setCell (.inr (Nat.le_refl _)) _).setCell (.inr (Nat.le_refl _)) _).setCell (.inr (Nat.le_refl _)) _).setCell (.inr (Nat.le_refl _)) _).setCell (.inr (Nat.le_refl _)) _).setCell (.inr (Nat.le_refl _)) _).setCell (.inr (Nat.le_refl _)) _).setCell (.inr (Nat.le_refl _)) _).setCell (.inr (Nat.le_refl _)) _
end Go.Proofs.YtlphcgfmjhbeoaaGreatDoor
