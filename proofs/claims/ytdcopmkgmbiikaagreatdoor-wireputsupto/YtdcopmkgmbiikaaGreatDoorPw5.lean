import Derived.Test.YtdcopmkgmbiikaaGreatDoorPw4
import Derived.Test.YtdcopmkgmbiikaaGreatDoorPw2
import Derived.Test.YtdcopmkgmbiikaaGreatDoorPw3
namespace Go.Proofs.YtdcopmkgmbiikaaGreatDoor
open Go.RowKit
variable {L : List Nat}
theorem CS.pForm_sm (c : CS) (k : Nat) : c.sm (c.pForm k) := CS.pU8_sm _ _ _ _
theorem AnC.stp {w w' : World} {g o : Nat} {v : AnM} {x y : Value} {F F' : Nat → Prop} {P : Nat → Nat → Prop} (h : AnC w g o v x y) (hs : Stp w w' F F' P) (hg : ¬ F g) (hP : ∀ i, i < 7 → ¬ P g (o + i)) : AnC w' g o v x y :=
 ⟨(hs.oth g o (ltC h.c0) hg (hP 0 (by decide))).trans h.c0, (hs.oth g (o + 1) (ltC h.c0) hg (hP 1 (by decide))).trans h.c1, (hs.oth g (o + 2) (ltC h.c0) hg (hP 2 (by decide))).trans h.c2, (hs.oth g (o + 3) (ltC h.c0) hg (hP 3 (by decide))).trans h.c3, (hs.oth g (o + 4) (ltC h.c0) hg (hP 4 (by decide))).trans h.c4, (hs.oth g (o + 5) (ltC h.c0) hg (hP 5 (by decide))).trans h.c5, (hs.oth g (o + 6) (ltC h.c0) hg (hP 6 (by decide))).trans h.c6⟩
theorem EvC.stp {w w' : World} {g o : Nat} {v : EvM} {x y : Value} {F F' : Nat → Prop} {P : Nat → Nat → Prop} (h : EvC w g o v x y) (hs : Stp w w' F F' P) (hg : ¬ F g) (hP : ∀ i, i < 13 → ¬ P g (o + i)) : EvC w' g o v x y :=
 ⟨(hs.oth g o (ltC h.c0) hg (hP 0 (by decide))).trans h.c0, h.r.stp hs hg (fun i hi => by have := hP (1 + i) (by omega); rwa [← Nat.add_assoc] at this), (hs.oth g (o + 11) (ltC h.c0) hg (hP 11 (by decide))).trans h.c11, (hs.oth g (o + 12) (ltC h.c0) hg (hP 12 (by decide))).trans h.c12⟩
set_option maxRecDepth 100000 in
set_option maxHeartbeats 2000000 in
theorem whole_Request (c : CS) (v : RqM) (x : Value) (cb b g : Nat) (F : Nat → Prop) (E : Nat → Addr) (w : World) (h : Cd w cb b F c E) (hp : RqC w g 0 v x) (hX : FdX w c x v.fs F g) (hL : ∀ i, Loc w cb F g i) (hv : v.ok) (hroom : c.room 221) :
  Calls Tryz.prog 68 #[.pointer (some ⟨cb, 0, none⟩), .iface 157 (.pointer (some ⟨g, 0, none⟩))] w fun e w' => e = .returned (.tuple #[]) ∧ ∃ F' x', Cd w' cb b F' ((c.pForm 1).pRequest v).1 E ∧ RqC w' g 0 { ((c.pForm 1).pRequest v).2 with fs := v.fs } x' ∧ FdO w w' c x x' ((c.pForm 1).pRequest v).2.fs F' ∧ Stp w w' F F' (cellsAt g 0 10) := by
 have t0 := Tryz.wh_Request
 have HF := hid (form_any c 1 cb b F E w h (by decide) (by simp only [CS.room] at *; omega))
 have hgF := (hL 0).nF
 have hM := c.pForm_sm 1
 have H := hid (And.intro hp (And.intro hL hX))
 clear h hp hL hX
 go_enter Tryz.func68, Tryz.ntmps68
 go_wp2_with fail
 refine (uh HF).mono ?_
 rintro e w1 ⟨rfl, F1, hC1, hs1⟩
 have HH := hid (request_any (c.pForm 1) v x cb b g 0 F1 E w1 hC1 ((uh H).1.stp hs1 hgF (fun _ _ h => h)) ((uh H).2.2.stp (c' := c.pForm 1) hs1 (fun _ _ _ h => h.elim) hM.1 hM.2) (fun i => ((uh H).2.1 i).stp hs1) hv (CS.pForm_room (by simp only [CS.room] at *; omega) 1))
 have H1 := hid hs1
 clear hC1 hs1
 go_wp2_with fail
 refine (uh HH).mono ?_
 rintro e w2 ⟨rfl, F2, x2, hC2, hr2, ho2, hs2⟩
 have H2 := hid (And.intro hC2 (And.intro (hr2) (And.intro (ho2.of hM (uh H1).size) (((uh H1).mono (fun _ _ _ h => h.elim)).trans hs2 (fun _ _ _ h => h)))))
 clear hC2 hr2 ho2 hs2
 go_wp2_with fail
 go_end0
 exact ⟨rfl, F2, x2, uh H2⟩
set_option maxRecDepth 100000 in
set_option maxHeartbeats 2000000 in
theorem whole_Answer (c : CS) (v : AnM) (x y : Value) (cb b g : Nat) (F : Nat → Prop) (E : Nat → Addr) (w : World) (h : Cd w cb b F c E) (hp : AnC w g 0 v x y) (hX : FdX w c x v.fs F g) (hY : SuX w c y v.hi F g) (hL : ∀ i, Loc w cb F g i) (hv : v.ok) (hroom : c.room 501) :
  Calls Tryz.prog 68 #[.pointer (some ⟨cb, 0, none⟩), .iface 158 (.pointer (some ⟨g, 0, none⟩))] w fun e w' => e = .returned (.tuple #[]) ∧ ∃ F' x' y', Cd w' cb b F' ((c.pForm 2).pAnswer v).1 E ∧ AnC w' g 0 ((c.pForm 2).pAnswer v).2 x' y' ∧ FdO w w' c x x' ((c.pForm 2).pAnswer v).2.fs F' ∧ SuO w w' c y y' ((c.pForm 2).pAnswer v).2.hi F' ∧ Stp w w' F F' (cellsAt g 0 7) := by
 have t0 := Tryz.wh_Answer
 have t1 := Tryz.wm_Answer_Request
 have HF := hid (form_any c 2 cb b F E w h (by decide) (by simp only [CS.room] at *; omega))
 have hgF := (hL 0).nF
 have hM := c.pForm_sm 2
 have H := hid (And.intro hp (And.intro hL (And.intro hX hY)))
 clear h hp hL hX hY
 go_enter Tryz.func68, Tryz.ntmps68
 go_wp2_with fail
 refine (uh HF).mono ?_
 rintro e w1 ⟨rfl, F1, hC1, hs1⟩
 have HH := hid (answer_any (c.pForm 2) v x y cb b g 0 F1 E w1 hC1 ((uh H).1.stp hs1 hgF (fun _ _ h => h)) ((uh H).2.2.1.stp (c' := c.pForm 2) hs1 (fun _ _ _ h => h.elim) hM.1 hM.2) ((uh H).2.2.2.stp (c' := c.pForm 2) hs1 (fun _ _ _ h => h.elim) hM) (fun i => ((uh H).2.1 i).stp hs1) hv (CS.pForm_room (by simp only [CS.room] at *; omega) 2))
 have H1 := hid hs1
 clear hC1 hs1
 go_wp2_with fail
 refine (uh HH).mono ?_
 rintro e w2 ⟨rfl, F2, x2, y2, hC2, hr2, ho2, hq2, hs2⟩
 have H2 := hid (And.intro hC2 (And.intro (hr2) (And.intro (ho2.of hM (uh H1).size) (And.intro (hq2.of hM (uh H1).size) (((uh H1).mono (fun _ _ _ h => h.elim)).trans hs2 (fun _ _ _ h => h))))))
 clear hC2 hr2 ho2 hq2 hs2
 go_wp2_with fail
 go_end0
 exact ⟨rfl, F2, x2, y2, uh H2⟩
set_option maxRecDepth 100000 in
set_option maxHeartbeats 2000000 in
theorem whole_Event (c : CS) (v : EvM) (x y : Value) (cb b g : Nat) (F : Nat → Prop) (E : Nat → Addr) (w : World) (h : Cd w cb b F c E) (hp : EvC w g 0 v x y) (hX : FdX w c x v.rq.fs F g) (hY : BVg w y v.dg F g) (hL : ∀ i, Loc w cb F g i) (hv : v.ok) (hroom : c.room 231) :
  Calls Tryz.prog 68 #[.pointer (some ⟨cb, 0, none⟩), .iface 210 (.pointer (some ⟨g, 0, none⟩))] w fun e w' => e = .returned (.tuple #[]) ∧ ∃ F' x' y', Cd w' cb b F' ((c.pForm 3).pEvent v).1 E ∧ EvC w' g 0 { ((c.pForm 3).pEvent v).2 with rq := { ((c.pForm 3).pEvent v).2.rq with fs := v.rq.fs } } x' y' ∧ FdO w w' c x x' ((c.pForm 3).pEvent v).2.rq.fs F' ∧ BO w w' c y' ((c.pForm 3).pEvent v).2.dg F' g ∧ Stp w w' F F' (cellsAt g 0 13) := by
 have t0 := Tryz.wh_Event
 have t1 := Tryz.wm_Event_Request
 have t2 := Tryz.wm_Event_Answer
 have HF := hid (form_any c 3 cb b F E w h (by decide) (by simp only [CS.room] at *; omega))
 have hgF := (hL 0).nF
 have hM := c.pForm_sm 3
 have H := hid (And.intro hp (And.intro hL (And.intro hX hY)))
 clear h hp hL hX hY
 go_enter Tryz.func68, Tryz.ntmps68
 go_wp2_with fail
 refine (uh HF).mono ?_
 rintro e w1 ⟨rfl, F1, hC1, hs1⟩
 have HH := hid (event_any (c.pForm 3) v x y cb b g 0 F1 E w1 hC1 ((uh H).1.stp hs1 hgF (fun _ _ h => h)) ((uh H).2.2.1.stp (c' := c.pForm 3) hs1 (fun _ _ _ h => h.elim) hM.1 hM.2) ((uh H).2.2.2.stp hs1 (fun _ _ _ h => h.elim)) (fun i => ((uh H).2.1 i).stp hs1) hv (CS.pForm_room (by simp only [CS.room] at *; omega) 3))
 have H1 := hid hs1
 clear hC1 hs1
 go_wp2_with fail
 refine (uh HH).mono ?_
 rintro e w2 ⟨rfl, F2, x2, y2, hC2, hr2, ho2, hq2, hs2⟩
 have H2 := hid (And.intro hC2 (And.intro (hr2) (And.intro (ho2.of hM (uh H1).size) (And.intro (hq2.mode (w0 := w) (c := c) (uh H1).size (by rintro q rfl; exact ⟨_, rfl⟩)) (((uh H1).mono (fun _ _ _ h => h.elim)).trans hs2 (fun _ _ _ h => h))))))
 clear hC2 hr2 ho2 hq2 hs2
 go_wp2_with fail
 go_end0
 exact ⟨rfl, F2, x2, y2, uh H2⟩
theorem sm_wq {s : Wq} {c : CS} (h : (CS.wr s).sm c) : c = .wr c.wq := by
 cases c with
 | wr s' => rfl
 | rd q => obtain ⟨_, e⟩ := h.2 q rfl; cases e
theorem loopW_sm {α : Type} (each : CS → α → CS × α) (he : ∀ (c : CS) (v : α), c.sm (each c v).1) : ∀ (xs : List α) (c : CS), c.sm (loopW each c xs)
 | [], c => CS.sm_refl c
 | x :: xs, c => CS.sm_trans (he c x) (loopW_sm each he xs _)
theorem loopR_sm {α : Type} (each : CS → α → CS × α) (z : α) (he : ∀ (c : CS) (v : α), c.sm (each c v).1) (c : CS) : ∀ n, c.sm (loopR each z n c).1
 | 0 => CS.sm_refl c
 | n + 1 => CS.sm_trans (loopR_sm each z he c n) (he _ _)
theorem loopW_room4 : ∀ (xs : List SuM) {c : CS} {n : Nat}, c.room (n + 4 * xs.length) → (loopW (fun c v => c.pSummary v) c xs).room n
 | [], c, n, h => by simpa [loopW] using h
 | x :: xs, c, n, h => loopW_room4 xs (CS.pSummary_room (n := n + 4 * xs.length) (CS.room_le h (by simp; omega)) x)
theorem CS.pInt_sm (c : CS) (nm : ByteArray) (m : Int) (rs : List (Int → Nat)) (v : Nat) : c.sm (c.pInt nm m rs v).1 := by
 cases c with
 | wr s => exact CS.sm_wr _ _
 | rd q => exact CS.sm_rd _ _
theorem CS.pHist_sm (c : CS) (l : List SuM) : c.sm (c.pHist l).1 := by
 cases c with
 | wr s => exact CS.sm_trans (CS.pInt_sm _ _ _ _ _) (loopW_sm _ CS.pSummary_sm _ _)
 | rd q => exact CS.sm_trans (CS.pInt_sm _ _ _ _ _) (loopR_sm _ _ CS.pSummary_sm _ _)
theorem CS.pHist_room (s : Wq) {n : Nat} (h : (CS.wr s).room (n + 257)) (l : List SuM) : ((CS.wr s).pHist l).1.room n := by
 have h1 := CS.pInt_room (c := .wr s) (n := n + 256) h n_history 64 (lrs 64 []) l.length
 exact loopW_room4 _ (CS.room_le h1 (by simp; omega))
theorem CS.pAnswer_sm (c : CS) (v : AnM) : c.sm (c.pAnswer v).1 := CS.sm_trans (CS.sm_trans (CS.sm_trans (CS.sm_trans (CS.sm_trans (c.pId_sm _) (CS.pU8_sm _ _ _ _)) (CS.pU32_sm _ _ _ _)) (CS.pU32_sm _ _ _ _)) (CS.pFields_sm _ _ _ _)) (CS.pHist_sm _ _)
theorem CS.pHash_sm2 (c : CS) (nm : ByteArray) (v : List Nat) : c.sm (c.pHash nm v).1 := by
 cases c with
 | wr s => exact CS.sm_wr _ _
 | rd q => exact CS.sm_rd _ _
theorem CS.pEvent_sm (c : CS) (v : EvM) : c.sm (c.pEvent v).1 := CS.sm_trans (CS.sm_trans (CS.sm_trans (CS.pU32_sm _ _ _ _) (CS.pRequest_sm _ _)) (CS.pU8_sm _ _ _ _)) (CS.pHash_sm2 _ _ _)
def requestW (v : RqM) : Wq := ((cw0.pForm 1).pRequest v).1.wq
def answerW (v : AnM) : Wq := ((cw0.pForm 2).pAnswer v).1.wq
def eventW (v : EvM) : Wq := ((cw0.pForm 3).pEvent v).1.wq
theorem requestW_eq (v : RqM) : ((cw0.pForm 1).pRequest v).1 = .wr (requestW v) := sm_wq (CS.sm_trans (CS.pForm_sm cw0 1) (CS.pRequest_sm _ _))
theorem answerW_eq (v : AnM) : ((cw0.pForm 2).pAnswer v).1 = .wr (answerW v) := sm_wq (CS.sm_trans (CS.pForm_sm cw0 2) (CS.pAnswer_sm _ _))
theorem eventW_eq (v : EvM) : ((cw0.pForm 3).pEvent v).1 = .wr (eventW v) := sm_wq (CS.sm_trans (CS.pForm_sm cw0 3) (CS.pEvent_sm _ _))
theorem requestW_room (v : RqM) : (CS.wr (requestW v)).room 0 := by
 rw [← requestW_eq]
 exact CS.pRequest_room (n := 0) (CS.pForm_room (cw0_room 141 (by decide)) 1) v
theorem answerW_room (v : AnM) : (CS.wr (answerW v)).room 0 := by
 rw [← answerW_eq]
 have R0 : (cw0.pForm 2).room 500 := CS.pForm_room (cw0_room 501 (by decide)) 2
 have R1 : ((cw0.pForm 2).a1 v).1.room 498 := CS.pId_room R0 _
 have R2 : ((cw0.pForm 2).a2 v).1.room 497 := CS.pU8_room R1 _ _ _
 have R3 : ((cw0.pForm 2).a3 v).1.room 496 := CS.pU32_room R2 _ _ _
 have R4 : ((cw0.pForm 2).a4 v).1.room 495 := CS.pU32_room R3 _ _ _
 have R5 : ((cw0.pForm 2).a5 v).1.room 366 := CS.pFields_room R4 _ _ _
 have M5 : (cw0.pForm 2).sm ((cw0.pForm 2).a5 v).1 := CS.sm_trans (CS.sm_trans (CS.sm_trans (CS.sm_trans (CS.pId_sm _ _) (CS.pU8_sm _ _ _ _)) (CS.pU32_sm _ _ _ _)) (CS.pU32_sm _ _ _ _)) (CS.pFields_sm _ _ _ _)
 have e := sm_wq (CS.sm_trans (CS.pForm_sm cw0 2) M5)
 show (((cw0.pForm 2).a5 v).1.pHist v.hi).1.room 0
 rw [e] at R5 ⊢
 exact CS.pHist_room _ (CS.room_le R5 (by decide)) _
theorem eventW_room (v : EvM) : (CS.wr (eventW v)).room 0 := by
 rw [← eventW_eq]
 exact CS.pHash_room (CS.pU8_room (CS.pRequest_room (CS.pU32_room (CS.pForm_room (cw0_room 144 (by decide)) 3) _ _ _) _) _ _ _) _ _
structure FdI (w : World) (x : Value) (l : List Fld) : Prop where
 v : ∃ xo xc, x = .slice xo l.length xc ∧ FdV w xo xc l (fun _ => False)
 len : l.length < 9223372036854775808
structure SuI (w : World) (x : Value) (l : List SuM) : Prop where
 v : ∃ xo xc, x = .slice xo l.length xc ∧ SuV w xo xc l (fun _ => False)
 len : l.length < 9223372036854775808
theorem FdI.fr0 {w w1 : World} {x : Value} {l : List Fld} (h : FdI w x l) (hf : Fr (fun _ => False) w w1) : FdI w1 x l := by
 obtain ⟨⟨xo, xc, e, hv⟩, hn⟩ := h
 exact ⟨⟨xo, xc, e, hv.stp (Stp.of_fr hf _ (fun _ _ => False)) (fun _ _ _ _ _ h => h)⟩, hn⟩
theorem SuI.fr0 {w w1 : World} {x : Value} {l : List SuM} (h : SuI w x l) (hf : Fr (fun _ => False) w w1) : SuI w1 x l := by
 obtain ⟨⟨xo, xc, e, hv⟩, hn⟩ := h
 exact ⟨⟨xo, xc, e, hv.stp (Stp.of_fr hf _ (fun _ _ => False)) (fun _ _ _ _ _ h => h)⟩, hn⟩
theorem FdI.fdx {w w1 : World} {x : Value} {l : List Fld} {F : Nat → Prop} {s : Wq} (h : FdI w x l) (hf : Fr (fun _ => False) w w1) (hF : ∀ k, F k → w.heap.size ≤ k) (g : Nat) (hg : w.heap.size ≤ g) : FdX w1 (.wr s) x l F g := by
 obtain ⟨⟨xo, xc, e, hv⟩, hn⟩ := h
 have hv1 := hv.stp (Stp.of_fr hf _ (fun _ _ => False)) (fun _ _ _ _ _ h => h)
 refine ⟨fun _ _ => ⟨xo, xc, e, ⟨hv.cap, fun j f hj => ?_⟩, fun g' o' e' hl => ?_⟩, fun q e => (by cases e), hn⟩
 ·obtain ⟨h0, g', o, h1, _, h3⟩ := hv.el j f hj
  obtain ⟨_, g2, o2, h1', _, h3'⟩ := hv1.el j f hj
  obtain ⟨rfl, rfl⟩ : g2 = g' ∧ o2 = o := by rw [h1] at h1'; injection h1' with e1; injection e1 with e2 e3; exact ⟨e2.symm, e3.symm⟩
  have hlt : g2 < w.heap.size := ltC h3.1
  exact ⟨h0, g2, o2, h1, fun hx => by have := hF g2 hx; omega, h3'⟩
 ·obtain ⟨f, hj⟩ : ∃ f, l[0]? = some f := by cases l with
   | nil => exact absurd rfl hl
   | cons a t => exact ⟨a, rfl⟩
  obtain ⟨_, g2, o2, h1, _, h3⟩ := hv.el 0 f hj
  rw [e'] at h1
  injection h1 with e1
  injection e1 with e2 e3
  have hlt : g2 < w.heap.size := ltC h3.1
  omega
theorem SuI.sux {w w1 : World} {x : Value} {l : List SuM} {F : Nat → Prop} {s : Wq} (h : SuI w x l) (hf : Fr (fun _ => False) w w1) (hF : ∀ k, F k → w.heap.size ≤ k) (g : Nat) (hg : w.heap.size ≤ g) : SuX w1 (.wr s) x l F g := by
 obtain ⟨⟨xo, xc, e, hv⟩, hn⟩ := h
 have hv1 := hv.stp (Stp.of_fr hf _ (fun _ _ => False)) (fun _ _ _ _ _ h => h)
 refine ⟨fun _ _ => ⟨xo, xc, e, ⟨hv.cap, fun j f hj => ?_⟩, fun g' o' e' hl => ?_⟩, fun q e => (by cases e), hn⟩
 ·obtain ⟨h0, g', o, h1, _, h3⟩ := hv.el j f hj
  obtain ⟨_, g2, o2, h1', _, h3'⟩ := hv1.el j f hj
  obtain ⟨rfl, rfl⟩ : g2 = g' ∧ o2 = o := by rw [h1] at h1'; injection h1' with e1; injection e1 with e2 e3; exact ⟨e2.symm, e3.symm⟩
  have hlt : g2 < w.heap.size := ltC h3.1
  exact ⟨h0, g2, o2, h1, fun hx => by have := hF g2 hx; omega, h3'⟩
 ·obtain ⟨f, hj⟩ : ∃ f, l[0]? = some f := by cases l with
   | nil => exact absurd rfl hl
   | cons a t => exact ⟨a, rfl⟩
  obtain ⟨_, g2, o2, h1, _, h3⟩ := hv.el 0 f hj
  rw [e'] at h1
  injection h1 with e1
  injection e1 with e2 e3
  have hlt : g2 < w.heap.size := ltC h3.1
  omega
def RqM.vals (v : RqM) (x : Value) : Array Value := #[.int .u32 (v.cl : Nat), .int .u32 (v.nu : Nat), .int .u32 (v.ac : Nat), .int .u8 (v.op : Nat), .int .u32 (v.re : Nat), .int .u32 (v.ve : Nat), .int .u32 (v.wa : Nat), .int .u32 (v.ow : Nat), x, .string v.rs]
def AnM.vals (v : AnM) (x y : Value) : Array Value := #[.int .u32 (v.cl : Nat), .int .u32 (v.nu : Nat), .int .u8 (v.co : Nat), .int .u32 (v.re : Nat), .int .u32 (v.ve : Nat), x, y]
def EvM.vals (v : EvM) (x y : Value) : Array Value := #[.int .u32 (v.pl : Nat), .int .u32 (v.rq.cl : Nat), .int .u32 (v.rq.nu : Nat), .int .u32 (v.rq.ac : Nat), .int .u8 (v.rq.op : Nat), .int .u32 (v.rq.re : Nat), .int .u32 (v.rq.ve : Nat), .int .u32 (v.rq.wa : Nat), .int .u32 (v.rq.ow : Nat), x, .string v.rq.rs, .int .u8 (v.co : Nat), y]
set_option maxRecDepth 100000 in
theorem putRequest (v : RqM) (x : Value) (E : Nat → Addr) (w : World) (hg : G6 w E) (hw : 9 ≤ w.heap.size) (hx : FdI w x v.fs) (hv : v.ok) :
  Calls Tryz.prog 13 #[.agg (v.vals x)] w fun e w' => PutRes w w' e (requestW v) E := by
 have hr := requestW_room v
 obtain ⟨wb, hwb⟩ : ∃ wb, w.alloc (.cells (v.vals x) 30) = wb := ⟨_, rfl⟩
 have hbx : Fr (fun _ => False) w wb := by rw [← hwb]; exact box1 _ _
 have hx' := hx.fr0 hbx
 have hp := put_Request (v.vals x) (requestW v) E wb (hg.fr hbx (fun _ h => h.elim)) (by have := hbx.size; omega) (fun w1 cb b F hC hcs hL hF hf => by
  have hF' : ∀ k, F k → wb.heap.size ≤ k := fun k hk => by have := hF k hk; omega
  refine (whole_Request cw0 v x cb b wb.heap.size F E w1 hC ⟨hcs 0 _ rfl, hcs 1 _ rfl, hcs 2 _ rfl, hcs 3 _ rfl, hcs 4 _ rfl, hcs 5 _ rfl, hcs 6 _ rfl, hcs 7 _ rfl, hcs 8 _ rfl, hcs 9 _ rfl⟩ (hx'.fdx hf hF' _ (Nat.le_refl _)) hL hv (cw0_room 221 (by decide))).mono ?_
  rintro e w' ⟨rfl, F', _, hC', _, _, hs⟩
  exact ⟨rfl, F', by rw [← requestW_eq]; exact hC', hs.mono (fun k j _ h => h.1)⟩) (room_len hr)
 refine (PutRequest_go _ _ _ _ _ _ _ _ _ _ w (fun e w' => PutRes w w' e (requestW v) E) ?_).mono (fun e w' h => h.2)
 show Calls Tryz.prog 29 #[.agg (v.vals x)] (w.alloc (.cells (v.vals x) 30)) _
 rw [hwb]
 exact hp.mono (fun e w' h => by rw [← hwb] at h; exact PutRes.box h)
set_option maxRecDepth 100000 in
theorem putAnswer (v : AnM) (x y : Value) (E : Nat → Addr) (w : World) (hg : G6 w E) (hw : 9 ≤ w.heap.size) (hx : FdI w x v.fs) (hy : SuI w y v.hi) (hv : v.ok) :
  Calls Tryz.prog 14 #[.agg (v.vals x y)] w fun e w' => PutRes w w' e (answerW v) E := by
 have hr := answerW_room v
 obtain ⟨wb, hwb⟩ : ∃ wb, w.alloc (.cells (v.vals x y) 33) = wb := ⟨_, rfl⟩
 have hbx : Fr (fun _ => False) w wb := by rw [← hwb]; exact box1 _ _
 have hx' := hx.fr0 hbx
 have hy' := hy.fr0 hbx
 have hp := put_Answer (v.vals x y) (answerW v) E wb (hg.fr hbx (fun _ h => h.elim)) (by have := hbx.size; omega) (fun w1 cb b F hC hcs hL hF hf => by
  have hF' : ∀ k, F k → wb.heap.size ≤ k := fun k hk => by have := hF k hk; omega
  refine (whole_Answer cw0 v x y cb b wb.heap.size F E w1 hC ⟨hcs 0 _ rfl, hcs 1 _ rfl, hcs 2 _ rfl, hcs 3 _ rfl, hcs 4 _ rfl, hcs 5 _ rfl, hcs 6 _ rfl⟩ (hx'.fdx hf hF' _ (Nat.le_refl _)) (hy'.sux hf hF' _ (Nat.le_refl _)) hL hv (cw0_room 501 (by decide))).mono ?_
  rintro e w' ⟨rfl, F', _, _, hC', _, _, _, hs⟩
  exact ⟨rfl, F', by rw [← answerW_eq]; exact hC', hs.mono (fun k j _ h => h.1)⟩) (room_len hr)
 refine (PutAnswer_go _ _ _ _ _ _ _ w (fun e w' => PutRes w w' e (answerW v) E) ?_).mono (fun e w' h => h.2)
 show Calls Tryz.prog 30 #[.agg (v.vals x y)] (w.alloc (.cells (v.vals x y) 33)) _
 rw [hwb]
 exact hp.mono (fun e w' h => by rw [← hwb] at h; exact PutRes.box h)
set_option maxRecDepth 100000 in
theorem putEvent (v : EvM) (x y : Value) (E : Nat → Addr) (w : World) (hg : G6 w E) (hw : 9 ≤ w.heap.size) (hx : FdI w x v.rq.fs) (hy : SlI w y v.dg) (hv : v.ok) :
  Calls Tryz.prog 31 #[.agg (v.vals x y)] w fun e w' => PutRes w w' e (eventW v) E := by
 have hr := eventW_room v
 obtain ⟨wb, hwb⟩ : ∃ wb, w.alloc (.cells (v.vals x y) 35) = wb := ⟨_, rfl⟩
 have hbx : Fr (fun _ => False) w wb := by rw [← hwb]; exact box1 _ _
 have hx' := hx.fr0 hbx
 have hy' := hy.fr0 hbx
 have hp := put_Event (v.vals x y) (eventW v) E wb (hg.fr hbx (fun _ h => h.elim)) (by have := hbx.size; omega) (fun w1 cb b F hC hcs hL hF hf => by
  have hF' : ∀ k, F k → wb.heap.size ≤ k := fun k hk => by have := hF k hk; omega
  refine (whole_Event cw0 v x y cb b wb.heap.size F E w1 hC ⟨hcs 0 _ rfl, ⟨hcs 1 _ rfl, hcs 2 _ rfl, hcs 3 _ rfl, hcs 4 _ rfl, hcs 5 _ rfl, hcs 6 _ rfl, hcs 7 _ rfl, hcs 8 _ rfl, hcs 9 _ rfl, hcs 10 _ rfl⟩, hcs 11 _ rfl, hcs 12 _ rfl⟩ (hx'.fdx hf hF' _ (Nat.le_refl _)) (hy'.bvg hf hF' _ (Nat.le_refl _)) hL hv (cw0_room 231 (by decide))).mono ?_
  rintro e w' ⟨rfl, F', _, _, hC', _, _, _, hs⟩
  exact ⟨rfl, F', by rw [← eventW_eq]; exact hC', hs.mono (fun k j _ h => h.1)⟩) (room_len hr)
 refine (PutEvent_go _ _ _ _ _ _ _ _ _ _ _ _ _ w (fun e w' => PutRes w w' e (eventW v) E) ?_).mono (fun e w' h => h.2)
 show Calls Tryz.prog 74 #[.agg (v.vals x y)] (w.alloc (.cells (v.vals x y) 35)) _
 rw [hwb]
 exact hp.mono (fun e w' h => by rw [← hwb] at h; exact PutRes.box h)
end Go.Proofs.YtdcopmkgmbiikaaGreatDoor
namespace Go.Proofs.YtdcopmkgmbiikaaGreatDoor
open Go.RowKit
end Go.Proofs.YtdcopmkgmbiikaaGreatDoor
namespace Go.Proofs.YtdcopmkgmbiikaaGreatDoor
open Go.RowKit
set_option maxRecDepth 100000 in
set_option maxHeartbeats 2000000 in
theorem GetHead_go (xo : Option Addr) (n xc : Nat) (w : World) (Q : World → Array Value → Value → Prop) (h : Calls Tryz.prog 48 #[.slice xo n xc] (w.alloc (.cells #[.int .u32 0, .slice none 0 0] 25)) fun e w' => ∃ v0 v1 err, e = .returned (.tuple #[.agg #[v0, v1], err]) ∧ (∀ v ∈ ([v0, v1] : List Value), v.oneCell' = true) ∧ Fr (fun _ => False) (w.alloc (.cells #[.int .u32 0, .slice none 0 0] 25)) w' ∧ Q w' #[v0, v1] err) :
  Calls Tryz.prog 22 #[.slice xo n xc] w fun e w' => ∃ vs err, e = .returned (.tuple #[.agg vs, err]) ∧ ∃ w2, Q w2 vs err ∧ Fr (fun k => k = w.heap.size) w2 w' ∧ (∀ F, Stp w2 w' F F (fun k _ => k = w.heap.size)) ∧ Fr (fun _ => False) w w' ∧ w2.heap[w.heap.size]? = some (.cells #[.int .u32 0, .slice none 0 0] 25) := by
 have H := hid h
 clear h
 go_enter Tryz.func22, Tryz.ntmps22
 go_wp2_with fail
 refine (uh H).mono ?_
 rintro e w5 ⟨v0, v1, err, rfl, hone, hf5, hq⟩
 have hst0 : ∀ (a : Addr) (m : Mode) (W : World), (store a v0 m).run Tryz.prog W = stored Tryz.prog W a v0 m := fun _ _ _ => run_store _ _ _ _ _ (hone v0 (by simp))
 have hst1 : ∀ (a : Addr) (m : Mode) (W : World), (store a v1 m).run Tryz.prog W = stored Tryz.prog W a v1 m := fun _ _ _ => run_store _ _ _ _ _ (hone v1 (by simp))
 have hrb5 : w5.heap[w.heap.size]? = some (.cells #[.int .u32 0, .slice none 0 0] 25) := (hf5.block w.heap.size (by simp) (fun h => h)).trans (heap_alloc_new _ _)
 have hr05 : w5.cell? ⟨w.heap.size, 0, none⟩ = some (.int .u32 0) := by simp [World.cell?, hrb5]
 have hr15 : w5.cell? ⟨w.heap.size, 1, none⟩ = some (.slice none 0 0) := by simp [World.cell?, hrb5]
 have hrz5 : ∀ i, w5.frozen? ⟨w.heap.size, i, none⟩ = false := fun i => by simp [World.frozen?, hrb5]
 have hrl5 := ltC hr05
 have H5 := hid (And.intro hf5 (And.intro hq hrb5))
 clear hf5 hq hone hrb5
 go_wp2_with fail
 refine bodyPost_ret (v := .tuple #[.agg #[v0, v1], err]) (by simp [results, Tryz.results22, go_sem, hr05, hr15]) rfl ?_
 have hf05 : Fr (fun _ => False) w w5 := (box1 w _).trans (uh H5).1 (fun _ _ h => h)
 exact ⟨_, _, rfl, w5, (uh H5).2.1, ((Fr.refl (fun k => k = w.heap.size) w5).setCell (.inl rfl) _).setCell (.inl rfl) _, fun F => ((Stp.refl w5 F (fun k _ => k = w.heap.size)).trans (Stp.set w.heap.size 0 _) (fun k j _ h => h.1)).trans (Stp.set w.heap.size 1 _) (fun k j _ h => h.1), ((hf05).setCell (.inr (Nat.le_refl _)) _).setCell (.inr (Nat.le_refl _)) _, (uh H5).2.2⟩
theorem own_stp {w w' : World} {lo n e : Nat} {x : Value} {xs : List Value} {F F' : Nat → Prop} {P : Nat → Nat → Prop} (h : w.ownsRow lo e 1 x n xs) (hn : ∀ k, x.ownBlock = some k → ¬ F k) (hs : Stp w w' F F' P) (hP : ∀ k j, P k j → k < lo) : w'.ownsRow lo e 1 x n xs ∧ ∀ k, x.ownBlock = some k → ¬ F' k :=
 ⟨ownsRow_of_block h (fun k hk => hs.block (h.lt k hk).2 (hn k hk) (fun j hp => by have := hP k j hp; have := (h.lt k hk).1; omega)), fun k hk => hs.nF (h.lt k hk).2 (hn k hk)⟩
theorem BO.own {w0 w : World} {q : Q} {x' : Value} {l' : List Nat} {F : Nat → Prop} {g lo : Nat} (h : BO w0 w (.rd q) x' l' F g) (hlo : lo ≤ w0.heap.size) : w.ownsRow lo 5 1 x' l'.length (cellsOf l') ∧ (∀ k, x'.ownBlock = some k → ¬ F k) ∧ x'.oneCell' = true := by
 have hown := h.val q rfl
 refine ⟨own_mono hown hlo, fun k hk => ?_, ?_⟩
 ·obtain ⟨m, c, e⟩ := own_at hown hk
  exact (h.bv.bv.at_ k 0 m c e).2
 ·obtain ⟨xo, xc, rfl⟩ := h.bv.bv.src.form
  rfl
theorem bvg_nil (w : World) (F : Nat → Prop) (g : Nat) : BVg w (.slice none 0 0) [] F g := ⟨⟨.inl ⟨rfl, rfl⟩, fun _ _ _ _ e => (by cases e)⟩, fun _ _ _ _ e => (by cases e), by decide⟩
theorem own_one {w : World} {lo n : Nat} {x : Value} {xs : List Value} {e : Nat} (h : w.ownsRow lo e 1 x n xs) : x.oneCell' = true := by
 rcases h.2 with ⟨rfl, _⟩ | ⟨g, cap, cur, rfl, _⟩ <;> rfl
theorem errV_fr {w w' : World} {v : Value} {x : ByteArray × Nat × Nat} {E : Nat → Addr} {k0 : Nat} {vs : Array Value} {t : TypeId} (h : ErrV w v x E) (hf : Fr (fun k => k = k0) w w') (hb : w.heap[k0]? = some (.cells vs t)) (hne : t ≠ 83) : ErrV w' v x E := by
 rcases h with h | ⟨h1, h7, fb, rfl, hbb⟩
 ·exact .inl h
 ·have hlt : fb < w.heap.size := by
   rcases Nat.lt_or_ge fb w.heap.size with hx | hx
   ·exact hx
   ·rw [Array.getElem?_eq_none hx] at hbb; cases hbb
  refine .inr ⟨h1, h7, fb, rfl, (hf.block fb hlt (fun e => ?_)).trans hbb⟩
  rw [e, hb] at hbb
  simp [faultObj] at hbb
  exact hne hbb.2
theorem getHead (x : Value) (l : List Nat) (E : Nat → Addr) (w : World) (hg : G6 w E) (hw : 9 ≤ w.heap.size) (hx : Src w x l) (hl : l.length ≤ 140737488355328) :
  Calls Tryz.prog 22 #[x] w fun e w' => ∃ vs err, e = .returned (.tuple #[.agg vs, err]) ∧ ErrV w' err (headR l).1.rq.fin E ∧ ((headR l).1.rq.fin.2.2 ≠ 0 → vs = #[.int .u32 0, .slice none 0 0]) ∧ ((headR l).1.rq.fin.2.2 = 0 → ∃ y, vs = #[.int .u32 ((headR l).2.1 : Nat), y] ∧ w'.ownsRow w.heap.size 5 1 y (headR l).2.2.length (cellsOf (headR l).2.2)) ∧ Fr (fun _ => False) w w' := by
 obtain ⟨xo, xc, rfl⟩ := hx.form
 obtain ⟨wb, hwb⟩ : ∃ wb, w.alloc (.cells #[.int .u32 0, .slice none 0 0] 25) = wb := ⟨_, rfl⟩
 have hbx : Fr (fun _ => False) w wb := by rw [← hwb]; exact box1 _ _
 have hsb : wb.heap.size = w.heap.size + 1 := by rw [← hwb]; simp
 have hp := get_Head _ l (headR l).1.rq (fun w' F _ vs => ∃ y, vs = #[.int .u32 ((headR l).2.1 : Nat), y] ∧ w'.ownsRow (w.heap.size + 2) 5 1 y (headR l).2.2.length (cellsOf (headR l).2.2) ∧ ∀ k, y.ownBlock = some k → ¬ F k) E wb (hg.fr hbx (fun _ h => h.elim)) (by omega) (hx.fr hbx (fun _ _ _ _ _ h => h)) hl
  (fun w2 w' F F' P g vs ⟨y, h1, h2, h3⟩ hs hP => by
   obtain ⟨h4, h5⟩ := own_stp h2 h3 hs (fun k j hp => by have := hP k j hp; omega)
   exact ⟨y, h1, h4, h5⟩)
  (fun w1 cb b F g hC h0 h1 hL hF hgg hf => by
   refine (whole_Head (cr0 l) 0 [] (.slice none 0 0) cb b g F E w1 hC h0 h1 (bvg_nil w1 F g) hL (by decide) (by simp only [CS.room, CS.len, cr0]; omega)).mono ?_
   rintro e w' ⟨rfl, F', hC', hc0, y, hc1, hb, hs⟩
   have hlt := (hL 0).lt
   obtain ⟨ho, hn, h1c⟩ := BO.own (lo := w.heap.size + 2) hb (by omega)
   exact ⟨rfl, F', hC', _, y, hc0, hc1, fun v hv => by
    simp at hv
    rcases hv with rfl | rfl
    ·rfl
    ·exact h1c, ⟨y, rfl, ho, hn⟩, hs.mono (fun k j _ h => h.1)⟩)
 refine (GetHead_go xo l.length xc w (fun w' vs err => ErrV w' err (headR l).1.rq.fin E ∧ ((headR l).1.rq.fin.2.2 ≠ 0 → vs = #[.int .u32 0, .slice none 0 0]) ∧ ((headR l).1.rq.fin.2.2 = 0 → ∃ (y : Value) (F : Nat → Prop), vs = #[.int .u32 ((headR l).2.1 : Nat), y] ∧ w'.ownsRow (w.heap.size + 2) 5 1 y (headR l).2.2.length (cellsOf (headR l).2.2) ∧ ∀ k, y.ownBlock = some k → ¬ F k)) ?_).mono ?_
 ·rw [hwb]
  refine hp.mono ?_
  rintro e w' ⟨vs, err, rfl, hE, hz, hr, hf⟩
  by_cases h0 : (headR l).1.rq.fin.2.2 = 0
  ·obtain ⟨F', g, ⟨y, rfl, ho, hn⟩, _⟩ := hr h0
   exact ⟨_, _, err, rfl, fun v hv => by
    simp at hv
    rcases hv with rfl | rfl
    ·rfl
    ·exact own_one ho, hf, hE, fun h => absurd h0 h, fun _ => ⟨y, F', rfl, ho, hn⟩⟩
  ·obtain rfl := hz h0
   exact ⟨_, _, err, rfl, fun v hv => by
    simp at hv
    rcases hv with rfl | rfl <;> rfl, hf, hE, fun _ => rfl, fun h => absurd h h0⟩
 ·rintro e w' ⟨vs, err, rfl, w2, ⟨hE, hz, hr⟩, hf1, hs, hf, hrb⟩
  refine ⟨vs, err, rfl, errV_fr hE hf1 hrb (by decide), hz, fun h0 => ?_, hf⟩
  obtain ⟨y, F, h1, ho, hn⟩ := hr h0
  exact ⟨y, h1, ownsRow_base (own_stp ho hn (hs F) (fun k j h => by omega)).1 (by omega)⟩
theorem own_one2 {w : World} {lo n z : Nat} {x : Value} {xs : List Value} {e : Nat} (h : w.ownsRow lo e z x n xs) : x.oneCell' = true := by
 rcases h.2 with ⟨rfl, _⟩ | ⟨g, cap, cur, rfl, _⟩ <;> rfl
theorem OwV.fin {w : World} {b b' : Nat} {x : Value} {l : List Fld} {F : Nat → Prop} (h : OwV w b x l F) (hb : b' ≤ b) : OwV w b' x l (fun _ => False) := ⟨fun _ _ h => h, ownsRow_base h.row hb, h.ok⟩
theorem OwZ.fin {w : World} {b b' : Nat} {x : Value} {l : List SuM} {F : Nat → Prop} (h : OwZ w b x l F) (hb : b' ≤ b) : OwZ w b' x l (fun _ => False) := ⟨fun _ _ h => h, ownsRow_base h.row hb, h.ok⟩
structure OwB (w : World) (base : Nat) (x : Value) (l : List Nat) (F : Nat → Prop) : Prop where
 nF : ∀ k, x.ownBlock = some k → ¬ F k
 row : w.ownsRow base 5 1 x l.length (cellsOf l)
theorem OwB.stp {w w' : World} {base : Nat} {x : Value} {l : List Nat} {F F' : Nat → Prop} {P : Nat → Nat → Prop} (h : OwB w base x l F) (hs : Stp w w' F F' P) (hP : ∀ k j, base ≤ k → k < w.heap.size → ¬ P k j) : OwB w' base x l F' :=
 ⟨fun k hk => hs.nF (h.row.lt k hk).2 (h.nF k hk), ownsRow_of_block h.row (fun k hk => hs.block (h.row.lt k hk).2 (h.nF k hk) (fun j => hP k j (h.row.lt k hk).1 (h.row.lt k hk).2))⟩
theorem OwB.fin {w : World} {b b' : Nat} {x : Value} {l : List Nat} {F : Nat → Prop} (h : OwB w b x l F) (hb : b' ≤ b) : OwB w b' x l (fun _ => False) := ⟨fun _ _ h => h, ownsRow_base h.row hb⟩
theorem RqC.fs {w : World} {g o : Nat} (v : RqM) (l : List Fld) {x : Value} (h : RqC w g o { v with fs := l } x) : RqC w g o v x := ⟨h.c0, h.c1, h.c2, h.c3, h.c4, h.c5, h.c6, h.c7, h.c8, h.c9⟩
theorem EvC.fs {w : World} {g o : Nat} (v : EvM) (l : List Fld) {x y : Value} (h : EvC w g o { v with rq := { v.rq with fs := l } } x y) : EvC w g o v x y := ⟨h.c0, h.r.fs v.rq l, h.c11, h.c12⟩
def zRq : RqM := ⟨0, 0, 0, 0, 0, 0, 0, 0, [], ⟨#[]⟩⟩
def zEv : EvM := ⟨0, zRq, 0, []⟩
theorem zRq_ok : zRq.ok := ⟨by decide, by decide, by decide, by decide, by decide, by decide, by decide, by decide, by decide⟩
theorem zEv_ok : zEv.ok := ⟨by decide, zRq_ok, by decide⟩
def RqM.is (v : RqM) : Bool := !(v.cl == 0 && v.nu == 0) || v.ac != 0 || v.op != 0 || v.re != 0 || v.ve != 0 || v.wa != 0 || v.ow != 0 || v.fs.length != 0 || !v.rs.toList.isEmpty
def AnM.is (v : AnM) : Bool := !(v.cl == 0 && v.nu == 0) || v.co != 0 || v.re != 0 || v.ve != 0 || v.fs.length != 0 || v.hi.length != 0
def EvM.is (v : EvM) : Bool := v.pl != 0 || v.rq.is || v.co != 0 || v.dg.length != 0
theorem bne_cast (m : Nat) : (((m : Nat) : Int) != 0) = (m != 0) := by
 rw [Bool.eq_iff_iff]
 simp
set_option maxRecDepth 100000 in
set_option maxHeartbeats 2000000 in
theorem isRequest_any (v : RqM) (xo : Option Addr) (xc : Nat) (w : World) (hv : v.ok) (hn : v.fs.length < 9223372036854775808) : Calls Tryz.prog 163 #[.agg (v.vals (.slice xo v.fs.length xc))] w fun e w' => e = .returned (.bool v.is) ∧ Fr (fun _ => False) w w' := by
 obtain ⟨cl, nu, ac, op, re, ve, wa, ow, fs, rs⟩ := v
 obtain ⟨h1, h2, h3, h4, h5, h6, h7, h8, h9⟩ := hv
 simp only [RqM.vals] at *
 obtain ⟨n, hfs⟩ : ∃ n, fs.length = n := ⟨_, rfl⟩
 rw [hfs] at hn ⊢
 go_enter Tryz.func163, Tryz.ntmps163
 go_wp2_with fail
 all_goals
  go_ret
  refine ⟨?_, box1 _ _⟩
  simp_all [RqM.is]
set_option maxRecDepth 100000 in
set_option maxHeartbeats 2000000 in
theorem isAnswer_any (v : AnM) (xo : Option Addr) (xc : Nat) (yo : Option Addr) (yc : Nat) (w : World) (hv : v.ok) (hn : v.fs.length < 9223372036854775808) (hm : v.hi.length < 9223372036854775808) : Calls Tryz.prog 164 #[.agg (v.vals (.slice xo v.fs.length xc) (.slice yo v.hi.length yc))] w fun e w' => e = .returned (.bool v.is) ∧ Fr (fun _ => False) w w' := by
 obtain ⟨cl, nu, co, re, ve, fs, hi⟩ := v
 obtain ⟨h1, h2, h3, h4, h5⟩ := hv
 simp only [AnM.vals] at *
 obtain ⟨n, hfs⟩ : ∃ n, fs.length = n := ⟨_, rfl⟩
 obtain ⟨m, hhi⟩ : ∃ m, hi.length = m := ⟨_, rfl⟩
 rw [hfs] at hn ⊢
 rw [hhi] at hm ⊢
 go_enter Tryz.func164, Tryz.ntmps164
 go_wp2_with fail
 all_goals
  go_ret
  refine ⟨?_, box1 _ _⟩
  simp_all [AnM.is, bne_cast]
set_option maxRecDepth 100000 in
set_option maxHeartbeats 2000000 in
theorem isEvent_any (v : EvM) (xo : Option Addr) (xc : Nat) (yo : Option Addr) (yc : Nat) (w : World) (hv : v.ok) (hn : v.rq.fs.length < 9223372036854775808) (hm : v.dg.length < 9223372036854775808) : Calls Tryz.prog 165 #[.agg (v.vals (.slice xo v.rq.fs.length xc) (.slice yo v.dg.length yc))] w fun e w' => e = .returned (.bool v.is) ∧ Fr (fun _ => False) w w' := by
 obtain ⟨pl, rq, co, dg⟩ := v
 obtain ⟨h1, h2, h3⟩ := hv
 simp only at h1 h2 h3 hn hm
 have HR : Hid (∀ wx, Calls Tryz.prog 163 #[.agg (rq.vals (.slice xo rq.fs.length xc))] wx fun e w' => e = .returned (.bool rq.is) ∧ Fr (fun _ => False) wx w') := fun wx => isRequest_any rq xo xc wx h2 hn
 obtain ⟨B, hB⟩ : ∃ B, rq.is = B := ⟨_, rfl⟩
 simp only [RqM.vals, hB] at HR
 have HB := hid hB
 clear hB
 simp only [EvM.vals]
 obtain ⟨m, hdg⟩ : ∃ m, dg.length = m := ⟨_, rfl⟩
 rw [hdg] at hm ⊢
 go_enter Tryz.func165, Tryz.ntmps165
 go_wp2_with (first | (go_at_call 163; refine ((uh HR) _).mono ?_; rintro e w1 ⟨rfl, hf1⟩; have hl1 := Nat.lt_of_lt_of_le (show w.heap.size < (w.alloc _).heap.size by simp) hf1.size; have hc11 := (hf1.cell (p := ⟨w.heap.size, 11, none⟩) (by simp) (fun h => h)).trans (show _ = some (Value.int .u8 (co : Nat)) by simp); have hc12 := (hf1.cell (p := ⟨w.heap.size, 12, none⟩) (by simp) (fun h => h)).trans (show _ = some (Value.slice yo m yc) by simp); have HF := hid ((box1 w _).trans hf1 (fun _ _ h => h)); clear hf1))
 all_goals
  go_ret
  refine ⟨?_, ?_⟩
  ·have hB := uh HB
   clear HB HR
   simp_all [EvM.is, bne_cast]
  ·first | exact uh HF | exact box1 _ _
structure MsM where
 kd : Nat
 rq : RqM
 icl : Nat
 inu : Nat
 an : AnM
 co : Nat
 ev : EvM
 le : Nat
structure MsM.ok (v : MsM) : Prop where
 kd : v.kd < 256
 rq : v.rq.ok
 icl : v.icl < 4294967296
 inu : v.inu < 4294967296
 an : v.an.ok
 co : v.co < 256
 ev : v.ev.ok
 le : v.le < 4294967296
structure MsM.lens (v : MsM) : Prop where
 rq : v.rq.fs.length < 9223372036854775808
 an : v.an.fs.length < 9223372036854775808
 hi : v.an.hi.length < 9223372036854775808
 ev : v.ev.rq.fs.length < 9223372036854775808
 dg : v.ev.dg.length < 9223372036854775808
def MsM.is (v : MsM) : Bool := v.rq.is || !(v.icl == 0 && v.inu == 0) || v.an.is || v.co != 0 || v.ev.is || v.le != 0
def zAn : AnM := ⟨0, 0, 0, 0, 0, [], []⟩
def MsM.cut (v : MsM) : MsM := match v.kd with
 | 1 => { v with rq := zRq }
 | 2 => { v with icl := 0, inu := 0 }
 | 3 => { v with an := zAn }
 | 4 => { v with icl := 0, inu := 0, co := 0 }
 | 5 => { v with ev := zEv }
 | 6 => { v with le := 0 }
 | _ => v
def MsM.beside (v : MsM) : Bool := v.cut.is
def MsM.vals (v : MsM) (x0 x1 x2 x3 x4 : Value) : Array Value := #[.int .u8 (v.kd : Nat), .int .u32 (v.rq.cl : Nat), .int .u32 (v.rq.nu : Nat), .int .u32 (v.rq.ac : Nat), .int .u8 (v.rq.op : Nat), .int .u32 (v.rq.re : Nat), .int .u32 (v.rq.ve : Nat), .int .u32 (v.rq.wa : Nat), .int .u32 (v.rq.ow : Nat), x0, .string v.rq.rs, .int .u32 (v.icl : Nat), .int .u32 (v.inu : Nat), .int .u32 (v.an.cl : Nat), .int .u32 (v.an.nu : Nat), .int .u8 (v.an.co : Nat), .int .u32 (v.an.re : Nat), .int .u32 (v.an.ve : Nat), x1, x2, .int .u8 (v.co : Nat), .int .u32 (v.ev.pl : Nat), .int .u32 (v.ev.rq.cl : Nat), .int .u32 (v.ev.rq.nu : Nat), .int .u32 (v.ev.rq.ac : Nat), .int .u8 (v.ev.rq.op : Nat), .int .u32 (v.ev.rq.re : Nat), .int .u32 (v.ev.rq.ve : Nat), .int .u32 (v.ev.rq.wa : Nat), .int .u32 (v.ev.rq.ow : Nat), x3, .string v.ev.rq.rs, .int .u8 (v.ev.co : Nat), x4, .int .u32 (v.le : Nat)]
set_option maxRecDepth 100000 in
set_option maxHeartbeats 4000000 in
theorem beside_0 (v : MsM) (a0 a1 a2 a3 a4 : Option Addr) (c0 c1 c2 c3 c4 : Nat) (w : World) (hv : v.ok) (hn : v.lens) (hk : ∀ i, 1 ≤ i → i ≤ 6 → v.kd ≠ i) : Calls Tryz.prog 145 #[.agg (v.vals (.slice a0 v.rq.fs.length c0) (.slice a1 v.an.fs.length c1) (.slice a2 v.an.hi.length c2) (.slice a3 v.ev.rq.fs.length c3) (.slice a4 v.ev.dg.length c4))] w fun e w' => e = .returned (.bool v.beside) ∧ Fr (fun _ => False) w w' := by
 have HR : Hid (∀ wx, Calls Tryz.prog 163 #[.agg #[.int .u32 (v.rq.cl : Nat), .int .u32 (v.rq.nu : Nat), .int .u32 (v.rq.ac : Nat), .int .u8 (v.rq.op : Nat), .int .u32 (v.rq.re : Nat), .int .u32 (v.rq.ve : Nat), .int .u32 (v.rq.wa : Nat), .int .u32 (v.rq.ow : Nat), .slice a0 v.rq.fs.length c0, .string v.rq.rs]] wx fun e w' => e = .returned (.bool (v.rq).is) ∧ Fr (fun _ => False) wx w') := fun wx => isRequest_any (v.rq) a0 c0 wx hv.rq hn.rq
 have HA : Hid (∀ wx, Calls Tryz.prog 164 #[.agg #[.int .u32 (v.an.cl : Nat), .int .u32 (v.an.nu : Nat), .int .u8 (v.an.co : Nat), .int .u32 (v.an.re : Nat), .int .u32 (v.an.ve : Nat), .slice a1 v.an.fs.length c1, .slice a2 v.an.hi.length c2]] wx fun e w' => e = .returned (.bool (v.an).is) ∧ Fr (fun _ => False) wx w') := fun wx => isAnswer_any (v.an) a1 c1 a2 c2 wx hv.an hn.an hn.hi
 have HE : Hid (∀ wx, Calls Tryz.prog 165 #[.agg #[.int .u32 (v.ev.pl : Nat), .int .u32 (v.ev.rq.cl : Nat), .int .u32 (v.ev.rq.nu : Nat), .int .u32 (v.ev.rq.ac : Nat), .int .u8 (v.ev.rq.op : Nat), .int .u32 (v.ev.rq.re : Nat), .int .u32 (v.ev.rq.ve : Nat), .int .u32 (v.ev.rq.wa : Nat), .int .u32 (v.ev.rq.ow : Nat), .slice a3 v.ev.rq.fs.length c3, .string v.ev.rq.rs, .int .u8 (v.ev.co : Nat), .slice a4 v.ev.dg.length c4]] wx fun e w' => e = .returned (.bool (v.ev).is) ∧ Fr (fun _ => False) wx w') := fun wx => isEvent_any (v.ev) a3 c3 a4 c4 wx hv.ev hn.ev hn.dg
 have HC : Hid (v.beside = (((((v.rq).is || !(v.icl == 0 && v.inu == 0)) || (v.an).is) || v.co != 0) || (v.ev).is || v.le != 0)) := by
  have e : v.cut = v := by
   have h1 := hk 1; have h2 := hk 2; have h3 := hk 3; have h4 := hk 4; have h5 := hk 5; have h6 := hk 6
   unfold MsM.cut
   split <;> first | rfl | (rename_i h; exact absurd h (hk _ (by decide) (by decide)))
  show v.cut.is = _
  rw [e]
  rfl
 obtain ⟨hv1, hv2, hv3, hv4, hv5, hv6, hv7, hv8⟩ := hv
 obtain ⟨hn1, hn2, hn3, hn4, hn5⟩ := hn
 generalize v.beside = R at HC ⊢
 generalize (v.rq).is = B1 at HR HC
 generalize (v.an).is = B2 at HA HC
 generalize (v.ev).is = B3 at HE HC
 have m1 : ((v.kd : Int) == 1) = false := by have := hk 1 (by decide) (by decide); simp; omega
 have m2 : ((v.kd : Int) == 2) = false := by have := hk 2 (by decide) (by decide); simp; omega
 have m3 : ((v.kd : Int) == 3) = false := by have := hk 3 (by decide) (by decide); simp; omega
 have m4 : ((v.kd : Int) == 4) = false := by have := hk 4 (by decide) (by decide); simp; omega
 have m5 : ((v.kd : Int) == 5) = false := by have := hk 5 (by decide) (by decide); simp; omega
 have m6 : ((v.kd : Int) == 6) = false := by have := hk 6 (by decide) (by decide); simp; omega
 simp only [MsM.vals]
 clear hn1 hn2 hn3 hn4 hn5 hv2 hv5 hv7
 go_enter Tryz.func145, Tryz.ntmps145
 go_wp2_with (first
  | (go_at_call 163; refine ((uh HR) _).mono ?_; rintro e w1 ⟨rfl, hf1⟩; have p11 := (hf1.cell (p := ⟨w.heap.size, 11, none⟩) (by simp) (fun h => h)).trans (show _ = some ((Value.int .u32 (v.icl : Nat))) by rw [World.cell?_alloc_at _ _ _ _ rfl]; rfl); have p12 := (hf1.cell (p := ⟨w.heap.size, 12, none⟩) (by simp) (fun h => h)).trans (show _ = some ((Value.int .u32 (v.inu : Nat))) by rw [World.cell?_alloc_at _ _ _ _ rfl]; rfl); have p13 := (hf1.cell (p := ⟨w.heap.size, 13, none⟩) (by simp) (fun h => h)).trans (show _ = some ((Value.int .u32 (v.an.cl : Nat))) by rw [World.cell?_alloc_at _ _ _ _ rfl]; rfl); have p14 := (hf1.cell (p := ⟨w.heap.size, 14, none⟩) (by simp) (fun h => h)).trans (show _ = some ((Value.int .u32 (v.an.nu : Nat))) by rw [World.cell?_alloc_at _ _ _ _ rfl]; rfl); have p15 := (hf1.cell (p := ⟨w.heap.size, 15, none⟩) (by simp) (fun h => h)).trans (show _ = some ((Value.int .u8 (v.an.co : Nat))) by rw [World.cell?_alloc_at _ _ _ _ rfl]; rfl); have p16 := (hf1.cell (p := ⟨w.heap.size, 16, none⟩) (by simp) (fun h => h)).trans (show _ = some ((Value.int .u32 (v.an.re : Nat))) by rw [World.cell?_alloc_at _ _ _ _ rfl]; rfl); have p17 := (hf1.cell (p := ⟨w.heap.size, 17, none⟩) (by simp) (fun h => h)).trans (show _ = some ((Value.int .u32 (v.an.ve : Nat))) by rw [World.cell?_alloc_at _ _ _ _ rfl]; rfl); have p18 := (hf1.cell (p := ⟨w.heap.size, 18, none⟩) (by simp) (fun h => h)).trans (show _ = some ((Value.slice a1 v.an.fs.length c1)) by rw [World.cell?_alloc_at _ _ _ _ rfl]; rfl); have p19 := (hf1.cell (p := ⟨w.heap.size, 19, none⟩) (by simp) (fun h => h)).trans (show _ = some ((Value.slice a2 v.an.hi.length c2)) by rw [World.cell?_alloc_at _ _ _ _ rfl]; rfl); have p20 := (hf1.cell (p := ⟨w.heap.size, 20, none⟩) (by simp) (fun h => h)).trans (show _ = some ((Value.int .u8 (v.co : Nat))) by rw [World.cell?_alloc_at _ _ _ _ rfl]; rfl); have p21 := (hf1.cell (p := ⟨w.heap.size, 21, none⟩) (by simp) (fun h => h)).trans (show _ = some ((Value.int .u32 (v.ev.pl : Nat))) by rw [World.cell?_alloc_at _ _ _ _ rfl]; rfl); have p22 := (hf1.cell (p := ⟨w.heap.size, 22, none⟩) (by simp) (fun h => h)).trans (show _ = some ((Value.int .u32 (v.ev.rq.cl : Nat))) by rw [World.cell?_alloc_at _ _ _ _ rfl]; rfl); have p23 := (hf1.cell (p := ⟨w.heap.size, 23, none⟩) (by simp) (fun h => h)).trans (show _ = some ((Value.int .u32 (v.ev.rq.nu : Nat))) by rw [World.cell?_alloc_at _ _ _ _ rfl]; rfl); have p24 := (hf1.cell (p := ⟨w.heap.size, 24, none⟩) (by simp) (fun h => h)).trans (show _ = some ((Value.int .u32 (v.ev.rq.ac : Nat))) by rw [World.cell?_alloc_at _ _ _ _ rfl]; rfl); have p25 := (hf1.cell (p := ⟨w.heap.size, 25, none⟩) (by simp) (fun h => h)).trans (show _ = some ((Value.int .u8 (v.ev.rq.op : Nat))) by rw [World.cell?_alloc_at _ _ _ _ rfl]; rfl); have p26 := (hf1.cell (p := ⟨w.heap.size, 26, none⟩) (by simp) (fun h => h)).trans (show _ = some ((Value.int .u32 (v.ev.rq.re : Nat))) by rw [World.cell?_alloc_at _ _ _ _ rfl]; rfl); have p27 := (hf1.cell (p := ⟨w.heap.size, 27, none⟩) (by simp) (fun h => h)).trans (show _ = some ((Value.int .u32 (v.ev.rq.ve : Nat))) by rw [World.cell?_alloc_at _ _ _ _ rfl]; rfl); have p28 := (hf1.cell (p := ⟨w.heap.size, 28, none⟩) (by simp) (fun h => h)).trans (show _ = some ((Value.int .u32 (v.ev.rq.wa : Nat))) by rw [World.cell?_alloc_at _ _ _ _ rfl]; rfl); have p29 := (hf1.cell (p := ⟨w.heap.size, 29, none⟩) (by simp) (fun h => h)).trans (show _ = some ((Value.int .u32 (v.ev.rq.ow : Nat))) by rw [World.cell?_alloc_at _ _ _ _ rfl]; rfl); have p30 := (hf1.cell (p := ⟨w.heap.size, 30, none⟩) (by simp) (fun h => h)).trans (show _ = some ((Value.slice a3 v.ev.rq.fs.length c3)) by rw [World.cell?_alloc_at _ _ _ _ rfl]; rfl); have p31 := (hf1.cell (p := ⟨w.heap.size, 31, none⟩) (by simp) (fun h => h)).trans (show _ = some ((Value.string v.ev.rq.rs)) by rw [World.cell?_alloc_at _ _ _ _ rfl]; rfl); have p32 := (hf1.cell (p := ⟨w.heap.size, 32, none⟩) (by simp) (fun h => h)).trans (show _ = some ((Value.int .u8 (v.ev.co : Nat))) by rw [World.cell?_alloc_at _ _ _ _ rfl]; rfl); have p33 := (hf1.cell (p := ⟨w.heap.size, 33, none⟩) (by simp) (fun h => h)).trans (show _ = some ((Value.slice a4 v.ev.dg.length c4)) by rw [World.cell?_alloc_at _ _ _ _ rfl]; rfl); have p34 := (hf1.cell (p := ⟨w.heap.size, 34, none⟩) (by simp) (fun h => h)).trans (show _ = some ((Value.int .u32 (v.le : Nat))) by rw [World.cell?_alloc_at _ _ _ _ rfl]; rfl); have F1 := hid ((box1 w _).trans hf1 (fun _ _ h => h)); clear hf1)
  | (go_at_call 164; refine ((uh HA) _).mono ?_; rintro e w2 ⟨rfl, hf2⟩; have r20 := (hf2.cell (p := ⟨w.heap.size, 20, none⟩) (ltC p20) (fun h => h)).trans p20; have r21 := (hf2.cell (p := ⟨w.heap.size, 21, none⟩) (ltC p21) (fun h => h)).trans p21; have r22 := (hf2.cell (p := ⟨w.heap.size, 22, none⟩) (ltC p22) (fun h => h)).trans p22; have r23 := (hf2.cell (p := ⟨w.heap.size, 23, none⟩) (ltC p23) (fun h => h)).trans p23; have r24 := (hf2.cell (p := ⟨w.heap.size, 24, none⟩) (ltC p24) (fun h => h)).trans p24; have r25 := (hf2.cell (p := ⟨w.heap.size, 25, none⟩) (ltC p25) (fun h => h)).trans p25; have r26 := (hf2.cell (p := ⟨w.heap.size, 26, none⟩) (ltC p26) (fun h => h)).trans p26; have r27 := (hf2.cell (p := ⟨w.heap.size, 27, none⟩) (ltC p27) (fun h => h)).trans p27; have r28 := (hf2.cell (p := ⟨w.heap.size, 28, none⟩) (ltC p28) (fun h => h)).trans p28; have r29 := (hf2.cell (p := ⟨w.heap.size, 29, none⟩) (ltC p29) (fun h => h)).trans p29; have r30 := (hf2.cell (p := ⟨w.heap.size, 30, none⟩) (ltC p30) (fun h => h)).trans p30; have r31 := (hf2.cell (p := ⟨w.heap.size, 31, none⟩) (ltC p31) (fun h => h)).trans p31; have r32 := (hf2.cell (p := ⟨w.heap.size, 32, none⟩) (ltC p32) (fun h => h)).trans p32; have r33 := (hf2.cell (p := ⟨w.heap.size, 33, none⟩) (ltC p33) (fun h => h)).trans p33; have r34 := (hf2.cell (p := ⟨w.heap.size, 34, none⟩) (ltC p34) (fun h => h)).trans p34; have F2 := hid ((uh F1).trans hf2 (fun _ _ h => h)); clear hf2)
  | (go_at_call 165; refine ((uh HE) _).mono ?_; rintro e w3 ⟨rfl, hf3⟩; have s34 := (hf3.cell (p := ⟨w.heap.size, 34, none⟩) (ltC r34) (fun h => h)).trans r34; have F3 := hid ((uh F2).trans hf3 (fun _ _ h => h)); clear hf3))
 all_goals
  go_ret
  refine ⟨?_, ?_⟩
  ·have hC := uh HC
   clear HC HR HA HE
   simp_all [bne_cast]
  ·first | exact uh F3 | exact uh F2 | exact uh F1
set_option maxRecDepth 100000 in
set_option maxHeartbeats 4000000 in
theorem beside_1 (v : MsM) (a0 a1 a2 a3 a4 : Option Addr) (c0 c1 c2 c3 c4 : Nat) (w : World) (hv : v.ok) (hn : v.lens) (hk : v.kd = 1) : Calls Tryz.prog 145 #[.agg (v.vals (.slice a0 v.rq.fs.length c0) (.slice a1 v.an.fs.length c1) (.slice a2 v.an.hi.length c2) (.slice a3 v.ev.rq.fs.length c3) (.slice a4 v.ev.dg.length c4))] w fun e w' => e = .returned (.bool v.beside) ∧ Fr (fun _ => False) w w' := by
 have HR : Hid (∀ wx, Calls Tryz.prog 163 #[.agg #[.int .u32 0, .int .u32 0, .int .u32 0, .int .u8 0, .int .u32 0, .int .u32 0, .int .u32 0, .int .u32 0, .slice none 0 0, .string ⟨#[]⟩]] wx fun e w' => e = .returned (.bool (zRq).is) ∧ Fr (fun _ => False) wx w') := fun wx => isRequest_any (zRq) none 0 wx zRq_ok (by decide)
 have HA : Hid (∀ wx, Calls Tryz.prog 164 #[.agg #[.int .u32 (v.an.cl : Nat), .int .u32 (v.an.nu : Nat), .int .u8 (v.an.co : Nat), .int .u32 (v.an.re : Nat), .int .u32 (v.an.ve : Nat), .slice a1 v.an.fs.length c1, .slice a2 v.an.hi.length c2]] wx fun e w' => e = .returned (.bool (v.an).is) ∧ Fr (fun _ => False) wx w') := fun wx => isAnswer_any (v.an) a1 c1 a2 c2 wx hv.an hn.an hn.hi
 have HE : Hid (∀ wx, Calls Tryz.prog 165 #[.agg #[.int .u32 (v.ev.pl : Nat), .int .u32 (v.ev.rq.cl : Nat), .int .u32 (v.ev.rq.nu : Nat), .int .u32 (v.ev.rq.ac : Nat), .int .u8 (v.ev.rq.op : Nat), .int .u32 (v.ev.rq.re : Nat), .int .u32 (v.ev.rq.ve : Nat), .int .u32 (v.ev.rq.wa : Nat), .int .u32 (v.ev.rq.ow : Nat), .slice a3 v.ev.rq.fs.length c3, .string v.ev.rq.rs, .int .u8 (v.ev.co : Nat), .slice a4 v.ev.dg.length c4]] wx fun e w' => e = .returned (.bool (v.ev).is) ∧ Fr (fun _ => False) wx w') := fun wx => isEvent_any (v.ev) a3 c3 a4 c4 wx hv.ev hn.ev hn.dg
 have HC : Hid (v.beside = (((((zRq).is || !(v.icl == 0 && v.inu == 0)) || (v.an).is) || v.co != 0) || (v.ev).is || v.le != 0)) := by
  have e : v.cut = { v with rq := zRq } := by simp only [MsM.cut, hk]
  show v.cut.is = _
  rw [e]
  rfl
 obtain ⟨hv1, hv2, hv3, hv4, hv5, hv6, hv7, hv8⟩ := hv
 obtain ⟨hn1, hn2, hn3, hn4, hn5⟩ := hn
 generalize v.beside = R at HC ⊢
 generalize (zRq).is = B1 at HR HC
 generalize (v.an).is = B2 at HA HC
 generalize (v.ev).is = B3 at HE HC
 simp only [MsM.vals, hk]
 clear hn1 hn2 hn3 hn4 hn5 hv2 hv5 hv7
 go_enter Tryz.func145, Tryz.ntmps145
 go_wp2_with (first
  | (go_at_call 163; refine ((uh HR) _).mono ?_; rintro e w1 ⟨rfl, hf1⟩; have p11 := (hf1.cell (p := ⟨w.heap.size, 11, none⟩) (by simp) (fun h => h)).trans (show _ = some ((Value.int .u32 (v.icl : Nat))) by rw [World.cell?_alloc_at _ _ _ _ rfl]; rfl); have p12 := (hf1.cell (p := ⟨w.heap.size, 12, none⟩) (by simp) (fun h => h)).trans (show _ = some ((Value.int .u32 (v.inu : Nat))) by rw [World.cell?_alloc_at _ _ _ _ rfl]; rfl); have p13 := (hf1.cell (p := ⟨w.heap.size, 13, none⟩) (by simp) (fun h => h)).trans (show _ = some ((Value.int .u32 (v.an.cl : Nat))) by rw [World.cell?_alloc_at _ _ _ _ rfl]; rfl); have p14 := (hf1.cell (p := ⟨w.heap.size, 14, none⟩) (by simp) (fun h => h)).trans (show _ = some ((Value.int .u32 (v.an.nu : Nat))) by rw [World.cell?_alloc_at _ _ _ _ rfl]; rfl); have p15 := (hf1.cell (p := ⟨w.heap.size, 15, none⟩) (by simp) (fun h => h)).trans (show _ = some ((Value.int .u8 (v.an.co : Nat))) by rw [World.cell?_alloc_at _ _ _ _ rfl]; rfl); have p16 := (hf1.cell (p := ⟨w.heap.size, 16, none⟩) (by simp) (fun h => h)).trans (show _ = some ((Value.int .u32 (v.an.re : Nat))) by rw [World.cell?_alloc_at _ _ _ _ rfl]; rfl); have p17 := (hf1.cell (p := ⟨w.heap.size, 17, none⟩) (by simp) (fun h => h)).trans (show _ = some ((Value.int .u32 (v.an.ve : Nat))) by rw [World.cell?_alloc_at _ _ _ _ rfl]; rfl); have p18 := (hf1.cell (p := ⟨w.heap.size, 18, none⟩) (by simp) (fun h => h)).trans (show _ = some ((Value.slice a1 v.an.fs.length c1)) by rw [World.cell?_alloc_at _ _ _ _ rfl]; rfl); have p19 := (hf1.cell (p := ⟨w.heap.size, 19, none⟩) (by simp) (fun h => h)).trans (show _ = some ((Value.slice a2 v.an.hi.length c2)) by rw [World.cell?_alloc_at _ _ _ _ rfl]; rfl); have p20 := (hf1.cell (p := ⟨w.heap.size, 20, none⟩) (by simp) (fun h => h)).trans (show _ = some ((Value.int .u8 (v.co : Nat))) by rw [World.cell?_alloc_at _ _ _ _ rfl]; rfl); have p21 := (hf1.cell (p := ⟨w.heap.size, 21, none⟩) (by simp) (fun h => h)).trans (show _ = some ((Value.int .u32 (v.ev.pl : Nat))) by rw [World.cell?_alloc_at _ _ _ _ rfl]; rfl); have p22 := (hf1.cell (p := ⟨w.heap.size, 22, none⟩) (by simp) (fun h => h)).trans (show _ = some ((Value.int .u32 (v.ev.rq.cl : Nat))) by rw [World.cell?_alloc_at _ _ _ _ rfl]; rfl); have p23 := (hf1.cell (p := ⟨w.heap.size, 23, none⟩) (by simp) (fun h => h)).trans (show _ = some ((Value.int .u32 (v.ev.rq.nu : Nat))) by rw [World.cell?_alloc_at _ _ _ _ rfl]; rfl); have p24 := (hf1.cell (p := ⟨w.heap.size, 24, none⟩) (by simp) (fun h => h)).trans (show _ = some ((Value.int .u32 (v.ev.rq.ac : Nat))) by rw [World.cell?_alloc_at _ _ _ _ rfl]; rfl); have p25 := (hf1.cell (p := ⟨w.heap.size, 25, none⟩) (by simp) (fun h => h)).trans (show _ = some ((Value.int .u8 (v.ev.rq.op : Nat))) by rw [World.cell?_alloc_at _ _ _ _ rfl]; rfl); have p26 := (hf1.cell (p := ⟨w.heap.size, 26, none⟩) (by simp) (fun h => h)).trans (show _ = some ((Value.int .u32 (v.ev.rq.re : Nat))) by rw [World.cell?_alloc_at _ _ _ _ rfl]; rfl); have p27 := (hf1.cell (p := ⟨w.heap.size, 27, none⟩) (by simp) (fun h => h)).trans (show _ = some ((Value.int .u32 (v.ev.rq.ve : Nat))) by rw [World.cell?_alloc_at _ _ _ _ rfl]; rfl); have p28 := (hf1.cell (p := ⟨w.heap.size, 28, none⟩) (by simp) (fun h => h)).trans (show _ = some ((Value.int .u32 (v.ev.rq.wa : Nat))) by rw [World.cell?_alloc_at _ _ _ _ rfl]; rfl); have p29 := (hf1.cell (p := ⟨w.heap.size, 29, none⟩) (by simp) (fun h => h)).trans (show _ = some ((Value.int .u32 (v.ev.rq.ow : Nat))) by rw [World.cell?_alloc_at _ _ _ _ rfl]; rfl); have p30 := (hf1.cell (p := ⟨w.heap.size, 30, none⟩) (by simp) (fun h => h)).trans (show _ = some ((Value.slice a3 v.ev.rq.fs.length c3)) by rw [World.cell?_alloc_at _ _ _ _ rfl]; rfl); have p31 := (hf1.cell (p := ⟨w.heap.size, 31, none⟩) (by simp) (fun h => h)).trans (show _ = some ((Value.string v.ev.rq.rs)) by rw [World.cell?_alloc_at _ _ _ _ rfl]; rfl); have p32 := (hf1.cell (p := ⟨w.heap.size, 32, none⟩) (by simp) (fun h => h)).trans (show _ = some ((Value.int .u8 (v.ev.co : Nat))) by rw [World.cell?_alloc_at _ _ _ _ rfl]; rfl); have p33 := (hf1.cell (p := ⟨w.heap.size, 33, none⟩) (by simp) (fun h => h)).trans (show _ = some ((Value.slice a4 v.ev.dg.length c4)) by rw [World.cell?_alloc_at _ _ _ _ rfl]; rfl); have p34 := (hf1.cell (p := ⟨w.heap.size, 34, none⟩) (by simp) (fun h => h)).trans (show _ = some ((Value.int .u32 (v.le : Nat))) by rw [World.cell?_alloc_at _ _ _ _ rfl]; rfl); have F1 := hid ((box1 w _).trans hf1 (fun _ _ h => h)); clear hf1)
  | (go_at_call 164; refine ((uh HA) _).mono ?_; rintro e w2 ⟨rfl, hf2⟩; have r20 := (hf2.cell (p := ⟨w.heap.size, 20, none⟩) (ltC p20) (fun h => h)).trans p20; have r21 := (hf2.cell (p := ⟨w.heap.size, 21, none⟩) (ltC p21) (fun h => h)).trans p21; have r22 := (hf2.cell (p := ⟨w.heap.size, 22, none⟩) (ltC p22) (fun h => h)).trans p22; have r23 := (hf2.cell (p := ⟨w.heap.size, 23, none⟩) (ltC p23) (fun h => h)).trans p23; have r24 := (hf2.cell (p := ⟨w.heap.size, 24, none⟩) (ltC p24) (fun h => h)).trans p24; have r25 := (hf2.cell (p := ⟨w.heap.size, 25, none⟩) (ltC p25) (fun h => h)).trans p25; have r26 := (hf2.cell (p := ⟨w.heap.size, 26, none⟩) (ltC p26) (fun h => h)).trans p26; have r27 := (hf2.cell (p := ⟨w.heap.size, 27, none⟩) (ltC p27) (fun h => h)).trans p27; have r28 := (hf2.cell (p := ⟨w.heap.size, 28, none⟩) (ltC p28) (fun h => h)).trans p28; have r29 := (hf2.cell (p := ⟨w.heap.size, 29, none⟩) (ltC p29) (fun h => h)).trans p29; have r30 := (hf2.cell (p := ⟨w.heap.size, 30, none⟩) (ltC p30) (fun h => h)).trans p30; have r31 := (hf2.cell (p := ⟨w.heap.size, 31, none⟩) (ltC p31) (fun h => h)).trans p31; have r32 := (hf2.cell (p := ⟨w.heap.size, 32, none⟩) (ltC p32) (fun h => h)).trans p32; have r33 := (hf2.cell (p := ⟨w.heap.size, 33, none⟩) (ltC p33) (fun h => h)).trans p33; have r34 := (hf2.cell (p := ⟨w.heap.size, 34, none⟩) (ltC p34) (fun h => h)).trans p34; have F2 := hid ((uh F1).trans hf2 (fun _ _ h => h)); clear hf2)
  | (go_at_call 165; refine ((uh HE) _).mono ?_; rintro e w3 ⟨rfl, hf3⟩; have s34 := (hf3.cell (p := ⟨w.heap.size, 34, none⟩) (ltC r34) (fun h => h)).trans r34; have F3 := hid ((uh F2).trans hf3 (fun _ _ h => h)); clear hf3))
 all_goals
  go_ret
  refine ⟨?_, ?_⟩
  ·have hC := uh HC
   clear HC HR HA HE
   simp_all [bne_cast]
  ·first | exact uh F3 | exact uh F2 | exact uh F1
set_option maxRecDepth 100000 in
set_option maxHeartbeats 4000000 in
theorem beside_2 (v : MsM) (a0 a1 a2 a3 a4 : Option Addr) (c0 c1 c2 c3 c4 : Nat) (w : World) (hv : v.ok) (hn : v.lens) (hk : v.kd = 2) : Calls Tryz.prog 145 #[.agg (v.vals (.slice a0 v.rq.fs.length c0) (.slice a1 v.an.fs.length c1) (.slice a2 v.an.hi.length c2) (.slice a3 v.ev.rq.fs.length c3) (.slice a4 v.ev.dg.length c4))] w fun e w' => e = .returned (.bool v.beside) ∧ Fr (fun _ => False) w w' := by
 have HR : Hid (∀ wx, Calls Tryz.prog 163 #[.agg #[.int .u32 (v.rq.cl : Nat), .int .u32 (v.rq.nu : Nat), .int .u32 (v.rq.ac : Nat), .int .u8 (v.rq.op : Nat), .int .u32 (v.rq.re : Nat), .int .u32 (v.rq.ve : Nat), .int .u32 (v.rq.wa : Nat), .int .u32 (v.rq.ow : Nat), .slice a0 v.rq.fs.length c0, .string v.rq.rs]] wx fun e w' => e = .returned (.bool (v.rq).is) ∧ Fr (fun _ => False) wx w') := fun wx => isRequest_any (v.rq) a0 c0 wx hv.rq hn.rq
 have HA : Hid (∀ wx, Calls Tryz.prog 164 #[.agg #[.int .u32 (v.an.cl : Nat), .int .u32 (v.an.nu : Nat), .int .u8 (v.an.co : Nat), .int .u32 (v.an.re : Nat), .int .u32 (v.an.ve : Nat), .slice a1 v.an.fs.length c1, .slice a2 v.an.hi.length c2]] wx fun e w' => e = .returned (.bool (v.an).is) ∧ Fr (fun _ => False) wx w') := fun wx => isAnswer_any (v.an) a1 c1 a2 c2 wx hv.an hn.an hn.hi
 have HE : Hid (∀ wx, Calls Tryz.prog 165 #[.agg #[.int .u32 (v.ev.pl : Nat), .int .u32 (v.ev.rq.cl : Nat), .int .u32 (v.ev.rq.nu : Nat), .int .u32 (v.ev.rq.ac : Nat), .int .u8 (v.ev.rq.op : Nat), .int .u32 (v.ev.rq.re : Nat), .int .u32 (v.ev.rq.ve : Nat), .int .u32 (v.ev.rq.wa : Nat), .int .u32 (v.ev.rq.ow : Nat), .slice a3 v.ev.rq.fs.length c3, .string v.ev.rq.rs, .int .u8 (v.ev.co : Nat), .slice a4 v.ev.dg.length c4]] wx fun e w' => e = .returned (.bool (v.ev).is) ∧ Fr (fun _ => False) wx w') := fun wx => isEvent_any (v.ev) a3 c3 a4 c4 wx hv.ev hn.ev hn.dg
 have HC : Hid (v.beside = (((((v.rq).is || !(0 == 0 && 0 == 0)) || (v.an).is) || v.co != 0) || (v.ev).is || v.le != 0)) := by
  have e : v.cut = { v with icl := 0, inu := 0 } := by simp only [MsM.cut, hk]
  show v.cut.is = _
  rw [e]
  rfl
 obtain ⟨hv1, hv2, hv3, hv4, hv5, hv6, hv7, hv8⟩ := hv
 obtain ⟨hn1, hn2, hn3, hn4, hn5⟩ := hn
 generalize v.beside = R at HC ⊢
 generalize (v.rq).is = B1 at HR HC
 generalize (v.an).is = B2 at HA HC
 generalize (v.ev).is = B3 at HE HC
 simp only [MsM.vals, hk]
 clear hn1 hn2 hn3 hn4 hn5 hv2 hv5 hv7
 go_enter Tryz.func145, Tryz.ntmps145
 go_wp2_with (first
  | (go_at_call 163; refine ((uh HR) _).mono ?_; rintro e w1 ⟨rfl, hf1⟩; have p11 := (hf1.cell (p := ⟨w.heap.size, 11, none⟩) (by simp) (fun h => h)).trans (show _ = some ((Value.int .u32 0)) by rw [World.cell?_alloc_at _ _ _ _ rfl]; rfl); have p12 := (hf1.cell (p := ⟨w.heap.size, 12, none⟩) (by simp) (fun h => h)).trans (show _ = some ((Value.int .u32 0)) by rw [World.cell?_alloc_at _ _ _ _ rfl]; rfl); have p13 := (hf1.cell (p := ⟨w.heap.size, 13, none⟩) (by simp) (fun h => h)).trans (show _ = some ((Value.int .u32 (v.an.cl : Nat))) by rw [World.cell?_alloc_at _ _ _ _ rfl]; rfl); have p14 := (hf1.cell (p := ⟨w.heap.size, 14, none⟩) (by simp) (fun h => h)).trans (show _ = some ((Value.int .u32 (v.an.nu : Nat))) by rw [World.cell?_alloc_at _ _ _ _ rfl]; rfl); have p15 := (hf1.cell (p := ⟨w.heap.size, 15, none⟩) (by simp) (fun h => h)).trans (show _ = some ((Value.int .u8 (v.an.co : Nat))) by rw [World.cell?_alloc_at _ _ _ _ rfl]; rfl); have p16 := (hf1.cell (p := ⟨w.heap.size, 16, none⟩) (by simp) (fun h => h)).trans (show _ = some ((Value.int .u32 (v.an.re : Nat))) by rw [World.cell?_alloc_at _ _ _ _ rfl]; rfl); have p17 := (hf1.cell (p := ⟨w.heap.size, 17, none⟩) (by simp) (fun h => h)).trans (show _ = some ((Value.int .u32 (v.an.ve : Nat))) by rw [World.cell?_alloc_at _ _ _ _ rfl]; rfl); have p18 := (hf1.cell (p := ⟨w.heap.size, 18, none⟩) (by simp) (fun h => h)).trans (show _ = some ((Value.slice a1 v.an.fs.length c1)) by rw [World.cell?_alloc_at _ _ _ _ rfl]; rfl); have p19 := (hf1.cell (p := ⟨w.heap.size, 19, none⟩) (by simp) (fun h => h)).trans (show _ = some ((Value.slice a2 v.an.hi.length c2)) by rw [World.cell?_alloc_at _ _ _ _ rfl]; rfl); have p20 := (hf1.cell (p := ⟨w.heap.size, 20, none⟩) (by simp) (fun h => h)).trans (show _ = some ((Value.int .u8 (v.co : Nat))) by rw [World.cell?_alloc_at _ _ _ _ rfl]; rfl); have p21 := (hf1.cell (p := ⟨w.heap.size, 21, none⟩) (by simp) (fun h => h)).trans (show _ = some ((Value.int .u32 (v.ev.pl : Nat))) by rw [World.cell?_alloc_at _ _ _ _ rfl]; rfl); have p22 := (hf1.cell (p := ⟨w.heap.size, 22, none⟩) (by simp) (fun h => h)).trans (show _ = some ((Value.int .u32 (v.ev.rq.cl : Nat))) by rw [World.cell?_alloc_at _ _ _ _ rfl]; rfl); have p23 := (hf1.cell (p := ⟨w.heap.size, 23, none⟩) (by simp) (fun h => h)).trans (show _ = some ((Value.int .u32 (v.ev.rq.nu : Nat))) by rw [World.cell?_alloc_at _ _ _ _ rfl]; rfl); have p24 := (hf1.cell (p := ⟨w.heap.size, 24, none⟩) (by simp) (fun h => h)).trans (show _ = some ((Value.int .u32 (v.ev.rq.ac : Nat))) by rw [World.cell?_alloc_at _ _ _ _ rfl]; rfl); have p25 := (hf1.cell (p := ⟨w.heap.size, 25, none⟩) (by simp) (fun h => h)).trans (show _ = some ((Value.int .u8 (v.ev.rq.op : Nat))) by rw [World.cell?_alloc_at _ _ _ _ rfl]; rfl); have p26 := (hf1.cell (p := ⟨w.heap.size, 26, none⟩) (by simp) (fun h => h)).trans (show _ = some ((Value.int .u32 (v.ev.rq.re : Nat))) by rw [World.cell?_alloc_at _ _ _ _ rfl]; rfl); have p27 := (hf1.cell (p := ⟨w.heap.size, 27, none⟩) (by simp) (fun h => h)).trans (show _ = some ((Value.int .u32 (v.ev.rq.ve : Nat))) by rw [World.cell?_alloc_at _ _ _ _ rfl]; rfl); have p28 := (hf1.cell (p := ⟨w.heap.size, 28, none⟩) (by simp) (fun h => h)).trans (show _ = some ((Value.int .u32 (v.ev.rq.wa : Nat))) by rw [World.cell?_alloc_at _ _ _ _ rfl]; rfl); have p29 := (hf1.cell (p := ⟨w.heap.size, 29, none⟩) (by simp) (fun h => h)).trans (show _ = some ((Value.int .u32 (v.ev.rq.ow : Nat))) by rw [World.cell?_alloc_at _ _ _ _ rfl]; rfl); have p30 := (hf1.cell (p := ⟨w.heap.size, 30, none⟩) (by simp) (fun h => h)).trans (show _ = some ((Value.slice a3 v.ev.rq.fs.length c3)) by rw [World.cell?_alloc_at _ _ _ _ rfl]; rfl); have p31 := (hf1.cell (p := ⟨w.heap.size, 31, none⟩) (by simp) (fun h => h)).trans (show _ = some ((Value.string v.ev.rq.rs)) by rw [World.cell?_alloc_at _ _ _ _ rfl]; rfl); have p32 := (hf1.cell (p := ⟨w.heap.size, 32, none⟩) (by simp) (fun h => h)).trans (show _ = some ((Value.int .u8 (v.ev.co : Nat))) by rw [World.cell?_alloc_at _ _ _ _ rfl]; rfl); have p33 := (hf1.cell (p := ⟨w.heap.size, 33, none⟩) (by simp) (fun h => h)).trans (show _ = some ((Value.slice a4 v.ev.dg.length c4)) by rw [World.cell?_alloc_at _ _ _ _ rfl]; rfl); have p34 := (hf1.cell (p := ⟨w.heap.size, 34, none⟩) (by simp) (fun h => h)).trans (show _ = some ((Value.int .u32 (v.le : Nat))) by rw [World.cell?_alloc_at _ _ _ _ rfl]; rfl); have F1 := hid ((box1 w _).trans hf1 (fun _ _ h => h)); clear hf1)
  | (go_at_call 164; refine ((uh HA) _).mono ?_; rintro e w2 ⟨rfl, hf2⟩; have r20 := (hf2.cell (p := ⟨w.heap.size, 20, none⟩) (ltC p20) (fun h => h)).trans p20; have r21 := (hf2.cell (p := ⟨w.heap.size, 21, none⟩) (ltC p21) (fun h => h)).trans p21; have r22 := (hf2.cell (p := ⟨w.heap.size, 22, none⟩) (ltC p22) (fun h => h)).trans p22; have r23 := (hf2.cell (p := ⟨w.heap.size, 23, none⟩) (ltC p23) (fun h => h)).trans p23; have r24 := (hf2.cell (p := ⟨w.heap.size, 24, none⟩) (ltC p24) (fun h => h)).trans p24; have r25 := (hf2.cell (p := ⟨w.heap.size, 25, none⟩) (ltC p25) (fun h => h)).trans p25; have r26 := (hf2.cell (p := ⟨w.heap.size, 26, none⟩) (ltC p26) (fun h => h)).trans p26; have r27 := (hf2.cell (p := ⟨w.heap.size, 27, none⟩) (ltC p27) (fun h => h)).trans p27; have r28 := (hf2.cell (p := ⟨w.heap.size, 28, none⟩) (ltC p28) (fun h => h)).trans p28; have r29 := (hf2.cell (p := ⟨w.heap.size, 29, none⟩) (ltC p29) (fun h => h)).trans p29; have r30 := (hf2.cell (p := ⟨w.heap.size, 30, none⟩) (ltC p30) (fun h => h)).trans p30; have r31 := (hf2.cell (p := ⟨w.heap.size, 31, none⟩) (ltC p31) (fun h => h)).trans p31; have r32 := (hf2.cell (p := ⟨w.heap.size, 32, none⟩) (ltC p32) (fun h => h)).trans p32; have r33 := (hf2.cell (p := ⟨w.heap.size, 33, none⟩) (ltC p33) (fun h => h)).trans p33; have r34 := (hf2.cell (p := ⟨w.heap.size, 34, none⟩) (ltC p34) (fun h => h)).trans p34; have F2 := hid ((uh F1).trans hf2 (fun _ _ h => h)); clear hf2)
  | (go_at_call 165; refine ((uh HE) _).mono ?_; rintro e w3 ⟨rfl, hf3⟩; have s34 := (hf3.cell (p := ⟨w.heap.size, 34, none⟩) (ltC r34) (fun h => h)).trans r34; have F3 := hid ((uh F2).trans hf3 (fun _ _ h => h)); clear hf3))
 all_goals
  go_ret
  refine ⟨?_, ?_⟩
  ·have hC := uh HC
   clear HC HR HA HE
   simp_all [bne_cast]
  ·first | exact uh F3 | exact uh F2 | exact uh F1
set_option maxRecDepth 100000 in
set_option maxHeartbeats 4000000 in
theorem beside_3 (v : MsM) (a0 a1 a2 a3 a4 : Option Addr) (c0 c1 c2 c3 c4 : Nat) (w : World) (hv : v.ok) (hn : v.lens) (hk : v.kd = 3) : Calls Tryz.prog 145 #[.agg (v.vals (.slice a0 v.rq.fs.length c0) (.slice a1 v.an.fs.length c1) (.slice a2 v.an.hi.length c2) (.slice a3 v.ev.rq.fs.length c3) (.slice a4 v.ev.dg.length c4))] w fun e w' => e = .returned (.bool v.beside) ∧ Fr (fun _ => False) w w' := by
 have HR : Hid (∀ wx, Calls Tryz.prog 163 #[.agg #[.int .u32 (v.rq.cl : Nat), .int .u32 (v.rq.nu : Nat), .int .u32 (v.rq.ac : Nat), .int .u8 (v.rq.op : Nat), .int .u32 (v.rq.re : Nat), .int .u32 (v.rq.ve : Nat), .int .u32 (v.rq.wa : Nat), .int .u32 (v.rq.ow : Nat), .slice a0 v.rq.fs.length c0, .string v.rq.rs]] wx fun e w' => e = .returned (.bool (v.rq).is) ∧ Fr (fun _ => False) wx w') := fun wx => isRequest_any (v.rq) a0 c0 wx hv.rq hn.rq
 have HA : Hid (∀ wx, Calls Tryz.prog 164 #[.agg #[.int .u32 0, .int .u32 0, .int .u8 0, .int .u32 0, .int .u32 0, .slice none 0 0, .slice none 0 0]] wx fun e w' => e = .returned (.bool (zAn).is) ∧ Fr (fun _ => False) wx w') := fun wx => isAnswer_any (zAn) none 0 none 0 wx ⟨by decide, by decide, by decide, by decide, by decide⟩ (by decide) (by decide)
 have HE : Hid (∀ wx, Calls Tryz.prog 165 #[.agg #[.int .u32 (v.ev.pl : Nat), .int .u32 (v.ev.rq.cl : Nat), .int .u32 (v.ev.rq.nu : Nat), .int .u32 (v.ev.rq.ac : Nat), .int .u8 (v.ev.rq.op : Nat), .int .u32 (v.ev.rq.re : Nat), .int .u32 (v.ev.rq.ve : Nat), .int .u32 (v.ev.rq.wa : Nat), .int .u32 (v.ev.rq.ow : Nat), .slice a3 v.ev.rq.fs.length c3, .string v.ev.rq.rs, .int .u8 (v.ev.co : Nat), .slice a4 v.ev.dg.length c4]] wx fun e w' => e = .returned (.bool (v.ev).is) ∧ Fr (fun _ => False) wx w') := fun wx => isEvent_any (v.ev) a3 c3 a4 c4 wx hv.ev hn.ev hn.dg
 have HC : Hid (v.beside = (((((v.rq).is || !(v.icl == 0 && v.inu == 0)) || (zAn).is) || v.co != 0) || (v.ev).is || v.le != 0)) := by
  have e : v.cut = { v with an := zAn } := by simp only [MsM.cut, hk]
  show v.cut.is = _
  rw [e]
  rfl
 obtain ⟨hv1, hv2, hv3, hv4, hv5, hv6, hv7, hv8⟩ := hv
 obtain ⟨hn1, hn2, hn3, hn4, hn5⟩ := hn
 generalize v.beside = R at HC ⊢
 generalize (v.rq).is = B1 at HR HC
 generalize (zAn).is = B2 at HA HC
 generalize (v.ev).is = B3 at HE HC
 simp only [MsM.vals, hk]
 clear hn1 hn2 hn3 hn4 hn5 hv2 hv5 hv7
 go_enter Tryz.func145, Tryz.ntmps145
 go_wp2_with (first
  | (go_at_call 163; refine ((uh HR) _).mono ?_; rintro e w1 ⟨rfl, hf1⟩; have p11 := (hf1.cell (p := ⟨w.heap.size, 11, none⟩) (by simp) (fun h => h)).trans (show _ = some ((Value.int .u32 (v.icl : Nat))) by rw [World.cell?_alloc_at _ _ _ _ rfl]; rfl); have p12 := (hf1.cell (p := ⟨w.heap.size, 12, none⟩) (by simp) (fun h => h)).trans (show _ = some ((Value.int .u32 (v.inu : Nat))) by rw [World.cell?_alloc_at _ _ _ _ rfl]; rfl); have p13 := (hf1.cell (p := ⟨w.heap.size, 13, none⟩) (by simp) (fun h => h)).trans (show _ = some ((Value.int .u32 0)) by rw [World.cell?_alloc_at _ _ _ _ rfl]; rfl); have p14 := (hf1.cell (p := ⟨w.heap.size, 14, none⟩) (by simp) (fun h => h)).trans (show _ = some ((Value.int .u32 0)) by rw [World.cell?_alloc_at _ _ _ _ rfl]; rfl); have p15 := (hf1.cell (p := ⟨w.heap.size, 15, none⟩) (by simp) (fun h => h)).trans (show _ = some ((Value.int .u8 0)) by rw [World.cell?_alloc_at _ _ _ _ rfl]; rfl); have p16 := (hf1.cell (p := ⟨w.heap.size, 16, none⟩) (by simp) (fun h => h)).trans (show _ = some ((Value.int .u32 0)) by rw [World.cell?_alloc_at _ _ _ _ rfl]; rfl); have p17 := (hf1.cell (p := ⟨w.heap.size, 17, none⟩) (by simp) (fun h => h)).trans (show _ = some ((Value.int .u32 0)) by rw [World.cell?_alloc_at _ _ _ _ rfl]; rfl); have p18 := (hf1.cell (p := ⟨w.heap.size, 18, none⟩) (by simp) (fun h => h)).trans (show _ = some ((Value.slice none 0 0)) by rw [World.cell?_alloc_at _ _ _ _ rfl]; rfl); have p19 := (hf1.cell (p := ⟨w.heap.size, 19, none⟩) (by simp) (fun h => h)).trans (show _ = some ((Value.slice none 0 0)) by rw [World.cell?_alloc_at _ _ _ _ rfl]; rfl); have p20 := (hf1.cell (p := ⟨w.heap.size, 20, none⟩) (by simp) (fun h => h)).trans (show _ = some ((Value.int .u8 (v.co : Nat))) by rw [World.cell?_alloc_at _ _ _ _ rfl]; rfl); have p21 := (hf1.cell (p := ⟨w.heap.size, 21, none⟩) (by simp) (fun h => h)).trans (show _ = some ((Value.int .u32 (v.ev.pl : Nat))) by rw [World.cell?_alloc_at _ _ _ _ rfl]; rfl); have p22 := (hf1.cell (p := ⟨w.heap.size, 22, none⟩) (by simp) (fun h => h)).trans (show _ = some ((Value.int .u32 (v.ev.rq.cl : Nat))) by rw [World.cell?_alloc_at _ _ _ _ rfl]; rfl); have p23 := (hf1.cell (p := ⟨w.heap.size, 23, none⟩) (by simp) (fun h => h)).trans (show _ = some ((Value.int .u32 (v.ev.rq.nu : Nat))) by rw [World.cell?_alloc_at _ _ _ _ rfl]; rfl); have p24 := (hf1.cell (p := ⟨w.heap.size, 24, none⟩) (by simp) (fun h => h)).trans (show _ = some ((Value.int .u32 (v.ev.rq.ac : Nat))) by rw [World.cell?_alloc_at _ _ _ _ rfl]; rfl); have p25 := (hf1.cell (p := ⟨w.heap.size, 25, none⟩) (by simp) (fun h => h)).trans (show _ = some ((Value.int .u8 (v.ev.rq.op : Nat))) by rw [World.cell?_alloc_at _ _ _ _ rfl]; rfl); have p26 := (hf1.cell (p := ⟨w.heap.size, 26, none⟩) (by simp) (fun h => h)).trans (show _ = some ((Value.int .u32 (v.ev.rq.re : Nat))) by rw [World.cell?_alloc_at _ _ _ _ rfl]; rfl); have p27 := (hf1.cell (p := ⟨w.heap.size, 27, none⟩) (by simp) (fun h => h)).trans (show _ = some ((Value.int .u32 (v.ev.rq.ve : Nat))) by rw [World.cell?_alloc_at _ _ _ _ rfl]; rfl); have p28 := (hf1.cell (p := ⟨w.heap.size, 28, none⟩) (by simp) (fun h => h)).trans (show _ = some ((Value.int .u32 (v.ev.rq.wa : Nat))) by rw [World.cell?_alloc_at _ _ _ _ rfl]; rfl); have p29 := (hf1.cell (p := ⟨w.heap.size, 29, none⟩) (by simp) (fun h => h)).trans (show _ = some ((Value.int .u32 (v.ev.rq.ow : Nat))) by rw [World.cell?_alloc_at _ _ _ _ rfl]; rfl); have p30 := (hf1.cell (p := ⟨w.heap.size, 30, none⟩) (by simp) (fun h => h)).trans (show _ = some ((Value.slice a3 v.ev.rq.fs.length c3)) by rw [World.cell?_alloc_at _ _ _ _ rfl]; rfl); have p31 := (hf1.cell (p := ⟨w.heap.size, 31, none⟩) (by simp) (fun h => h)).trans (show _ = some ((Value.string v.ev.rq.rs)) by rw [World.cell?_alloc_at _ _ _ _ rfl]; rfl); have p32 := (hf1.cell (p := ⟨w.heap.size, 32, none⟩) (by simp) (fun h => h)).trans (show _ = some ((Value.int .u8 (v.ev.co : Nat))) by rw [World.cell?_alloc_at _ _ _ _ rfl]; rfl); have p33 := (hf1.cell (p := ⟨w.heap.size, 33, none⟩) (by simp) (fun h => h)).trans (show _ = some ((Value.slice a4 v.ev.dg.length c4)) by rw [World.cell?_alloc_at _ _ _ _ rfl]; rfl); have p34 := (hf1.cell (p := ⟨w.heap.size, 34, none⟩) (by simp) (fun h => h)).trans (show _ = some ((Value.int .u32 (v.le : Nat))) by rw [World.cell?_alloc_at _ _ _ _ rfl]; rfl); have F1 := hid ((box1 w _).trans hf1 (fun _ _ h => h)); clear hf1)
  | (go_at_call 164; refine ((uh HA) _).mono ?_; rintro e w2 ⟨rfl, hf2⟩; have r20 := (hf2.cell (p := ⟨w.heap.size, 20, none⟩) (ltC p20) (fun h => h)).trans p20; have r21 := (hf2.cell (p := ⟨w.heap.size, 21, none⟩) (ltC p21) (fun h => h)).trans p21; have r22 := (hf2.cell (p := ⟨w.heap.size, 22, none⟩) (ltC p22) (fun h => h)).trans p22; have r23 := (hf2.cell (p := ⟨w.heap.size, 23, none⟩) (ltC p23) (fun h => h)).trans p23; have r24 := (hf2.cell (p := ⟨w.heap.size, 24, none⟩) (ltC p24) (fun h => h)).trans p24; have r25 := (hf2.cell (p := ⟨w.heap.size, 25, none⟩) (ltC p25) (fun h => h)).trans p25; have r26 := (hf2.cell (p := ⟨w.heap.size, 26, none⟩) (ltC p26) (fun h => h)).trans p26; have r27 := (hf2.cell (p := ⟨w.heap.size, 27, none⟩) (ltC p27) (fun h => h)).trans p27; have r28 := (hf2.cell (p := ⟨w.heap.size, 28, none⟩) (ltC p28) (fun h => h)).trans p28; have r29 := (hf2.cell (p := ⟨w.heap.size, 29, none⟩) (ltC p29) (fun h => h)).trans p29; have r30 := (hf2.cell (p := ⟨w.heap.size, 30, none⟩) (ltC p30) (fun h => h)).trans p30; have r31 := (hf2.cell (p := ⟨w.heap.size, 31, none⟩) (ltC p31) (fun h => h)).trans p31; have r32 := (hf2.cell (p := ⟨w.heap.size, 32, none⟩) (ltC p32) (fun h => h)).trans p32; have r33 := (hf2.cell (p := ⟨w.heap.size, 33, none⟩) (ltC p33) (fun h => h)).trans p33; have r34 := (hf2.cell (p := ⟨w.heap.size, 34, none⟩) (ltC p34) (fun h => h)).trans p34; have F2 := hid ((uh F1).trans hf2 (fun _ _ h => h)); clear hf2)
  | (go_at_call 165; refine ((uh HE) _).mono ?_; rintro e w3 ⟨rfl, hf3⟩; have s34 := (hf3.cell (p := ⟨w.heap.size, 34, none⟩) (ltC r34) (fun h => h)).trans r34; have F3 := hid ((uh F2).trans hf3 (fun _ _ h => h)); clear hf3))
 all_goals
  go_ret
  refine ⟨?_, ?_⟩
  ·have hC := uh HC
   clear HC HR HA HE
   simp_all [bne_cast]
  ·first | exact uh F3 | exact uh F2 | exact uh F1
set_option maxRecDepth 100000 in
set_option maxHeartbeats 4000000 in
theorem beside_4 (v : MsM) (a0 a1 a2 a3 a4 : Option Addr) (c0 c1 c2 c3 c4 : Nat) (w : World) (hv : v.ok) (hn : v.lens) (hk : v.kd = 4) : Calls Tryz.prog 145 #[.agg (v.vals (.slice a0 v.rq.fs.length c0) (.slice a1 v.an.fs.length c1) (.slice a2 v.an.hi.length c2) (.slice a3 v.ev.rq.fs.length c3) (.slice a4 v.ev.dg.length c4))] w fun e w' => e = .returned (.bool v.beside) ∧ Fr (fun _ => False) w w' := by
 have HR : Hid (∀ wx, Calls Tryz.prog 163 #[.agg #[.int .u32 (v.rq.cl : Nat), .int .u32 (v.rq.nu : Nat), .int .u32 (v.rq.ac : Nat), .int .u8 (v.rq.op : Nat), .int .u32 (v.rq.re : Nat), .int .u32 (v.rq.ve : Nat), .int .u32 (v.rq.wa : Nat), .int .u32 (v.rq.ow : Nat), .slice a0 v.rq.fs.length c0, .string v.rq.rs]] wx fun e w' => e = .returned (.bool (v.rq).is) ∧ Fr (fun _ => False) wx w') := fun wx => isRequest_any (v.rq) a0 c0 wx hv.rq hn.rq
 have HA : Hid (∀ wx, Calls Tryz.prog 164 #[.agg #[.int .u32 (v.an.cl : Nat), .int .u32 (v.an.nu : Nat), .int .u8 (v.an.co : Nat), .int .u32 (v.an.re : Nat), .int .u32 (v.an.ve : Nat), .slice a1 v.an.fs.length c1, .slice a2 v.an.hi.length c2]] wx fun e w' => e = .returned (.bool (v.an).is) ∧ Fr (fun _ => False) wx w') := fun wx => isAnswer_any (v.an) a1 c1 a2 c2 wx hv.an hn.an hn.hi
 have HE : Hid (∀ wx, Calls Tryz.prog 165 #[.agg #[.int .u32 (v.ev.pl : Nat), .int .u32 (v.ev.rq.cl : Nat), .int .u32 (v.ev.rq.nu : Nat), .int .u32 (v.ev.rq.ac : Nat), .int .u8 (v.ev.rq.op : Nat), .int .u32 (v.ev.rq.re : Nat), .int .u32 (v.ev.rq.ve : Nat), .int .u32 (v.ev.rq.wa : Nat), .int .u32 (v.ev.rq.ow : Nat), .slice a3 v.ev.rq.fs.length c3, .string v.ev.rq.rs, .int .u8 (v.ev.co : Nat), .slice a4 v.ev.dg.length c4]] wx fun e w' => e = .returned (.bool (v.ev).is) ∧ Fr (fun _ => False) wx w') := fun wx => isEvent_any (v.ev) a3 c3 a4 c4 wx hv.ev hn.ev hn.dg
 have HC : Hid (v.beside = (((((v.rq).is || !(0 == 0 && 0 == 0)) || (v.an).is) || 0 != 0) || (v.ev).is || v.le != 0)) := by
  have e : v.cut = { v with icl := 0, inu := 0, co := 0 } := by simp only [MsM.cut, hk]
  show v.cut.is = _
  rw [e]
  rfl
 obtain ⟨hv1, hv2, hv3, hv4, hv5, hv6, hv7, hv8⟩ := hv
 obtain ⟨hn1, hn2, hn3, hn4, hn5⟩ := hn
 generalize v.beside = R at HC ⊢
 generalize (v.rq).is = B1 at HR HC
 generalize (v.an).is = B2 at HA HC
 generalize (v.ev).is = B3 at HE HC
 simp only [MsM.vals, hk]
 clear hn1 hn2 hn3 hn4 hn5 hv2 hv5 hv7
 go_enter Tryz.func145, Tryz.ntmps145
 go_wp2_with (first
  | (go_at_call 163; refine ((uh HR) _).mono ?_; rintro e w1 ⟨rfl, hf1⟩; have p11 := (hf1.cell (p := ⟨w.heap.size, 11, none⟩) (by simp) (fun h => h)).trans (show _ = some ((Value.int .u32 0)) by rw [World.cell?_alloc_at _ _ _ _ rfl]; rfl); have p12 := (hf1.cell (p := ⟨w.heap.size, 12, none⟩) (by simp) (fun h => h)).trans (show _ = some ((Value.int .u32 0)) by rw [World.cell?_alloc_at _ _ _ _ rfl]; rfl); have p13 := (hf1.cell (p := ⟨w.heap.size, 13, none⟩) (by simp) (fun h => h)).trans (show _ = some ((Value.int .u32 (v.an.cl : Nat))) by rw [World.cell?_alloc_at _ _ _ _ rfl]; rfl); have p14 := (hf1.cell (p := ⟨w.heap.size, 14, none⟩) (by simp) (fun h => h)).trans (show _ = some ((Value.int .u32 (v.an.nu : Nat))) by rw [World.cell?_alloc_at _ _ _ _ rfl]; rfl); have p15 := (hf1.cell (p := ⟨w.heap.size, 15, none⟩) (by simp) (fun h => h)).trans (show _ = some ((Value.int .u8 (v.an.co : Nat))) by rw [World.cell?_alloc_at _ _ _ _ rfl]; rfl); have p16 := (hf1.cell (p := ⟨w.heap.size, 16, none⟩) (by simp) (fun h => h)).trans (show _ = some ((Value.int .u32 (v.an.re : Nat))) by rw [World.cell?_alloc_at _ _ _ _ rfl]; rfl); have p17 := (hf1.cell (p := ⟨w.heap.size, 17, none⟩) (by simp) (fun h => h)).trans (show _ = some ((Value.int .u32 (v.an.ve : Nat))) by rw [World.cell?_alloc_at _ _ _ _ rfl]; rfl); have p18 := (hf1.cell (p := ⟨w.heap.size, 18, none⟩) (by simp) (fun h => h)).trans (show _ = some ((Value.slice a1 v.an.fs.length c1)) by rw [World.cell?_alloc_at _ _ _ _ rfl]; rfl); have p19 := (hf1.cell (p := ⟨w.heap.size, 19, none⟩) (by simp) (fun h => h)).trans (show _ = some ((Value.slice a2 v.an.hi.length c2)) by rw [World.cell?_alloc_at _ _ _ _ rfl]; rfl); have p20 := (hf1.cell (p := ⟨w.heap.size, 20, none⟩) (by simp) (fun h => h)).trans (show _ = some ((Value.int .u8 0)) by rw [World.cell?_alloc_at _ _ _ _ rfl]; rfl); have p21 := (hf1.cell (p := ⟨w.heap.size, 21, none⟩) (by simp) (fun h => h)).trans (show _ = some ((Value.int .u32 (v.ev.pl : Nat))) by rw [World.cell?_alloc_at _ _ _ _ rfl]; rfl); have p22 := (hf1.cell (p := ⟨w.heap.size, 22, none⟩) (by simp) (fun h => h)).trans (show _ = some ((Value.int .u32 (v.ev.rq.cl : Nat))) by rw [World.cell?_alloc_at _ _ _ _ rfl]; rfl); have p23 := (hf1.cell (p := ⟨w.heap.size, 23, none⟩) (by simp) (fun h => h)).trans (show _ = some ((Value.int .u32 (v.ev.rq.nu : Nat))) by rw [World.cell?_alloc_at _ _ _ _ rfl]; rfl); have p24 := (hf1.cell (p := ⟨w.heap.size, 24, none⟩) (by simp) (fun h => h)).trans (show _ = some ((Value.int .u32 (v.ev.rq.ac : Nat))) by rw [World.cell?_alloc_at _ _ _ _ rfl]; rfl); have p25 := (hf1.cell (p := ⟨w.heap.size, 25, none⟩) (by simp) (fun h => h)).trans (show _ = some ((Value.int .u8 (v.ev.rq.op : Nat))) by rw [World.cell?_alloc_at _ _ _ _ rfl]; rfl); have p26 := (hf1.cell (p := ⟨w.heap.size, 26, none⟩) (by simp) (fun h => h)).trans (show _ = some ((Value.int .u32 (v.ev.rq.re : Nat))) by rw [World.cell?_alloc_at _ _ _ _ rfl]; rfl); have p27 := (hf1.cell (p := ⟨w.heap.size, 27, none⟩) (by simp) (fun h => h)).trans (show _ = some ((Value.int .u32 (v.ev.rq.ve : Nat))) by rw [World.cell?_alloc_at _ _ _ _ rfl]; rfl); have p28 := (hf1.cell (p := ⟨w.heap.size, 28, none⟩) (by simp) (fun h => h)).trans (show _ = some ((Value.int .u32 (v.ev.rq.wa : Nat))) by rw [World.cell?_alloc_at _ _ _ _ rfl]; rfl); have p29 := (hf1.cell (p := ⟨w.heap.size, 29, none⟩) (by simp) (fun h => h)).trans (show _ = some ((Value.int .u32 (v.ev.rq.ow : Nat))) by rw [World.cell?_alloc_at _ _ _ _ rfl]; rfl); have p30 := (hf1.cell (p := ⟨w.heap.size, 30, none⟩) (by simp) (fun h => h)).trans (show _ = some ((Value.slice a3 v.ev.rq.fs.length c3)) by rw [World.cell?_alloc_at _ _ _ _ rfl]; rfl); have p31 := (hf1.cell (p := ⟨w.heap.size, 31, none⟩) (by simp) (fun h => h)).trans (show _ = some ((Value.string v.ev.rq.rs)) by rw [World.cell?_alloc_at _ _ _ _ rfl]; rfl); have p32 := (hf1.cell (p := ⟨w.heap.size, 32, none⟩) (by simp) (fun h => h)).trans (show _ = some ((Value.int .u8 (v.ev.co : Nat))) by rw [World.cell?_alloc_at _ _ _ _ rfl]; rfl); have p33 := (hf1.cell (p := ⟨w.heap.size, 33, none⟩) (by simp) (fun h => h)).trans (show _ = some ((Value.slice a4 v.ev.dg.length c4)) by rw [World.cell?_alloc_at _ _ _ _ rfl]; rfl); have p34 := (hf1.cell (p := ⟨w.heap.size, 34, none⟩) (by simp) (fun h => h)).trans (show _ = some ((Value.int .u32 (v.le : Nat))) by rw [World.cell?_alloc_at _ _ _ _ rfl]; rfl); have F1 := hid ((box1 w _).trans hf1 (fun _ _ h => h)); clear hf1)
  | (go_at_call 164; refine ((uh HA) _).mono ?_; rintro e w2 ⟨rfl, hf2⟩; have r20 := (hf2.cell (p := ⟨w.heap.size, 20, none⟩) (ltC p20) (fun h => h)).trans p20; have r21 := (hf2.cell (p := ⟨w.heap.size, 21, none⟩) (ltC p21) (fun h => h)).trans p21; have r22 := (hf2.cell (p := ⟨w.heap.size, 22, none⟩) (ltC p22) (fun h => h)).trans p22; have r23 := (hf2.cell (p := ⟨w.heap.size, 23, none⟩) (ltC p23) (fun h => h)).trans p23; have r24 := (hf2.cell (p := ⟨w.heap.size, 24, none⟩) (ltC p24) (fun h => h)).trans p24; have r25 := (hf2.cell (p := ⟨w.heap.size, 25, none⟩) (ltC p25) (fun h => h)).trans p25; have r26 := (hf2.cell (p := ⟨w.heap.size, 26, none⟩) (ltC p26) (fun h => h)).trans p26; have r27 := (hf2.cell (p := ⟨w.heap.size, 27, none⟩) (ltC p27) (fun h => h)).trans p27; have r28 := (hf2.cell (p := ⟨w.heap.size, 28, none⟩) (ltC p28) (fun h => h)).trans p28; have r29 := (hf2.cell (p := ⟨w.heap.size, 29, none⟩) (ltC p29) (fun h => h)).trans p29; have r30 := (hf2.cell (p := ⟨w.heap.size, 30, none⟩) (ltC p30) (fun h => h)).trans p30; have r31 := (hf2.cell (p := ⟨w.heap.size, 31, none⟩) (ltC p31) (fun h => h)).trans p31; have r32 := (hf2.cell (p := ⟨w.heap.size, 32, none⟩) (ltC p32) (fun h => h)).trans p32; have r33 := (hf2.cell (p := ⟨w.heap.size, 33, none⟩) (ltC p33) (fun h => h)).trans p33; have r34 := (hf2.cell (p := ⟨w.heap.size, 34, none⟩) (ltC p34) (fun h => h)).trans p34; have F2 := hid ((uh F1).trans hf2 (fun _ _ h => h)); clear hf2)
  | (go_at_call 165; refine ((uh HE) _).mono ?_; rintro e w3 ⟨rfl, hf3⟩; have s34 := (hf3.cell (p := ⟨w.heap.size, 34, none⟩) (ltC r34) (fun h => h)).trans r34; have F3 := hid ((uh F2).trans hf3 (fun _ _ h => h)); clear hf3))
 all_goals
  go_ret
  refine ⟨?_, ?_⟩
  ·have hC := uh HC
   clear HC HR HA HE
   simp_all [bne_cast]
  ·first | exact uh F3 | exact uh F2 | exact uh F1
set_option maxRecDepth 100000 in
set_option maxHeartbeats 4000000 in
theorem beside_5 (v : MsM) (a0 a1 a2 a3 a4 : Option Addr) (c0 c1 c2 c3 c4 : Nat) (w : World) (hv : v.ok) (hn : v.lens) (hk : v.kd = 5) : Calls Tryz.prog 145 #[.agg (v.vals (.slice a0 v.rq.fs.length c0) (.slice a1 v.an.fs.length c1) (.slice a2 v.an.hi.length c2) (.slice a3 v.ev.rq.fs.length c3) (.slice a4 v.ev.dg.length c4))] w fun e w' => e = .returned (.bool v.beside) ∧ Fr (fun _ => False) w w' := by
 have HR : Hid (∀ wx, Calls Tryz.prog 163 #[.agg #[.int .u32 (v.rq.cl : Nat), .int .u32 (v.rq.nu : Nat), .int .u32 (v.rq.ac : Nat), .int .u8 (v.rq.op : Nat), .int .u32 (v.rq.re : Nat), .int .u32 (v.rq.ve : Nat), .int .u32 (v.rq.wa : Nat), .int .u32 (v.rq.ow : Nat), .slice a0 v.rq.fs.length c0, .string v.rq.rs]] wx fun e w' => e = .returned (.bool (v.rq).is) ∧ Fr (fun _ => False) wx w') := fun wx => isRequest_any (v.rq) a0 c0 wx hv.rq hn.rq
 have HA : Hid (∀ wx, Calls Tryz.prog 164 #[.agg #[.int .u32 (v.an.cl : Nat), .int .u32 (v.an.nu : Nat), .int .u8 (v.an.co : Nat), .int .u32 (v.an.re : Nat), .int .u32 (v.an.ve : Nat), .slice a1 v.an.fs.length c1, .slice a2 v.an.hi.length c2]] wx fun e w' => e = .returned (.bool (v.an).is) ∧ Fr (fun _ => False) wx w') := fun wx => isAnswer_any (v.an) a1 c1 a2 c2 wx hv.an hn.an hn.hi
 have HE : Hid (∀ wx, Calls Tryz.prog 165 #[.agg #[.int .u32 0, .int .u32 0, .int .u32 0, .int .u32 0, .int .u8 0, .int .u32 0, .int .u32 0, .int .u32 0, .int .u32 0, .slice none 0 0, .string ⟨#[]⟩, .int .u8 0, .slice none 0 0]] wx fun e w' => e = .returned (.bool (zEv).is) ∧ Fr (fun _ => False) wx w') := fun wx => isEvent_any (zEv) none 0 none 0 wx zEv_ok (by decide) (by decide)
 have HC : Hid (v.beside = (((((v.rq).is || !(v.icl == 0 && v.inu == 0)) || (v.an).is) || v.co != 0) || (zEv).is || v.le != 0)) := by
  have e : v.cut = { v with ev := zEv } := by simp only [MsM.cut, hk]
  show v.cut.is = _
  rw [e]
  rfl
 obtain ⟨hv1, hv2, hv3, hv4, hv5, hv6, hv7, hv8⟩ := hv
 obtain ⟨hn1, hn2, hn3, hn4, hn5⟩ := hn
 generalize v.beside = R at HC ⊢
 generalize (v.rq).is = B1 at HR HC
 generalize (v.an).is = B2 at HA HC
 generalize (zEv).is = B3 at HE HC
 simp only [MsM.vals, hk]
 clear hn1 hn2 hn3 hn4 hn5 hv2 hv5 hv7
 go_enter Tryz.func145, Tryz.ntmps145
 go_wp2_with (first
  | (go_at_call 163; refine ((uh HR) _).mono ?_; rintro e w1 ⟨rfl, hf1⟩; have p11 := (hf1.cell (p := ⟨w.heap.size, 11, none⟩) (by simp) (fun h => h)).trans (show _ = some ((Value.int .u32 (v.icl : Nat))) by rw [World.cell?_alloc_at _ _ _ _ rfl]; rfl); have p12 := (hf1.cell (p := ⟨w.heap.size, 12, none⟩) (by simp) (fun h => h)).trans (show _ = some ((Value.int .u32 (v.inu : Nat))) by rw [World.cell?_alloc_at _ _ _ _ rfl]; rfl); have p13 := (hf1.cell (p := ⟨w.heap.size, 13, none⟩) (by simp) (fun h => h)).trans (show _ = some ((Value.int .u32 (v.an.cl : Nat))) by rw [World.cell?_alloc_at _ _ _ _ rfl]; rfl); have p14 := (hf1.cell (p := ⟨w.heap.size, 14, none⟩) (by simp) (fun h => h)).trans (show _ = some ((Value.int .u32 (v.an.nu : Nat))) by rw [World.cell?_alloc_at _ _ _ _ rfl]; rfl); have p15 := (hf1.cell (p := ⟨w.heap.size, 15, none⟩) (by simp) (fun h => h)).trans (show _ = some ((Value.int .u8 (v.an.co : Nat))) by rw [World.cell?_alloc_at _ _ _ _ rfl]; rfl); have p16 := (hf1.cell (p := ⟨w.heap.size, 16, none⟩) (by simp) (fun h => h)).trans (show _ = some ((Value.int .u32 (v.an.re : Nat))) by rw [World.cell?_alloc_at _ _ _ _ rfl]; rfl); have p17 := (hf1.cell (p := ⟨w.heap.size, 17, none⟩) (by simp) (fun h => h)).trans (show _ = some ((Value.int .u32 (v.an.ve : Nat))) by rw [World.cell?_alloc_at _ _ _ _ rfl]; rfl); have p18 := (hf1.cell (p := ⟨w.heap.size, 18, none⟩) (by simp) (fun h => h)).trans (show _ = some ((Value.slice a1 v.an.fs.length c1)) by rw [World.cell?_alloc_at _ _ _ _ rfl]; rfl); have p19 := (hf1.cell (p := ⟨w.heap.size, 19, none⟩) (by simp) (fun h => h)).trans (show _ = some ((Value.slice a2 v.an.hi.length c2)) by rw [World.cell?_alloc_at _ _ _ _ rfl]; rfl); have p20 := (hf1.cell (p := ⟨w.heap.size, 20, none⟩) (by simp) (fun h => h)).trans (show _ = some ((Value.int .u8 (v.co : Nat))) by rw [World.cell?_alloc_at _ _ _ _ rfl]; rfl); have p21 := (hf1.cell (p := ⟨w.heap.size, 21, none⟩) (by simp) (fun h => h)).trans (show _ = some ((Value.int .u32 0)) by rw [World.cell?_alloc_at _ _ _ _ rfl]; rfl); have p22 := (hf1.cell (p := ⟨w.heap.size, 22, none⟩) (by simp) (fun h => h)).trans (show _ = some ((Value.int .u32 0)) by rw [World.cell?_alloc_at _ _ _ _ rfl]; rfl); have p23 := (hf1.cell (p := ⟨w.heap.size, 23, none⟩) (by simp) (fun h => h)).trans (show _ = some ((Value.int .u32 0)) by rw [World.cell?_alloc_at _ _ _ _ rfl]; rfl); have p24 := (hf1.cell (p := ⟨w.heap.size, 24, none⟩) (by simp) (fun h => h)).trans (show _ = some ((Value.int .u32 0)) by rw [World.cell?_alloc_at _ _ _ _ rfl]; rfl); have p25 := (hf1.cell (p := ⟨w.heap.size, 25, none⟩) (by simp) (fun h => h)).trans (show _ = some ((Value.int .u8 0)) by rw [World.cell?_alloc_at _ _ _ _ rfl]; rfl); have p26 := (hf1.cell (p := ⟨w.heap.size, 26, none⟩) (by simp) (fun h => h)).trans (show _ = some ((Value.int .u32 0)) by rw [World.cell?_alloc_at _ _ _ _ rfl]; rfl); have p27 := (hf1.cell (p := ⟨w.heap.size, 27, none⟩) (by simp) (fun h => h)).trans (show _ = some ((Value.int .u32 0)) by rw [World.cell?_alloc_at _ _ _ _ rfl]; rfl); have p28 := (hf1.cell (p := ⟨w.heap.size, 28, none⟩) (by simp) (fun h => h)).trans (show _ = some ((Value.int .u32 0)) by rw [World.cell?_alloc_at _ _ _ _ rfl]; rfl); have p29 := (hf1.cell (p := ⟨w.heap.size, 29, none⟩) (by simp) (fun h => h)).trans (show _ = some ((Value.int .u32 0)) by rw [World.cell?_alloc_at _ _ _ _ rfl]; rfl); have p30 := (hf1.cell (p := ⟨w.heap.size, 30, none⟩) (by simp) (fun h => h)).trans (show _ = some ((Value.slice none 0 0)) by rw [World.cell?_alloc_at _ _ _ _ rfl]; rfl); have p31 := (hf1.cell (p := ⟨w.heap.size, 31, none⟩) (by simp) (fun h => h)).trans (show _ = some ((Value.string ⟨#[]⟩)) by rw [World.cell?_alloc_at _ _ _ _ rfl]; rfl); have p32 := (hf1.cell (p := ⟨w.heap.size, 32, none⟩) (by simp) (fun h => h)).trans (show _ = some ((Value.int .u8 0)) by rw [World.cell?_alloc_at _ _ _ _ rfl]; rfl); have p33 := (hf1.cell (p := ⟨w.heap.size, 33, none⟩) (by simp) (fun h => h)).trans (show _ = some ((Value.slice none 0 0)) by rw [World.cell?_alloc_at _ _ _ _ rfl]; rfl); have p34 := (hf1.cell (p := ⟨w.heap.size, 34, none⟩) (by simp) (fun h => h)).trans (show _ = some ((Value.int .u32 (v.le : Nat))) by rw [World.cell?_alloc_at _ _ _ _ rfl]; rfl); have F1 := hid ((box1 w _).trans hf1 (fun _ _ h => h)); clear hf1)
  | (go_at_call 164; refine ((uh HA) _).mono ?_; rintro e w2 ⟨rfl, hf2⟩; have r20 := (hf2.cell (p := ⟨w.heap.size, 20, none⟩) (ltC p20) (fun h => h)).trans p20; have r21 := (hf2.cell (p := ⟨w.heap.size, 21, none⟩) (ltC p21) (fun h => h)).trans p21; have r22 := (hf2.cell (p := ⟨w.heap.size, 22, none⟩) (ltC p22) (fun h => h)).trans p22; have r23 := (hf2.cell (p := ⟨w.heap.size, 23, none⟩) (ltC p23) (fun h => h)).trans p23; have r24 := (hf2.cell (p := ⟨w.heap.size, 24, none⟩) (ltC p24) (fun h => h)).trans p24; have r25 := (hf2.cell (p := ⟨w.heap.size, 25, none⟩) (ltC p25) (fun h => h)).trans p25; have r26 := (hf2.cell (p := ⟨w.heap.size, 26, none⟩) (ltC p26) (fun h => h)).trans p26; have r27 := (hf2.cell (p := ⟨w.heap.size, 27, none⟩) (ltC p27) (fun h => h)).trans p27; have r28 := (hf2.cell (p := ⟨w.heap.size, 28, none⟩) (ltC p28) (fun h => h)).trans p28; have r29 := (hf2.cell (p := ⟨w.heap.size, 29, none⟩) (ltC p29) (fun h => h)).trans p29; have r30 := (hf2.cell (p := ⟨w.heap.size, 30, none⟩) (ltC p30) (fun h => h)).trans p30; have r31 := (hf2.cell (p := ⟨w.heap.size, 31, none⟩) (ltC p31) (fun h => h)).trans p31; have r32 := (hf2.cell (p := ⟨w.heap.size, 32, none⟩) (ltC p32) (fun h => h)).trans p32; have r33 := (hf2.cell (p := ⟨w.heap.size, 33, none⟩) (ltC p33) (fun h => h)).trans p33; have r34 := (hf2.cell (p := ⟨w.heap.size, 34, none⟩) (ltC p34) (fun h => h)).trans p34; have F2 := hid ((uh F1).trans hf2 (fun _ _ h => h)); clear hf2)
  | (go_at_call 165; refine ((uh HE) _).mono ?_; rintro e w3 ⟨rfl, hf3⟩; have s34 := (hf3.cell (p := ⟨w.heap.size, 34, none⟩) (ltC r34) (fun h => h)).trans r34; have F3 := hid ((uh F2).trans hf3 (fun _ _ h => h)); clear hf3))
 all_goals
  go_ret
  refine ⟨?_, ?_⟩
  ·have hC := uh HC
   clear HC HR HA HE
   simp_all [bne_cast]
  ·first | exact uh F3 | exact uh F2 | exact uh F1
set_option maxRecDepth 100000 in
set_option maxHeartbeats 4000000 in
theorem beside_6 (v : MsM) (a0 a1 a2 a3 a4 : Option Addr) (c0 c1 c2 c3 c4 : Nat) (w : World) (hv : v.ok) (hn : v.lens) (hk : v.kd = 6) : Calls Tryz.prog 145 #[.agg (v.vals (.slice a0 v.rq.fs.length c0) (.slice a1 v.an.fs.length c1) (.slice a2 v.an.hi.length c2) (.slice a3 v.ev.rq.fs.length c3) (.slice a4 v.ev.dg.length c4))] w fun e w' => e = .returned (.bool v.beside) ∧ Fr (fun _ => False) w w' := by
 have HR : Hid (∀ wx, Calls Tryz.prog 163 #[.agg #[.int .u32 (v.rq.cl : Nat), .int .u32 (v.rq.nu : Nat), .int .u32 (v.rq.ac : Nat), .int .u8 (v.rq.op : Nat), .int .u32 (v.rq.re : Nat), .int .u32 (v.rq.ve : Nat), .int .u32 (v.rq.wa : Nat), .int .u32 (v.rq.ow : Nat), .slice a0 v.rq.fs.length c0, .string v.rq.rs]] wx fun e w' => e = .returned (.bool (v.rq).is) ∧ Fr (fun _ => False) wx w') := fun wx => isRequest_any (v.rq) a0 c0 wx hv.rq hn.rq
 have HA : Hid (∀ wx, Calls Tryz.prog 164 #[.agg #[.int .u32 (v.an.cl : Nat), .int .u32 (v.an.nu : Nat), .int .u8 (v.an.co : Nat), .int .u32 (v.an.re : Nat), .int .u32 (v.an.ve : Nat), .slice a1 v.an.fs.length c1, .slice a2 v.an.hi.length c2]] wx fun e w' => e = .returned (.bool (v.an).is) ∧ Fr (fun _ => False) wx w') := fun wx => isAnswer_any (v.an) a1 c1 a2 c2 wx hv.an hn.an hn.hi
 have HE : Hid (∀ wx, Calls Tryz.prog 165 #[.agg #[.int .u32 (v.ev.pl : Nat), .int .u32 (v.ev.rq.cl : Nat), .int .u32 (v.ev.rq.nu : Nat), .int .u32 (v.ev.rq.ac : Nat), .int .u8 (v.ev.rq.op : Nat), .int .u32 (v.ev.rq.re : Nat), .int .u32 (v.ev.rq.ve : Nat), .int .u32 (v.ev.rq.wa : Nat), .int .u32 (v.ev.rq.ow : Nat), .slice a3 v.ev.rq.fs.length c3, .string v.ev.rq.rs, .int .u8 (v.ev.co : Nat), .slice a4 v.ev.dg.length c4]] wx fun e w' => e = .returned (.bool (v.ev).is) ∧ Fr (fun _ => False) wx w') := fun wx => isEvent_any (v.ev) a3 c3 a4 c4 wx hv.ev hn.ev hn.dg
 have HC : Hid (v.beside = (((((v.rq).is || !(v.icl == 0 && v.inu == 0)) || (v.an).is) || v.co != 0) || (v.ev).is || 0 != 0)) := by
  have e : v.cut = { v with le := 0 } := by simp only [MsM.cut, hk]
  show v.cut.is = _
  rw [e]
  rfl
 obtain ⟨hv1, hv2, hv3, hv4, hv5, hv6, hv7, hv8⟩ := hv
 obtain ⟨hn1, hn2, hn3, hn4, hn5⟩ := hn
 generalize v.beside = R at HC ⊢
 generalize (v.rq).is = B1 at HR HC
 generalize (v.an).is = B2 at HA HC
 generalize (v.ev).is = B3 at HE HC
 simp only [MsM.vals, hk]
 clear hn1 hn2 hn3 hn4 hn5 hv2 hv5 hv7
 go_enter Tryz.func145, Tryz.ntmps145
 go_wp2_with (first
  | (go_at_call 163; refine ((uh HR) _).mono ?_; rintro e w1 ⟨rfl, hf1⟩; have p11 := (hf1.cell (p := ⟨w.heap.size, 11, none⟩) (by simp) (fun h => h)).trans (show _ = some ((Value.int .u32 (v.icl : Nat))) by rw [World.cell?_alloc_at _ _ _ _ rfl]; rfl); have p12 := (hf1.cell (p := ⟨w.heap.size, 12, none⟩) (by simp) (fun h => h)).trans (show _ = some ((Value.int .u32 (v.inu : Nat))) by rw [World.cell?_alloc_at _ _ _ _ rfl]; rfl); have p13 := (hf1.cell (p := ⟨w.heap.size, 13, none⟩) (by simp) (fun h => h)).trans (show _ = some ((Value.int .u32 (v.an.cl : Nat))) by rw [World.cell?_alloc_at _ _ _ _ rfl]; rfl); have p14 := (hf1.cell (p := ⟨w.heap.size, 14, none⟩) (by simp) (fun h => h)).trans (show _ = some ((Value.int .u32 (v.an.nu : Nat))) by rw [World.cell?_alloc_at _ _ _ _ rfl]; rfl); have p15 := (hf1.cell (p := ⟨w.heap.size, 15, none⟩) (by simp) (fun h => h)).trans (show _ = some ((Value.int .u8 (v.an.co : Nat))) by rw [World.cell?_alloc_at _ _ _ _ rfl]; rfl); have p16 := (hf1.cell (p := ⟨w.heap.size, 16, none⟩) (by simp) (fun h => h)).trans (show _ = some ((Value.int .u32 (v.an.re : Nat))) by rw [World.cell?_alloc_at _ _ _ _ rfl]; rfl); have p17 := (hf1.cell (p := ⟨w.heap.size, 17, none⟩) (by simp) (fun h => h)).trans (show _ = some ((Value.int .u32 (v.an.ve : Nat))) by rw [World.cell?_alloc_at _ _ _ _ rfl]; rfl); have p18 := (hf1.cell (p := ⟨w.heap.size, 18, none⟩) (by simp) (fun h => h)).trans (show _ = some ((Value.slice a1 v.an.fs.length c1)) by rw [World.cell?_alloc_at _ _ _ _ rfl]; rfl); have p19 := (hf1.cell (p := ⟨w.heap.size, 19, none⟩) (by simp) (fun h => h)).trans (show _ = some ((Value.slice a2 v.an.hi.length c2)) by rw [World.cell?_alloc_at _ _ _ _ rfl]; rfl); have p20 := (hf1.cell (p := ⟨w.heap.size, 20, none⟩) (by simp) (fun h => h)).trans (show _ = some ((Value.int .u8 (v.co : Nat))) by rw [World.cell?_alloc_at _ _ _ _ rfl]; rfl); have p21 := (hf1.cell (p := ⟨w.heap.size, 21, none⟩) (by simp) (fun h => h)).trans (show _ = some ((Value.int .u32 (v.ev.pl : Nat))) by rw [World.cell?_alloc_at _ _ _ _ rfl]; rfl); have p22 := (hf1.cell (p := ⟨w.heap.size, 22, none⟩) (by simp) (fun h => h)).trans (show _ = some ((Value.int .u32 (v.ev.rq.cl : Nat))) by rw [World.cell?_alloc_at _ _ _ _ rfl]; rfl); have p23 := (hf1.cell (p := ⟨w.heap.size, 23, none⟩) (by simp) (fun h => h)).trans (show _ = some ((Value.int .u32 (v.ev.rq.nu : Nat))) by rw [World.cell?_alloc_at _ _ _ _ rfl]; rfl); have p24 := (hf1.cell (p := ⟨w.heap.size, 24, none⟩) (by simp) (fun h => h)).trans (show _ = some ((Value.int .u32 (v.ev.rq.ac : Nat))) by rw [World.cell?_alloc_at _ _ _ _ rfl]; rfl); have p25 := (hf1.cell (p := ⟨w.heap.size, 25, none⟩) (by simp) (fun h => h)).trans (show _ = some ((Value.int .u8 (v.ev.rq.op : Nat))) by rw [World.cell?_alloc_at _ _ _ _ rfl]; rfl); have p26 := (hf1.cell (p := ⟨w.heap.size, 26, none⟩) (by simp) (fun h => h)).trans (show _ = some ((Value.int .u32 (v.ev.rq.re : Nat))) by rw [World.cell?_alloc_at _ _ _ _ rfl]; rfl); have p27 := (hf1.cell (p := ⟨w.heap.size, 27, none⟩) (by simp) (fun h => h)).trans (show _ = some ((Value.int .u32 (v.ev.rq.ve : Nat))) by rw [World.cell?_alloc_at _ _ _ _ rfl]; rfl); have p28 := (hf1.cell (p := ⟨w.heap.size, 28, none⟩) (by simp) (fun h => h)).trans (show _ = some ((Value.int .u32 (v.ev.rq.wa : Nat))) by rw [World.cell?_alloc_at _ _ _ _ rfl]; rfl); have p29 := (hf1.cell (p := ⟨w.heap.size, 29, none⟩) (by simp) (fun h => h)).trans (show _ = some ((Value.int .u32 (v.ev.rq.ow : Nat))) by rw [World.cell?_alloc_at _ _ _ _ rfl]; rfl); have p30 := (hf1.cell (p := ⟨w.heap.size, 30, none⟩) (by simp) (fun h => h)).trans (show _ = some ((Value.slice a3 v.ev.rq.fs.length c3)) by rw [World.cell?_alloc_at _ _ _ _ rfl]; rfl); have p31 := (hf1.cell (p := ⟨w.heap.size, 31, none⟩) (by simp) (fun h => h)).trans (show _ = some ((Value.string v.ev.rq.rs)) by rw [World.cell?_alloc_at _ _ _ _ rfl]; rfl); have p32 := (hf1.cell (p := ⟨w.heap.size, 32, none⟩) (by simp) (fun h => h)).trans (show _ = some ((Value.int .u8 (v.ev.co : Nat))) by rw [World.cell?_alloc_at _ _ _ _ rfl]; rfl); have p33 := (hf1.cell (p := ⟨w.heap.size, 33, none⟩) (by simp) (fun h => h)).trans (show _ = some ((Value.slice a4 v.ev.dg.length c4)) by rw [World.cell?_alloc_at _ _ _ _ rfl]; rfl); have p34 := (hf1.cell (p := ⟨w.heap.size, 34, none⟩) (by simp) (fun h => h)).trans (show _ = some ((Value.int .u32 0)) by rw [World.cell?_alloc_at _ _ _ _ rfl]; rfl); have F1 := hid ((box1 w _).trans hf1 (fun _ _ h => h)); clear hf1)
  | (go_at_call 164; refine ((uh HA) _).mono ?_; rintro e w2 ⟨rfl, hf2⟩; have r20 := (hf2.cell (p := ⟨w.heap.size, 20, none⟩) (ltC p20) (fun h => h)).trans p20; have r21 := (hf2.cell (p := ⟨w.heap.size, 21, none⟩) (ltC p21) (fun h => h)).trans p21; have r22 := (hf2.cell (p := ⟨w.heap.size, 22, none⟩) (ltC p22) (fun h => h)).trans p22; have r23 := (hf2.cell (p := ⟨w.heap.size, 23, none⟩) (ltC p23) (fun h => h)).trans p23; have r24 := (hf2.cell (p := ⟨w.heap.size, 24, none⟩) (ltC p24) (fun h => h)).trans p24; have r25 := (hf2.cell (p := ⟨w.heap.size, 25, none⟩) (ltC p25) (fun h => h)).trans p25; have r26 := (hf2.cell (p := ⟨w.heap.size, 26, none⟩) (ltC p26) (fun h => h)).trans p26; have r27 := (hf2.cell (p := ⟨w.heap.size, 27, none⟩) (ltC p27) (fun h => h)).trans p27; have r28 := (hf2.cell (p := ⟨w.heap.size, 28, none⟩) (ltC p28) (fun h => h)).trans p28; have r29 := (hf2.cell (p := ⟨w.heap.size, 29, none⟩) (ltC p29) (fun h => h)).trans p29; have r30 := (hf2.cell (p := ⟨w.heap.size, 30, none⟩) (ltC p30) (fun h => h)).trans p30; have r31 := (hf2.cell (p := ⟨w.heap.size, 31, none⟩) (ltC p31) (fun h => h)).trans p31; have r32 := (hf2.cell (p := ⟨w.heap.size, 32, none⟩) (ltC p32) (fun h => h)).trans p32; have r33 := (hf2.cell (p := ⟨w.heap.size, 33, none⟩) (ltC p33) (fun h => h)).trans p33; have r34 := (hf2.cell (p := ⟨w.heap.size, 34, none⟩) (ltC p34) (fun h => h)).trans p34; have F2 := hid ((uh F1).trans hf2 (fun _ _ h => h)); clear hf2)
  | (go_at_call 165; refine ((uh HE) _).mono ?_; rintro e w3 ⟨rfl, hf3⟩; have s34 := (hf3.cell (p := ⟨w.heap.size, 34, none⟩) (ltC r34) (fun h => h)).trans r34; have F3 := hid ((uh F2).trans hf3 (fun _ _ h => h)); clear hf3))
 all_goals
  go_ret
  refine ⟨?_, ?_⟩
  ·have hC := uh HC
   clear HC HR HA HE
   simp_all [bne_cast]
  ·first | exact uh F3 | exact uh F2 | exact uh F1
theorem beside_any (v : MsM) (a0 a1 a2 a3 a4 : Option Addr) (c0 c1 c2 c3 c4 : Nat) (w : World) (hv : v.ok) (hn : v.lens) : Calls Tryz.prog 145 #[.agg (v.vals (.slice a0 v.rq.fs.length c0) (.slice a1 v.an.fs.length c1) (.slice a2 v.an.hi.length c2) (.slice a3 v.ev.rq.fs.length c3) (.slice a4 v.ev.dg.length c4))] w fun e w' => e = .returned (.bool v.beside) ∧ Fr (fun _ => False) w w' := by
 by_cases h1 : v.kd = 1
 ·exact beside_1 v a0 a1 a2 a3 a4 c0 c1 c2 c3 c4 w hv hn h1
 by_cases h2 : v.kd = 2
 ·exact beside_2 v a0 a1 a2 a3 a4 c0 c1 c2 c3 c4 w hv hn h2
 by_cases h3 : v.kd = 3
 ·exact beside_3 v a0 a1 a2 a3 a4 c0 c1 c2 c3 c4 w hv hn h3
 by_cases h4 : v.kd = 4
 ·exact beside_4 v a0 a1 a2 a3 a4 c0 c1 c2 c3 c4 w hv hn h4
 by_cases h5 : v.kd = 5
 ·exact beside_5 v a0 a1 a2 a3 a4 c0 c1 c2 c3 c4 w hv hn h5
 by_cases h6 : v.kd = 6
 ·exact beside_6 v a0 a1 a2 a3 a4 c0 c1 c2 c3 c4 w hv hn h6
 exact beside_0 v a0 a1 a2 a3 a4 c0 c1 c2 c3 c4 w hv hn (fun i h1 h2 => by omega)
variable {L : List Nat}
def CS.m1 (c : CS) (v : MsM) : CS × Nat := c.pU8 n_kind [wiN 1 7 5, unN v.beside] v.kd
def CS.pM (c : CS) (k : Nat) (v : MsM) : CS × MsM :=
 if k = 1 then ((c.pRequest v.rq).1, { v with kd := 1, rq := (c.pRequest v.rq).2 })
 else if k = 2 then ((c.pId (v.icl, v.inu)).1, { v with kd := 2, icl := (c.pId (v.icl, v.inu)).2.1, inu := (c.pId (v.icl, v.inu)).2.2 })
 else if k = 3 then ((c.pAnswer v.an).1, { v with kd := 3, an := (c.pAnswer v.an).2 })
 else if k = 4 then (((c.pId (v.icl, v.inu)).1.pU8 n_busy [wiN 1 15 4] v.co).1, { v with kd := 4, icl := (c.pId (v.icl, v.inu)).2.1, inu := (c.pId (v.icl, v.inu)).2.2, co := ((c.pId (v.icl, v.inu)).1.pU8 n_busy [wiN 1 15 4] v.co).2 })
 else if k = 5 then ((c.pEvent v.ev).1, { v with kd := 5, ev := (c.pEvent v.ev).2 })
 else if k = 6 then ((c.pU32 n_length [] v.le).1, { v with kd := 6, le := (c.pU32 n_length [] v.le).2 })
 else (c, { v with kd := k })
def CS.pMessage (c : CS) (v : MsM) : CS × MsM := (c.m1 v).1.pM (c.m1 v).2 v
theorem zRq_is : zRq.is = false := by decide +kernel
theorem zAn_is : zAn.is = false := by decide +kernel
variable {L : List Nat}
def messageW (v : MsM) : Wq := ((cw0.pForm 7).pMessage v).1.wq
theorem Tryz.sizeMs7 : (Tryz.prog.info? 42).map (·.size) = some 35 := by kernel_rfl
structure MsC (w : World) (g : Nat) (v : MsM) (x0 x1 x2 x3 x4 : Value) : Prop where
 c0 : w.cell? ⟨g, 0, none⟩ = some (.int .u8 (v.kd : Nat))
 r : RqC w g 1 v.rq x0
 c11 : w.cell? ⟨g, 11, none⟩ = some (.int .u32 (v.icl : Nat))
 c12 : w.cell? ⟨g, 12, none⟩ = some (.int .u32 (v.inu : Nat))
 a : AnC w g 13 v.an x1 x2
 c20 : w.cell? ⟨g, 20, none⟩ = some (.int .u8 (v.co : Nat))
 e : EvC w g 21 v.ev x3 x4
 c34 : w.cell? ⟨g, 34, none⟩ = some (.int .u32 (v.le : Nat))
theorem MsC.range {w : World} {g : Nat} {v : MsM} {x0 x1 x2 x3 x4 : Value} (h : MsC w g v x0 x1 x2 x3 x4) : w.rangeAt g 0 (v.vals x0 x1 x2 x3 x4).toList := by
 intro j u hu
 rw [Nat.zero_add]
 have hj : j < 35 := (List.getElem?_eq_some_iff.1 hu).1
 match j, hj with
 | 0, _ => exact (Option.some.inj hu) ▸ h.c0
 | 1, _ => exact (Option.some.inj hu) ▸ h.r.c0
 | 2, _ => exact (Option.some.inj hu) ▸ h.r.c1
 | 3, _ => exact (Option.some.inj hu) ▸ h.r.c2
 | 4, _ => exact (Option.some.inj hu) ▸ h.r.c3
 | 5, _ => exact (Option.some.inj hu) ▸ h.r.c4
 | 6, _ => exact (Option.some.inj hu) ▸ h.r.c5
 | 7, _ => exact (Option.some.inj hu) ▸ h.r.c6
 | 8, _ => exact (Option.some.inj hu) ▸ h.r.c7
 | 9, _ => exact (Option.some.inj hu) ▸ h.r.c8
 | 10, _ => exact (Option.some.inj hu) ▸ h.r.c9
 | 11, _ => exact (Option.some.inj hu) ▸ h.c11
 | 12, _ => exact (Option.some.inj hu) ▸ h.c12
 | 13, _ => exact (Option.some.inj hu) ▸ h.a.c0
 | 14, _ => exact (Option.some.inj hu) ▸ h.a.c1
 | 15, _ => exact (Option.some.inj hu) ▸ h.a.c2
 | 16, _ => exact (Option.some.inj hu) ▸ h.a.c3
 | 17, _ => exact (Option.some.inj hu) ▸ h.a.c4
 | 18, _ => exact (Option.some.inj hu) ▸ h.a.c5
 | 19, _ => exact (Option.some.inj hu) ▸ h.a.c6
 | 20, _ => exact (Option.some.inj hu) ▸ h.c20
 | 21, _ => exact (Option.some.inj hu) ▸ h.e.c0
 | 22, _ => exact (Option.some.inj hu) ▸ h.e.r.c0
 | 23, _ => exact (Option.some.inj hu) ▸ h.e.r.c1
 | 24, _ => exact (Option.some.inj hu) ▸ h.e.r.c2
 | 25, _ => exact (Option.some.inj hu) ▸ h.e.r.c3
 | 26, _ => exact (Option.some.inj hu) ▸ h.e.r.c4
 | 27, _ => exact (Option.some.inj hu) ▸ h.e.r.c5
 | 28, _ => exact (Option.some.inj hu) ▸ h.e.r.c6
 | 29, _ => exact (Option.some.inj hu) ▸ h.e.r.c7
 | 30, _ => exact (Option.some.inj hu) ▸ h.e.r.c8
 | 31, _ => exact (Option.some.inj hu) ▸ h.e.r.c9
 | 32, _ => exact (Option.some.inj hu) ▸ h.e.c11
 | 33, _ => exact (Option.some.inj hu) ▸ h.e.c12
 | 34, _ => exact (Option.some.inj hu) ▸ h.c34
structure MsO (w w' : World) (cb b g : Nat) (F F' : Nat → Prop) (c : CS) (E : Nat → Addr) (r : CS × MsM) (x0 x1 x2 x3 y0 y1 y2 y3 y4 : Value) : Prop where
 C : Cd w' cb b F' r.1 E
 m : MsC w' g r.2 y0 y1 y2 y3 y4
 o0 : FdO w w' c x0 y0 r.2.rq.fs F'
 o1 : FdO w w' c x1 y1 r.2.an.fs F'
 o2 : SuO w w' c x2 y2 r.2.an.hi F'
 o3 : FdO w w' c x3 y3 r.2.ev.rq.fs F'
 o4 : BO w w' c y4 r.2.ev.dg F' g
 s : Stp w w' F F' (cellsAt g 0 35)
theorem FdX.same {w w' : World} {c : CS} {x : Value} {l : List Fld} {F F' : Nat → Prop} {g : Nat} (h : FdX w c x l F g) : FdO w w' c x x l F' := ⟨fun _ _ => rfl, fun q e => by obtain ⟨rfl, rfl⟩ := h.rd q e; exact OwV.nil _ _ _⟩
theorem SuX.same {w w' : World} {c : CS} {x : Value} {l : List SuM} {F F' : Nat → Prop} {g : Nat} (h : SuX w c x l F g) : SuO w w' c x x l F' := ⟨fun _ _ => rfl, fun q e => by obtain ⟨rfl, rfl⟩ := h.rd q e; exact ⟨fun _ h => (by cases h), ⟨rfl, .inl ⟨rfl, rfl⟩⟩, fun _ h => (by cases h)⟩⟩
theorem BVg.same {w w' : World} {c : CS} {x : Value} {l : List Nat} {F F' : Nat → Prop} {P : Nat → Nat → Prop} {g : Nat} (h : BVg w x l F g) (hr : ∀ q, c = .rd q → x = .slice none 0 0 ∧ l = []) (hs : Stp w w' F F' P) (hP : ∀ k i, k < w.heap.size → P k i → k = g) : BO w w' c x l F' g := ⟨h.stp hs hP, fun q e => by obtain ⟨rfl, rfl⟩ := hr q e; exact ⟨rfl, .inl ⟨rfl, rfl⟩⟩⟩
structure MsT (w w' : World) (cb b g : Nat) (F F' : Nat → Prop) (c c1 : CS) (E : Nat → Addr) (v : MsM) (kd : Nat) (x0 x1 x2 x3 x4 : Value) : Prop where
 C : Cd w' cb b F' c1 E
 m : MsC w' g { v with kd := kd } x0 x1 x2 x3 x4
 X0 : FdX w c x0 v.rq.fs F g
 X1 : FdX w c x1 v.an.fs F g
 X2 : SuX w c x2 v.an.hi F g
 X3 : FdX w c x3 v.ev.rq.fs F g
 X4 : BVg w x4 v.ev.dg F g
 R4 : ∀ q, c = .rd q → x4 = .slice none 0 0 ∧ v.ev.dg = []
 L : ∀ i, Loc w cb F g i
 s : Stp w w' F F' (cellsAt g 0 1)
 sm : c.sm c1
 ok : v.ok
 room : c1.room 500
section
variable {w w' w2 : World} {cb b g : Nat} {F F' F2 : Nat → Prop} {c c1 c2 : CS} {E : Nat → Addr} {v : MsM} {kd : Nat} {x0 x1 x2 x3 x4 : Value}
theorem MsT.lt (h : MsT w w' cb b g F F' c c1 E v kd x0 x1 x2 x3 x4) : g < w'.heap.size := Nat.lt_of_lt_of_le (h.L 0).lt h.s.size
theorem MsT.nF (h : MsT w w' cb b g F F' c c1 E v kd x0 x1 x2 x3 x4) : ¬ F' g := h.s.nF (h.L 0).lt (h.L 0).nF
theorem MsT.st (h : MsT w w' cb b g F F' c c1 E v kd x0 x1 x2 x3 x4) {o n : Nat} (hs : Stp w' w2 F' F2 (cellsAt g o n)) (ho : o + n ≤ 35) : Stp w w2 F F2 (cellsAt g 0 35) :=
 (h.s.mono (P' := cellsAt g 0 35) (fun k j _ e => ⟨e.1, by omega, by have := e.2; omega⟩)).trans hs (fun k j _ e => ⟨e.1, by omega, by have := e.2; omega⟩)
theorem MsT.end0 (h : MsT w w' cb b g F F' c c1 E v kd x0 x1 x2 x3 x4) : MsO w w' cb b g F F' c E (c1, { v with kd := kd }) x0 x1 x2 x3 x0 x1 x2 x3 x4 :=
 ⟨h.C, h.m, h.X0.same, h.X1.same, h.X2.same, h.X3.same, h.X4.same h.R4 h.s (fun k j _ e => e.1), h.s.mono (fun k j _ e => ⟨e.1, by omega, by have := e.2; omega⟩)⟩
theorem MsT.end1 (h : MsT w w' cb b g F F' c c1 E v kd x0 x1 x2 x3 x4) (hk : kd = 1) {y : Value} (hC : Cd w2 cb b F2 (c1.pRequest v.rq).1 E) (hr : RqC w2 g 1 { (c1.pRequest v.rq).2 with fs := v.rq.fs } y) (hO : FdO w' w2 c1 x0 y (c1.pRequest v.rq).2.fs F2) (hs : Stp w' w2 F' F2 (cellsAt g 1 10)) : MsO w w2 cb b g F F2 c E (c1.pM kd v) x0 x1 x2 x3 y x1 x2 x3 x4 := by
 subst hk
 unfold CS.pM
 rw [if_pos rfl]
 exact ⟨hC, ⟨(hs.oth g 0 h.lt h.nF (fun e => by have := e.2; omega)).trans h.m.c0, RqC.fs _ _ hr, (hs.oth g 11 h.lt h.nF (fun e => by have := e.2; omega)).trans h.m.c11, (hs.oth g 12 h.lt h.nF (fun e => by have := e.2; omega)).trans h.m.c12, h.m.a.stp hs h.nF (fun i hi e => by have := e.2; omega), (hs.oth g 20 h.lt h.nF (fun e => by have := e.2; omega)).trans h.m.c20, h.m.e.stp hs h.nF (fun i hi e => by have := e.2; omega), (hs.oth g 34 h.lt h.nF (fun e => by have := e.2; omega)).trans h.m.c34⟩, hO.of h.sm h.s.size, h.X1.same, h.X2.same, h.X3.same, h.X4.same h.R4 (h.st hs (by decide)) (fun k j _ e => e.1), h.st hs (by decide)⟩
theorem MsT.end2 (h : MsT w w' cb b g F F' c c1 E v kd x0 x1 x2 x3 x4) (hk : kd = 2) (hC : Cd w2 cb b F2 (c1.pId (v.icl, v.inu)).1 E) (h1 : w2.cell? ⟨g, 11, none⟩ = some (.int .u32 ((c1.pId (v.icl, v.inu)).2.1 : Nat))) (h2 : w2.cell? ⟨g, 12, none⟩ = some (.int .u32 ((c1.pId (v.icl, v.inu)).2.2 : Nat))) (hs : Stp w' w2 F' F2 (cellsAt g 11 2)) : MsO w w2 cb b g F F2 c E (c1.pM kd v) x0 x1 x2 x3 x0 x1 x2 x3 x4 := by
 subst hk
 unfold CS.pM
 rw [if_neg (by decide), if_pos rfl]
 exact ⟨hC, ⟨(hs.oth g 0 h.lt h.nF (fun e => by have := e.2; omega)).trans h.m.c0, h.m.r.stp hs h.nF (fun i hi e => by have := e.2; omega), h1, h2, h.m.a.stp hs h.nF (fun i hi e => by have := e.2; omega), (hs.oth g 20 h.lt h.nF (fun e => by have := e.2; omega)).trans h.m.c20, h.m.e.stp hs h.nF (fun i hi e => by have := e.2; omega), (hs.oth g 34 h.lt h.nF (fun e => by have := e.2; omega)).trans h.m.c34⟩, h.X0.same, h.X1.same, h.X2.same, h.X3.same, h.X4.same h.R4 (h.st hs (by decide)) (fun k j _ e => e.1), h.st hs (by decide)⟩
theorem MsT.end3 (h : MsT w w' cb b g F F' c c1 E v kd x0 x1 x2 x3 x4) (hk : kd = 3) {y z : Value} (hC : Cd w2 cb b F2 (c1.pAnswer v.an).1 E) (hr : AnC w2 g 13 (c1.pAnswer v.an).2 y z) (hO : FdO w' w2 c1 x1 y (c1.pAnswer v.an).2.fs F2) (hZ : SuO w' w2 c1 x2 z (c1.pAnswer v.an).2.hi F2) (hs : Stp w' w2 F' F2 (cellsAt g 13 7)) : MsO w w2 cb b g F F2 c E (c1.pM kd v) x0 x1 x2 x3 x0 y z x3 x4 := by
 subst hk
 unfold CS.pM
 rw [if_neg (by decide), if_neg (by decide), if_pos rfl]
 exact ⟨hC, ⟨(hs.oth g 0 h.lt h.nF (fun e => by have := e.2; omega)).trans h.m.c0, h.m.r.stp hs h.nF (fun i hi e => by have := e.2; omega), (hs.oth g 11 h.lt h.nF (fun e => by have := e.2; omega)).trans h.m.c11, (hs.oth g 12 h.lt h.nF (fun e => by have := e.2; omega)).trans h.m.c12, hr, (hs.oth g 20 h.lt h.nF (fun e => by have := e.2; omega)).trans h.m.c20, h.m.e.stp hs h.nF (fun i hi e => by have := e.2; omega), (hs.oth g 34 h.lt h.nF (fun e => by have := e.2; omega)).trans h.m.c34⟩, h.X0.same, hO.of h.sm h.s.size, hZ.of h.sm h.s.size, h.X3.same, h.X4.same h.R4 (h.st hs (by decide)) (fun k j _ e => e.1), h.st hs (by decide)⟩
theorem MsT.end4 (h : MsT w w' cb b g F F' c c1 E v kd x0 x1 x2 x3 x4) (hk : kd = 4) (hC : Cd w2 cb b F2 ((c1.pId (v.icl, v.inu)).1.pU8 n_busy [wiN 1 15 4] v.co).1 E) (h1 : w2.cell? ⟨g, 11, none⟩ = some (.int .u32 ((c1.pId (v.icl, v.inu)).2.1 : Nat))) (h2 : w2.cell? ⟨g, 12, none⟩ = some (.int .u32 ((c1.pId (v.icl, v.inu)).2.2 : Nat))) (h3 : w2.cell? ⟨g, 20, none⟩ = some (.int .u8 (((c1.pId (v.icl, v.inu)).1.pU8 n_busy [wiN 1 15 4] v.co).2 : Nat)))
  (hs : Stp w' w2 F' F2 (fun k j => cellsAt g 11 2 k j ∨ (k = g ∧ j = 20))) : MsO w w2 cb b g F F2 c E (c1.pM kd v) x0 x1 x2 x3 x0 x1 x2 x3 x4 := by
 subst hk
 have hst : Stp w w2 F F2 (cellsAt g 0 35) := (h.s.mono (P' := cellsAt g 0 35) (fun k j _ e => ⟨e.1, by omega, by have := e.2; omega⟩)).trans hs (fun k j _ e => by
  rcases e with e | e
  ·exact ⟨e.1, by omega, by have := e.2; omega⟩
  ·exact ⟨e.1, by omega, by omega⟩)
 have hn : ∀ j, (j < 11 ∨ 12 < j) → j ≠ 20 → ¬ (cellsAt g 11 2 g j ∨ (g = g ∧ j = 20)) := fun j h1 h2 e => by
  rcases e with e | e
  ·have := e.2; omega
  ·omega
 unfold CS.pM
 rw [if_neg (by decide), if_neg (by decide), if_neg (by decide), if_pos rfl]
 exact ⟨hC, ⟨(hs.oth g 0 h.lt h.nF (hn 0 (by omega) (by omega))).trans h.m.c0, h.m.r.stp hs h.nF (fun i hi => hn _ (by omega) (by omega)), h1, h2, h.m.a.stp hs h.nF (fun i hi => hn _ (by omega) (by omega)), h3, h.m.e.stp hs h.nF (fun i hi => hn _ (by omega) (by omega)), (hs.oth g 34 h.lt h.nF (hn 34 (by omega) (by omega))).trans h.m.c34⟩, h.X0.same, h.X1.same, h.X2.same, h.X3.same, h.X4.same h.R4 hst (fun k j _ e => e.1), hst⟩
theorem MsT.end5 (h : MsT w w' cb b g F F' c c1 E v kd x0 x1 x2 x3 x4) (hk : kd = 5) {y z : Value} (hC : Cd w2 cb b F2 (c1.pEvent v.ev).1 E) (hr : EvC w2 g 21 { (c1.pEvent v.ev).2 with rq := { (c1.pEvent v.ev).2.rq with fs := v.ev.rq.fs } } y z) (hO : FdO w' w2 c1 x3 y (c1.pEvent v.ev).2.rq.fs F2) (hZ : BO w' w2 c1 z (c1.pEvent v.ev).2.dg F2 g) (hs : Stp w' w2 F' F2 (cellsAt g 21 13)) : MsO w w2 cb b g F F2 c E (c1.pM kd v) x0 x1 x2 x3 x0 x1 x2 y z := by
 subst hk
 have hmd : ∀ q, c = .rd q → ∃ q', c1 = .rd q' := fun q hq => by
  cases hm : c1 with
  | wr s' => obtain ⟨_, e'⟩ := h.sm.1 s' hm; rw [hq] at e'; cases e'
  | rd q' => exact ⟨q', rfl⟩
 unfold CS.pM
 rw [if_neg (by decide), if_neg (by decide), if_neg (by decide), if_neg (by decide), if_pos rfl]
 exact ⟨hC, ⟨(hs.oth g 0 h.lt h.nF (fun e => by have := e.2; omega)).trans h.m.c0, h.m.r.stp hs h.nF (fun i hi e => by have := e.2; omega), (hs.oth g 11 h.lt h.nF (fun e => by have := e.2; omega)).trans h.m.c11, (hs.oth g 12 h.lt h.nF (fun e => by have := e.2; omega)).trans h.m.c12, h.m.a.stp hs h.nF (fun i hi e => by have := e.2; omega), (hs.oth g 20 h.lt h.nF (fun e => by have := e.2; omega)).trans h.m.c20, EvC.fs _ _ hr, (hs.oth g 34 h.lt h.nF (fun e => by have := e.2; omega)).trans h.m.c34⟩, h.X0.same, h.X1.same, h.X2.same, hO.of h.sm h.s.size, hZ.mode h.s.size hmd, h.st hs (by decide)⟩
theorem MsT.end6 (h : MsT w w' cb b g F F' c c1 E v kd x0 x1 x2 x3 x4) (hk : kd = 6) (hC : Cd w2 cb b F2 (c1.pU32 n_length [] v.le).1 E) (h1 : w2.cell? ⟨g, 34, none⟩ = some (.int .u32 ((c1.pU32 n_length [] v.le).2 : Nat))) (hs' : Stp w' w2 F' F2 (fun k j => k = g ∧ j = 34)) : MsO w w2 cb b g F F2 c E (c1.pM kd v) x0 x1 x2 x3 x0 x1 x2 x3 x4 := by
 subst hk
 have hs : Stp w' w2 F' F2 (cellsAt g 34 1) := hs'.mono (fun k j _ e => ⟨e.1, by omega, by omega⟩)
 unfold CS.pM
 rw [if_neg (by decide), if_neg (by decide), if_neg (by decide), if_neg (by decide), if_neg (by decide), if_pos rfl]
 exact ⟨hC, ⟨(hs.oth g 0 h.lt h.nF (fun e => by have := e.2; omega)).trans h.m.c0, h.m.r.stp hs h.nF (fun i hi e => by have := e.2; omega), (hs.oth g 11 h.lt h.nF (fun e => by have := e.2; omega)).trans h.m.c11, (hs.oth g 12 h.lt h.nF (fun e => by have := e.2; omega)).trans h.m.c12, h.m.a.stp hs h.nF (fun i hi e => by have := e.2; omega), (hs.oth g 20 h.lt h.nF (fun e => by have := e.2; omega)).trans h.m.c20, h.m.e.stp hs h.nF (fun i hi e => by have := e.2; omega), h1⟩, h.X0.same, h.X1.same, h.X2.same, h.X3.same, h.X4.same h.R4 (h.st hs (by decide)) (fun k j _ e => e.1), h.st hs (by decide)⟩
theorem MsT.end7 (h : MsT w w' cb b g F F' c c1 E v kd x0 x1 x2 x3 x4) (hk : kd < 1 ∨ 6 < kd) : MsO w w' cb b g F F' c E (c1.pM kd v) x0 x1 x2 x3 x0 x1 x2 x3 x4 := by
 unfold CS.pM
 rw [if_neg (by omega), if_neg (by omega), if_neg (by omega), if_neg (by omega), if_neg (by omega), if_neg (by omega)]
 exact h.end0
end
end Go.Proofs.YtdcopmkgmbiikaaGreatDoor
