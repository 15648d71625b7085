import Derived.Test.YtlphcgfmjhbeoaaGreatDoorPw6
import Derived.Deep.Cut
namespace Go.Proofs.YtlphcgfmjhbeoaaGreatDoor
open Go.RowKit
theorem CS.pM_sm (c : CS) (k : Nat) (v : MsM) : c.sm (c.pM k v).1 := by
 unfold CS.pM
 split
 ·exact CS.pRequest_sm _ _
 split
 ·exact CS.pId_sm _ _
 split
 ·exact CS.pAnswer_sm _ _
 split
 ·exact CS.sm_trans (CS.pId_sm _ _) (CS.pU8_sm _ _ _ _)
 split
 ·exact CS.pEvent_sm _ _
 split
 ·exact CS.pU32_sm _ _ _ _
 ·exact CS.sm_refl _
theorem CS.pMessage_sm (c : CS) (v : MsM) : c.sm (c.pMessage v).1 := CS.sm_trans (CS.pU8_sm _ _ _ _) (CS.pM_sm _ _ _)
theorem CS.pM_room (s : Wq) (h : (CS.wr s).room 500) (k : Nat) (v : MsM) : ((CS.wr s).pM k v).1.room 0 := by
 unfold CS.pM
 split
 ·exact CS.pRequest_room (n := 0) (CS.room_le h (by decide)) _
 split
 ·exact CS.pId_room (n := 0) (CS.room_le h (by decide)) _
 split
 ·have R1 : ((CS.wr s).a1 v.an).1.room 498 := CS.pId_room h _
  have R2 : ((CS.wr s).a2 v.an).1.room 497 := CS.pU8_room R1 _ _ _
  have R3 : ((CS.wr s).a3 v.an).1.room 496 := CS.pU32_room R2 _ _ _
  have R4 : ((CS.wr s).a4 v.an).1.room 495 := CS.pU32_room R3 _ _ _
  have R5 : ((CS.wr s).a5 v.an).1.room 366 := CS.pFields_room R4 _ _ _
  have M5 : (CS.wr s).sm ((CS.wr s).a5 v.an).1 := CS.sm_trans (CS.sm_trans (CS.sm_trans (CS.sm_trans (CS.pId_sm _ _) (CS.pU8_sm _ _ _ _)) (CS.pU32_sm _ _ _ _)) (CS.pU32_sm _ _ _ _)) (CS.pFields_sm _ _ _ _)
  have e := sm_wq M5
  show (((CS.wr s).a5 v.an).1.pHist v.an.hi).1.room 0
  rw [e] at R5 ⊢
  exact CS.pHist_room _ (CS.room_le R5 (by decide)) _
 split
 ·exact CS.pU8_room (CS.pId_room (n := 1) (CS.room_le h (by decide)) _) _ _ _
 split
 ·exact CS.pHash_room (CS.pU8_room (CS.pRequest_room (n := 2) (CS.pU32_room (n := 142) (CS.room_le h (by decide)) _ _ _) _) _ _ _) _ _
 split
 ·exact CS.pU32_room (n := 0) (CS.room_le h (by decide)) _ _ _
 ·exact CS.room_le h (by decide)
theorem messageW_eq (v : MsM) : ((cw0.pForm 7).pMessage v).1 = .wr (messageW v) := sm_wq (CS.sm_trans (CS.pForm_sm cw0 7) (CS.pMessage_sm _ _))
theorem messageR_eq (l : List Nat) : (messageR l).1 = .rd (messageR l).1.rq := sm_rq (CS.sm_trans (CS.pForm_sm (cr0 l) 7) (CS.pMessage_sm _ _))
theorem messageW_room (v : MsM) : (CS.wr (messageW v)).room 0 := by
 rw [← messageW_eq]
 have R0 : (cw0.pForm 7).room 501 := CS.pForm_room (cw0_room 502 (by decide)) 7
 have R1 : ((cw0.pForm 7).m1 v).1.room 500 := CS.pU8_room R0 _ _ _
 have e := sm_wq (CS.sm_trans (CS.pForm_sm cw0 7) (CS.pU8_sm (cw0.pForm 7) n_kind [wiN 1 7 5, unN v.beside] v.kd))
 show (((cw0.pForm 7).m1 v).1.pM ((cw0.pForm 7).m1 v).2 v).1.room 0
 have e' : ((cw0.pForm 7).m1 v).1 = .wr ((cw0.pForm 7).m1 v).1.wq := e
 rw [e'] at R1 ⊢
 exact CS.pM_room _ R1 _ _
set_option maxRecDepth 100000 in
theorem PutMessage_go (vs : List Value) (hl : vs.length = 35) (w : World) (Q : Ending → World → Prop) (h : Calls Tryz.prog 26 #[.agg vs.toArray] (w.alloc (.cells vs.toArray 42)) fun e w' => (∃ v err, e = .returned (.tuple #[v, err])) ∧ Q e w') : Calls Tryz.prog 10 #[.agg vs.toArray] w fun e w' => (∃ v err, e = .returned (.tuple #[v, err])) ∧ Q e w' := by
 have H := hid h
 have HR : Hid ((w.alloc (.cells vs.toArray 42)).rangeAt w.heap.size 0 vs) := hid (rOB (heap_alloc_new w _))
 have HZ : Hid ((Tryz.prog.info? 42).map (·.size) = some vs.length) := hid (by rw [hl]; exact Tryz.sizeMs7)
 clear h hl
 go_enter Tryz.func10, Tryz.ntmps10
 go_wp2_with (refine wpList_load_mid rfl 42 (.tmp 1) rfl w.heap.size 0 rfl _ _ (uh HR) Tryz.underlying42 rfl (uh HZ) ?_)
 refine (uh H).mono ?_
 rintro e w' ⟨⟨v, err, rfl⟩, hr⟩
 have HR := hid hr
 clear hr
 go_wp2_with fail
 go_ret2
 exact ⟨⟨v, err, rfl⟩, uh HR⟩
structure MsI (w : World) (v : MsM) (x0 x1 x2 x3 x4 : Value) : Prop where
 i0 : FdI w x0 v.rq.fs
 i1 : FdI w x1 v.an.fs
 i2 : SuI w x2 v.an.hi
 i3 : FdI w x3 v.ev.rq.fs
 i4 : SlI w x4 v.ev.dg
theorem MsI.fr0 {w w1 : World} {v : MsM} {x0 x1 x2 x3 x4 : Value} (h : MsI w v x0 x1 x2 x3 x4) (hf : Fr (fun _ => False) w w1) : MsI w1 v x0 x1 x2 x3 x4 := ⟨h.i0.fr0 hf, h.i1.fr0 hf, h.i2.fr0 hf, h.i3.fr0 hf, h.i4.fr0 hf⟩
theorem FdX.form {w : World} {s : Wq} {x : Value} {l : List Fld} {F : Nat → Prop} {g : Nat} (h : FdX w (.wr s) x l F g) : ∃ a n, x = .slice a l.length n := by obtain ⟨xo, xc, e, _⟩ := h.wr s rfl; exact ⟨xo, xc, e⟩
theorem SuX.form {w : World} {s : Wq} {x : Value} {l : List SuM} {F : Nat → Prop} {g : Nat} (h : SuX w (.wr s) x l F g) : ∃ a n, x = .slice a l.length n := by obtain ⟨xo, xc, e, _⟩ := h.wr s rfl; exact ⟨xo, xc, e⟩
set_option maxRecDepth 100000 in
theorem putMessage (v : MsM) (x0 x1 x2 x3 x4 : Value) (E : Nat → Addr) (w : World) (hg : G6 w E) (hw : 9 ≤ w.heap.size) (hx : MsI w v x0 x1 x2 x3 x4) (hv : v.ok) :
  Calls Tryz.prog 10 #[.agg (v.vals x0 x1 x2 x3 x4)] w fun e w' => PutRes w w' e (messageW v) E := by
 have hr := messageW_room v
 obtain ⟨wb, hwb⟩ : ∃ wb, w.alloc (.cells (v.vals x0 x1 x2 x3 x4) 42) = wb := ⟨_, rfl⟩
 have hbx : Fr (fun _ => False) w wb := by rw [← hwb]; exact box1 _ _
 have hx' := hx.fr0 hbx
 have hp := put_Message (v.vals x0 x1 x2 x3 x4) (messageW v) E wb (hg.fr hbx (fun _ h => h.elim)) (by have := hbx.size; omega) (fun w1 cb b F hC hcs hL hF hf => by
  have hF' : ∀ k, F k → wb.heap.size ≤ k := fun k hk => by have := hF k hk; omega
  have X0 := hx'.i0.fdx (s := ⟨ByteArray.empty, [], none⟩) hf hF' wb.heap.size (Nat.le_refl _)
  have X1 := hx'.i1.fdx (s := ⟨ByteArray.empty, [], none⟩) hf hF' wb.heap.size (Nat.le_refl _)
  have X2 := hx'.i2.sux (s := ⟨ByteArray.empty, [], none⟩) hf hF' wb.heap.size (Nat.le_refl _)
  have X3 := hx'.i3.fdx (s := ⟨ByteArray.empty, [], none⟩) hf hF' wb.heap.size (Nat.le_refl _)
  have X4 := hx'.i4.bvg hf hF' wb.heap.size (Nat.le_refl _)
  obtain ⟨a0, n0, e0⟩ := X0.form
  obtain ⟨a1, n1, e1⟩ := X1.form
  obtain ⟨a2, n2, e2⟩ := X2.form
  obtain ⟨a3, n3, e3⟩ := X3.form
  obtain ⟨a4, n4, e4⟩ := X4.bv.src.form
  refine (whole_Message cw0 v a0 a1 a2 a3 a4 n0 n1 n2 n3 n4 x0 x1 x2 x3 x4 cb b wb.heap.size F E w1 hC ⟨hcs 0 _ rfl, ⟨hcs 1 _ rfl, hcs 2 _ rfl, hcs 3 _ rfl, hcs 4 _ rfl, hcs 5 _ rfl, hcs 6 _ rfl, hcs 7 _ rfl, hcs 8 _ rfl, hcs 9 _ rfl, hcs 10 _ rfl⟩, hcs 11 _ rfl, hcs 12 _ rfl, ⟨hcs 13 _ rfl, hcs 14 _ rfl, hcs 15 _ rfl, hcs 16 _ rfl, hcs 17 _ rfl, hcs 18 _ rfl, hcs 19 _ rfl⟩, hcs 20 _ rfl, ⟨hcs 21 _ rfl, ⟨hcs 22 _ rfl, hcs 23 _ rfl, hcs 24 _ rfl, hcs 25 _ rfl, hcs 26 _ rfl, hcs 27 _ rfl, hcs 28 _ rfl, hcs 29 _ rfl, hcs 30 _ rfl, hcs 31 _ rfl⟩, hcs 32 _ rfl, hcs 33 _ rfl⟩, hcs 34 _ rfl⟩ e0 e1 e2 e3 e4 X0 X1 X2 X3 X4 (fun q e => by cases e) hL hv (cw0_room 502 (by decide))).mono ?_
  rintro e w' ⟨rfl, F', _, _, _, _, _, hO⟩
  exact ⟨rfl, F', by rw [← messageW_eq]; exact hO.C, hO.s.mono (fun k j _ h => h.1)⟩) (room_len hr)
 refine (PutMessage_go (v.vals x0 x1 x2 x3 x4).toList rfl w (fun e w' => PutRes w w' e (messageW v) E) ?_).mono (fun e w' h => h.2)
 show Calls Tryz.prog 26 #[.agg (v.vals x0 x1 x2 x3 x4)] (w.alloc (.cells (v.vals x0 x1 x2 x3 x4) 42)) _
 rw [hwb]
 exact hp.mono (fun e w' h => by rw [← hwb] at h; exact PutRes.box h)
def zML : List Value := [.int .u8 0, .int .u32 0, .int .u32 0, .int .u32 0, .int .u8 0, .int .u32 0, .int .u32 0, .int .u32 0, .int .u32 0, .slice none 0 0, .string ⟨#[]⟩, .int .u32 0, .int .u32 0, .int .u32 0, .int .u32 0, .int .u8 0, .int .u32 0, .int .u32 0, .slice none 0 0, .slice none 0 0, .int .u8 0, .int .u32 0, .int .u32 0, .int .u32 0, .int .u32 0, .int .u8 0, .int .u32 0, .int .u32 0, .int .u32 0, .int .u32 0, .slice none 0 0, .string ⟨#[]⟩, .int .u8 0, .slice none 0 0, .int .u32 0]
theorem zML_one : ∀ v ∈ zML, v.oneCell' = true := List.all_eq_true.1 (show List.all zML (fun v => v.oneCell') = true from rfl)
theorem Stp.box {w w' : World} {F : Nat → Prop} {g t t' : Nat} {vs vs' : Array Value} (hf : Fr (fun k => k = g) w w') (hb : w.heap[g]? = some (.cells vs t)) (hb' : w'.heap[g]? = some (.cells vs' t')) : Stp w w' F F (fun k _ => k = g) := by
 refine ⟨hf.mono (fun k _ h => .inr ⟨0, h⟩), fun _ h => .inl h, fun k i hk _ hp => hf.cell (p := ⟨k, i, none⟩) hk hp, fun k i hk _ => ?_⟩
 by_cases e : k = g
 ·subst e
  simp [World.frozen?, hb, hb']
 ·exact hf.frozen (p := ⟨k, i, none⟩) hk e
set_option maxRecDepth 100000 in
set_option maxHeartbeats 2000000 in
theorem get_Message (x : Value) (l : List Nat) (q' : Q) (Res : World → (Nat → Prop) → Nat → List Value → Prop) (E : Nat → Addr) (w : World) (hg : G6 w E) (hw : 9 ≤ w.heap.size) (hx : Src w x l) (hl : l.length ≤ 140737488355328)
  (hst : ∀ w2 w' F F' P g vs, Res w2 F g vs → Stp w2 w' F F' P → (∀ k j, P k j → k = w.heap.size) → Res w' F' g vs)
  (hwhole : ∀ w1 cb b F g, Cd w1 cb b F (.rd ⟨ByteArray.empty, l, 0, 0, none⟩) E → w1.heap[g]? = some (.cells zML.toArray 42) → (∀ i, Loc w1 cb F g i) → (∀ k, F k → w.heap.size < k) → w.heap.size < g → Fr (fun _ => False) w w1 → Calls Tryz.prog 68 #[.pointer (some ⟨cb, 0, none⟩), .iface 145 (.pointer (some ⟨g, 0, none⟩))] w1 fun e w' => e = .returned (.tuple #[]) ∧ ∃ F', Cd w' cb b F' (.rd q') E ∧ ∃ vs : List Value, vs.length = 35 ∧ w'.rangeAt g 0 vs ∧ (∀ v ∈ vs, v.oneCell' = true) ∧ Res w' F' g vs ∧ Stp w1 w' F F' (fun k _ => k = g)) :
  Calls Tryz.prog 82 #[x] w fun e w' => ∃ vs err, e = .returned (.tuple #[.agg (List.toArray vs), err]) ∧ vs.length = 35 ∧ (∀ v ∈ vs, v.oneCell' = true) ∧ ErrV w' err q'.fin E ∧ (q'.fin.2.2 ≠ 0 → vs = zML) ∧ (q'.fin.2.2 = 0 → ∃ F' g, Res w' F' g vs ∧ w.heap.size ≤ g) ∧ Fr (fun _ => False) w w' := by
 obtain ⟨xo, xc, rfl⟩ := hx.form
 have hbx := box1 w (.cells #[.int .u8 0, .int .u32 0, .int .u32 0, .int .u32 0, .int .u8 0, .int .u32 0, .int .u32 0, .int .u32 0, .int .u32 0, .slice none 0 0, .string ⟨#[]⟩, .int .u32 0, .int .u32 0, .int .u32 0, .int .u32 0, .int .u8 0, .int .u32 0, .int .u32 0, .slice none 0 0, .slice none 0 0, .int .u8 0, .int .u32 0, .int .u32 0, .int .u32 0, .int .u32 0, .int .u8 0, .int .u32 0, .int .u32 0, .int .u32 0, .int .u32 0, .slice none 0 0, .string ⟨#[]⟩, .int .u8 0, .slice none 0 0, .int .u32 0] 42)
 have HN := hid (newReader_any _ l (w.alloc (.cells #[.int .u8 0, .int .u32 0, .int .u32 0, .int .u32 0, .int .u8 0, .int .u32 0, .int .u32 0, .int .u32 0, .int .u32 0, .slice none 0 0, .string ⟨#[]⟩, .int .u32 0, .int .u32 0, .int .u32 0, .int .u32 0, .int .u8 0, .int .u32 0, .int .u32 0, .slice none 0 0, .slice none 0 0, .int .u8 0, .int .u32 0, .int .u32 0, .int .u32 0, .int .u32 0, .int .u8 0, .int .u32 0, .int .u32 0, .int .u32 0, .int .u32 0, .slice none 0 0, .string ⟨#[]⟩, .int .u8 0, .slice none 0 0, .int .u32 0] 42)) (by simp; omega) (hx.fr hbx (fun _ _ _ _ _ h => h)) hl)
 have H := hid (And.intro hg (And.intro hst hwhole))
 have HB := hid hbx
 clear hg hst hwhole hx hbx
 go_enter Tryz.func82, Tryz.ntmps82
 go_wp2_with fail
 refine (uh HN).mono ?_
 rintro e w1 ⟨b, F, rfl, hR1, hf1', hF1'⟩
 have hf1 : Fr (fun _ => False) w w1 := (uh HB).trans hf1' (fun _ _ h => h)
 have hF1 : ∀ k, F k → w.heap.size < k := fun k hk => by have := hF1' k hk; simp at this; omega
 have hrb : w1.heap[w.heap.size]? = some (.cells zML.toArray 42) := (hf1'.block w.heap.size (by simp) (fun h => h)).trans (heap_alloc_new _ _)
 have hrl : w.heap.size < w1.heap.size := by have := hf1'.size; simp at this; omega
 clear hf1' hF1'
 have hbl := hR1.lt b hR1.fb
 have H1 := hid (And.intro hR1 (And.intro hf1 (And.intro hF1 hrb)))
 clear hR1 hf1 hF1 hrb HB HN
 go_wp2_with fail
 obtain ⟨W2, hW2⟩ : ∃ W2, ((w1.alloc (.cells #[.pointer none, .pointer (some ⟨b, 0, none⟩)] 143)).alloc (.cells #[.int .u8 0, .int .u32 0, .int .u32 0, .int .u32 0, .int .u8 0, .int .u32 0, .int .u32 0, .int .u32 0, .int .u32 0, .slice none 0 0, .string ⟨#[]⟩, .int .u32 0, .int .u32 0, .int .u32 0, .int .u32 0, .int .u8 0, .int .u32 0, .int .u32 0, .slice none 0 0, .slice none 0 0, .int .u8 0, .int .u32 0, .int .u32 0, .int .u32 0, .int .u32 0, .int .u8 0, .int .u32 0, .int .u32 0, .int .u32 0, .int .u32 0, .slice none 0 0, .string ⟨#[]⟩, .int .u8 0, .slice none 0 0, .int .u32 0] 42)).alloc (.cells #[.int .u8 0, .int .u32 0, .int .u32 0, .int .u32 0, .int .u8 0, .int .u32 0, .int .u32 0, .int .u32 0, .int .u32 0, .slice none 0 0, .string ⟨#[]⟩, .int .u32 0, .int .u32 0, .int .u32 0, .int .u32 0, .int .u8 0, .int .u32 0, .int .u32 0, .slice none 0 0, .slice none 0 0, .int .u8 0, .int .u32 0, .int .u32 0, .int .u32 0, .int .u32 0, .int .u8 0, .int .u32 0, .int .u32 0, .int .u32 0, .int .u32 0, .slice none 0 0, .string ⟨#[]⟩, .int .u8 0, .slice none 0 0, .int .u32 0] 42) = W2 := ⟨_, rfl⟩
 have hf12 : Fr (fun _ => False) w1 W2 := by rw [← hW2]; exact box3 _ _ _ _
 have hf02 := (uh H1).2.1.trans hf12 (fun _ _ h => h)
 have hsz2 : W2.heap.size = w1.heap.size + 3 := by rw [← hW2]; simp
 have hC2 : Cd W2 w1.heap.size b F (.rd ⟨ByteArray.empty, l, 0, 0, none⟩) E := by
  have hb1 := (uh H1).1.lt
  have hw1 := (uh H1).2.1.size
  refine ⟨(uh H).1.fr hf02 (fun _ h => h.elim), fun hx => by have := hb1 _ hx; omega, fun k hk => by have := hb1 k hk; omega, (uh H1).1.lo, by omega, ?_, ?_, ⟨(uh H1).1.frame hf12 (fun _ _ h => h), ⟨Nat.zero_le _, Nat.zero_le _, fun y hy => by cases hy⟩, hl⟩, trivial⟩
  ·rw [← hW2, World.cell?_alloc_past _ _ _ (by simp; omega), World.cell?_alloc_past _ _ _ (by simp), World.cell?_alloc_at _ _ _ _ (by simp)]; rfl
  ·rw [← hW2, World.cell?_alloc_past _ _ _ (by simp; omega), World.cell?_alloc_past _ _ _ (by simp), World.cell?_alloc_at _ _ _ _ (by simp)]; rfl
 have hA1 : (w1.alloc (.cells #[.pointer none, .pointer (some ⟨b, 0, none⟩)] 143)).heap.size = w1.heap.size + 1 := by simp
 have hA2 : ((w1.alloc (.cells #[.pointer none, .pointer (some ⟨b, 0, none⟩)] 143)).alloc (.cells #[.int .u8 0, .int .u32 0, .int .u32 0, .int .u32 0, .int .u8 0, .int .u32 0, .int .u32 0, .int .u32 0, .int .u32 0, .slice none 0 0, .string ⟨#[]⟩, .int .u32 0, .int .u32 0, .int .u32 0, .int .u32 0, .int .u8 0, .int .u32 0, .int .u32 0, .slice none 0 0, .slice none 0 0, .int .u8 0, .int .u32 0, .int .u32 0, .int .u32 0, .int .u32 0, .int .u8 0, .int .u32 0, .int .u32 0, .int .u32 0, .int .u32 0, .slice none 0 0, .string ⟨#[]⟩, .int .u8 0, .slice none 0 0, .int .u32 0] 42)).heap.size = w1.heap.size + 1 + 1 := by simp
 have hvb2 : W2.heap[w1.heap.size + 1]? = some (.cells zML.toArray 42) := by
  rw [← hW2, Below.heap_alloc _ _ _ (by simp), ← hA1]; exact heap_alloc_new _ _
 have hnb2 : W2.heap[w1.heap.size + 1 + 1]? = some (.cells zML.toArray 42) := by
  rw [← hW2, ← hA2]; exact heap_alloc_new _ _
 have hLo : ∀ i, Loc W2 w1.heap.size F (w1.heap.size + 1) i := fun i => by
  have hb1 := (uh H1).1.lt
  have hw1 := (uh H1).2.1.size
  exact ⟨by simp [World.frozen?, hvb2], by omega, fun hx => by have := hb1 _ hx; omega, by omega, by omega⟩
 have HW := hid ((uh H).2.2 W2 w1.heap.size b F (w1.heap.size + 1) hC2 hvb2 hLo (uh H1).2.2.1 (by omega) hf02)
 have hrb2 := (hf12.block w.heap.size hrl (fun h => h)).trans (uh H1).2.2.2
 have H2 := hid (And.intro hf02 (And.intro hnb2 (And.intro hsz2 hrb2)))
 clear hC2 hf02 hLo hsz2 hf12 hvb2 hnb2 hrb2 hA1 hA2
 rw [hW2]
 clear hW2
 refine (uh HW).mono ?_
 rintro e w3 ⟨rfl, F3, hC3, vs, hln, hrg, hone, hRes, hs3⟩
 have h1 : w3.cell? ⟨w1.heap.size, 1, none⟩ = some (.pointer (some ⟨b, 0, none⟩)) := hC3.c1
 have hl1 := ltC h1
 obtain ⟨hf02, hnb2, hsz2, hrb2⟩ := uh H2
 have hFb : ∀ k, F k → k < w1.heap.size := (uh H1).1.lt
 have hrF : ¬ F w.heap.size := fun hx => by have := (uh H1).2.2.1 _ hx; omega
 have hnb3 := (hs3.block (k := w1.heap.size + 1 + 1) (by omega) (fun hx => by have := hFb _ hx; omega) (fun i h => by omega)).trans hnb2
 have hrb3 := (hs3.block (k := w.heap.size) (by omega) hrF (fun i h => by omega)).trans hrb2
 have hf03 : Fr (fun _ => False) w w3 := hf02.trans hs3.fr (fun k hk hx => hx.elim (fun hx => by have := (uh H1).2.2.1 k hx; omega) (fun ⟨_, hx⟩ => by omega))
 have hst3 : R w3 b F3 (q'.rst E) ∧ q'.ok ∧ q'.all.length ≤ 140737488355328 := hC3.st
 have HD := hid (rName_step q' n_end b F3 E w3 hst3.1)
 have s3 := hs3.size
 have H3 := hid (And.intro hC3 (And.intro hs3 (And.intro hRes (And.intro hf03 (And.intro hst3.2.1 (And.intro hrF (And.intro hnb3 (And.intro hrb3 (And.intro hrg (And.intro hln (And.intro hone (And.intro hsz2 s3))))))))))))
 clear hC3 hs3 hRes hf03 hst3 hrF hf02 hnb2 hsz2 hFb hnb3 hrb3 hrb2 hrg hln hone s3 HW
 go_wp2_with fail
 refine (uh HD).mono ?_
 rintro e w4 ⟨rfl, hR4, hch4⟩
 obtain ⟨hC3, hs3, hRes, hf03, hok3, hrF, hnb3, hrb3, hrg, hln, hone, hsz2, s3⟩ := uh H3
 have hgF3 : ¬ F3 (w1.heap.size + 1) := hs3.nF (by omega) (fun hx => by have := (uh H1).1.lt _ hx; omega)
 have hnF3 : ¬ F3 (w1.heap.size + 1 + 1) := hs3.nF (by omega) (fun hx => by have := (uh H1).1.lt _ hx; omega)
 have hrF3 : ¬ F3 w.heap.size := hs3.nF (by omega) hrF
 have h14 : w4.cell? ⟨w1.heap.size, 1, none⟩ = some (.pointer (some ⟨b, 0, none⟩)) := (hch4.fr.cell (p := ⟨w1.heap.size, 1, none⟩) hl1 hC3.nf).trans h1
 have hrg4 : w4.rangeAt (w1.heap.size + 1) 0 vs := fun j u hu => (hch4.fr.cell (p := ⟨w1.heap.size + 1, 0 + j, none⟩) (show w1.heap.size + 1 < w3.heap.size by omega) hgF3).trans (hrg j u hu)
 have hnb4 := (hch4.fr.block _ (show w1.heap.size + 1 + 1 < w3.heap.size by omega) hnF3).trans hnb3
 have hrb4 := (hch4.fr.block w.heap.size (by omega) hrF3).trans hrb3
 have HE := hid (done_any (q'.named n_end) b F3 E w4 hR4 (Q.named_ok hok3 n_end) (hC3.g7.fr hch4.fr hC3.lo).gl)
 have hs4 : Stp w3 w4 F3 F3 (fun _ _ => False) := Stp.of_ch hch4 _
 have hf04 : Fr (fun _ => False) w w4 := hf03.trans hch4.fr (fun k hk hx => by
  rcases hs3.new k hx with h | h
  ·have := (uh H1).2.2.1 k h; omega
  ·have := (uh H1).2.1.size; omega)
 have s4 := hs4.size
 have H4 := hid (And.intro hs4 (And.intro hf04 (And.intro hrg4 (And.intro hnb4 (And.intro hrb4 (And.intro s4 s3))))))
 clear hR4 hch4 hs4 hf04 hgF3 hnF3 hrF3 hrg4 hnb4 hrb4 s4 hC3 hs3 hRes hf03 hok3 hrF hnb3 hrb3 hrg hln hone hsz2 s3 HD
 go_wp2_with fail
 refine (uh HE).mono ?_
 rintro e w5 ⟨err, rfl, hEr, hf5⟩
 obtain ⟨hs4, hf04, hrg4, hnb4, hrb4, s4, s3⟩ := uh H4
 have hln := (uh H3).2.2.2.2.2.2.2.2.2.1
 have hone := (uh H3).2.2.2.2.2.2.2.2.2.2.1
 have hsz2 := (uh H3).2.2.2.2.2.2.2.2.2.2.2.1
 have hrg5 : w5.rangeAt (w1.heap.size + 1) 0 vs := fun j u hu => (hf5.cell (p := ⟨w1.heap.size + 1, 0 + j, none⟩) (show w1.heap.size + 1 < w4.heap.size by omega) (fun h => h)).trans (hrg4 j u hu)
 have hnb5 := (hf5.block _ (show w1.heap.size + 1 + 1 < w4.heap.size by omega) (fun h => h)).trans hnb4
 have hrb5 := (hf5.block w.heap.size (by omega) (fun h => h)).trans hrb4
 have hf05 : Fr (fun _ => False) w w5 := hf04.trans hf5 (fun _ _ h => h)
 have HRN : Hid (w5.rangeAt (w1.heap.size + 1 + 1) 0 zML) := hid (rOB hnb5)
 have HRV := hid hrg5
 have HZV : Hid ((Tryz.prog.info? 42).map (·.size) = some vs.length) := hid (by rw [hln]; exact Tryz.sizeMs7)
 rcases hEr with ⟨h0, rfl⟩ | ⟨h1', h7, fb, rfl, hb⟩
 ·obtain ⟨W8, hst8, hb8, hf8⟩ := st_all (P := Tryz.prog) (ty := 42) zML vs hrb5 hln.symm (uh HZV) hone
  have HS8 := hid hst8
  have hfin : q'.fin.2.2 = 0 := h0
  have hR5 := (uh H).2.1 _ _ _ _ _ _ _ ((uh H).2.1 _ _ _ _ _ _ _ (uh H3).2.2.1 hs4 (fun _ _ h => h.elim)) (Stp.of_fr hf5 F3 (fun _ _ => False)) (fun _ _ h => h.elim)
  have hR8 := (uh H).2.1 _ _ _ _ _ _ _ hR5 (Stp.box (F := F3) hf8 hrb5 hb8) (fun k j h => h)
  have hf08 : Fr (fun _ => False) w W8 := hf05.trans hf8 (fun k hk e => by omega)
  have HX := hid (And.intro hb8 (And.intro hln (And.intro hone (And.intro hfin (And.intro hR8 hf08)))))
  clear hst8 hb8 hf8 hR5 hR8 hf08 hfin h0 hrg5 hnb5 hrb5 hs4 hf04 hrg4 hnb4 hrb4 hln hone hf05 hf5 HE
  go_wp2_with (first | refine wpList_load_mid rfl 42 (.tmp 5) rfl (w1.heap.size + 1) 0 rfl _ _ (uh HRV) Tryz.underlying42 rfl (uh HZV) ?_ | refine wpList_stN rfl 42 (.tmp 2) (.tmp 29) rfl _ _ rfl rfl (uh HS8) ?_)
  refine bodyPost_ret (results_cellt rfl _ _ w.heap.size 0 vs _ _ rfl rfl (rOB (uh HX).1) Tryz.underlying42 rfl (uh HZV)) rfl ?_
  obtain ⟨hb8, hln, hone, hfin, hR8, hf08⟩ := uh HX
  exact ⟨vs, _, rfl, hln, hone, .inl ⟨hfin, rfl⟩, fun h => absurd hfin h, fun _ => ⟨F3, _, hR8, by omega⟩, hf08⟩
 ·obtain ⟨W8, hst8, hb8, hf8⟩ := st_all (P := Tryz.prog) (ty := 42) zML zML hrb5 rfl Tryz.sizeMs7 zML_one
  have HS8 := hid hst8
  have hfin : q'.fin.2.2 ≠ 0 := fun e => by have : 1 ≤ q'.fin.2.2 := h1'; omega
  have hE5 : ErrV w5 (.iface 78 (.pointer (some ⟨fb, 0, none⟩))) q'.fin E := .inr ⟨h1', h7, fb, rfl, hb⟩
  have hE8 := errV_fr hE5 hf8 hrb5 (by decide)
  have hf08 : Fr (fun _ => False) w W8 := hf05.trans hf8 (fun k hk e => by omega)
  have HX := hid (And.intro hb8 (And.intro hE8 (And.intro hfin hf08)))
  clear hst8 hb8 hf8 hE5 hE8 hf08 hfin h1' h7 hb hrg5 hnb5 hrb5 hs4 hf04 hrg4 hnb4 hrb4 hln hone hf05 hf5 HE
  go_wp2_with (first | refine wpList_load_mid rfl 42 (.tmp 6) rfl (w1.heap.size + 1 + 1) 0 rfl _ _ (uh HRN) Tryz.underlying42 rfl Tryz.sizeMs7 ?_ | refine wpList_stN rfl 42 (.tmp 2) (.tmp 27) rfl _ _ rfl rfl (uh HS8) ?_)
  refine bodyPost_ret (results_cellt rfl _ _ w.heap.size 0 zML _ _ rfl rfl (rOB (uh HX).1) Tryz.underlying42 rfl Tryz.sizeMs7) rfl ?_
  obtain ⟨hb8, hE8, hfin, hf08⟩ := uh HX
  exact ⟨zML, _, rfl, rfl, zML_one, hE8, fun _ => rfl, fun h => absurd h hfin, hf08⟩
set_option maxRecDepth 100000 in
set_option maxHeartbeats 2000000 in
theorem GetMessage_go (xo : Option Addr) (n xc : Nat) (w : World) (Q : World → List Value → Value → Prop) (h : Calls Tryz.prog 82 #[.slice xo n xc] (w.alloc (.cells zML.toArray 42)) fun e w' => ∃ vs err, e = .returned (.tuple #[.agg (List.toArray vs), err]) ∧ vs.length = 35 ∧ (∀ v ∈ vs, v.oneCell' = true) ∧ Fr (fun _ => False) (w.alloc (.cells zML.toArray 42)) w' ∧ Q w' vs err) :
  Calls Tryz.prog 39 #[.slice xo n xc] w fun e w' => ∃ vs err, e = .returned (.tuple #[.agg (List.toArray vs), err]) ∧ ∃ w2, Q w2 vs err ∧ Fr (fun k => k = w.heap.size) w2 w' ∧ (∀ F, Stp w2 w' F F (fun k _ => k = w.heap.size)) ∧ Fr (fun _ => False) w w' ∧ w2.heap[w.heap.size]? = some (.cells zML.toArray 42) := by
 have H := hid h
 clear h
 go_enter Tryz.func39, Tryz.ntmps39
 go_wp2_with fail
 refine (uh H).mono ?_
 rintro e w5 ⟨vs, err, rfl, hln, hone, hf5, hq⟩
 have hrb5 : w5.heap[w.heap.size]? = some (.cells zML.toArray 42) := (hf5.block w.heap.size (by simp) (fun h => h)).trans (heap_alloc_new _ _)
 have HZV : Hid ((Tryz.prog.info? 42).map (·.size) = some vs.length) := hid (by rw [hln]; exact Tryz.sizeMs7)
 obtain ⟨W8, hst8, hb8, hf8⟩ := st_all (P := Tryz.prog) (ty := 42) zML vs hrb5 hln.symm (uh HZV) hone
 have HS8 := hid hst8
 have hf05 : Fr (fun _ => False) w w5 := (box1 w _).trans hf5 (fun _ _ h => h)
 have H5 := hid (And.intro hb8 (And.intro hq (And.intro hf8 (And.intro (fun F => Stp.box (F := F) hf8 hrb5 hb8) (And.intro (hf05.trans hf8 (fun k hk e => by omega)) hrb5)))))
 clear hf5 hq hone hrb5 hst8 hb8 hf8 hf05
 go_wp2_with (refine wpList_stN rfl 42 (.tmp 2) (.tmp 6) rfl _ _ rfl rfl (uh HS8) ?_)
 refine bodyPost_ret (results_cellt rfl _ _ w.heap.size 0 vs _ _ rfl rfl (rOB (uh H5).1) Tryz.underlying42 rfl (uh HZV)) rfl ?_
 exact ⟨vs, err, rfl, w5, (uh H5).2.1, (uh H5).2.2.1, (uh H5).2.2.2.1, (uh H5).2.2.2.2.1, (uh H5).2.2.2.2.2⟩
theorem zAn_ok : zAn.ok := ⟨by decide, by decide, by decide, by decide, by decide⟩
theorem zMs_ok : zMs.ok := ⟨by decide, zRq_ok, by decide, by decide, zAn_ok, by decide, zEv_ok, by decide⟩
structure MsW (w : World) (base : Nat) (v : MsM) (y0 y1 y2 y3 y4 : Value) (F : Nat → Prop) : Prop where
 o0 : OwV w base y0 v.rq.fs F
 o1 : OwV w base y1 v.an.fs F
 o2 : OwZ w base y2 v.an.hi F
 o3 : OwV w base y3 v.ev.rq.fs F
 o4 : OwB w base y4 v.ev.dg F
theorem MsW.stp {w w' : World} {base : Nat} {v : MsM} {y0 y1 y2 y3 y4 : Value} {F F' : Nat → Prop} {P : Nat → Nat → Prop} (h : MsW w base v y0 y1 y2 y3 y4 F) (hs : Stp w w' F F' P) (hP : ∀ k j, base ≤ k → k < w.heap.size → ¬ P k j) : MsW w' base v y0 y1 y2 y3 y4 F' := ⟨h.o0.stp hs hP, h.o1.stp hs hP, h.o2.stp hs hP, h.o3.stp hs hP, h.o4.stp hs hP⟩
theorem MsW.fin {w : World} {b b' : Nat} {v : MsM} {y0 y1 y2 y3 y4 : Value} {F : Nat → Prop} (h : MsW w b v y0 y1 y2 y3 y4 F) (hb : b' ≤ b) : MsW w b' v y0 y1 y2 y3 y4 (fun _ => False) := ⟨h.o0.fin hb, h.o1.fin hb, h.o2.fin hb, h.o3.fin hb, h.o4.fin hb⟩
theorem MsW.one {w : World} {b : Nat} {v : MsM} {y0 y1 y2 y3 y4 : Value} {F : Nat → Prop} (h : MsW w b v y0 y1 y2 y3 y4 F) : ∀ u ∈ (v.vals y0 y1 y2 y3 y4).toList, u.oneCell' = true := by
 have h0 := own_one2 h.o0.row
 have h1 := own_one2 h.o1.row
 have h2 := own_one2 h.o2.row
 have h3 := own_one2 h.o3.row
 have h4 := own_one2 h.o4.row
 exact List.all_eq_true.1 (show List.all (v.vals y0 y1 y2 y3 y4).toList (fun v => v.oneCell') = true by simp [MsM.vals, Value.oneCell']; exact ⟨h0, h1, h2, h3, h4⟩)
theorem messageR_def (l : List Nat) : ((cr0 l).pForm 7).pMessage zMs = messageR l := rfl
theorem whole_MessageR (l : List Nat) (cb b g : Nat) (F : Nat → Prop) (E : Nat → Addr) (w : World) (h : Cd w cb b F (cr0 l) E) (hp : MsC w g zMs (.slice none 0 0) (.slice none 0 0) (.slice none 0 0) (.slice none 0 0) (.slice none 0 0)) (hL : ∀ i, Loc w cb F g i) :
  Calls Tryz.prog 68 #[.pointer (some ⟨cb, 0, none⟩), .iface 145 (.pointer (some ⟨g, 0, none⟩))] w fun e w' => e = .returned (.tuple #[]) ∧ ∃ F' y0 y1 y2 y3 y4, Cd w' cb b F' (.rd (messageR l).1.rq) E ∧ MsC w' g (messageR l).2 y0 y1 y2 y3 y4 ∧ MsW w' w.heap.size (messageR l).2 y0 y1 y2 y3 y4 F' ∧ Stp w w' F F' (cellsAt g 0 35) := by
 have HW := whole_Message (cr0 l) zMs none none none none none 0 0 0 0 0 (.slice none 0 0) (.slice none 0 0) (.slice none 0 0) (.slice none 0 0) (.slice none 0 0) cb b g F E w h hp rfl rfl rfl rfl rfl (fdx_nil w _ F g) (fdx_nil w _ F g) (sux_nil w _ F g) (fdx_nil w _ F g) (bvg_nil w F g) (fun _ _ => ⟨rfl, rfl⟩) hL zMs_ok (by simp only [CS.room, CS.len, cr0]; omega)
 rw [messageR_def] at HW
 refine HW.mono ?_
 rintro e w' ⟨rfl, F', y0, y1, y2, y3, y4, hO⟩
 have h4 := hO.o4.own (Nat.le_refl _)
 exact ⟨rfl, F', y0, y1, y2, y3, y4, by rw [← messageR_eq]; exact hO.C, hO.m, ⟨hO.o0.rd _ rfl, hO.o1.rd _ rfl, hO.o2.rd _ rfl, hO.o3.rd _ rfl, ⟨h4.2.1, h4.1⟩⟩, hO.s⟩
set_option maxRecDepth 100000 in
set_option maxHeartbeats 400000 in
theorem getMessage (x : Value) (l : List Nat) (E : Nat → Addr) (w : World) (hg : G6 w E) (hw : 9 ≤ w.heap.size) (hx : Src w x l) (hl : l.length ≤ 140737488355328) :
  Calls Tryz.prog 39 #[x] w fun e w' => ∃ vs err, e = .returned (.tuple #[.agg (List.toArray vs), err]) ∧ ErrV w' err (messageR l).1.rq.fin E ∧ ((messageR l).1.rq.fin.2.2 ≠ 0 → vs = zML) ∧ ((messageR l).1.rq.fin.2.2 = 0 → ∃ y0 y1 y2 y3 y4, vs = ((messageR l).2.vals y0 y1 y2 y3 y4).toList ∧ MsW w' w.heap.size (messageR l).2 y0 y1 y2 y3 y4 (fun _ => False)) ∧ Fr (fun _ => False) w w' := by
 obtain ⟨xo, xc, rfl⟩ := hx.form
 obtain ⟨wb, hwb⟩ : ∃ wb, w.alloc (.cells zML.toArray 42) = wb := ⟨_, rfl⟩
 have hbx : Fr (fun _ => False) w wb := by rw [← hwb]; exact box1 _ _
 have hsb : wb.heap.size = w.heap.size + 1 := by rw [← hwb]; simp
 have hp := get_Message _ l (messageR l).1.rq (fun w' F _ vs => ∃ y0 y1 y2 y3 y4, vs = ((messageR l).2.vals y0 y1 y2 y3 y4).toList ∧ MsW w' (w.heap.size + 2) (messageR l).2 y0 y1 y2 y3 y4 F) E wb (hg.fr hbx (fun _ h => h.elim)) (by omega) (hx.fr hbx (fun _ _ _ _ _ h => h)) hl
  (fun w2 w' F F' P g vs ⟨y0, y1, y2, y3, y4, h1, hoy⟩ hs hP => ⟨y0, y1, y2, y3, y4, h1, hoy.stp hs (fun k j hb hk hp => by have := hP k j hp; omega)⟩)
  (fun w1 cb b F g hC hb hL hF hgg hf => by
   have hlt := (hL 0).lt
   have hcs : ∀ (i : Nat) v, zML[i]? = some v → w1.cell? ⟨g, i, none⟩ = some v := fun i v hv => cOB hb (by simpa using hv)
   refine (whole_MessageR l cb b g F E w1 hC ⟨hcs 0 _ rfl, ⟨hcs 1 _ rfl, hcs 2 _ rfl, hcs 3 _ rfl, hcs 4 _ rfl, hcs 5 _ rfl, hcs 6 _ rfl, hcs 7 _ rfl, hcs 8 _ rfl, hcs 9 _ rfl, hcs 10 _ rfl⟩, hcs 11 _ rfl, hcs 12 _ rfl, ⟨hcs 13 _ rfl, hcs 14 _ rfl, hcs 15 _ rfl, hcs 16 _ rfl, hcs 17 _ rfl, hcs 18 _ rfl, hcs 19 _ rfl⟩, hcs 20 _ rfl, ⟨hcs 21 _ rfl, ⟨hcs 22 _ rfl, hcs 23 _ rfl, hcs 24 _ rfl, hcs 25 _ rfl, hcs 26 _ rfl, hcs 27 _ rfl, hcs 28 _ rfl, hcs 29 _ rfl, hcs 30 _ rfl, hcs 31 _ rfl⟩, hcs 32 _ rfl, hcs 33 _ rfl⟩, hcs 34 _ rfl⟩ hL).mono ?_
   rintro e w' ⟨rfl, F', y0, y1, y2, y3, y4, hC', hcl, hoy, hs⟩
   have hoy' : MsW w' (w.heap.size + 2) (messageR l).2 y0 y1 y2 y3 y4 F' := ⟨⟨hoy.o0.nF, ownsRow_base hoy.o0.row (by omega), hoy.o0.ok⟩, ⟨hoy.o1.nF, ownsRow_base hoy.o1.row (by omega), hoy.o1.ok⟩, ⟨hoy.o2.nF, ownsRow_base hoy.o2.row (by omega), hoy.o2.ok⟩, ⟨hoy.o3.nF, ownsRow_base hoy.o3.row (by omega), hoy.o3.ok⟩, ⟨hoy.o4.nF, ownsRow_base hoy.o4.row (by omega)⟩⟩
   exact ⟨rfl, F', hC', _, rfl, hcl.range, hoy.one, ⟨y0, y1, y2, y3, y4, rfl, hoy'⟩, hs.mono (fun k j _ h => h.1)⟩)
 refine (GetMessage_go xo l.length xc w (fun w' vs err => ErrV w' err (messageR l).1.rq.fin E ∧ ((messageR l).1.rq.fin.2.2 ≠ 0 → vs = zML) ∧ ((messageR l).1.rq.fin.2.2 = 0 → ∃ (y0 y1 y2 y3 y4 : Value) (F : Nat → Prop), vs = ((messageR l).2.vals y0 y1 y2 y3 y4).toList ∧ MsW w' (w.heap.size + 2) (messageR l).2 y0 y1 y2 y3 y4 F)) ?_).mono ?_
 ·rw [hwb]
  refine hp.mono ?_
  rintro e w' ⟨vs, err, rfl, hln, hone, hE, hz, hr, hf⟩
  refine ⟨vs, err, rfl, hln, hone, hf, hE, hz, fun h0 => ?_⟩
  obtain ⟨F', g, ⟨y0, y1, y2, y3, y4, e, hoy⟩, _⟩ := hr h0
  exact ⟨y0, y1, y2, y3, y4, F', e, hoy⟩
 ·rintro e w' ⟨vs, err, rfl, w2, ⟨hE, hz, hr⟩, hf1, hs, hf, hrb⟩
  refine ⟨vs, err, rfl, errV_fr hE hf1 hrb (by decide), hz, fun h0 => ?_, hf⟩
  obtain ⟨y0, y1, y2, y3, y4, F, h1, hoy⟩ := hr h0
  exact ⟨y0, y1, y2, y3, y4, h1, (hoy.stp (hs F) (fun k j hb hk hp => by omega)).fin (by omega)⟩
def zAL : List Value := [.int .u32 0, .int .u32 0, .int .u32 0, .int .u8 0, .int .u32 0, .int .u32 0, .int .u32 0, .int .u32 0, .slice none 0 0, .string ⟨#[]⟩, .int .u32 0, .int .u32 0, .int .u8 0, .int .u32 0, .int .u32 0, .slice none 0 0, .slice none 0 0, .int .u32 0, .int .u32 0, .int .u32 0, .int .u32 0, .int .u8 0, .int .u32 0, .int .u32 0, .int .u32 0, .int .u32 0, .slice none 0 0, .string ⟨#[]⟩, .int .u8 0, .slice none 0 0, .int .u32 0, .slice none 0 0, .int .u32 0, .slice none 0 0, .int .u32 0, .slice none 0 0, .slice none 0 0, .int .u8 0, .int .u32 0, .int .u32 0, .int .u32 0, .int .u8 0, .int .u32 0, .int .u32 0, .int .u32 0, .int .u32 0, .slice none 0 0, .string ⟨#[]⟩, .int .u32 0, .int .u32 0, .int .u32 0, .int .u32 0, .int .u8 0, .int .u32 0, .int .u32 0, .slice none 0 0, .slice none 0 0, .int .u8 0, .int .u32 0, .int .u32 0, .int .u32 0, .int .u32 0, .int .u8 0, .int .u32 0, .int .u32 0, .int .u32 0, .int .u32 0, .slice none 0 0, .string ⟨#[]⟩, .int .u8 0, .slice none 0 0, .int .u32 0]
theorem Tryz.sizeAny : (Tryz.prog.info? 44).map (·.size) = some 72 := by kernel_rfl
theorem zAL_one : ∀ v ∈ zAL, v.oneCell' = true := List.all_eq_true.1 (show List.all zAL (fun v => v.oneCell') = true from rfl)
def anyL (o : Nat) (vs : List Value) : List Value := zAL.take o ++ (vs ++ zAL.drop (o + vs.length))
theorem anyL_len {o n : Nat} {vs : List Value} (hl : vs.length = n) (ho : o + n ≤ 72) : (anyL o vs).length = 72 := by
 have : zAL.length = 72 := rfl
 simp only [anyL, List.length_append, List.length_take, List.length_drop, hl, this]
 omega
theorem anyL_one {o : Nat} {vs : List Value} (h : ∀ v ∈ vs, v.oneCell' = true) : ∀ v ∈ anyL o vs, v.oneCell' = true := fun v hv => by
 rcases List.mem_append.1 hv with hv | hv
 ·exact zAL_one v (List.mem_of_mem_take hv)
 ·rcases List.mem_append.1 hv with hv | hv
  ·exact h v hv
  ·exact zAL_one v (List.mem_of_mem_drop hv)
theorem anyL_eq {o n : Nat} {vs fs' : List Value} (hl : vs.length = n) (ho : o + n ≤ 72) (h2 : ∀ i v, vs[i]? = some v → fs'[o + i]? = some v) (h3 : ∀ j, j < o ∨ o + vs.length ≤ j → fs'[j]? = zAL[j]?) : fs' = anyL o vs := by
 have hz : zAL.length = 72 := rfl
 have hp : (zAL.take o).length = o := by simp [hz]; omega
 have e : zAL = zAL.take o ++ ((zAL.drop o).take n ++ zAL.drop (o + n)) := by
  rw [← List.drop_drop, List.take_append_drop, List.take_append_drop]
 unfold anyL
 rw [hl]
 refine mid_eq (pre := zAL.take o) (olds := (zAL.drop o).take n) ?_ (fun i v hv => by rw [hp]; exact h2 i v hv) (fun j hj => ?_)
 ·simp [hz, hl]; omega
 ·rw [hp] at hj
  rw [h3 j hj, ← e]
theorem lfit_any (z : Int) (w : World) : Calls Tryz.prog 15 #[.int .i64 z] w fun e w' => (∃ k : Nat, e = .returned (.int .i64 k) ∧ 1 ≤ k ∧ k ≤ 7) ∧ w' = w := by
 have hlo := Int.lt_tmod_of_pos z (b := 7) (by decide)
 have hhi := Int.tmod_lt_of_pos z (b := 7) (by decide)
 go_enter Tryz.func15, Tryz.ntmps15
 go_wp2_with fail
 ·go_ret
  exact ⟨⟨(z.tmod 7 + 7 + 1).toNat, by rw [Int.toNat_of_nonneg (by omega)]; rfl, by omega, by omega⟩, rfl⟩
 ·go_ret
  exact ⟨⟨(z.tmod 7 + 1).toNat, by rw [Int.toNat_of_nonneg (by omega)]; rfl, by omega, by omega⟩, rfl⟩
theorem Tryz.sizeP_Request : (Tryz.prog.info? 30).map (·.size) = some 10 := by kernel_rfl
set_option maxRecDepth 100000 in
set_option maxHeartbeats 2000000 in
theorem lget_Request_go (xo : Option Addr) (n xc : Nat) (w : World) (Q : World → List Value → Value → Prop) (h : Calls Tryz.prog 34 #[.slice xo n xc] ((w.alloc (.cells zAL.toArray 44)).alloc (.cells zAL.toArray 44)) fun e w' => ∃ vs err, e = .returned (.tuple #[.agg (List.toArray vs), err]) ∧ vs.length = 10 ∧ (∀ v ∈ vs, v.oneCell' = true) ∧ Fr (fun _ => False) ((w.alloc (.cells zAL.toArray 44)).alloc (.cells zAL.toArray 44)) w' ∧ Q w' vs err) :
  Calls Tryz.prog 17 #[.int .i64 1, .slice xo n xc] w fun e w' => ∃ vs err, e = .returned (.tuple #[.agg (List.toArray (anyL 0 vs)), err]) ∧ vs.length = 10 ∧ (∀ v ∈ vs, v.oneCell' = true) ∧ ∃ w2, Q w2 vs err ∧ Fr (fun g => g = w.heap.size ∨ g = w.heap.size + 1) w2 w' ∧ (∀ F, Stp w2 w' F F (fun g _ => g = w.heap.size ∨ g = w.heap.size + 1)) ∧ Fr (fun _ => False) w w' ∧ w2.heap[w.heap.size]? = some (.cells zAL.toArray 44) ∧ w2.heap[w.heap.size + 1]? = some (.cells zAL.toArray 44) := by
 have H := hid h
 clear h
 go_enter Tryz.func17, Tryz.ntmps17
 go_wp2_with fail
 refine (uh H).mono ?_
 rintro e w5 ⟨vs, err, rfl, hln, hone, hf5, hq⟩
 have hs1 : (w.alloc (.cells zAL.toArray 44)).heap.size = w.heap.size + 1 := by simp
 have hb4 : w5.heap[w.heap.size]? = some (.cells zAL.toArray 44) := (hf5.block w.heap.size (by simp; omega) (fun h => h)).trans ((Below.heap_alloc _ _ _ (by simp)).trans (heap_alloc_new _ _))
 have hb6 : w5.heap[w.heap.size + 1]? = some (.cells zAL.toArray 44) := (hf5.block (w.heap.size + 1) (by simp) (fun h => h)).trans (by rw [← hs1]; exact heap_alloc_new _ _)
 have hf05 : Fr (fun _ => False) w w5 := ((box1 w _).trans (box1 _ _) (fun _ _ h => h)).trans hf5 (fun _ _ h => h)
 have hs5 := hf5.size
 obtain ⟨W6, hst6, ⟨fs', hb6', hl6, h3, h4⟩, hf6⟩ := st_mid (P := Tryz.prog) (ty := 30) (o := 0) zAL vs hb6 (by rw [hln]; decide) (by rw [hln]; exact Tryz.sizeP_Request) hone
 have e6 : fs' = anyL 0 vs := anyL_eq hln (by decide) h3 h4
 subst e6
 have hb46 := (hf6.block w.heap.size (by simp at hs5; omega) (fun e => by omega)).trans hb4
 obtain ⟨W7, hst7, hb7, hf7⟩ := st_all (P := Tryz.prog) (ty := 44) zAL (anyL 0 vs) hb46 (by rw [anyL_len hln (by decide)]; rfl) (by rw [anyL_len hln (by decide)]; exact Tryz.sizeAny) (anyL_one hone)
 have HS6 := hid hst6
 have HS7 := hid hst7
 have HR6 : Hid (W6.rangeAt (w.heap.size + 1) 0 (anyL 0 vs)) := hid (rOB hb6')
 have HZ : Hid ((Tryz.prog.info? 44).map (·.size) = some (anyL 0 vs).length) := hid (by rw [anyL_len hln (by decide)]; exact Tryz.sizeAny)
 have hf67 : Fr (fun g => g = w.heap.size ∨ g = w.heap.size + 1) w5 W7 := (hf6.mono (fun _ _ e => .inr e)).trans (hf7.mono (fun _ _ e => .inl e)) (fun _ _ h => h)
 have hst : ∀ F, Stp w5 W7 F F (fun g _ => g = w.heap.size ∨ g = w.heap.size + 1) := fun F => ((Stp.box (F := F) hf6 hb6 hb6').mono (fun _ _ _ e => .inr e)).trans ((Stp.box (F := F) hf7 hb46 hb7).mono (P' := fun g _ => g = w.heap.size ∨ g = w.heap.size + 1) (fun _ _ _ e => .inl e)) (fun _ _ _ h => h)
 have hf07 : Fr (fun _ => False) w W7 := hf05.trans hf67 (fun k hk e => by omega)
 have H5 := hid (And.intro hb7 (And.intro hln (And.intro hone (And.intro hq (And.intro hf67 (And.intro hst (And.intro hf07 (And.intro hb4 hb6))))))))
 clear hf5 hq hone hln hb4 hb6 hf05 hst6 hb6' hl6 h3 h4 hf6 hb46 hst7 hb7 hf7 hf67 hst hf07 hs5 hs1
 go_wp2_with (first | refine wpList_stN rfl 30 (.tmp 22) (.tmp 20) rfl _ _ rfl rfl (uh HS6) ?_ | refine wpList_load_mid rfl 44 (.tmp 6) rfl (w.heap.size + 1) 0 rfl _ _ (uh HR6) Tryz.underlying44 rfl (uh HZ) ?_ | refine wpList_stN rfl 44 (.tmp 4) (.tmp 63) rfl _ _ rfl rfl (uh HS7) ?_)
 refine bodyPost_ret (results_cellt rfl _ _ w.heap.size 0 (anyL 0 vs) _ _ rfl rfl (rOB (uh H5).1) Tryz.underlying44 rfl (uh HZ)) rfl ?_
 obtain ⟨_, hln, hone, hq, hf67, hst, hf07, hb4, hb6⟩ := uh H5
 exact ⟨vs, err, rfl, hln, hone, w5, hq, hf67, hst, hf07, hb4, hb6⟩
theorem Tryz.sizeP_Answer : (Tryz.prog.info? 33).map (·.size) = some 7 := by kernel_rfl
set_option maxRecDepth 100000 in
set_option maxHeartbeats 2000000 in
theorem lget_Answer_go (xo : Option Addr) (n xc : Nat) (w : World) (Q : World → List Value → Value → Prop) (h : Calls Tryz.prog 35 #[.slice xo n xc] ((w.alloc (.cells zAL.toArray 44)).alloc (.cells zAL.toArray 44)) fun e w' => ∃ vs err, e = .returned (.tuple #[.agg (List.toArray vs), err]) ∧ vs.length = 7 ∧ (∀ v ∈ vs, v.oneCell' = true) ∧ Fr (fun _ => False) ((w.alloc (.cells zAL.toArray 44)).alloc (.cells zAL.toArray 44)) w' ∧ Q w' vs err) :
  Calls Tryz.prog 17 #[.int .i64 2, .slice xo n xc] w fun e w' => ∃ vs err, e = .returned (.tuple #[.agg (List.toArray (anyL 10 vs)), err]) ∧ vs.length = 7 ∧ (∀ v ∈ vs, v.oneCell' = true) ∧ ∃ w2, Q w2 vs err ∧ Fr (fun g => g = w.heap.size ∨ g = w.heap.size + 1) w2 w' ∧ (∀ F, Stp w2 w' F F (fun g _ => g = w.heap.size ∨ g = w.heap.size + 1)) ∧ Fr (fun _ => False) w w' ∧ w2.heap[w.heap.size]? = some (.cells zAL.toArray 44) ∧ w2.heap[w.heap.size + 1]? = some (.cells zAL.toArray 44) := by
 have H := hid h
 clear h
 go_enter Tryz.func17, Tryz.ntmps17
 go_wp2_with fail
 refine (uh H).mono ?_
 rintro e w5 ⟨vs, err, rfl, hln, hone, hf5, hq⟩
 have hs1 : (w.alloc (.cells zAL.toArray 44)).heap.size = w.heap.size + 1 := by simp
 have hb4 : w5.heap[w.heap.size]? = some (.cells zAL.toArray 44) := (hf5.block w.heap.size (by simp; omega) (fun h => h)).trans ((Below.heap_alloc _ _ _ (by simp)).trans (heap_alloc_new _ _))
 have hb6 : w5.heap[w.heap.size + 1]? = some (.cells zAL.toArray 44) := (hf5.block (w.heap.size + 1) (by simp) (fun h => h)).trans (by rw [← hs1]; exact heap_alloc_new _ _)
 have hf05 : Fr (fun _ => False) w w5 := ((box1 w _).trans (box1 _ _) (fun _ _ h => h)).trans hf5 (fun _ _ h => h)
 have hs5 := hf5.size
 obtain ⟨W6, hst6, ⟨fs', hb6', hl6, h3, h4⟩, hf6⟩ := st_mid (P := Tryz.prog) (ty := 33) (o := 10) zAL vs hb6 (by rw [hln]; decide) (by rw [hln]; exact Tryz.sizeP_Answer) hone
 have e6 : fs' = anyL 10 vs := anyL_eq hln (by decide) h3 h4
 subst e6
 have hb46 := (hf6.block w.heap.size (by simp at hs5; omega) (fun e => by omega)).trans hb4
 obtain ⟨W7, hst7, hb7, hf7⟩ := st_all (P := Tryz.prog) (ty := 44) zAL (anyL 10 vs) hb46 (by rw [anyL_len hln (by decide)]; rfl) (by rw [anyL_len hln (by decide)]; exact Tryz.sizeAny) (anyL_one hone)
 have HS6 := hid hst6
 have HS7 := hid hst7
 have HR6 : Hid (W6.rangeAt (w.heap.size + 1) 0 (anyL 10 vs)) := hid (rOB hb6')
 have HZ : Hid ((Tryz.prog.info? 44).map (·.size) = some (anyL 10 vs).length) := hid (by rw [anyL_len hln (by decide)]; exact Tryz.sizeAny)
 have hf67 : Fr (fun g => g = w.heap.size ∨ g = w.heap.size + 1) w5 W7 := (hf6.mono (fun _ _ e => .inr e)).trans (hf7.mono (fun _ _ e => .inl e)) (fun _ _ h => h)
 have hst : ∀ F, Stp w5 W7 F F (fun g _ => g = w.heap.size ∨ g = w.heap.size + 1) := fun F => ((Stp.box (F := F) hf6 hb6 hb6').mono (fun _ _ _ e => .inr e)).trans ((Stp.box (F := F) hf7 hb46 hb7).mono (P' := fun g _ => g = w.heap.size ∨ g = w.heap.size + 1) (fun _ _ _ e => .inl e)) (fun _ _ _ h => h)
 have hf07 : Fr (fun _ => False) w W7 := hf05.trans hf67 (fun k hk e => by omega)
 have H5 := hid (And.intro hb7 (And.intro hln (And.intro hone (And.intro hq (And.intro hf67 (And.intro hst (And.intro hf07 (And.intro hb4 hb6))))))))
 clear hf5 hq hone hln hb4 hb6 hf05 hst6 hb6' hl6 h3 h4 hf6 hb46 hst7 hb7 hf7 hf67 hst hf07 hs5 hs1
 go_wp2_with (first | refine wpList_stN rfl 33 (.tmp 30) (.tmp 28) rfl _ _ rfl rfl (uh HS6) ?_ | refine wpList_load_mid rfl 44 (.tmp 6) rfl (w.heap.size + 1) 0 rfl _ _ (uh HR6) Tryz.underlying44 rfl (uh HZ) ?_ | refine wpList_stN rfl 44 (.tmp 4) (.tmp 63) rfl _ _ rfl rfl (uh HS7) ?_)
 refine bodyPost_ret (results_cellt rfl _ _ w.heap.size 0 (anyL 10 vs) _ _ rfl rfl (rOB (uh H5).1) Tryz.underlying44 rfl (uh HZ)) rfl ?_
 obtain ⟨_, hln, hone, hq, hf67, hst, hf07, hb4, hb6⟩ := uh H5
 exact ⟨vs, err, rfl, hln, hone, w5, hq, hf67, hst, hf07, hb4, hb6⟩
theorem Tryz.sizeP_Event : (Tryz.prog.info? 35).map (·.size) = some 13 := by kernel_rfl
set_option maxRecDepth 100000 in
set_option maxHeartbeats 2000000 in
theorem lget_Event_go (xo : Option Addr) (n xc : Nat) (w : World) (Q : World → List Value → Value → Prop) (h : Calls Tryz.prog 36 #[.slice xo n xc] ((w.alloc (.cells zAL.toArray 44)).alloc (.cells zAL.toArray 44)) fun e w' => ∃ vs err, e = .returned (.tuple #[.agg (List.toArray vs), err]) ∧ vs.length = 13 ∧ (∀ v ∈ vs, v.oneCell' = true) ∧ Fr (fun _ => False) ((w.alloc (.cells zAL.toArray 44)).alloc (.cells zAL.toArray 44)) w' ∧ Q w' vs err) :
  Calls Tryz.prog 17 #[.int .i64 3, .slice xo n xc] w fun e w' => ∃ vs err, e = .returned (.tuple #[.agg (List.toArray (anyL 17 vs)), err]) ∧ vs.length = 13 ∧ (∀ v ∈ vs, v.oneCell' = true) ∧ ∃ w2, Q w2 vs err ∧ Fr (fun g => g = w.heap.size ∨ g = w.heap.size + 1) w2 w' ∧ (∀ F, Stp w2 w' F F (fun g _ => g = w.heap.size ∨ g = w.heap.size + 1)) ∧ Fr (fun _ => False) w w' ∧ w2.heap[w.heap.size]? = some (.cells zAL.toArray 44) ∧ w2.heap[w.heap.size + 1]? = some (.cells zAL.toArray 44) := by
 have H := hid h
 clear h
 go_enter Tryz.func17, Tryz.ntmps17
 go_wp2_with fail
 refine (uh H).mono ?_
 rintro e w5 ⟨vs, err, rfl, hln, hone, hf5, hq⟩
 have hs1 : (w.alloc (.cells zAL.toArray 44)).heap.size = w.heap.size + 1 := by simp
 have hb4 : w5.heap[w.heap.size]? = some (.cells zAL.toArray 44) := (hf5.block w.heap.size (by simp; omega) (fun h => h)).trans ((Below.heap_alloc _ _ _ (by simp)).trans (heap_alloc_new _ _))
 have hb6 : w5.heap[w.heap.size + 1]? = some (.cells zAL.toArray 44) := (hf5.block (w.heap.size + 1) (by simp) (fun h => h)).trans (by rw [← hs1]; exact heap_alloc_new _ _)
 have hf05 : Fr (fun _ => False) w w5 := ((box1 w _).trans (box1 _ _) (fun _ _ h => h)).trans hf5 (fun _ _ h => h)
 have hs5 := hf5.size
 obtain ⟨W6, hst6, ⟨fs', hb6', hl6, h3, h4⟩, hf6⟩ := st_mid (P := Tryz.prog) (ty := 35) (o := 17) zAL vs hb6 (by rw [hln]; decide) (by rw [hln]; exact Tryz.sizeP_Event) hone
 have e6 : fs' = anyL 17 vs := anyL_eq hln (by decide) h3 h4
 subst e6
 have hb46 := (hf6.block w.heap.size (by simp at hs5; omega) (fun e => by omega)).trans hb4
 obtain ⟨W7, hst7, hb7, hf7⟩ := st_all (P := Tryz.prog) (ty := 44) zAL (anyL 17 vs) hb46 (by rw [anyL_len hln (by decide)]; rfl) (by rw [anyL_len hln (by decide)]; exact Tryz.sizeAny) (anyL_one hone)
 have HS6 := hid hst6
 have HS7 := hid hst7
 have HR6 : Hid (W6.rangeAt (w.heap.size + 1) 0 (anyL 17 vs)) := hid (rOB hb6')
 have HZ : Hid ((Tryz.prog.info? 44).map (·.size) = some (anyL 17 vs).length) := hid (by rw [anyL_len hln (by decide)]; exact Tryz.sizeAny)
 have hf67 : Fr (fun g => g = w.heap.size ∨ g = w.heap.size + 1) w5 W7 := (hf6.mono (fun _ _ e => .inr e)).trans (hf7.mono (fun _ _ e => .inl e)) (fun _ _ h => h)
 have hst : ∀ F, Stp w5 W7 F F (fun g _ => g = w.heap.size ∨ g = w.heap.size + 1) := fun F => ((Stp.box (F := F) hf6 hb6 hb6').mono (fun _ _ _ e => .inr e)).trans ((Stp.box (F := F) hf7 hb46 hb7).mono (P' := fun g _ => g = w.heap.size ∨ g = w.heap.size + 1) (fun _ _ _ e => .inl e)) (fun _ _ _ h => h)
 have hf07 : Fr (fun _ => False) w W7 := hf05.trans hf67 (fun k hk e => by omega)
 have H5 := hid (And.intro hb7 (And.intro hln (And.intro hone (And.intro hq (And.intro hf67 (And.intro hst (And.intro hf07 (And.intro hb4 hb6))))))))
 clear hf5 hq hone hln hb4 hb6 hf05 hst6 hb6' hl6 h3 h4 hf6 hb46 hst7 hb7 hf7 hf67 hst hf07 hs5 hs1
 go_wp2_with (first | refine wpList_stN rfl 35 (.tmp 38) (.tmp 36) rfl _ _ rfl rfl (uh HS6) ?_ | refine wpList_load_mid rfl 44 (.tmp 6) rfl (w.heap.size + 1) 0 rfl _ _ (uh HR6) Tryz.underlying44 rfl (uh HZ) ?_ | refine wpList_stN rfl 44 (.tmp 4) (.tmp 63) rfl _ _ rfl rfl (uh HS7) ?_)
 refine bodyPost_ret (results_cellt rfl _ _ w.heap.size 0 (anyL 17 vs) _ _ rfl rfl (rOB (uh H5).1) Tryz.underlying44 rfl (uh HZ)) rfl ?_
 obtain ⟨_, hln, hone, hq, hf67, hst, hf07, hb4, hb6⟩ := uh H5
 exact ⟨vs, err, rfl, hln, hone, w5, hq, hf67, hst, hf07, hb4, hb6⟩
theorem Tryz.sizeP_Head : (Tryz.prog.info? 25).map (·.size) = some 2 := by kernel_rfl
set_option maxRecDepth 100000 in
set_option maxHeartbeats 2000000 in
theorem lget_Head_go (xo : Option Addr) (n xc : Nat) (w : World) (Q : World → List Value → Value → Prop) (h : Calls Tryz.prog 22 #[.slice xo n xc] ((w.alloc (.cells zAL.toArray 44)).alloc (.cells zAL.toArray 44)) fun e w' => ∃ vs err, e = .returned (.tuple #[.agg (List.toArray vs), err]) ∧ vs.length = 2 ∧ (∀ v ∈ vs, v.oneCell' = true) ∧ Fr (fun _ => False) ((w.alloc (.cells zAL.toArray 44)).alloc (.cells zAL.toArray 44)) w' ∧ Q w' vs err) :
  Calls Tryz.prog 17 #[.int .i64 4, .slice xo n xc] w fun e w' => ∃ vs err, e = .returned (.tuple #[.agg (List.toArray (anyL 30 vs)), err]) ∧ vs.length = 2 ∧ (∀ v ∈ vs, v.oneCell' = true) ∧ ∃ w2, Q w2 vs err ∧ Fr (fun g => g = w.heap.size ∨ g = w.heap.size + 1) w2 w' ∧ (∀ F, Stp w2 w' F F (fun g _ => g = w.heap.size ∨ g = w.heap.size + 1)) ∧ Fr (fun _ => False) w w' ∧ w2.heap[w.heap.size]? = some (.cells zAL.toArray 44) ∧ w2.heap[w.heap.size + 1]? = some (.cells zAL.toArray 44) := by
 have H := hid h
 clear h
 go_enter Tryz.func17, Tryz.ntmps17
 go_wp2_with fail
 refine (uh H).mono ?_
 rintro e w5 ⟨vs, err, rfl, hln, hone, hf5, hq⟩
 have hs1 : (w.alloc (.cells zAL.toArray 44)).heap.size = w.heap.size + 1 := by simp
 have hb4 : w5.heap[w.heap.size]? = some (.cells zAL.toArray 44) := (hf5.block w.heap.size (by simp; omega) (fun h => h)).trans ((Below.heap_alloc _ _ _ (by simp)).trans (heap_alloc_new _ _))
 have hb6 : w5.heap[w.heap.size + 1]? = some (.cells zAL.toArray 44) := (hf5.block (w.heap.size + 1) (by simp) (fun h => h)).trans (by rw [← hs1]; exact heap_alloc_new _ _)
 have hf05 : Fr (fun _ => False) w w5 := ((box1 w _).trans (box1 _ _) (fun _ _ h => h)).trans hf5 (fun _ _ h => h)
 have hs5 := hf5.size
 obtain ⟨W6, hst6, ⟨fs', hb6', hl6, h3, h4⟩, hf6⟩ := st_mid (P := Tryz.prog) (ty := 25) (o := 30) zAL vs hb6 (by rw [hln]; decide) (by rw [hln]; exact Tryz.sizeP_Head) hone
 have e6 : fs' = anyL 30 vs := anyL_eq hln (by decide) h3 h4
 subst e6
 have hb46 := (hf6.block w.heap.size (by simp at hs5; omega) (fun e => by omega)).trans hb4
 obtain ⟨W7, hst7, hb7, hf7⟩ := st_all (P := Tryz.prog) (ty := 44) zAL (anyL 30 vs) hb46 (by rw [anyL_len hln (by decide)]; rfl) (by rw [anyL_len hln (by decide)]; exact Tryz.sizeAny) (anyL_one hone)
 have HS6 := hid hst6
 have HS7 := hid hst7
 have HR6 : Hid (W6.rangeAt (w.heap.size + 1) 0 (anyL 30 vs)) := hid (rOB hb6')
 have HZ : Hid ((Tryz.prog.info? 44).map (·.size) = some (anyL 30 vs).length) := hid (by rw [anyL_len hln (by decide)]; exact Tryz.sizeAny)
 have hf67 : Fr (fun g => g = w.heap.size ∨ g = w.heap.size + 1) w5 W7 := (hf6.mono (fun _ _ e => .inr e)).trans (hf7.mono (fun _ _ e => .inl e)) (fun _ _ h => h)
 have hst : ∀ F, Stp w5 W7 F F (fun g _ => g = w.heap.size ∨ g = w.heap.size + 1) := fun F => ((Stp.box (F := F) hf6 hb6 hb6').mono (fun _ _ _ e => .inr e)).trans ((Stp.box (F := F) hf7 hb46 hb7).mono (P' := fun g _ => g = w.heap.size ∨ g = w.heap.size + 1) (fun _ _ _ e => .inl e)) (fun _ _ _ h => h)
 have hf07 : Fr (fun _ => False) w W7 := hf05.trans hf67 (fun k hk e => by omega)
 have H5 := hid (And.intro hb7 (And.intro hln (And.intro hone (And.intro hq (And.intro hf67 (And.intro hst (And.intro hf07 (And.intro hb4 hb6))))))))
 clear hf5 hq hone hln hb4 hb6 hf05 hst6 hb6' hl6 h3 h4 hf6 hb46 hst7 hb7 hf7 hf67 hst hf07 hs5 hs1
 go_wp2_with (first | refine wpList_stN rfl 25 (.tmp 46) (.tmp 44) rfl _ _ rfl rfl (uh HS6) ?_ | refine wpList_load_mid rfl 44 (.tmp 6) rfl (w.heap.size + 1) 0 rfl _ _ (uh HR6) Tryz.underlying44 rfl (uh HZ) ?_ | refine wpList_stN rfl 44 (.tmp 4) (.tmp 63) rfl _ _ rfl rfl (uh HS7) ?_)
 refine bodyPost_ret (results_cellt rfl _ _ w.heap.size 0 (anyL 30 vs) _ _ rfl rfl (rOB (uh H5).1) Tryz.underlying44 rfl (uh HZ)) rfl ?_
 obtain ⟨_, hln, hone, hq, hf67, hst, hf07, hb4, hb6⟩ := uh H5
 exact ⟨vs, err, rfl, hln, hone, w5, hq, hf67, hst, hf07, hb4, hb6⟩
theorem Tryz.sizeP_Signed : (Tryz.prog.info? 37).map (·.size) = some 4 := by kernel_rfl
set_option maxRecDepth 100000 in
set_option maxHeartbeats 2000000 in
theorem lget_Signed_go (xo : Option Addr) (n xc : Nat) (w : World) (Q : World → List Value → Value → Prop) (h : Calls Tryz.prog 37 #[.slice xo n xc] ((w.alloc (.cells zAL.toArray 44)).alloc (.cells zAL.toArray 44)) fun e w' => ∃ vs err, e = .returned (.tuple #[.agg (List.toArray vs), err]) ∧ vs.length = 4 ∧ (∀ v ∈ vs, v.oneCell' = true) ∧ Fr (fun _ => False) ((w.alloc (.cells zAL.toArray 44)).alloc (.cells zAL.toArray 44)) w' ∧ Q w' vs err) :
  Calls Tryz.prog 17 #[.int .i64 5, .slice xo n xc] w fun e w' => ∃ vs err, e = .returned (.tuple #[.agg (List.toArray (anyL 32 vs)), err]) ∧ vs.length = 4 ∧ (∀ v ∈ vs, v.oneCell' = true) ∧ ∃ w2, Q w2 vs err ∧ Fr (fun g => g = w.heap.size ∨ g = w.heap.size + 1) w2 w' ∧ (∀ F, Stp w2 w' F F (fun g _ => g = w.heap.size ∨ g = w.heap.size + 1)) ∧ Fr (fun _ => False) w w' ∧ w2.heap[w.heap.size]? = some (.cells zAL.toArray 44) ∧ w2.heap[w.heap.size + 1]? = some (.cells zAL.toArray 44) := by
 have H := hid h
 clear h
 go_enter Tryz.func17, Tryz.ntmps17
 go_wp2_with fail
 refine (uh H).mono ?_
 rintro e w5 ⟨vs, err, rfl, hln, hone, hf5, hq⟩
 have hs1 : (w.alloc (.cells zAL.toArray 44)).heap.size = w.heap.size + 1 := by simp
 have hb4 : w5.heap[w.heap.size]? = some (.cells zAL.toArray 44) := (hf5.block w.heap.size (by simp; omega) (fun h => h)).trans ((Below.heap_alloc _ _ _ (by simp)).trans (heap_alloc_new _ _))
 have hb6 : w5.heap[w.heap.size + 1]? = some (.cells zAL.toArray 44) := (hf5.block (w.heap.size + 1) (by simp) (fun h => h)).trans (by rw [← hs1]; exact heap_alloc_new _ _)
 have hf05 : Fr (fun _ => False) w w5 := ((box1 w _).trans (box1 _ _) (fun _ _ h => h)).trans hf5 (fun _ _ h => h)
 have hs5 := hf5.size
 obtain ⟨W6, hst6, ⟨fs', hb6', hl6, h3, h4⟩, hf6⟩ := st_mid (P := Tryz.prog) (ty := 37) (o := 32) zAL vs hb6 (by rw [hln]; decide) (by rw [hln]; exact Tryz.sizeP_Signed) hone
 have e6 : fs' = anyL 32 vs := anyL_eq hln (by decide) h3 h4
 subst e6
 have hb46 := (hf6.block w.heap.size (by simp at hs5; omega) (fun e => by omega)).trans hb4
 obtain ⟨W7, hst7, hb7, hf7⟩ := st_all (P := Tryz.prog) (ty := 44) zAL (anyL 32 vs) hb46 (by rw [anyL_len hln (by decide)]; rfl) (by rw [anyL_len hln (by decide)]; exact Tryz.sizeAny) (anyL_one hone)
 have HS6 := hid hst6
 have HS7 := hid hst7
 have HR6 : Hid (W6.rangeAt (w.heap.size + 1) 0 (anyL 32 vs)) := hid (rOB hb6')
 have HZ : Hid ((Tryz.prog.info? 44).map (·.size) = some (anyL 32 vs).length) := hid (by rw [anyL_len hln (by decide)]; exact Tryz.sizeAny)
 have hf67 : Fr (fun g => g = w.heap.size ∨ g = w.heap.size + 1) w5 W7 := (hf6.mono (fun _ _ e => .inr e)).trans (hf7.mono (fun _ _ e => .inl e)) (fun _ _ h => h)
 have hst : ∀ F, Stp w5 W7 F F (fun g _ => g = w.heap.size ∨ g = w.heap.size + 1) := fun F => ((Stp.box (F := F) hf6 hb6 hb6').mono (fun _ _ _ e => .inr e)).trans ((Stp.box (F := F) hf7 hb46 hb7).mono (P' := fun g _ => g = w.heap.size ∨ g = w.heap.size + 1) (fun _ _ _ e => .inl e)) (fun _ _ _ h => h)
 have hf07 : Fr (fun _ => False) w W7 := hf05.trans hf67 (fun k hk e => by omega)
 have H5 := hid (And.intro hb7 (And.intro hln (And.intro hone (And.intro hq (And.intro hf67 (And.intro hst (And.intro hf07 (And.intro hb4 hb6))))))))
 clear hf5 hq hone hln hb4 hb6 hf05 hst6 hb6' hl6 h3 h4 hf6 hb46 hst7 hb7 hf7 hf67 hst hf07 hs5 hs1
 go_wp2_with (first | refine wpList_stN rfl 37 (.tmp 54) (.tmp 52) rfl _ _ rfl rfl (uh HS6) ?_ | refine wpList_load_mid rfl 44 (.tmp 6) rfl (w.heap.size + 1) 0 rfl _ _ (uh HR6) Tryz.underlying44 rfl (uh HZ) ?_ | refine wpList_stN rfl 44 (.tmp 4) (.tmp 63) rfl _ _ rfl rfl (uh HS7) ?_)
 refine bodyPost_ret (results_cellt rfl _ _ w.heap.size 0 (anyL 32 vs) _ _ rfl rfl (rOB (uh H5).1) Tryz.underlying44 rfl (uh HZ)) rfl ?_
 obtain ⟨_, hln, hone, hq, hf67, hst, hf07, hb4, hb6⟩ := uh H5
 exact ⟨vs, err, rfl, hln, hone, w5, hq, hf67, hst, hf07, hb4, hb6⟩
theorem Tryz.sizeP_Proof : (Tryz.prog.info? 40).map (·.size) = some 1 := by kernel_rfl
set_option maxRecDepth 100000 in
set_option maxHeartbeats 2000000 in
theorem lget_Proof_go (xo : Option Addr) (n xc : Nat) (w : World) (Q : World → List Value → Value → Prop) (h : Calls Tryz.prog 38 #[.slice xo n xc] ((w.alloc (.cells zAL.toArray 44)).alloc (.cells zAL.toArray 44)) fun e w' => ∃ vs err, e = .returned (.tuple #[.agg (List.toArray vs), err]) ∧ vs.length = 1 ∧ (∀ v ∈ vs, v.oneCell' = true) ∧ Fr (fun _ => False) ((w.alloc (.cells zAL.toArray 44)).alloc (.cells zAL.toArray 44)) w' ∧ Q w' vs err) :
  Calls Tryz.prog 17 #[.int .i64 6, .slice xo n xc] w fun e w' => ∃ vs err, e = .returned (.tuple #[.agg (List.toArray (anyL 36 vs)), err]) ∧ vs.length = 1 ∧ (∀ v ∈ vs, v.oneCell' = true) ∧ ∃ w2, Q w2 vs err ∧ Fr (fun g => g = w.heap.size ∨ g = w.heap.size + 1) w2 w' ∧ (∀ F, Stp w2 w' F F (fun g _ => g = w.heap.size ∨ g = w.heap.size + 1)) ∧ Fr (fun _ => False) w w' ∧ w2.heap[w.heap.size]? = some (.cells zAL.toArray 44) ∧ w2.heap[w.heap.size + 1]? = some (.cells zAL.toArray 44) := by
 have H := hid h
 clear h
 go_enter Tryz.func17, Tryz.ntmps17
 go_wp2_with fail
 refine (uh H).mono ?_
 rintro e w5 ⟨vs, err, rfl, hln, hone, hf5, hq⟩
 have hs1 : (w.alloc (.cells zAL.toArray 44)).heap.size = w.heap.size + 1 := by simp
 have hb4 : w5.heap[w.heap.size]? = some (.cells zAL.toArray 44) := (hf5.block w.heap.size (by simp; omega) (fun h => h)).trans ((Below.heap_alloc _ _ _ (by simp)).trans (heap_alloc_new _ _))
 have hb6 : w5.heap[w.heap.size + 1]? = some (.cells zAL.toArray 44) := (hf5.block (w.heap.size + 1) (by simp) (fun h => h)).trans (by rw [← hs1]; exact heap_alloc_new _ _)
 have hf05 : Fr (fun _ => False) w w5 := ((box1 w _).trans (box1 _ _) (fun _ _ h => h)).trans hf5 (fun _ _ h => h)
 have hs5 := hf5.size
 obtain ⟨W6, hst6, ⟨fs', hb6', hl6, h3, h4⟩, hf6⟩ := st_mid (P := Tryz.prog) (ty := 40) (o := 36) zAL vs hb6 (by rw [hln]; decide) (by rw [hln]; exact Tryz.sizeP_Proof) hone
 have e6 : fs' = anyL 36 vs := anyL_eq hln (by decide) h3 h4
 subst e6
 have hb46 := (hf6.block w.heap.size (by simp at hs5; omega) (fun e => by omega)).trans hb4
 obtain ⟨W7, hst7, hb7, hf7⟩ := st_all (P := Tryz.prog) (ty := 44) zAL (anyL 36 vs) hb46 (by rw [anyL_len hln (by decide)]; rfl) (by rw [anyL_len hln (by decide)]; exact Tryz.sizeAny) (anyL_one hone)
 have HS6 := hid hst6
 have HS7 := hid hst7
 have HR6 : Hid (W6.rangeAt (w.heap.size + 1) 0 (anyL 36 vs)) := hid (rOB hb6')
 have HZ : Hid ((Tryz.prog.info? 44).map (·.size) = some (anyL 36 vs).length) := hid (by rw [anyL_len hln (by decide)]; exact Tryz.sizeAny)
 have hf67 : Fr (fun g => g = w.heap.size ∨ g = w.heap.size + 1) w5 W7 := (hf6.mono (fun _ _ e => .inr e)).trans (hf7.mono (fun _ _ e => .inl e)) (fun _ _ h => h)
 have hst : ∀ F, Stp w5 W7 F F (fun g _ => g = w.heap.size ∨ g = w.heap.size + 1) := fun F => ((Stp.box (F := F) hf6 hb6 hb6').mono (fun _ _ _ e => .inr e)).trans ((Stp.box (F := F) hf7 hb46 hb7).mono (P' := fun g _ => g = w.heap.size ∨ g = w.heap.size + 1) (fun _ _ _ e => .inl e)) (fun _ _ _ h => h)
 have hf07 : Fr (fun _ => False) w W7 := hf05.trans hf67 (fun k hk e => by omega)
 have H5 := hid (And.intro hb7 (And.intro hln (And.intro hone (And.intro hq (And.intro hf67 (And.intro hst (And.intro hf07 (And.intro hb4 hb6))))))))
 clear hf5 hq hone hln hb4 hb6 hf05 hst6 hb6' hl6 h3 h4 hf6 hb46 hst7 hb7 hf7 hf67 hst hf07 hs5 hs1
 go_wp2_with (first | refine wpList_stN rfl 40 (.tmp 62) (.tmp 60) rfl _ _ rfl rfl (uh HS6) ?_ | refine wpList_load_mid rfl 44 (.tmp 6) rfl (w.heap.size + 1) 0 rfl _ _ (uh HR6) Tryz.underlying44 rfl (uh HZ) ?_ | refine wpList_stN rfl 44 (.tmp 4) (.tmp 63) rfl _ _ rfl rfl (uh HS7) ?_)
 refine bodyPost_ret (results_cellt rfl _ _ w.heap.size 0 (anyL 36 vs) _ _ rfl rfl (rOB (uh H5).1) Tryz.underlying44 rfl (uh HZ)) rfl ?_
 obtain ⟨_, hln, hone, hq, hf67, hst, hf07, hb4, hb6⟩ := uh H5
 exact ⟨vs, err, rfl, hln, hone, w5, hq, hf67, hst, hf07, hb4, hb6⟩
theorem Tryz.sizeP_Message : (Tryz.prog.info? 42).map (·.size) = some 35 := by kernel_rfl
set_option maxRecDepth 100000 in
set_option maxHeartbeats 2000000 in
theorem lget_Message_go (xo : Option Addr) (n xc : Nat) (w : World) (Q : World → List Value → Value → Prop) (h : Calls Tryz.prog 39 #[.slice xo n xc] ((w.alloc (.cells zAL.toArray 44)).alloc (.cells zAL.toArray 44)) fun e w' => ∃ vs err, e = .returned (.tuple #[.agg (List.toArray vs), err]) ∧ vs.length = 35 ∧ (∀ v ∈ vs, v.oneCell' = true) ∧ Fr (fun _ => False) ((w.alloc (.cells zAL.toArray 44)).alloc (.cells zAL.toArray 44)) w' ∧ Q w' vs err) :
  Calls Tryz.prog 17 #[.int .i64 7, .slice xo n xc] w fun e w' => ∃ vs err, e = .returned (.tuple #[.agg (List.toArray (anyL 37 vs)), err]) ∧ vs.length = 35 ∧ (∀ v ∈ vs, v.oneCell' = true) ∧ ∃ w2, Q w2 vs err ∧ Fr (fun g => g = w.heap.size ∨ g = w.heap.size + 1) w2 w' ∧ (∀ F, Stp w2 w' F F (fun g _ => g = w.heap.size ∨ g = w.heap.size + 1)) ∧ Fr (fun _ => False) w w' ∧ w2.heap[w.heap.size]? = some (.cells zAL.toArray 44) ∧ w2.heap[w.heap.size + 1]? = some (.cells zAL.toArray 44) := by
 have H := hid h
 clear h
 go_enter Tryz.func17, Tryz.ntmps17
 go_wp2_with fail
 refine (uh H).mono ?_
 rintro e w5 ⟨vs, err, rfl, hln, hone, hf5, hq⟩
 have hs1 : (w.alloc (.cells zAL.toArray 44)).heap.size = w.heap.size + 1 := by simp
 have hb4 : w5.heap[w.heap.size]? = some (.cells zAL.toArray 44) := (hf5.block w.heap.size (by simp; omega) (fun h => h)).trans ((Below.heap_alloc _ _ _ (by simp)).trans (heap_alloc_new _ _))
 have hb6 : w5.heap[w.heap.size + 1]? = some (.cells zAL.toArray 44) := (hf5.block (w.heap.size + 1) (by simp) (fun h => h)).trans (by rw [← hs1]; exact heap_alloc_new _ _)
 have hf05 : Fr (fun _ => False) w w5 := ((box1 w _).trans (box1 _ _) (fun _ _ h => h)).trans hf5 (fun _ _ h => h)
 have hs5 := hf5.size
 obtain ⟨W6, hst6, ⟨fs', hb6', hl6, h3, h4⟩, hf6⟩ := st_mid (P := Tryz.prog) (ty := 42) (o := 37) zAL vs hb6 (by rw [hln]; decide) (by rw [hln]; exact Tryz.sizeP_Message) hone
 have e6 : fs' = anyL 37 vs := anyL_eq hln (by decide) h3 h4
 subst e6
 have hb46 := (hf6.block w.heap.size (by simp at hs5; omega) (fun e => by omega)).trans hb4
 obtain ⟨W7, hst7, hb7, hf7⟩ := st_all (P := Tryz.prog) (ty := 44) zAL (anyL 37 vs) hb46 (by rw [anyL_len hln (by decide)]; rfl) (by rw [anyL_len hln (by decide)]; exact Tryz.sizeAny) (anyL_one hone)
 have HS6 := hid hst6
 have HS7 := hid hst7
 have HR6 : Hid (W6.rangeAt (w.heap.size + 1) 0 (anyL 37 vs)) := hid (rOB hb6')
 have HZ : Hid ((Tryz.prog.info? 44).map (·.size) = some (anyL 37 vs).length) := hid (by rw [anyL_len hln (by decide)]; exact Tryz.sizeAny)
 have hf67 : Fr (fun g => g = w.heap.size ∨ g = w.heap.size + 1) w5 W7 := (hf6.mono (fun _ _ e => .inr e)).trans (hf7.mono (fun _ _ e => .inl e)) (fun _ _ h => h)
 have hst : ∀ F, Stp w5 W7 F F (fun g _ => g = w.heap.size ∨ g = w.heap.size + 1) := fun F => ((Stp.box (F := F) hf6 hb6 hb6').mono (fun _ _ _ e => .inr e)).trans ((Stp.box (F := F) hf7 hb46 hb7).mono (P' := fun g _ => g = w.heap.size ∨ g = w.heap.size + 1) (fun _ _ _ e => .inl e)) (fun _ _ _ h => h)
 have hf07 : Fr (fun _ => False) w W7 := hf05.trans hf67 (fun k hk e => by omega)
 have H5 := hid (And.intro hb7 (And.intro hln (And.intro hone (And.intro hq (And.intro hf67 (And.intro hst (And.intro hf07 (And.intro hb4 hb6))))))))
 clear hf5 hq hone hln hb4 hb6 hf05 hst6 hb6' hl6 h3 h4 hf6 hb46 hst7 hb7 hf7 hf67 hst hf07 hs5 hs1
 go_wp2_with (first | refine wpList_stN rfl 42 (.tmp 14) (.tmp 12) rfl _ _ rfl rfl (uh HS6) ?_ | refine wpList_load_mid rfl 44 (.tmp 6) rfl (w.heap.size + 1) 0 rfl _ _ (uh HR6) Tryz.underlying44 rfl (uh HZ) ?_ | refine wpList_stN rfl 44 (.tmp 4) (.tmp 63) rfl _ _ rfl rfl (uh HS7) ?_)
 refine bodyPost_ret (results_cellt rfl _ _ w.heap.size 0 (anyL 37 vs) _ _ rfl rfl (rOB (uh H5).1) Tryz.underlying44 rfl (uh HZ)) rfl ?_
 obtain ⟨_, hln, hone, hq, hf67, hst, hf07, hb4, hb6⟩ := uh H5
 exact ⟨vs, err, rfl, hln, hone, w5, hq, hf67, hst, hf07, hb4, hb6⟩
theorem flat_at {α : Type} (f : α → List Value) (z : Nat) (hz : ∀ a, (f a).length = z) : ∀ (l : List α) (i j : Nat) (x : α), l[i]? = some x → j < z → (l.flatMap f)[i * z + j]? = (f x)[j]?
 | [], i, j, x, h, _ => by simp at h
 | y :: r, 0, j, x, h, hj => by
  simp only [List.getElem?_cons_zero, Option.some.injEq] at h
  subst h
  rw [List.flatMap_cons, Nat.zero_mul, Nat.zero_add, List.getElem?_append_left (by rw [hz]; exact hj)]
 | y :: r, i + 1, j, x, h, hj => by
  have ih := flat_at f z hz r i j x (by simpa using h) hj
  rw [List.flatMap_cons, List.getElem?_append_right (by rw [hz, Nat.succ_mul]; omega), hz, ← ih]
  congr 1
  rw [Nat.succ_mul]
  omega
theorem own_one_form {w : World} {base e z n : Nat} {v : Value} {xs : List Value} (h : w.ownsRow base e z v n xs) (hn : 0 < n) : ∃ g cap, v = .slice (some ⟨g, 0, none⟩) n cap ∧ base ≤ g ∧ ∀ i u, xs[i]? = some u → w.cell? ⟨g, i, none⟩ = some u := by
 rcases h.2 with ⟨rfl, e⟩ | ⟨g, cap, cur, rfl, hb, _⟩
 ·omega
 ·refine ⟨g, cap, rfl, hb, fun i u hu => ?_⟩
  have hi := (List.getElem?_eq_some_iff.1 hu).1
  rw [h.cellAt i (by have := h.1; omega)]
  exact hu
theorem own_cap7 {w : World} {base e z n : Nat} {v : Value} {xs : List Value} (h : w.ownsRow base e z v n xs) : ∃ xo xc, v = .slice xo n xc ∧ n ≤ xc ∧ (0 < n → ∃ g, xo = some ⟨g, 0, none⟩ ∧ ∀ i u, xs[i]? = some u → w.cell? ⟨g, i, none⟩ = some u) := by
 rcases h.2 with ⟨e, h0⟩ | ⟨g, cap, cur, e, hb, _, hc, _⟩
 ·exact ⟨none, 0, by rw [e, h0], by omega, fun h => by omega⟩
 ·refine ⟨some ⟨g, 0, none⟩, cap, e, hc, fun hn => ⟨g, rfl, fun i u hu => ?_⟩⟩
  obtain ⟨g', cap', e', _, h2⟩ := own_one_form h hn
  rw [e] at e'
  cases e'
  exact h2 i u hu
theorem OwV.fdi {w : World} {base : Nat} {x : Value} {l : List Fld} {F : Nat → Prop} (h : OwV w base x l F) (hn : l.length < 9223372036854775808) : FdI w x l := by
 obtain ⟨xo, xc, e, hc, hx⟩ := own_cap7 h.row
 refine ⟨⟨xo, xc, e, hc, fun j f hf => ⟨h.ok f (List.mem_of_getElem? hf), ?_⟩⟩, hn⟩
 have hj := (List.getElem?_eq_some_iff.1 hf).1
 obtain ⟨g, rfl, hg⟩ := hx (by omega)
 have h5 : ∀ i, i < 5 → (fdc l)[j * 5 + i]? = f.vs[i]? := fun i hi => flat_at Fld.vs 5 (fun _ => rfl) l j i f hf hi
 refine ⟨g, 0, rfl, fun h => h, ?_, ?_, ?_, ?_, ?_⟩
 ·rw [Nat.zero_add]; exact hg (j * 5 + 0) _ (h5 0 (by decide))
 ·rw [Nat.zero_add]; exact hg (j * 5 + 1) _ (h5 1 (by decide))
 ·rw [Nat.zero_add]; exact hg (j * 5 + 2) _ (h5 2 (by decide))
 ·rw [Nat.zero_add]; exact hg (j * 5 + 3) _ (h5 3 (by decide))
 ·rw [Nat.zero_add]; exact hg (j * 5 + 4) _ (h5 4 (by decide))
theorem OwZ.sui {w : World} {base : Nat} {x : Value} {l : List SuM} {F : Nat → Prop} (h : OwZ w base x l F) (hn : l.length < 9223372036854775808) : SuI w x l := by
 obtain ⟨xo, xc, e, hc, hx⟩ := own_cap7 h.row
 refine ⟨⟨xo, xc, e, hc, fun j f hf => ⟨h.ok f (List.mem_of_getElem? hf), ?_⟩⟩, hn⟩
 have hj := (List.getElem?_eq_some_iff.1 hf).1
 obtain ⟨g, rfl, hg⟩ := hx (by omega)
 have h5 : ∀ i, i < 4 → (suc l)[j * 4 + i]? = f.vs[i]? := fun i hi => flat_at SuM.vs 4 (fun _ => rfl) l j i f hf hi
 refine ⟨g, 0, rfl, fun h => h, ?_, ?_, ?_, ?_⟩
 ·rw [Nat.zero_add]; exact hg (j * 4 + 0) _ (h5 0 (by decide))
 ·rw [Nat.zero_add]; exact hg (j * 4 + 1) _ (h5 1 (by decide))
 ·rw [Nat.zero_add]; exact hg (j * 4 + 2) _ (h5 2 (by decide))
 ·rw [Nat.zero_add]; exact hg (j * 4 + 3) _ (h5 3 (by decide))
theorem own_sli {w : World} {base : Nat} {x : Value} {l : List Nat} (h : w.ownsRow base 5 1 x l.length (cellsOf l)) (hn : l.length < 9223372036854775808) : SlI w x l := ⟨own_src h, fun g o m c e => (h.lt g (by rw [e]; rfl)).2, hn⟩
theorem OwP.pci {w : World} {base : Nat} {x : Value} {ps : List (List Nat)} {F : Nat → Prop} (h : OwP w base x ps F) (hn : ps.length < 9223372036854775808) (hp : ∀ p ∈ ps, p.length < 9223372036854775808) : ∃ xo xc, x = .slice xo ps.length xc ∧ PcI w xo xc ps := by
 obtain ⟨us, h1, h2, h3, _⟩ := h.us
 obtain ⟨xo, xc, e, hc, hx⟩ := own_cap7 h2
 refine ⟨xo, xc, e, hc, hn, fun j p hpj => ?_⟩
 have hj := (List.getElem?_eq_some_iff.1 hpj).1
 obtain ⟨g, rfl, hg⟩ := hx (by omega)
 obtain ⟨u, hu⟩ : ∃ u, us[j]? = some u := ⟨_, List.getElem?_eq_getElem (by omega)⟩
 exact ⟨g, 0, u, rfl, by rw [Nat.zero_add]; exact hg j u hu, own_sli (h3 j u p hu hpj) (hp p (List.mem_of_getElem? hpj))⟩
theorem go6_le (q : Q) (m : Int) : (q.go 6 m).2.2.length ≤ m.toNat := by
 by_cases h : (q.go 6 m).1.f = none
 ·obtain ⟨_, _, _, _, h4, h5⟩ := Q.go_byt h
  rw [h4, List.length_take]
  omega
 ·have : (q.go 6 m).2.2 = [] := by
   unfold Q.go Q.step at h ⊢
   simp only [show ¬ (6 : Int) = 10 by decide, show ¬ (6 : Int) = 9 by decide, show ¬ (6 : Int) = 5 by decide, if_false, ne_eq, not_true, false_and, true_or, true_and] at h ⊢
   by_cases h0 : q.f = none
   ·simp only [h0, not_true, if_false] at h ⊢
    split
    ·rfl
    ·split
     ·rfl
     ·split
      ·rfl
      ·rename_i h1 h2 h3
       simp [h1, h2, h3] at h
   ·simp [h0]
  rw [this]
  exact Nat.zero_le _
theorem pStr_lt3 (c : CS) (nm : ByteArray) (m : Int) (hm : m < 9223372036854775808) (rs : List (ByteArray → Nat)) (v : ByteArray) (hv : v.size < 9223372036854775808) : (c.pStr nm m rs v).2.size < 9223372036854775808 := by
 cases c with
 | wr s => exact hv
 | rd q =>
  have := go6_le (q.named nm) m
  show (strOf ((q.named nm).go 6 m).2.2).size < _
  rw [strOf_sizeN]
  omega
theorem pByt_lt3 (c : CS) (nm : ByteArray) (m : Int) (hm : m < 9223372036854775808) (rs : List (List Nat → Nat)) (v : List Nat) (hv : v.length < 9223372036854775808) : (c.pByt nm m rs v).2.length < 9223372036854775808 := by
 cases c with
 | wr s => exact hv
 | rd q =>
  have := go6_le (q.named nm) m
  show ((q.named nm).go 6 m).2.2.length < _
  omega
theorem pFields_lt3 (c : CS) (last : Nat) (rs : List (Int → Nat)) (l : List Fld) (hl : l.length < 9223372036854775808) : (c.pFields last rs l).2.length < 9223372036854775808 := by
 cases c with
 | wr s => exact hl
 | rd q =>
  show (lpR (eachF last) zFd (min ((q.named n_fields).go 7 32).2.1 32) (((CS.rd q).pInt n_fields 32 (lrs 32 rs) 0).1, ⟨#[]⟩)).2.length < _
  rw [lpR_length]
  omega
theorem pHist_lt3 (c : CS) (l : List SuM) (hl : l.length < 9223372036854775808) : (c.pHist l).2.length < 9223372036854775808 := by
 cases c with
 | wr s => exact hl
 | rd q =>
  show (loopR (fun c v => c.pSummary v) zSu (min ((q.named n_history).go 7 64).2.1 64) ((CS.rd q).pInt n_history 64 (lrs 64 []) 0).1).2.length < _
  rw [loopR_length]
  omega
theorem pRequest_ok (c : CS) (v : RqM) (h : v.ok) (hf : v.fs.length < 9223372036854775808) : (c.pRequest v).2.ok ∧ (c.pRequest v).2.fs.length < 9223372036854775808 :=
 ⟨⟨(CS.pId_lt _ (v.cl, v.nu) h.cl h.nu).1, (CS.pId_lt _ (v.cl, v.nu) h.cl h.nu).2, CS.pU32_lt _ _ _ _ h.ac, CS.pU8_lt _ _ _ _ h.op, CS.pU32_lt _ _ _ _ h.re, CS.pU32_lt _ _ _ _ h.ve, CS.pU32_lt _ _ _ _ h.wa, CS.pU32_lt _ _ _ _ h.ow, pStr_lt3 _ _ 64 (by decide) _ _ h.rs⟩, pFields_lt3 _ _ _ _ hf⟩
theorem pAnswer_ok (c : CS) (v : AnM) (h : v.ok) (hf : v.fs.length < 9223372036854775808) (hh : v.hi.length < 9223372036854775808) : (c.pAnswer v).2.ok ∧ (c.pAnswer v).2.fs.length < 9223372036854775808 ∧ (c.pAnswer v).2.hi.length < 9223372036854775808 :=
 ⟨⟨(CS.pId_lt _ (v.cl, v.nu) h.cl h.nu).1, (CS.pId_lt _ (v.cl, v.nu) h.cl h.nu).2, CS.pU8_lt _ _ _ _ h.co, CS.pU32_lt _ _ _ _ h.re, CS.pU32_lt _ _ _ _ h.ve⟩, pFields_lt3 _ _ _ _ hf, pHist_lt3 _ _ hh⟩
theorem pEvent_ok (c : CS) (v : EvM) (h : v.ok) (hf : v.rq.fs.length < 9223372036854775808) (hd : v.dg.length < 9223372036854775808) : (c.pEvent v).2.ok ∧ (c.pEvent v).2.rq.fs.length < 9223372036854775808 ∧ (c.pEvent v).2.dg.length < 9223372036854775808 :=
 ⟨⟨CS.pU32_lt _ _ _ _ h.pl, (pRequest_ok _ _ h.rq hf).1, CS.pU8_lt _ _ _ _ h.co⟩, (pRequest_ok _ _ h.rq hf).2, pByt_lt3 _ _ 32 (by decide) _ _ hd⟩
theorem pMessage_ok (c : CS) (v : MsM) (h : v.ok) (hn : v.lens) : (c.pMessage v).2.ok ∧ (c.pMessage v).2.lens := by
 have hk : (c.m1 v).2 < 256 := CS.pU8_lt _ _ _ _ h.kd
 show ((c.m1 v).1.pM (c.m1 v).2 v).2.ok ∧ ((c.m1 v).1.pM (c.m1 v).2 v).2.lens
 generalize (c.m1 v).1 = d at *
 generalize (c.m1 v).2 = k at *
 unfold CS.pM
 split
 ·have := pRequest_ok d v.rq h.rq hn.rq
  exact ⟨⟨(by decide : (1 : Nat) < 256), this.1, h.icl, h.inu, h.an, h.co, h.ev, h.le⟩, ⟨this.2, hn.an, hn.hi, hn.ev, hn.dg⟩⟩
 split
 ·have := CS.pId_lt d (v.icl, v.inu) h.icl h.inu
  exact ⟨⟨(by decide : (2 : Nat) < 256), h.rq, this.1, this.2, h.an, h.co, h.ev, h.le⟩, ⟨hn.rq, hn.an, hn.hi, hn.ev, hn.dg⟩⟩
 split
 ·have := pAnswer_ok d v.an h.an hn.an hn.hi
  exact ⟨⟨(by decide : (3 : Nat) < 256), h.rq, h.icl, h.inu, this.1, h.co, h.ev, h.le⟩, ⟨hn.rq, this.2.1, this.2.2, hn.ev, hn.dg⟩⟩
 split
 ·have := CS.pId_lt d (v.icl, v.inu) h.icl h.inu
  exact ⟨⟨(by decide : (4 : Nat) < 256), h.rq, this.1, this.2, h.an, CS.pU8_lt _ _ _ _ h.co, h.ev, h.le⟩, ⟨hn.rq, hn.an, hn.hi, hn.ev, hn.dg⟩⟩
 split
 ·have := pEvent_ok d v.ev h.ev hn.ev hn.dg
  exact ⟨⟨(by decide : (5 : Nat) < 256), h.rq, h.icl, h.inu, h.an, h.co, this.1, h.le⟩, ⟨hn.rq, hn.an, hn.hi, this.2.1, this.2.2⟩⟩
 split
 ·exact ⟨⟨(by decide : (6 : Nat) < 256), h.rq, h.icl, h.inu, h.an, h.co, h.ev, CS.pU32_lt _ _ _ _ h.le⟩, ⟨hn.rq, hn.an, hn.hi, hn.ev, hn.dg⟩⟩
 ·exact ⟨⟨hk, h.rq, h.icl, h.inu, h.an, h.co, h.ev, h.le⟩, ⟨hn.rq, hn.an, hn.hi, hn.ev, hn.dg⟩⟩
theorem requestR_ok (l : List Nat) : (requestR l).2.ok ∧ (requestR l).2.fs.length < 9223372036854775808 := pRequest_ok _ zRq zRq_ok (by decide)
theorem answerR_ok (l : List Nat) : (answerR l).2.ok ∧ (answerR l).2.fs.length < 9223372036854775808 ∧ (answerR l).2.hi.length < 9223372036854775808 := pAnswer_ok _ zAn zAn_ok (by decide) (by decide)
theorem eventR_ok (l : List Nat) : (eventR l).2.ok ∧ (eventR l).2.rq.fs.length < 9223372036854775808 ∧ (eventR l).2.dg.length < 9223372036854775808 := pEvent_ok _ zEv zEv_ok (by decide) (by decide)
theorem messageR_ok (l : List Nat) : (messageR l).2.ok ∧ (messageR l).2.lens := pMessage_ok _ zMs zMs_ok ⟨by decide, by decide, by decide, by decide, by decide⟩
theorem headR_ok (l : List Nat) : (headR l).2.1 < 4294967296 ∧ (headR l).2.2.length < 9223372036854775808 := ⟨CS.pU32_lt _ _ _ _ (by decide), pByt_lt3 _ _ 32 (by decide) _ _ (by decide)⟩
theorem pSigned_ok (c : CS) (v : (Nat × List Nat) × Nat × List Nat) (h1 : v.1.1 < 4294967296) (h2 : v.1.2.length < 9223372036854775808) (h3 : v.2.1 < 4294967296) (h4 : v.2.2.length < 9223372036854775808) : (c.pSigned v).2.1.1 < 4294967296 ∧ (c.pSigned v).2.1.2.length < 9223372036854775808 ∧ (c.pSigned v).2.2.1 < 4294967296 ∧ (c.pSigned v).2.2.2.length < 9223372036854775808 :=
 ⟨CS.pU32_lt c n_size [] v.1.1 h1, pByt_lt3 (c.pU32 n_size [] v.1.1).1 n_root 32 (by decide) _ v.1.2 h2, CS.pU32_lt (c.pHead v.1).1 n_key [] v.2.1 h3, pByt_lt3 ((c.pHead v.1).1.pU32 n_key [] v.2.1).1 n_signature 32768 (by decide) _ v.2.2 h4⟩
theorem signedR_ok (l : List Nat) : (signedR l).2.1.1 < 4294967296 ∧ (signedR l).2.1.2.length < 9223372036854775808 ∧ (signedR l).2.2.1 < 4294967296 ∧ (signedR l).2.2.2.length < 9223372036854775808 := by
 unfold signedR
 exact pSigned_ok ((cr0 l).pForm 5) ((0, []), 0, []) (by decide) (by decide) (by decide) (by decide)
theorem loopR_all {α : Type} {each : CS → α → CS × α} {z : α} {P : α → Prop} (he : ∀ c, P (each c z).2) (c : CS) : ∀ n, ∀ x ∈ (loopR each z n c).2, P x
 | 0, x, h => by cases h
 | n + 1, x, h => by
  have h' : x ∈ (loopR each z n c).2 ++ [(each (loopR each z n c).1 z).2] := h
  rcases List.mem_append.1 h' with h | h
  ·exact loopR_all he c n x h
  ·simp at h
   subst h
   exact he _
theorem proofR_ok (l : List Nat) : (proofR l).2.length < 9223372036854775808 ∧ ∀ p ∈ (proofR l).2, p.length < 9223372036854775808 := by
 obtain ⟨q, e⟩ : ∃ q, (cr0 l).pForm 6 = .rd q := ⟨_, rfl⟩
 unfold proofR
 rw [e]
 show (loopR (fun c v => c.pHash n_hash v) [] (min ((q.named n_hashes).go 7 (4096 : Nat)).2.1 4096) ((CS.rd q).pInt n_hashes (4096 : Nat) (lrs (4096 : Nat) []) 0).1).2.length < _ ∧ _
 refine ⟨by rw [loopR_length]; omega, fun p hp => ?_⟩
 exact loopR_all (P := fun p : List Nat => p.length < 9223372036854775808) (fun c => pByt_lt3 c n_hash 32 (by decide) _ _ (by decide)) _ _ p hp
theorem wpList_load_midG {P : Program} {ops : Array Oper} {rest : List Oper} {op : Oper} {a : Act} {w : World} {Q : Exit → Act → World → Prop} (hw : Region.wanted op (yielded ops a.tmps) = true) (ty : TypeId) (x : Operand) (ho : op.op = .load ty x)
  (b o : Nat) (hx : a.eval x = .pointer (some ⟨b, o, none⟩)) (cs : List Value) (d : TypeDesc) (hc : w.rangeAt b o cs)
  (hu : P.underlying ty = some d) (hd : d.isRow = true) (hi : (P.info? ty).map (·.size) = some cs.length)
  (h : wpList P ops Q rest (a.put op.dst (.agg cs.toArray)) w) : wpList P ops Q (op :: rest) a w :=
 wpList_step fun K hK => by rw [if_pos hw]; exact wp_load_mid ty x ho b o hx cs d hc hu hd hi (hK _ _ h)
theorem Tryz.zid_eql (w : World) : (binOp .eql 27 (.agg #[.int .u32 0, .int .u32 0]) (.agg #[.int .u32 0, .int .u32 0])).run Tryz.prog w = .ok (.bool true) w := by kernel_rfl
theorem Tryz.zid_neq (w : World) : (binOp .neq 27 (.agg #[.int .u32 0, .int .u32 0]) (.agg #[.int .u32 0, .int .u32 0])).run Tryz.prog w = .ok (.bool false) w := by kernel_rfl
theorem same_nil (w : World) : Calls Tryz.prog 11 #[.slice none 0 0, .slice none 0 0] w fun e w' => e = .returned (.bool true) ∧ Fr (fun _ => False) w w' := by
 refine (same_any (.slice none 0 0) (.slice none 0 0) [] [] w (.inl ⟨rfl, rfl⟩) (.inl ⟨rfl, rfl⟩) (by decide)).mono ?_
 rintro e w' ⟨he, hn⟩
 exact ⟨he.trans (by rw [show sameB [] [] = true from rfl]), Fr.of_drewN hn⟩
set_option maxRecDepth 100000 in
theorem fields_nil (w : World) : Calls Tryz.prog 83 #[.slice none 0 0, .slice none 0 0] w fun e w' => e = .returned (.bool true) ∧ Fr (fun _ => False) w w' := by
 go_enter Tryz.func83, Tryz.ntmps83
 go_wp2_with fail
 go_loopw [5] (fun iv wr => iv = .int .i64 0 ∧ wr = w) (fun _ _ => 0)
 case atStart => exact ⟨rfl, rfl⟩
 case round =>
  obtain ⟨rfl, rfl⟩ := hrel
  go_wp2_with fail
  go_ret
  exact ⟨rfl, Fr.refl _ _⟩
set_option maxRecDepth 100000 in
theorem sameReq_z (w : World) : Calls Tryz.prog 40 #[.agg #[.int .u32 0, .int .u32 0, .int .u32 0, .int .u8 0, .int .u32 0, .int .u32 0, .int .u32 0, .int .u32 0, .slice none 0 0, .string ⟨#[]⟩], .agg #[.int .u32 0, .int .u32 0, .int .u32 0, .int .u8 0, .int .u32 0, .int .u32 0, .int .u32 0, .int .u32 0, .slice none 0 0, .string ⟨#[]⟩]] w fun e w' => e = .returned (.bool true) ∧ Fr (fun _ => False) w w' := by
 have h1 := Tryz.zid_eql
 go_enter Tryz.func40, Tryz.ntmps40
 go_wp2_with fail
 refine (fields_nil _).mono ?_
 rintro e w' ⟨rfl, hf⟩
 have HF := hid ((box2 w _ _).trans hf (fun _ _ h => h))
 clear hf
 go_wp2_with fail
 go_ret
 exact ⟨rfl, uh HF⟩
set_option maxRecDepth 100000 in
theorem sameAns_z (w : World) : Calls Tryz.prog 41 #[.agg #[.int .u32 0, .int .u32 0, .int .u8 0, .int .u32 0, .int .u32 0, .slice none 0 0, .slice none 0 0], .agg #[.int .u32 0, .int .u32 0, .int .u8 0, .int .u32 0, .int .u32 0, .slice none 0 0, .slice none 0 0]] w fun e w' => e = .returned (.bool true) ∧ Fr (fun _ => False) w w' := by
 have h1 := Tryz.zid_neq
 go_enter Tryz.func41, Tryz.ntmps41
 go_wp2_with fail
 refine (fields_nil _).mono ?_
 rintro e w' ⟨rfl, hf⟩
 have ca : w'.cell? ⟨w.heap.size, 6, none⟩ = some (.slice none 0 0) := (hf.cell (p := ⟨w.heap.size, 6, none⟩) (by simp; omega) (fun h => h)).trans (by rw [World.cell?_alloc_past _ _ _ (by simp), World.cell?_alloc_at _ _ _ _ rfl]; rfl)
 have cb : w'.cell? ⟨w.heap.size + 1, 6, none⟩ = some (.slice none 0 0) := (hf.cell (p := ⟨w.heap.size + 1, 6, none⟩) (by simp) (fun h => h)).trans (by rw [World.cell?_alloc_at _ _ _ _ (by simp)]; rfl)
 have HF := hid ((box2 w _ _).trans hf (fun _ _ h => h))
 clear hf
 go_wp2_with fail
 go_loopw [5] (fun iv wr => iv = .int .i64 0 ∧ wr = w') (fun _ _ => 0)
 case atStart => exact ⟨rfl, rfl⟩
 case round =>
  obtain ⟨rfl, rfl⟩ := hrel
  go_wp2_with fail
  go_ret
  exact ⟨rfl, uh HF⟩
set_option maxRecDepth 100000 in
theorem lhead_z (w : World) : Calls Tryz.prog 43 #[.agg #[.int .u32 0, .slice none 0 0], .agg #[.int .u32 0, .slice none 0 0]] w fun e w' => e = .returned (.bool true) ∧ Fr (fun _ => False) w w' := by
 go_enter Tryz.func43, Tryz.ntmps43
 go_wp2_with fail
 refine (same_nil _).mono ?_
 rintro e w' ⟨rfl, hf⟩
 have HF := hid ((box2 w _ _).trans hf (fun _ _ h => h))
 clear hf
 go_wp2_with fail
 go_ret
 exact ⟨rfl, uh HF⟩
set_option maxRecDepth 100000 in
set_option maxHeartbeats 1000000 in
theorem levent_z (w : World) : Calls Tryz.prog 42 #[.agg #[.int .u32 0, .int .u32 0, .int .u32 0, .int .u32 0, .int .u8 0, .int .u32 0, .int .u32 0, .int .u32 0, .int .u32 0, .slice none 0 0, .string ⟨#[]⟩, .int .u8 0, .slice none 0 0], .agg #[.int .u32 0, .int .u32 0, .int .u32 0, .int .u32 0, .int .u8 0, .int .u32 0, .int .u32 0, .int .u32 0, .int .u32 0, .slice none 0 0, .string ⟨#[]⟩, .int .u8 0, .slice none 0 0]] w fun e w' => e = .returned (.bool true) ∧ Fr (fun _ => False) w w' := by
 go_enter Tryz.func42, Tryz.ntmps42
 go_wp2_with fail
 refine (sameReq_z _).mono ?_
 rintro e w1 ⟨rfl, hf⟩
 have a11 : w1.cell? ⟨w.heap.size, 11, none⟩ = some (.int .u8 0) := (hf.cell (p := ⟨w.heap.size, 11, none⟩) (by simp; omega) (fun h => h)).trans (by rw [World.cell?_alloc_past _ _ _ (by simp), World.cell?_alloc_at _ _ _ _ rfl]; rfl)
 have a12 : w1.cell? ⟨w.heap.size, 12, none⟩ = some (.slice none 0 0) := (hf.cell (p := ⟨w.heap.size, 12, none⟩) (by simp; omega) (fun h => h)).trans (by rw [World.cell?_alloc_past _ _ _ (by simp), World.cell?_alloc_at _ _ _ _ rfl]; rfl)
 have b11 : w1.cell? ⟨w.heap.size + 1, 11, none⟩ = some (.int .u8 0) := (hf.cell (p := ⟨w.heap.size + 1, 11, none⟩) (by simp) (fun h => h)).trans (by rw [World.cell?_alloc_at _ _ _ _ (by simp)]; rfl)
 have b12 : w1.cell? ⟨w.heap.size + 1, 12, none⟩ = some (.slice none 0 0) := (hf.cell (p := ⟨w.heap.size + 1, 12, none⟩) (by simp) (fun h => h)).trans (by rw [World.cell?_alloc_at _ _ _ _ (by simp)]; rfl)
 have HF := hid ((box2 w _ _).trans hf (fun _ _ h => h))
 clear hf
 go_wp2_with fail
 refine (same_nil _).mono ?_
 rintro e w2 ⟨rfl, hf2⟩
 have HF2 := hid ((uh HF).trans hf2 (fun _ _ h => h))
 clear hf2
 go_wp2_with fail
 go_ret
 exact ⟨rfl, uh HF2⟩
theorem range_part {W : World} {g t o : Nat} {cs ps : List Value} (hb : W.heap[g]? = some (.cells cs.toArray t)) (h : (cs.drop o).take ps.length = ps) : W.rangeAt g o ps := fun j u hu => cOB hb (by
 have hj := (List.getElem?_eq_some_iff.1 hu).1
 rw [← h, List.getElem?_take_of_lt hj, List.getElem?_drop] at hu
 simpa using hu)
set_option maxRecDepth 100000 in
set_option maxHeartbeats 2000000 in
theorem lmessage_z (w : World) : Calls Tryz.prog 44 #[.agg zML.toArray, .agg zML.toArray] w fun e w' => e = .returned (.bool true) ∧ Fr (fun _ => False) w w' := by
 have h1 := Tryz.zid_eql
 have hb1 : (w.alloc (.cells zML.toArray 42)).heap.size = w.heap.size + 1 := by simp
 have HB : Hid (∀ V : World, Fr (fun _ => False) ((w.alloc (.cells zML.toArray 42)).alloc (.cells zML.toArray 42)) V → V.heap[w.heap.size]? = some (.cells zML.toArray 42) ∧ V.heap[w.heap.size + 1]? = some (.cells zML.toArray 42)) := hid (fun V hf => ⟨(hf.block w.heap.size (by simp; omega) (fun h => h)).trans ((Below.heap_alloc _ _ _ (by simp)).trans (heap_alloc_new _ _)), (hf.block (w.heap.size + 1) (by simp) (fun h => h)).trans (by rw [← hb1]; exact heap_alloc_new _ _)⟩)
 have HF0 := hid (box2 w (.cells zML.toArray 42) (.cells zML.toArray 42))
 clear hb1
 go_enter Tryz.func44, Tryz.ntmps44
 go_upto_region 1 with fail
 obtain ⟨W0, hW0⟩ : ∃ W0, (w.alloc (.cells zML.toArray 42)).alloc (.cells zML.toArray 42) = W0 := ⟨_, rfl⟩
 have hW0' := hW0
 unfold zML at hW0'
 rw [hW0] at HB HF0
 first | rw [hW0'] | rw [hW0]
 clear hW0 hW0'
 obtain ⟨b0, b1⟩ := (uh HB) W0 (Fr.refl _ _)
 have p0 : W0.cell? ⟨w.heap.size, 0, none⟩ = some (.int .u8 0) := cOB b0 rfl
 have p11 : W0.cell? ⟨w.heap.size, 11, none⟩ = some (.int .u32 0) := cOB b0 rfl
 have p12 : W0.cell? ⟨w.heap.size, 12, none⟩ = some (.int .u32 0) := cOB b0 rfl
 have p20 : W0.cell? ⟨w.heap.size, 20, none⟩ = some (.int .u8 0) := cOB b0 rfl
 have p34 : W0.cell? ⟨w.heap.size, 34, none⟩ = some (.int .u32 0) := cOB b0 rfl
 have q0 : W0.cell? ⟨w.heap.size + 1, 0, none⟩ = some (.int .u8 0) := cOB b1 rfl
 have q11 : W0.cell? ⟨w.heap.size + 1, 11, none⟩ = some (.int .u32 0) := cOB b1 rfl
 have q12 : W0.cell? ⟨w.heap.size + 1, 12, none⟩ = some (.int .u32 0) := cOB b1 rfl
 have q20 : W0.cell? ⟨w.heap.size + 1, 20, none⟩ = some (.int .u8 0) := cOB b1 rfl
 have q34 : W0.cell? ⟨w.heap.size + 1, 34, none⟩ = some (.int .u32 0) := cOB b1 rfl
 have RA : Hid (W0.rangeAt w.heap.size 1 [.int .u32 0, .int .u32 0, .int .u32 0, .int .u8 0, .int .u32 0, .int .u32 0, .int .u32 0, .int .u32 0, .slice none 0 0, .string ⟨#[]⟩]) := hid (range_part b0 rfl)
 have RB : Hid (W0.rangeAt (w.heap.size + 1) 1 [.int .u32 0, .int .u32 0, .int .u32 0, .int .u8 0, .int .u32 0, .int .u32 0, .int .u32 0, .int .u32 0, .slice none 0 0, .string ⟨#[]⟩]) := hid (range_part b1 rfl)
 clear b0 b1
 go_wp2_with (first | refine wpList_load_midG rfl 30 (.tmp 32) rfl (w.heap.size) 1 rfl _ _ (uh RA) Tryz.underlying30 rfl Tryz.sizeP_Request ?_ | refine wpList_load_midG rfl 30 (.tmp 34) rfl (w.heap.size + 1) 1 rfl _ _ (uh RB) Tryz.underlying30 rfl Tryz.sizeP_Request ?_)
 refine (sameReq_z _).mono ?_
 rintro e w1 ⟨rfl, hf1⟩
 obtain ⟨b0, b1⟩ := (uh HB) w1 hf1
 have RA1 : Hid (w1.rangeAt w.heap.size 13 [.int .u32 0, .int .u32 0, .int .u8 0, .int .u32 0, .int .u32 0, .slice none 0 0, .slice none 0 0]) := hid (range_part b0 rfl)
 have RB1 : Hid (w1.rangeAt (w.heap.size + 1) 13 [.int .u32 0, .int .u32 0, .int .u8 0, .int .u32 0, .int .u32 0, .slice none 0 0, .slice none 0 0]) := hid (range_part b1 rfl)
 have HF1 := hid hf1
 clear b0 b1 hf1
 go_wp2_with (first | refine wpList_load_midG rfl 33 (.tmp 39) rfl (w.heap.size) 13 rfl _ _ (uh RA1) Tryz.underlying33 rfl Tryz.sizeP_Answer ?_ | refine wpList_load_midG rfl 33 (.tmp 41) rfl (w.heap.size + 1) 13 rfl _ _ (uh RB1) Tryz.underlying33 rfl Tryz.sizeP_Answer ?_)
 refine (sameAns_z _).mono ?_
 rintro e w2 ⟨rfl, hf2⟩
 have hf02 := (uh HF1).trans hf2 (fun _ _ h => h)
 obtain ⟨b0, b1⟩ := (uh HB) w2 hf02
 have RA2 : Hid (w2.rangeAt w.heap.size 21 [.int .u32 0, .int .u32 0, .int .u32 0, .int .u32 0, .int .u8 0, .int .u32 0, .int .u32 0, .int .u32 0, .int .u32 0, .slice none 0 0, .string ⟨#[]⟩, .int .u8 0, .slice none 0 0]) := hid (range_part b0 rfl)
 have RB2 : Hid (w2.rangeAt (w.heap.size + 1) 21 [.int .u32 0, .int .u32 0, .int .u32 0, .int .u32 0, .int .u8 0, .int .u32 0, .int .u32 0, .int .u32 0, .int .u32 0, .slice none 0 0, .string ⟨#[]⟩, .int .u8 0, .slice none 0 0]) := hid (range_part b1 rfl)
 have HF2 := hid hf02
 clear b0 b1 hf2 hf02
 go_wp2_with (first | refine wpList_load_midG rfl 35 (.tmp 46) rfl (w.heap.size) 21 rfl _ _ (uh RA2) Tryz.underlying35 rfl Tryz.sizeP_Event ?_ | refine wpList_load_midG rfl 35 (.tmp 48) rfl (w.heap.size + 1) 21 rfl _ _ (uh RB2) Tryz.underlying35 rfl Tryz.sizeP_Event ?_)
 refine (levent_z _).mono ?_
 rintro e w3 ⟨rfl, hf3⟩
 have HF3 := hid ((uh HF0).trans ((uh HF2).trans hf3 (fun _ _ h => h)) (fun _ _ h => h))
 clear hf3
 go_wp2_with fail
 go_ret
 exact ⟨rfl, uh HF3⟩
theorem errV_fr2 {w w' : World} {v : Value} {x : ByteArray × Nat × Nat} {E : Nat → Addr} {k0 k1 : Nat} {vs vs' : Array Value} {t : TypeId} (h : ErrV w v x E) (hf : Fr (fun k => k = k0 ∨ k = k1) w w') (hb : w.heap[k0]? = some (.cells vs t)) (hb' : w.heap[k1]? = some (.cells vs' t)) (hne : t ≠ 83) : ErrV w' v x E := by
 rcases h with h | ⟨h1, h7, fb, rfl, hbb⟩
 ·exact .inl h
 ·have hlt : fb < w.heap.size := by
   rcases Nat.lt_or_ge fb w.heap.size with hx | hx
   ·exact hx
   ·rw [Array.getElem?_eq_none hx] at hbb; cases hbb
  refine .inr ⟨h1, h7, fb, rfl, (hf.block fb hlt (fun e => ?_)).trans hbb⟩
  rcases e with e | e
  ·rw [e, hb] at hbb
   simp [faultObj] at hbb
   exact hne hbb.2
  ·rw [e, hb'] at hbb
   simp [faultObj] at hbb
   exact hne hbb.2
theorem results_cell1 {P : Program} {fn : Func} {p : Tmp} {ty : TypeId} (h : fn.results = #[.cell p ty]) (tmps : Array Value) (w : World) (b o : Nat) (cs : List Value) (d : TypeDesc)
  (hp : tmps.getD p undef = .pointer (some ⟨b, o, none⟩)) (hc : w.rangeAt b o cs)
  (hu : P.underlying ty = some d) (hd : d.isRow = true) (hi : (P.info? ty).map (·.size) = some cs.length) :
  (results fn tmps).run P w = .ok (.agg cs.toArray) w := by
 have hp' : tmps[p]?.getD undef = .pointer (some ⟨b, o, none⟩) := by simpa using hp
 simp [results, h, hp', asAddr, run_loadVar_mid w b o ty cs d hc hu hd hi]
set_option maxRecDepth 100000 in
set_option maxHeartbeats 2000000 in
theorem lput2_Request (va vs : List Value) (hm : ∀ (i : Nat) v, vs[i]? = some v → va[0 + i]? = some v) (hln : vs.length = 10) (w : World) (Q : Ending → World → Prop) (h : Calls Tryz.prog 13 #[.agg vs.toArray] (w.alloc (.cells va.toArray 44)) fun e w' => (∃ v err, e = .returned (.tuple #[v, err])) ∧ Q e w') :
  Calls Tryz.prog 16 #[.int .i64 1, .agg va.toArray] w fun e w' => (∃ v err, e = .returned (.tuple #[v, err])) ∧ Q e w' := by
 have H := hid h
 have HR : Hid ((w.alloc (.cells va.toArray 44)).rangeAt w.heap.size 0 vs) := hid (fun j u hu => cOB (heap_alloc_new w _) (by simpa using hm j u hu))
 have HZ : Hid ((Tryz.prog.info? 30).map (·.size) = some vs.length) := hid (by rw [hln]; exact Tryz.sizeP_Request)
 clear h hln hm
 go_enter Tryz.func16, Tryz.ntmps16
 go_wp2_with (refine wpList_load_mid rfl 30 (.tmp 9) rfl w.heap.size 0 rfl _ _ (uh HR) Tryz.underlying30 rfl (uh HZ) ?_)
 refine (uh H).mono ?_
 rintro e w' ⟨⟨v, err, rfl⟩, hr⟩
 have HX := hid hr
 clear hr
 go_wp2_with fail
 go_ret2
 exact ⟨⟨v, err, rfl⟩, uh HX⟩
set_option maxRecDepth 100000 in
set_option maxHeartbeats 2000000 in
theorem lonly_Request (va vs : List Value) (hm : ∀ (i : Nat) v, vs[i]? = some v → va[0 + i]? = some v) (hln : vs.length = 10) (hone : ∀ v ∈ vs, v.oneCell' = true) (w : World) :
  Calls Tryz.prog 19 #[.int .i64 1, .agg va.toArray] w fun e w' => e = .returned (.agg (List.toArray (anyL 0 vs))) ∧ Fr (fun _ => False) w w' := by
 obtain ⟨W3, hW3⟩ : ∃ W3, ((w.alloc (.cells va.toArray 44)).alloc (.cells zAL.toArray 44)).alloc (.cells zAL.toArray 44) = W3 := ⟨_, rfl⟩
 have hf03 : Fr (fun _ => False) w W3 := by rw [← hW3]; exact (box2 w _ _).trans (box1 _ _) (fun _ _ h => h)
 have hs1 : (w.alloc (.cells va.toArray 44)).heap.size = w.heap.size + 1 := by simp
 have hs2 : ((w.alloc (.cells va.toArray 44)).alloc (.cells zAL.toArray 44)).heap.size = w.heap.size + 2 := by simp
 have hb3 : W3.heap[w.heap.size]? = some (.cells va.toArray 44) := by rw [← hW3]; exact (Below.heap_alloc _ _ _ (by simp; omega)).trans ((Below.heap_alloc _ _ _ (by simp)).trans (heap_alloc_new _ _))
 have hb4 : W3.heap[w.heap.size + 1]? = some (.cells zAL.toArray 44) := by rw [← hW3, ← hs1]; exact (Below.heap_alloc _ _ _ (by simp)).trans (heap_alloc_new _ _)
 have hb5 : W3.heap[w.heap.size + 2]? = some (.cells zAL.toArray 44) := by rw [← hW3, ← hs2]; exact heap_alloc_new _ _
 have hs3 : W3.heap.size = w.heap.size + 3 := by rw [← hW3]; simp
 obtain ⟨W6, hst6, ⟨fs', hb6, hl6, h3, h4⟩, hf6⟩ := st_mid (P := Tryz.prog) (ty := 30) (o := 0) zAL vs hb5 (by rw [hln]; decide) (by rw [hln]; exact Tryz.sizeP_Request) hone
 have e6 : fs' = anyL 0 vs := anyL_eq hln (by decide) h3 h4
 subst e6
 have hb46 := (hf6.block (w.heap.size + 1) (by omega) (fun e => by omega)).trans hb4
 obtain ⟨W7, hst7, hb7, hf7⟩ := st_all (P := Tryz.prog) (ty := 44) zAL (anyL 0 vs) hb46 (by rw [anyL_len hln (by decide)]; rfl) (by rw [anyL_len hln (by decide)]; exact Tryz.sizeAny) (anyL_one hone)
 have HS6 := hid hst6
 have HS7 := hid hst7
 have HRA : Hid (W3.rangeAt w.heap.size 0 vs) := hid (fun j u hu => cOB hb3 (by simpa using hm j u hu))
 have HR6 : Hid (W6.rangeAt (w.heap.size + 2) 0 (anyL 0 vs)) := hid (rOB hb6)
 have HR7 : Hid (W7.rangeAt (w.heap.size + 1) 0 (anyL 0 vs)) := hid (rOB hb7)
 have HZ : Hid ((Tryz.prog.info? 44).map (·.size) = some (anyL 0 vs).length) := hid (by rw [anyL_len hln (by decide)]; exact Tryz.sizeAny)
 have HP : Hid ((Tryz.prog.info? 30).map (·.size) = some vs.length) := hid (by rw [hln]; exact Tryz.sizeP_Request)
 have hf37 : Fr (fun g => g = w.heap.size + 1 ∨ g = w.heap.size + 2) W3 W7 := (hf6.mono (fun _ _ e => .inr e)).trans (hf7.mono (fun _ _ e => .inl e)) (fun _ _ h => h)
 have HF : Hid (Fr (fun _ => False) w W7) := hid (hf03.trans hf37 (fun k hk e => by omega))
 clear hf37 hf03 hs1 hs2 hb3 hb4 hb5 hs3 hst6 hb6 hl6 h3 h4 hf6 hb46 hst7 hb7 hf7 hln hm hone
 go_enter Tryz.func19, Tryz.ntmps19
 go_upto_region 2 with fail
 rw [show Tryz.zeroCells44 = zAL.toArray from rfl, hW3]
 clear hW3
 go_wp2_with (first | refine wpList_load_mid rfl 30 (.tmp 12) rfl w.heap.size 0 rfl _ _ (uh HRA) Tryz.underlying30 rfl (uh HP) ?_ | refine wpList_stN rfl 30 (.tmp 14) (.tmp 13) rfl _ _ rfl rfl (uh HS6) ?_ | refine wpList_load_mid rfl 44 (.tmp 5) rfl (w.heap.size + 2) 0 rfl _ _ (uh HR6) Tryz.underlying44 rfl (uh HZ) ?_ | refine wpList_stN rfl 44 (.tmp 4) (.tmp 40) rfl _ _ rfl rfl (uh HS7) ?_)
 refine bodyPost_ret (results_cell1 rfl _ _ (w.heap.size + 1) 0 (anyL 0 vs) _ rfl (uh HR7) Tryz.underlying44 rfl (uh HZ)) rfl ?_
 exact ⟨rfl, uh HF⟩
set_option maxRecDepth 100000 in
set_option maxHeartbeats 2000000 in
theorem lput2_Answer (va vs : List Value) (hm : ∀ (i : Nat) v, vs[i]? = some v → va[10 + i]? = some v) (hln : vs.length = 7) (w : World) (Q : Ending → World → Prop) (h : Calls Tryz.prog 14 #[.agg vs.toArray] (w.alloc (.cells va.toArray 44)) fun e w' => (∃ v err, e = .returned (.tuple #[v, err])) ∧ Q e w') :
  Calls Tryz.prog 16 #[.int .i64 2, .agg va.toArray] w fun e w' => (∃ v err, e = .returned (.tuple #[v, err])) ∧ Q e w' := by
 have H := hid h
 have HR : Hid ((w.alloc (.cells va.toArray 44)).rangeAt w.heap.size 10 vs) := hid (fun j u hu => cOB (heap_alloc_new w _) (by simpa using hm j u hu))
 have HZ : Hid ((Tryz.prog.info? 33).map (·.size) = some vs.length) := hid (by rw [hln]; exact Tryz.sizeP_Answer)
 clear h hln hm
 go_enter Tryz.func16, Tryz.ntmps16
 go_wp2_with (refine wpList_load_mid rfl 33 (.tmp 16) rfl w.heap.size 10 rfl _ _ (uh HR) Tryz.underlying33 rfl (uh HZ) ?_)
 refine (uh H).mono ?_
 rintro e w' ⟨⟨v, err, rfl⟩, hr⟩
 have HX := hid hr
 clear hr
 go_wp2_with fail
 go_ret2
 exact ⟨⟨v, err, rfl⟩, uh HX⟩
set_option maxRecDepth 100000 in
set_option maxHeartbeats 2000000 in
theorem lonly_Answer (va vs : List Value) (hm : ∀ (i : Nat) v, vs[i]? = some v → va[10 + i]? = some v) (hln : vs.length = 7) (hone : ∀ v ∈ vs, v.oneCell' = true) (w : World) :
  Calls Tryz.prog 19 #[.int .i64 2, .agg va.toArray] w fun e w' => e = .returned (.agg (List.toArray (anyL 10 vs))) ∧ Fr (fun _ => False) w w' := by
 obtain ⟨W3, hW3⟩ : ∃ W3, ((w.alloc (.cells va.toArray 44)).alloc (.cells zAL.toArray 44)).alloc (.cells zAL.toArray 44) = W3 := ⟨_, rfl⟩
 have hf03 : Fr (fun _ => False) w W3 := by rw [← hW3]; exact (box2 w _ _).trans (box1 _ _) (fun _ _ h => h)
 have hs1 : (w.alloc (.cells va.toArray 44)).heap.size = w.heap.size + 1 := by simp
 have hs2 : ((w.alloc (.cells va.toArray 44)).alloc (.cells zAL.toArray 44)).heap.size = w.heap.size + 2 := by simp
 have hb3 : W3.heap[w.heap.size]? = some (.cells va.toArray 44) := by rw [← hW3]; exact (Below.heap_alloc _ _ _ (by simp; omega)).trans ((Below.heap_alloc _ _ _ (by simp)).trans (heap_alloc_new _ _))
 have hb4 : W3.heap[w.heap.size + 1]? = some (.cells zAL.toArray 44) := by rw [← hW3, ← hs1]; exact (Below.heap_alloc _ _ _ (by simp)).trans (heap_alloc_new _ _)
 have hb5 : W3.heap[w.heap.size + 2]? = some (.cells zAL.toArray 44) := by rw [← hW3, ← hs2]; exact heap_alloc_new _ _
 have hs3 : W3.heap.size = w.heap.size + 3 := by rw [← hW3]; simp
 obtain ⟨W6, hst6, ⟨fs', hb6, hl6, h3, h4⟩, hf6⟩ := st_mid (P := Tryz.prog) (ty := 33) (o := 10) zAL vs hb5 (by rw [hln]; decide) (by rw [hln]; exact Tryz.sizeP_Answer) hone
 have e6 : fs' = anyL 10 vs := anyL_eq hln (by decide) h3 h4
 subst e6
 have hb46 := (hf6.block (w.heap.size + 1) (by omega) (fun e => by omega)).trans hb4
 obtain ⟨W7, hst7, hb7, hf7⟩ := st_all (P := Tryz.prog) (ty := 44) zAL (anyL 10 vs) hb46 (by rw [anyL_len hln (by decide)]; rfl) (by rw [anyL_len hln (by decide)]; exact Tryz.sizeAny) (anyL_one hone)
 have HS6 := hid hst6
 have HS7 := hid hst7
 have HRA : Hid (W3.rangeAt w.heap.size 10 vs) := hid (fun j u hu => cOB hb3 (by simpa using hm j u hu))
 have HR6 : Hid (W6.rangeAt (w.heap.size + 2) 0 (anyL 10 vs)) := hid (rOB hb6)
 have HR7 : Hid (W7.rangeAt (w.heap.size + 1) 0 (anyL 10 vs)) := hid (rOB hb7)
 have HZ : Hid ((Tryz.prog.info? 44).map (·.size) = some (anyL 10 vs).length) := hid (by rw [anyL_len hln (by decide)]; exact Tryz.sizeAny)
 have HP : Hid ((Tryz.prog.info? 33).map (·.size) = some vs.length) := hid (by rw [hln]; exact Tryz.sizeP_Answer)
 have hf37 : Fr (fun g => g = w.heap.size + 1 ∨ g = w.heap.size + 2) W3 W7 := (hf6.mono (fun _ _ e => .inr e)).trans (hf7.mono (fun _ _ e => .inl e)) (fun _ _ h => h)
 have HF : Hid (Fr (fun _ => False) w W7) := hid (hf03.trans hf37 (fun k hk e => by omega))
 clear hf37 hf03 hs1 hs2 hb3 hb4 hb5 hs3 hst6 hb6 hl6 h3 h4 hf6 hb46 hst7 hb7 hf7 hln hm hone
 go_enter Tryz.func19, Tryz.ntmps19
 go_upto_region 2 with fail
 rw [show Tryz.zeroCells44 = zAL.toArray from rfl, hW3]
 clear hW3
 go_wp2_with (first | refine wpList_load_mid rfl 33 (.tmp 17) rfl w.heap.size 10 rfl _ _ (uh HRA) Tryz.underlying33 rfl (uh HP) ?_ | refine wpList_stN rfl 33 (.tmp 19) (.tmp 18) rfl _ _ rfl rfl (uh HS6) ?_ | refine wpList_load_mid rfl 44 (.tmp 5) rfl (w.heap.size + 2) 0 rfl _ _ (uh HR6) Tryz.underlying44 rfl (uh HZ) ?_ | refine wpList_stN rfl 44 (.tmp 4) (.tmp 40) rfl _ _ rfl rfl (uh HS7) ?_)
 refine bodyPost_ret (results_cell1 rfl _ _ (w.heap.size + 1) 0 (anyL 10 vs) _ rfl (uh HR7) Tryz.underlying44 rfl (uh HZ)) rfl ?_
 exact ⟨rfl, uh HF⟩
set_option maxRecDepth 100000 in
set_option maxHeartbeats 2000000 in
theorem lput2_Event (va vs : List Value) (hm : ∀ (i : Nat) v, vs[i]? = some v → va[17 + i]? = some v) (hln : vs.length = 13) (w : World) (Q : Ending → World → Prop) (h : Calls Tryz.prog 31 #[.agg vs.toArray] (w.alloc (.cells va.toArray 44)) fun e w' => (∃ v err, e = .returned (.tuple #[v, err])) ∧ Q e w') :
  Calls Tryz.prog 16 #[.int .i64 3, .agg va.toArray] w fun e w' => (∃ v err, e = .returned (.tuple #[v, err])) ∧ Q e w' := by
 have H := hid h
 have HR : Hid ((w.alloc (.cells va.toArray 44)).rangeAt w.heap.size 17 vs) := hid (fun j u hu => cOB (heap_alloc_new w _) (by simpa using hm j u hu))
 have HZ : Hid ((Tryz.prog.info? 35).map (·.size) = some vs.length) := hid (by rw [hln]; exact Tryz.sizeP_Event)
 clear h hln hm
 go_enter Tryz.func16, Tryz.ntmps16
 go_wp2_with (refine wpList_load_mid rfl 35 (.tmp 23) rfl w.heap.size 17 rfl _ _ (uh HR) Tryz.underlying35 rfl (uh HZ) ?_)
 refine (uh H).mono ?_
 rintro e w' ⟨⟨v, err, rfl⟩, hr⟩
 have HX := hid hr
 clear hr
 go_wp2_with fail
 go_ret2
 exact ⟨⟨v, err, rfl⟩, uh HX⟩
set_option maxRecDepth 100000 in
set_option maxHeartbeats 2000000 in
theorem lonly_Event (va vs : List Value) (hm : ∀ (i : Nat) v, vs[i]? = some v → va[17 + i]? = some v) (hln : vs.length = 13) (hone : ∀ v ∈ vs, v.oneCell' = true) (w : World) :
  Calls Tryz.prog 19 #[.int .i64 3, .agg va.toArray] w fun e w' => e = .returned (.agg (List.toArray (anyL 17 vs))) ∧ Fr (fun _ => False) w w' := by
 obtain ⟨W3, hW3⟩ : ∃ W3, ((w.alloc (.cells va.toArray 44)).alloc (.cells zAL.toArray 44)).alloc (.cells zAL.toArray 44) = W3 := ⟨_, rfl⟩
 have hf03 : Fr (fun _ => False) w W3 := by rw [← hW3]; exact (box2 w _ _).trans (box1 _ _) (fun _ _ h => h)
 have hs1 : (w.alloc (.cells va.toArray 44)).heap.size = w.heap.size + 1 := by simp
 have hs2 : ((w.alloc (.cells va.toArray 44)).alloc (.cells zAL.toArray 44)).heap.size = w.heap.size + 2 := by simp
 have hb3 : W3.heap[w.heap.size]? = some (.cells va.toArray 44) := by rw [← hW3]; exact (Below.heap_alloc _ _ _ (by simp; omega)).trans ((Below.heap_alloc _ _ _ (by simp)).trans (heap_alloc_new _ _))
 have hb4 : W3.heap[w.heap.size + 1]? = some (.cells zAL.toArray 44) := by rw [← hW3, ← hs1]; exact (Below.heap_alloc _ _ _ (by simp)).trans (heap_alloc_new _ _)
 have hb5 : W3.heap[w.heap.size + 2]? = some (.cells zAL.toArray 44) := by rw [← hW3, ← hs2]; exact heap_alloc_new _ _
 have hs3 : W3.heap.size = w.heap.size + 3 := by rw [← hW3]; simp
 obtain ⟨W6, hst6, ⟨fs', hb6, hl6, h3, h4⟩, hf6⟩ := st_mid (P := Tryz.prog) (ty := 35) (o := 17) zAL vs hb5 (by rw [hln]; decide) (by rw [hln]; exact Tryz.sizeP_Event) hone
 have e6 : fs' = anyL 17 vs := anyL_eq hln (by decide) h3 h4
 subst e6
 have hb46 := (hf6.block (w.heap.size + 1) (by omega) (fun e => by omega)).trans hb4
 obtain ⟨W7, hst7, hb7, hf7⟩ := st_all (P := Tryz.prog) (ty := 44) zAL (anyL 17 vs) hb46 (by rw [anyL_len hln (by decide)]; rfl) (by rw [anyL_len hln (by decide)]; exact Tryz.sizeAny) (anyL_one hone)
 have HS6 := hid hst6
 have HS7 := hid hst7
 have HRA : Hid (W3.rangeAt w.heap.size 17 vs) := hid (fun j u hu => cOB hb3 (by simpa using hm j u hu))
 have HR6 : Hid (W6.rangeAt (w.heap.size + 2) 0 (anyL 17 vs)) := hid (rOB hb6)
 have HR7 : Hid (W7.rangeAt (w.heap.size + 1) 0 (anyL 17 vs)) := hid (rOB hb7)
 have HZ : Hid ((Tryz.prog.info? 44).map (·.size) = some (anyL 17 vs).length) := hid (by rw [anyL_len hln (by decide)]; exact Tryz.sizeAny)
 have HP : Hid ((Tryz.prog.info? 35).map (·.size) = some vs.length) := hid (by rw [hln]; exact Tryz.sizeP_Event)
 have hf37 : Fr (fun g => g = w.heap.size + 1 ∨ g = w.heap.size + 2) W3 W7 := (hf6.mono (fun _ _ e => .inr e)).trans (hf7.mono (fun _ _ e => .inl e)) (fun _ _ h => h)
 have HF : Hid (Fr (fun _ => False) w W7) := hid (hf03.trans hf37 (fun k hk e => by omega))
 clear hf37 hf03 hs1 hs2 hb3 hb4 hb5 hs3 hst6 hb6 hl6 h3 h4 hf6 hb46 hst7 hb7 hf7 hln hm hone
 go_enter Tryz.func19, Tryz.ntmps19
 go_upto_region 2 with fail
 rw [show Tryz.zeroCells44 = zAL.toArray from rfl, hW3]
 clear hW3
 go_wp2_with (first | refine wpList_load_mid rfl 35 (.tmp 22) rfl w.heap.size 17 rfl _ _ (uh HRA) Tryz.underlying35 rfl (uh HP) ?_ | refine wpList_stN rfl 35 (.tmp 24) (.tmp 23) rfl _ _ rfl rfl (uh HS6) ?_ | refine wpList_load_mid rfl 44 (.tmp 5) rfl (w.heap.size + 2) 0 rfl _ _ (uh HR6) Tryz.underlying44 rfl (uh HZ) ?_ | refine wpList_stN rfl 44 (.tmp 4) (.tmp 40) rfl _ _ rfl rfl (uh HS7) ?_)
 refine bodyPost_ret (results_cell1 rfl _ _ (w.heap.size + 1) 0 (anyL 17 vs) _ rfl (uh HR7) Tryz.underlying44 rfl (uh HZ)) rfl ?_
 exact ⟨rfl, uh HF⟩
set_option maxRecDepth 100000 in
set_option maxHeartbeats 2000000 in
theorem lput2_Head (va vs : List Value) (hm : ∀ (i : Nat) v, vs[i]? = some v → va[30 + i]? = some v) (hln : vs.length = 2) (w : World) (Q : Ending → World → Prop) (h : Calls Tryz.prog 21 #[.agg vs.toArray] (w.alloc (.cells va.toArray 44)) fun e w' => (∃ v err, e = .returned (.tuple #[v, err])) ∧ Q e w') :
  Calls Tryz.prog 16 #[.int .i64 4, .agg va.toArray] w fun e w' => (∃ v err, e = .returned (.tuple #[v, err])) ∧ Q e w' := by
 have H := hid h
 have HR : Hid ((w.alloc (.cells va.toArray 44)).rangeAt w.heap.size 30 vs) := hid (fun j u hu => cOB (heap_alloc_new w _) (by simpa using hm j u hu))
 have HZ : Hid ((Tryz.prog.info? 25).map (·.size) = some vs.length) := hid (by rw [hln]; exact Tryz.sizeP_Head)
 clear h hln hm
 go_enter Tryz.func16, Tryz.ntmps16
 go_wp2_with (refine wpList_load_mid rfl 25 (.tmp 30) rfl w.heap.size 30 rfl _ _ (uh HR) Tryz.underlying25 rfl (uh HZ) ?_)
 refine (uh H).mono ?_
 rintro e w' ⟨⟨v, err, rfl⟩, hr⟩
 have HX := hid hr
 clear hr
 go_wp2_with fail
 go_ret2
 exact ⟨⟨v, err, rfl⟩, uh HX⟩
set_option maxRecDepth 100000 in
set_option maxHeartbeats 2000000 in
theorem lonly_Head (va vs : List Value) (hm : ∀ (i : Nat) v, vs[i]? = some v → va[30 + i]? = some v) (hln : vs.length = 2) (hone : ∀ v ∈ vs, v.oneCell' = true) (w : World) :
  Calls Tryz.prog 19 #[.int .i64 4, .agg va.toArray] w fun e w' => e = .returned (.agg (List.toArray (anyL 30 vs))) ∧ Fr (fun _ => False) w w' := by
 obtain ⟨W3, hW3⟩ : ∃ W3, ((w.alloc (.cells va.toArray 44)).alloc (.cells zAL.toArray 44)).alloc (.cells zAL.toArray 44) = W3 := ⟨_, rfl⟩
 have hf03 : Fr (fun _ => False) w W3 := by rw [← hW3]; exact (box2 w _ _).trans (box1 _ _) (fun _ _ h => h)
 have hs1 : (w.alloc (.cells va.toArray 44)).heap.size = w.heap.size + 1 := by simp
 have hs2 : ((w.alloc (.cells va.toArray 44)).alloc (.cells zAL.toArray 44)).heap.size = w.heap.size + 2 := by simp
 have hb3 : W3.heap[w.heap.size]? = some (.cells va.toArray 44) := by rw [← hW3]; exact (Below.heap_alloc _ _ _ (by simp; omega)).trans ((Below.heap_alloc _ _ _ (by simp)).trans (heap_alloc_new _ _))
 have hb4 : W3.heap[w.heap.size + 1]? = some (.cells zAL.toArray 44) := by rw [← hW3, ← hs1]; exact (Below.heap_alloc _ _ _ (by simp)).trans (heap_alloc_new _ _)
 have hb5 : W3.heap[w.heap.size + 2]? = some (.cells zAL.toArray 44) := by rw [← hW3, ← hs2]; exact heap_alloc_new _ _
 have hs3 : W3.heap.size = w.heap.size + 3 := by rw [← hW3]; simp
 obtain ⟨W6, hst6, ⟨fs', hb6, hl6, h3, h4⟩, hf6⟩ := st_mid (P := Tryz.prog) (ty := 25) (o := 30) zAL vs hb5 (by rw [hln]; decide) (by rw [hln]; exact Tryz.sizeP_Head) hone
 have e6 : fs' = anyL 30 vs := anyL_eq hln (by decide) h3 h4
 subst e6
 have hb46 := (hf6.block (w.heap.size + 1) (by omega) (fun e => by omega)).trans hb4
 obtain ⟨W7, hst7, hb7, hf7⟩ := st_all (P := Tryz.prog) (ty := 44) zAL (anyL 30 vs) hb46 (by rw [anyL_len hln (by decide)]; rfl) (by rw [anyL_len hln (by decide)]; exact Tryz.sizeAny) (anyL_one hone)
 have HS6 := hid hst6
 have HS7 := hid hst7
 have HRA : Hid (W3.rangeAt w.heap.size 30 vs) := hid (fun j u hu => cOB hb3 (by simpa using hm j u hu))
 have HR6 : Hid (W6.rangeAt (w.heap.size + 2) 0 (anyL 30 vs)) := hid (rOB hb6)
 have HR7 : Hid (W7.rangeAt (w.heap.size + 1) 0 (anyL 30 vs)) := hid (rOB hb7)
 have HZ : Hid ((Tryz.prog.info? 44).map (·.size) = some (anyL 30 vs).length) := hid (by rw [anyL_len hln (by decide)]; exact Tryz.sizeAny)
 have HP : Hid ((Tryz.prog.info? 25).map (·.size) = some vs.length) := hid (by rw [hln]; exact Tryz.sizeP_Head)
 have hf37 : Fr (fun g => g = w.heap.size + 1 ∨ g = w.heap.size + 2) W3 W7 := (hf6.mono (fun _ _ e => .inr e)).trans (hf7.mono (fun _ _ e => .inl e)) (fun _ _ h => h)
 have HF : Hid (Fr (fun _ => False) w W7) := hid (hf03.trans hf37 (fun k hk e => by omega))
 clear hf37 hf03 hs1 hs2 hb3 hb4 hb5 hs3 hst6 hb6 hl6 h3 h4 hf6 hb46 hst7 hb7 hf7 hln hm hone
 go_enter Tryz.func19, Tryz.ntmps19
 go_upto_region 2 with fail
 rw [show Tryz.zeroCells44 = zAL.toArray from rfl, hW3]
 clear hW3
 go_wp2_with (first | refine wpList_load_mid rfl 25 (.tmp 27) rfl w.heap.size 30 rfl _ _ (uh HRA) Tryz.underlying25 rfl (uh HP) ?_ | refine wpList_stN rfl 25 (.tmp 29) (.tmp 28) rfl _ _ rfl rfl (uh HS6) ?_ | refine wpList_load_mid rfl 44 (.tmp 5) rfl (w.heap.size + 2) 0 rfl _ _ (uh HR6) Tryz.underlying44 rfl (uh HZ) ?_ | refine wpList_stN rfl 44 (.tmp 4) (.tmp 40) rfl _ _ rfl rfl (uh HS7) ?_)
 refine bodyPost_ret (results_cell1 rfl _ _ (w.heap.size + 1) 0 (anyL 30 vs) _ rfl (uh HR7) Tryz.underlying44 rfl (uh HZ)) rfl ?_
 exact ⟨rfl, uh HF⟩
set_option maxRecDepth 100000 in
set_option maxHeartbeats 2000000 in
theorem lput2_Signed (va vs : List Value) (hm : ∀ (i : Nat) v, vs[i]? = some v → va[32 + i]? = some v) (hln : vs.length = 4) (w : World) (Q : Ending → World → Prop) (h : Calls Tryz.prog 32 #[.agg vs.toArray] (w.alloc (.cells va.toArray 44)) fun e w' => (∃ v err, e = .returned (.tuple #[v, err])) ∧ Q e w') :
  Calls Tryz.prog 16 #[.int .i64 5, .agg va.toArray] w fun e w' => (∃ v err, e = .returned (.tuple #[v, err])) ∧ Q e w' := by
 have H := hid h
 have HR : Hid ((w.alloc (.cells va.toArray 44)).rangeAt w.heap.size 32 vs) := hid (fun j u hu => cOB (heap_alloc_new w _) (by simpa using hm j u hu))
 have HZ : Hid ((Tryz.prog.info? 37).map (·.size) = some vs.length) := hid (by rw [hln]; exact Tryz.sizeP_Signed)
 clear h hln hm
 go_enter Tryz.func16, Tryz.ntmps16
 go_wp2_with (refine wpList_load_mid rfl 37 (.tmp 37) rfl w.heap.size 32 rfl _ _ (uh HR) Tryz.underlying37 rfl (uh HZ) ?_)
 refine (uh H).mono ?_
 rintro e w' ⟨⟨v, err, rfl⟩, hr⟩
 have HX := hid hr
 clear hr
 go_wp2_with fail
 go_ret2
 exact ⟨⟨v, err, rfl⟩, uh HX⟩
set_option maxRecDepth 100000 in
set_option maxHeartbeats 2000000 in
theorem lonly_Signed (va vs : List Value) (hm : ∀ (i : Nat) v, vs[i]? = some v → va[32 + i]? = some v) (hln : vs.length = 4) (hone : ∀ v ∈ vs, v.oneCell' = true) (w : World) :
  Calls Tryz.prog 19 #[.int .i64 5, .agg va.toArray] w fun e w' => e = .returned (.agg (List.toArray (anyL 32 vs))) ∧ Fr (fun _ => False) w w' := by
 obtain ⟨W3, hW3⟩ : ∃ W3, ((w.alloc (.cells va.toArray 44)).alloc (.cells zAL.toArray 44)).alloc (.cells zAL.toArray 44) = W3 := ⟨_, rfl⟩
 have hf03 : Fr (fun _ => False) w W3 := by rw [← hW3]; exact (box2 w _ _).trans (box1 _ _) (fun _ _ h => h)
 have hs1 : (w.alloc (.cells va.toArray 44)).heap.size = w.heap.size + 1 := by simp
 have hs2 : ((w.alloc (.cells va.toArray 44)).alloc (.cells zAL.toArray 44)).heap.size = w.heap.size + 2 := by simp
 have hb3 : W3.heap[w.heap.size]? = some (.cells va.toArray 44) := by rw [← hW3]; exact (Below.heap_alloc _ _ _ (by simp; omega)).trans ((Below.heap_alloc _ _ _ (by simp)).trans (heap_alloc_new _ _))
 have hb4 : W3.heap[w.heap.size + 1]? = some (.cells zAL.toArray 44) := by rw [← hW3, ← hs1]; exact (Below.heap_alloc _ _ _ (by simp)).trans (heap_alloc_new _ _)
 have hb5 : W3.heap[w.heap.size + 2]? = some (.cells zAL.toArray 44) := by rw [← hW3, ← hs2]; exact heap_alloc_new _ _
 have hs3 : W3.heap.size = w.heap.size + 3 := by rw [← hW3]; simp
 obtain ⟨W6, hst6, ⟨fs', hb6, hl6, h3, h4⟩, hf6⟩ := st_mid (P := Tryz.prog) (ty := 37) (o := 32) zAL vs hb5 (by rw [hln]; decide) (by rw [hln]; exact Tryz.sizeP_Signed) hone
 have e6 : fs' = anyL 32 vs := anyL_eq hln (by decide) h3 h4
 subst e6
 have hb46 := (hf6.block (w.heap.size + 1) (by omega) (fun e => by omega)).trans hb4
 obtain ⟨W7, hst7, hb7, hf7⟩ := st_all (P := Tryz.prog) (ty := 44) zAL (anyL 32 vs) hb46 (by rw [anyL_len hln (by decide)]; rfl) (by rw [anyL_len hln (by decide)]; exact Tryz.sizeAny) (anyL_one hone)
 have HS6 := hid hst6
 have HS7 := hid hst7
 have HRA : Hid (W3.rangeAt w.heap.size 32 vs) := hid (fun j u hu => cOB hb3 (by simpa using hm j u hu))
 have HR6 : Hid (W6.rangeAt (w.heap.size + 2) 0 (anyL 32 vs)) := hid (rOB hb6)
 have HR7 : Hid (W7.rangeAt (w.heap.size + 1) 0 (anyL 32 vs)) := hid (rOB hb7)
 have HZ : Hid ((Tryz.prog.info? 44).map (·.size) = some (anyL 32 vs).length) := hid (by rw [anyL_len hln (by decide)]; exact Tryz.sizeAny)
 have HP : Hid ((Tryz.prog.info? 37).map (·.size) = some vs.length) := hid (by rw [hln]; exact Tryz.sizeP_Signed)
 have hf37 : Fr (fun g => g = w.heap.size + 1 ∨ g = w.heap.size + 2) W3 W7 := (hf6.mono (fun _ _ e => .inr e)).trans (hf7.mono (fun _ _ e => .inl e)) (fun _ _ h => h)
 have HF : Hid (Fr (fun _ => False) w W7) := hid (hf03.trans hf37 (fun k hk e => by omega))
 clear hf37 hf03 hs1 hs2 hb3 hb4 hb5 hs3 hst6 hb6 hl6 h3 h4 hf6 hb46 hst7 hb7 hf7 hln hm hone
 go_enter Tryz.func19, Tryz.ntmps19
 go_upto_region 2 with fail
 rw [show Tryz.zeroCells44 = zAL.toArray from rfl, hW3]
 clear hW3
 go_wp2_with (first | refine wpList_load_mid rfl 37 (.tmp 32) rfl w.heap.size 32 rfl _ _ (uh HRA) Tryz.underlying37 rfl (uh HP) ?_ | refine wpList_stN rfl 37 (.tmp 34) (.tmp 33) rfl _ _ rfl rfl (uh HS6) ?_ | refine wpList_load_mid rfl 44 (.tmp 5) rfl (w.heap.size + 2) 0 rfl _ _ (uh HR6) Tryz.underlying44 rfl (uh HZ) ?_ | refine wpList_stN rfl 44 (.tmp 4) (.tmp 40) rfl _ _ rfl rfl (uh HS7) ?_)
 refine bodyPost_ret (results_cell1 rfl _ _ (w.heap.size + 1) 0 (anyL 32 vs) _ rfl (uh HR7) Tryz.underlying44 rfl (uh HZ)) rfl ?_
 exact ⟨rfl, uh HF⟩
set_option maxRecDepth 100000 in
set_option maxHeartbeats 2000000 in
theorem lput2_Proof (va vs : List Value) (hm : ∀ (i : Nat) v, vs[i]? = some v → va[36 + i]? = some v) (hln : vs.length = 1) (w : World) (Q : Ending → World → Prop) (h : Calls Tryz.prog 33 #[.agg vs.toArray] (w.alloc (.cells va.toArray 44)) fun e w' => (∃ v err, e = .returned (.tuple #[v, err])) ∧ Q e w') :
  Calls Tryz.prog 16 #[.int .i64 6, .agg va.toArray] w fun e w' => (∃ v err, e = .returned (.tuple #[v, err])) ∧ Q e w' := by
 have H := hid h
 have HR : Hid ((w.alloc (.cells va.toArray 44)).rangeAt w.heap.size 36 vs) := hid (fun j u hu => cOB (heap_alloc_new w _) (by simpa using hm j u hu))
 have HZ : Hid ((Tryz.prog.info? 40).map (·.size) = some vs.length) := hid (by rw [hln]; exact Tryz.sizeP_Proof)
 clear h hln hm
 go_enter Tryz.func16, Tryz.ntmps16
 go_wp2_with (refine wpList_load_mid rfl 40 (.tmp 44) rfl w.heap.size 36 rfl _ _ (uh HR) Tryz.underlying40 rfl (uh HZ) ?_)
 refine (uh H).mono ?_
 rintro e w' ⟨⟨v, err, rfl⟩, hr⟩
 have HX := hid hr
 clear hr
 go_wp2_with fail
 go_ret2
 exact ⟨⟨v, err, rfl⟩, uh HX⟩
set_option maxRecDepth 100000 in
set_option maxHeartbeats 2000000 in
theorem lonly_Proof (va vs : List Value) (hm : ∀ (i : Nat) v, vs[i]? = some v → va[36 + i]? = some v) (hln : vs.length = 1) (hone : ∀ v ∈ vs, v.oneCell' = true) (w : World) :
  Calls Tryz.prog 19 #[.int .i64 6, .agg va.toArray] w fun e w' => e = .returned (.agg (List.toArray (anyL 36 vs))) ∧ Fr (fun _ => False) w w' := by
 obtain ⟨W3, hW3⟩ : ∃ W3, ((w.alloc (.cells va.toArray 44)).alloc (.cells zAL.toArray 44)).alloc (.cells zAL.toArray 44) = W3 := ⟨_, rfl⟩
 have hf03 : Fr (fun _ => False) w W3 := by rw [← hW3]; exact (box2 w _ _).trans (box1 _ _) (fun _ _ h => h)
 have hs1 : (w.alloc (.cells va.toArray 44)).heap.size = w.heap.size + 1 := by simp
 have hs2 : ((w.alloc (.cells va.toArray 44)).alloc (.cells zAL.toArray 44)).heap.size = w.heap.size + 2 := by simp
 have hb3 : W3.heap[w.heap.size]? = some (.cells va.toArray 44) := by rw [← hW3]; exact (Below.heap_alloc _ _ _ (by simp; omega)).trans ((Below.heap_alloc _ _ _ (by simp)).trans (heap_alloc_new _ _))
 have hb4 : W3.heap[w.heap.size + 1]? = some (.cells zAL.toArray 44) := by rw [← hW3, ← hs1]; exact (Below.heap_alloc _ _ _ (by simp)).trans (heap_alloc_new _ _)
 have hb5 : W3.heap[w.heap.size + 2]? = some (.cells zAL.toArray 44) := by rw [← hW3, ← hs2]; exact heap_alloc_new _ _
 have hs3 : W3.heap.size = w.heap.size + 3 := by rw [← hW3]; simp
 obtain ⟨W6, hst6, ⟨fs', hb6, hl6, h3, h4⟩, hf6⟩ := st_mid (P := Tryz.prog) (ty := 40) (o := 36) zAL vs hb5 (by rw [hln]; decide) (by rw [hln]; exact Tryz.sizeP_Proof) hone
 have e6 : fs' = anyL 36 vs := anyL_eq hln (by decide) h3 h4
 subst e6
 have hb46 := (hf6.block (w.heap.size + 1) (by omega) (fun e => by omega)).trans hb4
 obtain ⟨W7, hst7, hb7, hf7⟩ := st_all (P := Tryz.prog) (ty := 44) zAL (anyL 36 vs) hb46 (by rw [anyL_len hln (by decide)]; rfl) (by rw [anyL_len hln (by decide)]; exact Tryz.sizeAny) (anyL_one hone)
 have HS6 := hid hst6
 have HS7 := hid hst7
 have HRA : Hid (W3.rangeAt w.heap.size 36 vs) := hid (fun j u hu => cOB hb3 (by simpa using hm j u hu))
 have HR6 : Hid (W6.rangeAt (w.heap.size + 2) 0 (anyL 36 vs)) := hid (rOB hb6)
 have HR7 : Hid (W7.rangeAt (w.heap.size + 1) 0 (anyL 36 vs)) := hid (rOB hb7)
 have HZ : Hid ((Tryz.prog.info? 44).map (·.size) = some (anyL 36 vs).length) := hid (by rw [anyL_len hln (by decide)]; exact Tryz.sizeAny)
 have HP : Hid ((Tryz.prog.info? 40).map (·.size) = some vs.length) := hid (by rw [hln]; exact Tryz.sizeP_Proof)
 have hf37 : Fr (fun g => g = w.heap.size + 1 ∨ g = w.heap.size + 2) W3 W7 := (hf6.mono (fun _ _ e => .inr e)).trans (hf7.mono (fun _ _ e => .inl e)) (fun _ _ h => h)
 have HF : Hid (Fr (fun _ => False) w W7) := hid (hf03.trans hf37 (fun k hk e => by omega))
 clear hf37 hf03 hs1 hs2 hb3 hb4 hb5 hs3 hst6 hb6 hl6 h3 h4 hf6 hb46 hst7 hb7 hf7 hln hm hone
 go_enter Tryz.func19, Tryz.ntmps19
 go_upto_region 2 with fail
 rw [show Tryz.zeroCells44 = zAL.toArray from rfl, hW3]
 clear hW3
 go_wp2_with (first | refine wpList_load_mid rfl 40 (.tmp 37) rfl w.heap.size 36 rfl _ _ (uh HRA) Tryz.underlying40 rfl (uh HP) ?_ | refine wpList_stN rfl 40 (.tmp 39) (.tmp 38) rfl _ _ rfl rfl (uh HS6) ?_ | refine wpList_load_mid rfl 44 (.tmp 5) rfl (w.heap.size + 2) 0 rfl _ _ (uh HR6) Tryz.underlying44 rfl (uh HZ) ?_ | refine wpList_stN rfl 44 (.tmp 4) (.tmp 40) rfl _ _ rfl rfl (uh HS7) ?_)
 refine bodyPost_ret (results_cell1 rfl _ _ (w.heap.size + 1) 0 (anyL 36 vs) _ rfl (uh HR7) Tryz.underlying44 rfl (uh HZ)) rfl ?_
 exact ⟨rfl, uh HF⟩
set_option maxRecDepth 100000 in
set_option maxHeartbeats 2000000 in
theorem lput2_Message (va vs : List Value) (hm : ∀ (i : Nat) v, vs[i]? = some v → va[37 + i]? = some v) (hln : vs.length = 35) (w : World) (Q : Ending → World → Prop) (h : Calls Tryz.prog 10 #[.agg vs.toArray] (w.alloc (.cells va.toArray 44)) fun e w' => (∃ v err, e = .returned (.tuple #[v, err])) ∧ Q e w') :
  Calls Tryz.prog 16 #[.int .i64 7, .agg va.toArray] w fun e w' => (∃ v err, e = .returned (.tuple #[v, err])) ∧ Q e w' := by
 have H := hid h
 have HR : Hid ((w.alloc (.cells va.toArray 44)).rangeAt w.heap.size 37 vs) := hid (fun j u hu => cOB (heap_alloc_new w _) (by simpa using hm j u hu))
 have HZ : Hid ((Tryz.prog.info? 42).map (·.size) = some vs.length) := hid (by rw [hln]; exact Tryz.sizeP_Message)
 clear h hln hm
 go_enter Tryz.func16, Tryz.ntmps16
 go_wp2_with (refine wpList_load_mid rfl 42 (.tmp 49) rfl w.heap.size 37 rfl _ _ (uh HR) Tryz.underlying42 rfl (uh HZ) ?_)
 refine (uh H).mono ?_
 rintro e w' ⟨⟨v, err, rfl⟩, hr⟩
 have HX := hid hr
 clear hr
 go_wp2_with fail
 go_ret2
 exact ⟨⟨v, err, rfl⟩, uh HX⟩
set_option maxRecDepth 100000 in
set_option maxHeartbeats 2000000 in
theorem lonly_Message (va vs : List Value) (hm : ∀ (i : Nat) v, vs[i]? = some v → va[37 + i]? = some v) (hln : vs.length = 35) (hone : ∀ v ∈ vs, v.oneCell' = true) (w : World) :
  Calls Tryz.prog 19 #[.int .i64 7, .agg va.toArray] w fun e w' => e = .returned (.agg (List.toArray (anyL 37 vs))) ∧ Fr (fun _ => False) w w' := by
 obtain ⟨W3, hW3⟩ : ∃ W3, ((w.alloc (.cells va.toArray 44)).alloc (.cells zAL.toArray 44)).alloc (.cells zAL.toArray 44) = W3 := ⟨_, rfl⟩
 have hf03 : Fr (fun _ => False) w W3 := by rw [← hW3]; exact (box2 w _ _).trans (box1 _ _) (fun _ _ h => h)
 have hs1 : (w.alloc (.cells va.toArray 44)).heap.size = w.heap.size + 1 := by simp
 have hs2 : ((w.alloc (.cells va.toArray 44)).alloc (.cells zAL.toArray 44)).heap.size = w.heap.size + 2 := by simp
 have hb3 : W3.heap[w.heap.size]? = some (.cells va.toArray 44) := by rw [← hW3]; exact (Below.heap_alloc _ _ _ (by simp; omega)).trans ((Below.heap_alloc _ _ _ (by simp)).trans (heap_alloc_new _ _))
 have hb4 : W3.heap[w.heap.size + 1]? = some (.cells zAL.toArray 44) := by rw [← hW3, ← hs1]; exact (Below.heap_alloc _ _ _ (by simp)).trans (heap_alloc_new _ _)
 have hb5 : W3.heap[w.heap.size + 2]? = some (.cells zAL.toArray 44) := by rw [← hW3, ← hs2]; exact heap_alloc_new _ _
 have hs3 : W3.heap.size = w.heap.size + 3 := by rw [← hW3]; simp
 obtain ⟨W6, hst6, ⟨fs', hb6, hl6, h3, h4⟩, hf6⟩ := st_mid (P := Tryz.prog) (ty := 42) (o := 37) zAL vs hb5 (by rw [hln]; decide) (by rw [hln]; exact Tryz.sizeP_Message) hone
 have e6 : fs' = anyL 37 vs := anyL_eq hln (by decide) h3 h4
 subst e6
 have hb46 := (hf6.block (w.heap.size + 1) (by omega) (fun e => by omega)).trans hb4
 obtain ⟨W7, hst7, hb7, hf7⟩ := st_all (P := Tryz.prog) (ty := 44) zAL (anyL 37 vs) hb46 (by rw [anyL_len hln (by decide)]; rfl) (by rw [anyL_len hln (by decide)]; exact Tryz.sizeAny) (anyL_one hone)
 have HS6 := hid hst6
 have HS7 := hid hst7
 have HRA : Hid (W3.rangeAt w.heap.size 37 vs) := hid (fun j u hu => cOB hb3 (by simpa using hm j u hu))
 have HR6 : Hid (W6.rangeAt (w.heap.size + 2) 0 (anyL 37 vs)) := hid (rOB hb6)
 have HR7 : Hid (W7.rangeAt (w.heap.size + 1) 0 (anyL 37 vs)) := hid (rOB hb7)
 have HZ : Hid ((Tryz.prog.info? 44).map (·.size) = some (anyL 37 vs).length) := hid (by rw [anyL_len hln (by decide)]; exact Tryz.sizeAny)
 have HP : Hid ((Tryz.prog.info? 42).map (·.size) = some vs.length) := hid (by rw [hln]; exact Tryz.sizeP_Message)
 have hf37 : Fr (fun g => g = w.heap.size + 1 ∨ g = w.heap.size + 2) W3 W7 := (hf6.mono (fun _ _ e => .inr e)).trans (hf7.mono (fun _ _ e => .inl e)) (fun _ _ h => h)
 have HF : Hid (Fr (fun _ => False) w W7) := hid (hf03.trans hf37 (fun k hk e => by omega))
 clear hf37 hf03 hs1 hs2 hb3 hb4 hb5 hs3 hst6 hb6 hl6 h3 h4 hf6 hb46 hst7 hb7 hf7 hln hm hone
 go_enter Tryz.func19, Tryz.ntmps19
 go_upto_region 2 with fail
 rw [show Tryz.zeroCells44 = zAL.toArray from rfl, hW3]
 clear hW3
 go_wp2_with (first | refine wpList_load_mid rfl 42 (.tmp 7) rfl w.heap.size 37 rfl _ _ (uh HRA) Tryz.underlying42 rfl (uh HP) ?_ | refine wpList_stN rfl 42 (.tmp 9) (.tmp 8) rfl _ _ rfl rfl (uh HS6) ?_ | refine wpList_load_mid rfl 44 (.tmp 5) rfl (w.heap.size + 2) 0 rfl _ _ (uh HR6) Tryz.underlying44 rfl (uh HZ) ?_ | refine wpList_stN rfl 44 (.tmp 4) (.tmp 40) rfl _ _ rfl rfl (uh HS7) ?_)
 refine bodyPost_ret (results_cell1 rfl _ _ (w.heap.size + 1) 0 (anyL 37 vs) _ rfl (uh HR7) Tryz.underlying44 rfl (uh HZ)) rfl ?_
 exact ⟨rfl, uh HF⟩
end Go.Proofs.YtlphcgfmjhbeoaaGreatDoor
