import Derived.Test.YtlphcgfmjhbeoaaGreatDoorPw4
namespace Go.Proofs.YtlphcgfmjhbeoaaGreatDoor
open Go.RowKit
set_option maxRecDepth 100000 in
theorem PutHead_go (v0 v1 : Value) (w : World) (Q : Ending → World → Prop) (h : Calls Tryz.prog 47 #[.agg #[v0, v1]] (w.alloc (.cells #[v0, v1] 25)) fun e w' => (∃ v err, e = .returned (.tuple #[v, err])) ∧ Q e w') : Calls Tryz.prog 21 #[.agg #[v0, v1]] w fun e w' => (∃ v err, e = .returned (.tuple #[v, err])) ∧ Q e w' := by
 have H := hid h
 clear h
 go_enter Tryz.func21, Tryz.ntmps21
 go_wp2_with fail
 refine (uh H).mono ?_
 rintro e w' ⟨⟨v, err, rfl⟩, hr⟩
 have HR := hid hr
 clear hr
 go_wp2_with fail
 go_ret2
 exact ⟨⟨v, err, rfl⟩, uh HR⟩
set_option maxRecDepth 100000 in
theorem PutSigned_go (v0 v1 v2 v3 : Value) (w : World) (Q : Ending → World → Prop) (h : Calls Tryz.prog 75 #[.agg #[v0, v1, v2, v3]] (w.alloc (.cells #[v0, v1, v2, v3] 37)) fun e w' => (∃ v err, e = .returned (.tuple #[v, err])) ∧ Q e w') : Calls Tryz.prog 32 #[.agg #[v0, v1, v2, v3]] w fun e w' => (∃ v err, e = .returned (.tuple #[v, err])) ∧ Q e w' := by
 have H := hid h
 clear h
 go_enter Tryz.func32, Tryz.ntmps32
 go_wp2_with fail
 refine (uh H).mono ?_
 rintro e w' ⟨⟨v, err, rfl⟩, hr⟩
 have HR := hid hr
 clear hr
 go_wp2_with fail
 go_ret2
 exact ⟨⟨v, err, rfl⟩, uh HR⟩
set_option maxRecDepth 100000 in
theorem PutProof_go (v0 : Value) (w : World) (Q : Ending → World → Prop) (h : Calls Tryz.prog 76 #[.agg #[v0]] (w.alloc (.cells #[v0] 40)) fun e w' => (∃ v err, e = .returned (.tuple #[v, err])) ∧ Q e w') : Calls Tryz.prog 33 #[.agg #[v0]] w fun e w' => (∃ v err, e = .returned (.tuple #[v, err])) ∧ Q e w' := by
 have H := hid h
 clear h
 go_enter Tryz.func33, Tryz.ntmps33
 go_wp2_with fail
 refine (uh H).mono ?_
 rintro e w' ⟨⟨v, err, rfl⟩, hr⟩
 have HR := hid hr
 clear hr
 go_wp2_with fail
 go_ret2
 exact ⟨⟨v, err, rfl⟩, uh HR⟩
set_option maxRecDepth 100000 in
theorem PutRequest_go (v0 v1 v2 v3 v4 v5 v6 v7 v8 v9 : Value) (w : World) (Q : Ending → World → Prop) (h : Calls Tryz.prog 29 #[.agg #[v0, v1, v2, v3, v4, v5, v6, v7, v8, v9]] (w.alloc (.cells #[v0, v1, v2, v3, v4, v5, v6, v7, v8, v9] 30)) fun e w' => (∃ v err, e = .returned (.tuple #[v, err])) ∧ Q e w') : Calls Tryz.prog 13 #[.agg #[v0, v1, v2, v3, v4, v5, v6, v7, v8, v9]] w fun e w' => (∃ v err, e = .returned (.tuple #[v, err])) ∧ Q e w' := by
 have H := hid h
 clear h
 go_enter Tryz.func13, Tryz.ntmps13
 go_wp2_with fail
 refine (uh H).mono ?_
 rintro e w' ⟨⟨v, err, rfl⟩, hr⟩
 have HR := hid hr
 clear hr
 go_wp2_with fail
 go_ret2
 exact ⟨⟨v, err, rfl⟩, uh HR⟩
set_option maxRecDepth 100000 in
theorem PutAnswer_go (v0 v1 v2 v3 v4 v5 v6 : Value) (w : World) (Q : Ending → World → Prop) (h : Calls Tryz.prog 30 #[.agg #[v0, v1, v2, v3, v4, v5, v6]] (w.alloc (.cells #[v0, v1, v2, v3, v4, v5, v6] 33)) fun e w' => (∃ v err, e = .returned (.tuple #[v, err])) ∧ Q e w') : Calls Tryz.prog 14 #[.agg #[v0, v1, v2, v3, v4, v5, v6]] w fun e w' => (∃ v err, e = .returned (.tuple #[v, err])) ∧ Q e w' := by
 have H := hid h
 clear h
 go_enter Tryz.func14, Tryz.ntmps14
 go_wp2_with fail
 refine (uh H).mono ?_
 rintro e w' ⟨⟨v, err, rfl⟩, hr⟩
 have HR := hid hr
 clear hr
 go_wp2_with fail
 go_ret2
 exact ⟨⟨v, err, rfl⟩, uh HR⟩
set_option maxRecDepth 100000 in
theorem PutEvent_go (v0 v1 v2 v3 v4 v5 v6 v7 v8 v9 v10 v11 v12 : Value) (w : World) (Q : Ending → World → Prop) (h : Calls Tryz.prog 74 #[.agg #[v0, v1, v2, v3, v4, v5, v6, v7, v8, v9, v10, v11, v12]] (w.alloc (.cells #[v0, v1, v2, v3, v4, v5, v6, v7, v8, v9, v10, v11, v12] 35)) fun e w' => (∃ v err, e = .returned (.tuple #[v, err])) ∧ Q e w') : Calls Tryz.prog 31 #[.agg #[v0, v1, v2, v3, v4, v5, v6, v7, v8, v9, v10, v11, v12]] w fun e w' => (∃ v err, e = .returned (.tuple #[v, err])) ∧ Q e w' := by
 have H := hid h
 clear h
 go_enter Tryz.func31, Tryz.ntmps31
 go_wp2_with fail
 refine (uh H).mono ?_
 rintro e w' ⟨⟨v, err, rfl⟩, hr⟩
 have HR := hid hr
 clear hr
 go_wp2_with fail
 go_ret2
 exact ⟨⟨v, err, rfl⟩, uh HR⟩
def CS.wq : CS → Wq
 | .wr s => s
 | .rd _ => ⟨ByteArray.empty, [], none⟩
def CS.rq : CS → Q
 | .wr _ => ⟨ByteArray.empty, [], 0, 0, none⟩
 | .rd q => q
def cw0 : CS := .wr ⟨ByteArray.empty, [], none⟩
def cr0 (l : List Nat) : CS := .rd ⟨ByteArray.empty, l, 0, 0, none⟩
theorem cw0_room (n : Nat) (h : n ≤ 1000000) : cw0.room n := by simp only [cw0, CS.room, CS.len, List.length_nil]; omega
theorem room_len {s : Wq} {n : Nat} (h : (CS.wr s).room n) : s.l.length ≤ 140737488355328 := by simp only [CS.room, CS.len] at h; omega
structure SlI (w : World) (x : Value) (l : List Nat) : Prop where
 src : Src w x l
 lt : ∀ g o m c, x = .slice (some ⟨g, o, none⟩) m c → g < w.heap.size
 len : l.length < 9223372036854775808
theorem SlI.bvg {w w1 : World} {x : Value} {l : List Nat} {F : Nat → Prop} (h : SlI w x l) (hf : Fr (fun _ => False) w w1) (hF : ∀ k, F k → w.heap.size ≤ k) (g : Nat) (hg : w.heap.size ≤ g) : BVg w1 x l F g :=
 ⟨⟨h.src.fr hf (fun _ _ _ _ _ h => h), fun k o m c e => ⟨Nat.lt_of_lt_of_le (h.lt k o m c e) hf.size, fun hx => by have := hF k hx; have := h.lt k o m c e; omega⟩⟩, fun k o m c e => by have := h.lt k o m c e; omega, h.len⟩
def headW (size : Nat) (root : List Nat) : Wq := ((cw0.pForm 4).pHead (size, root)).1.wq
def headR (l : List Nat) : CS × Nat × List Nat := ((cr0 l).pForm 4).pHead (0, [])
def signedW (v : (Nat × List Nat) × Nat × List Nat) : Wq := ((cw0.pForm 5).pSigned v).1.wq
def signedR (l : List Nat) : CS × (Nat × List Nat) × Nat × List Nat := ((cr0 l).pForm 5).pSigned ((0, []), 0, [])
def proofW (ps : List (List Nat)) : Wq := ((cw0.pForm 6).pProof ps).1.wq
def proofR (l : List Nat) : CS × List (List Nat) := ((cr0 l).pForm 6).pProof []
theorem SlI.fr0 {w w1 : World} {x : Value} {l : List Nat} (h : SlI w x l) (hf : Fr (fun _ => False) w w1) : SlI w1 x l :=
 ⟨h.src.fr hf (fun _ _ _ _ _ h => h), fun k o m c e => Nat.lt_of_lt_of_le (h.lt k o m c e) hf.size, h.len⟩
def PutRes (w w' : World) (e : Ending) (s : Wq) (E : Nat → Addr) : Prop := ∃ v err, e = .returned (.tuple #[v, err]) ∧ w'.ownsRow w.heap.size 5 1 v s.out.length (cellsOf s.out) ∧ ErrV w' err (ftV s.f) E ∧ Fr (fun _ => False) w w'
theorem PutRes.box {w w' : World} {e : Ending} {s : Wq} {E : Nat → Addr} {vs : Array Value} {t : TypeId} (h : PutRes (w.alloc (.cells vs t)) w' e s E) : (∃ v err, e = .returned (.tuple #[v, err])) ∧ PutRes w w' e s E := by
 obtain ⟨v, err, rfl, h1, h2, h3⟩ := h
 have hb := box1 w (.cells vs t)
 exact ⟨⟨v, err, rfl⟩, v, err, rfl, ownsRow_base h1 hb.size, h2, hb.trans h3 (fun _ _ h => h)⟩
theorem putHead (size : Nat) (root : List Nat) (x : Value) (E : Nat → Addr) (w : World) (hg : G6 w E) (hw : 9 ≤ w.heap.size) (hx : SlI w x root) (hsz : size < 4294967296) :
  Calls Tryz.prog 21 #[.agg #[.int .u32 (size : Nat), x]] w fun e w' => PutRes w w' e (headW size root) E := by
 have hr : (CS.wr (headW size root)).room 0 := CS.pHead_room (n := 0) (CS.pForm_room (cw0_room 3 (by decide)) 4) (size, root)
 obtain ⟨wb, hwb⟩ : ∃ wb, w.alloc (.cells #[.int .u32 (size : Nat), x] 25) = wb := ⟨_, rfl⟩
 have hbx : Fr (fun _ => False) w wb := by rw [← hwb]; exact box1 _ _
 have hx' := hx.fr0 hbx
 have hp := put_Head #[.int .u32 (size : Nat), x] (headW size root) E wb (hg.fr hbx (fun _ h => h.elim)) (by have := hbx.size; omega) (fun w1 cb b F hC hcs hL hF hf => by
  refine (whole_Head cw0 size root x cb b wb.heap.size F E w1 hC (hcs 0 _ rfl) (hcs 1 _ rfl) (hx'.bvg hf (fun k hk => by have := hF k hk; omega) _ (Nat.le_refl _)) hL hsz (cw0_room 3 (by decide))).mono ?_
  rintro e w' ⟨rfl, F', hC', _, x', _, _, hs⟩
  exact ⟨rfl, F', hC', hs.mono (fun k j _ h => h.1)⟩) (room_len hr)
 refine (PutHead_go _ _ w (fun e w' => PutRes w w' e (headW size root) E) ?_).mono (fun e w' h => h.2)
 rw [hwb]
 exact hp.mono (fun e w' h => by rw [← hwb] at h; exact PutRes.box h)
theorem putSigned (size key : Nat) (root sig : List Nat) (x y : Value) (E : Nat → Addr) (w : World) (hg : G6 w E) (hw : 9 ≤ w.heap.size) (hx : SlI w x root) (hy : SlI w y sig) (hsz : size < 4294967296) (hkey : key < 4294967296) :
  Calls Tryz.prog 32 #[.agg #[.int .u32 (size : Nat), x, .int .u32 (key : Nat), y]] w fun e w' => PutRes w w' e (signedW ((size, root), key, sig)) E := by
 have hr : (CS.wr (signedW ((size, root), key, sig))).room 0 := CS.pByt_room (n := 0) (CS.pU32_room (n := 1) (CS.pHead_room (n := 2) (CS.pForm_room (cw0_room 5 (by decide)) 5) (size, root)) _ _ _) _ _ _ _ (fun e => by have := szN_fit [] 0 32768 (fun v : List Nat => v.length) sig e; show sig.length ≤ 32768; omega)
 obtain ⟨wb, hwb⟩ : ∃ wb, w.alloc (.cells #[.int .u32 (size : Nat), x, .int .u32 (key : Nat), y] 37) = wb := ⟨_, rfl⟩
 have hbx : Fr (fun _ => False) w wb := by rw [← hwb]; exact box1 _ _
 have hx' := hx.fr0 hbx
 have hy' := hy.fr0 hbx
 have hp := put_Signed #[.int .u32 (size : Nat), x, .int .u32 (key : Nat), y] (signedW ((size, root), key, sig)) E wb (hg.fr hbx (fun _ h => h.elim)) (by have := hbx.size; omega) (fun w1 cb b F hC hcs hL hF hf => by
  refine (whole_Signed cw0 size key root sig x y cb b wb.heap.size F E w1 hC (hcs 0 _ rfl) (hcs 1 _ rfl) (hcs 2 _ rfl) (hcs 3 _ rfl) (hx'.bvg hf (fun k hk => by have := hF k hk; omega) _ (Nat.le_refl _)) (hy'.bvg hf (fun k hk => by have := hF k hk; omega) _ (Nat.le_refl _)) hL hsz hkey (cw0_room 5 (by decide))).mono ?_
  rintro e w' ⟨rfl, F', hC', _, _, x', y', _, _, _, _, hs⟩
  exact ⟨rfl, F', hC', hs.mono (fun k j _ h => h.1)⟩) (room_len hr)
 refine (PutSigned_go _ _ _ _ w (fun e w' => PutRes w w' e (signedW ((size, root), key, sig)) E) ?_).mono (fun e w' h => h.2)
 rw [hwb]
 exact hp.mono (fun e w' h => by rw [← hwb] at h; exact PutRes.box h)
theorem loopW_wr (ps : List (List Nat)) : ∀ (s : Wq), ∃ s', loopW (fun c v => c.pHash n_hash v) (.wr s) ps = .wr s' := by
 induction ps with
 | nil => intro s; exact ⟨s, rfl⟩
 | cons p ps ih => intro s; exact ih _
theorem loopW_room (ps : List (List Nat)) : ∀ {c : CS} {n : Nat}, c.room (n + ps.length) → (loopW (fun c v => c.pHash n_hash v) c ps).room n := by
 induction ps with
 | nil => intro c n h; exact h
 | cons p ps ih => intro c n h; exact ih (CS.pHash_room (n := n + ps.length) (by simpa [Nat.add_assoc] using h) _ _)
theorem proofW_eq (ps : List (List Nat)) : ((cw0.pForm 6).pProof ps).1 = .wr (proofW ps) := by
 obtain ⟨s, hs⟩ : ∃ s, ((cw0.pForm 6).pProof ps).1 = .wr s := loopW_wr _ _
 unfold proofW
 rw [hs]
 rfl
structure PcI (w : World) (xo : Option Addr) (xc : Nat) (ps : List (List Nat)) : Prop where
 cap : ps.length ≤ xc
 len : ps.length < 9223372036854775808
 el : ∀ (j : Nat) p, ps[j]? = some p → ∃ g o x, xo = some ⟨g, o, none⟩ ∧ w.cell? ⟨g, o + j, none⟩ = some x ∧ SlI w x p
theorem PcI.fr0 {w w1 : World} {xo : Option Addr} {xc : Nat} {ps : List (List Nat)} (h : PcI w xo xc ps) (hf : Fr (fun _ => False) w w1) : PcI w1 xo xc ps := by
 refine ⟨h.cap, h.len, fun j p hp => ?_⟩
 obtain ⟨g, o, x, h1, h2, h3⟩ := h.el j p hp
 exact ⟨g, o, x, h1, (hf.cell (p := ⟨g, o + j, none⟩) (ltC h2) (fun h => h)).trans h2, h3.fr0 hf⟩
theorem sm_wq {s : Wq} {c : CS} (h : (CS.wr s).sm c) : c = .wr c.wq := by
 cases c with
 | wr s' => rfl
 | rd q => obtain ⟨_, e⟩ := h.2 q rfl; cases e
theorem sm_rq {q : Q} {c : CS} (h : (CS.rd q).sm c) : c = .rd c.rq := by
 cases c with
 | wr s' => obtain ⟨_, e⟩ := h.1 s' rfl; cases e
 | rd q => rfl
theorem loopW_sm {α : Type} (each : CS → α → CS × α) (he : ∀ (c : CS) (v : α), c.sm (each c v).1) : ∀ (xs : List α) (c : CS), c.sm (loopW each c xs)
 | [], c => CS.sm_refl c
 | x :: xs, c => CS.sm_trans (he c x) (loopW_sm each he xs _)
theorem loopR_sm {α : Type} (each : CS → α → CS × α) (z : α) (he : ∀ (c : CS) (v : α), c.sm (each c v).1) (c : CS) : ∀ n, c.sm (loopR each z n c).1
 | 0 => CS.sm_refl c
 | n + 1 => CS.sm_trans (loopR_sm each z he c n) (he _ _)
theorem loopW_room4 : ∀ (xs : List SuM) {c : CS} {n : Nat}, c.room (n + 4 * xs.length) → (loopW (fun c v => c.pSummary v) c xs).room n
 | [], c, n, h => by simpa [loopW] using h
 | x :: xs, c, n, h => loopW_room4 xs (CS.pSummary_room (n := n + 4 * xs.length) (CS.room_le h (by simp; omega)) x)
theorem CS.pInt_sm (c : CS) (nm : ByteArray) (m : Int) (rs : List (Int → Nat)) (v : Nat) : c.sm (c.pInt nm m rs v).1 := by
 cases c with
 | wr s => exact CS.sm_wr _ _
 | rd q => exact CS.sm_rd _ _
theorem CS.pHist_sm (c : CS) (l : List SuM) : c.sm (c.pHist l).1 := by
 cases c with
 | wr s => exact CS.sm_trans (CS.pInt_sm _ _ _ _ _) (loopW_sm _ CS.pSummary_sm _ _)
 | rd q => exact CS.sm_trans (CS.pInt_sm _ _ _ _ _) (loopR_sm _ _ CS.pSummary_sm _ _)
theorem CS.pHist_room (s : Wq) {n : Nat} (h : (CS.wr s).room (n + 257)) (l : List SuM) : ((CS.wr s).pHist l).1.room n := by
 have h1 := CS.pInt_room (c := .wr s) (n := n + 256) h n_history 64 (lrs 64 []) l.length
 exact loopW_room4 _ (CS.room_le h1 (by simp; omega))
theorem CS.pAnswer_sm (c : CS) (v : AnM) : c.sm (c.pAnswer v).1 := CS.sm_trans (CS.sm_trans (CS.sm_trans (CS.sm_trans (CS.sm_trans (c.pId_sm _) (CS.pU8_sm _ _ _ _)) (CS.pU32_sm _ _ _ _)) (CS.pU32_sm _ _ _ _)) (CS.pFields_sm _ _ _ _)) (CS.pHist_sm _ _)
theorem CS.pHash_sm2 (c : CS) (nm : ByteArray) (v : List Nat) : c.sm (c.pHash nm v).1 := by
 cases c with
 | wr s => exact CS.sm_wr _ _
 | rd q => exact CS.sm_rd _ _
theorem CS.pEvent_sm (c : CS) (v : EvM) : c.sm (c.pEvent v).1 := CS.sm_trans (CS.sm_trans (CS.sm_trans (CS.pU32_sm _ _ _ _) (CS.pRequest_sm _ _)) (CS.pU8_sm _ _ _ _)) (CS.pHash_sm2 _ _ _)
def requestW (v : RqM) : Wq := ((cw0.pForm 1).pRequest v).1.wq
def answerW (v : AnM) : Wq := ((cw0.pForm 2).pAnswer v).1.wq
def eventW (v : EvM) : Wq := ((cw0.pForm 3).pEvent v).1.wq
def requestR (l : List Nat) : CS × RqM := ((cr0 l).pForm 1).pRequest ⟨0, 0, 0, 0, 0, 0, 0, 0, [], ⟨#[]⟩⟩
def answerR (l : List Nat) : CS × AnM := ((cr0 l).pForm 2).pAnswer ⟨0, 0, 0, 0, 0, [], []⟩
def eventR (l : List Nat) : CS × EvM := ((cr0 l).pForm 3).pEvent ⟨0, ⟨0, 0, 0, 0, 0, 0, 0, 0, [], ⟨#[]⟩⟩, 0, []⟩
theorem requestW_eq (v : RqM) : ((cw0.pForm 1).pRequest v).1 = .wr (requestW v) := sm_wq (CS.sm_trans (CS.pForm_sm cw0 1) (CS.pRequest_sm _ _))
theorem answerW_eq (v : AnM) : ((cw0.pForm 2).pAnswer v).1 = .wr (answerW v) := sm_wq (CS.sm_trans (CS.pForm_sm cw0 2) (CS.pAnswer_sm _ _))
theorem eventW_eq (v : EvM) : ((cw0.pForm 3).pEvent v).1 = .wr (eventW v) := sm_wq (CS.sm_trans (CS.pForm_sm cw0 3) (CS.pEvent_sm _ _))
theorem requestR_eq (l : List Nat) : (requestR l).1 = .rd (requestR l).1.rq := sm_rq (CS.sm_trans (CS.pForm_sm (cr0 l) 1) (CS.pRequest_sm _ _))
theorem answerR_eq (l : List Nat) : (answerR l).1 = .rd (answerR l).1.rq := sm_rq (CS.sm_trans (CS.pForm_sm (cr0 l) 2) (CS.pAnswer_sm _ _))
theorem eventR_eq (l : List Nat) : (eventR l).1 = .rd (eventR l).1.rq := sm_rq (CS.sm_trans (CS.pForm_sm (cr0 l) 3) (CS.pEvent_sm _ _))
theorem requestW_room (v : RqM) : (CS.wr (requestW v)).room 0 := by
 rw [← requestW_eq]
 exact CS.pRequest_room (n := 0) (CS.pForm_room (cw0_room 141 (by decide)) 1) v
theorem answerW_room (v : AnM) : (CS.wr (answerW v)).room 0 := by
 rw [← answerW_eq]
 have R0 : (cw0.pForm 2).room 500 := CS.pForm_room (cw0_room 501 (by decide)) 2
 have R1 : ((cw0.pForm 2).a1 v).1.room 498 := CS.pId_room R0 _
 have R2 : ((cw0.pForm 2).a2 v).1.room 497 := CS.pU8_room R1 _ _ _
 have R3 : ((cw0.pForm 2).a3 v).1.room 496 := CS.pU32_room R2 _ _ _
 have R4 : ((cw0.pForm 2).a4 v).1.room 495 := CS.pU32_room R3 _ _ _
 have R5 : ((cw0.pForm 2).a5 v).1.room 366 := CS.pFields_room R4 _ _ _
 have M5 : (cw0.pForm 2).sm ((cw0.pForm 2).a5 v).1 := CS.sm_trans (CS.sm_trans (CS.sm_trans (CS.sm_trans (CS.pId_sm _ _) (CS.pU8_sm _ _ _ _)) (CS.pU32_sm _ _ _ _)) (CS.pU32_sm _ _ _ _)) (CS.pFields_sm _ _ _ _)
 have e := sm_wq (CS.sm_trans (CS.pForm_sm cw0 2) M5)
 show (((cw0.pForm 2).a5 v).1.pHist v.hi).1.room 0
 rw [e] at R5 ⊢
 exact CS.pHist_room _ (CS.room_le R5 (by decide)) _
theorem eventW_room (v : EvM) : (CS.wr (eventW v)).room 0 := by
 rw [← eventW_eq]
 exact CS.pHash_room (CS.pU8_room (CS.pRequest_room (CS.pU32_room (CS.pForm_room (cw0_room 144 (by decide)) 3) _ _ _) _) _ _ _) _ _
structure FdI (w : World) (x : Value) (l : List Fld) : Prop where
 v : ∃ xo xc, x = .slice xo l.length xc ∧ FdV w xo xc l (fun _ => False)
 len : l.length < 9223372036854775808
structure SuI (w : World) (x : Value) (l : List SuM) : Prop where
 v : ∃ xo xc, x = .slice xo l.length xc ∧ SuV w xo xc l (fun _ => False)
 len : l.length < 9223372036854775808
theorem FdI.fr0 {w w1 : World} {x : Value} {l : List Fld} (h : FdI w x l) (hf : Fr (fun _ => False) w w1) : FdI w1 x l := by
 obtain ⟨⟨xo, xc, e, hv⟩, hn⟩ := h
 exact ⟨⟨xo, xc, e, hv.stp (Stp.of_fr hf _ (fun _ _ => False)) (fun _ _ _ _ _ h => h)⟩, hn⟩
theorem SuI.fr0 {w w1 : World} {x : Value} {l : List SuM} (h : SuI w x l) (hf : Fr (fun _ => False) w w1) : SuI w1 x l := by
 obtain ⟨⟨xo, xc, e, hv⟩, hn⟩ := h
 exact ⟨⟨xo, xc, e, hv.stp (Stp.of_fr hf _ (fun _ _ => False)) (fun _ _ _ _ _ h => h)⟩, hn⟩
theorem FdI.fdx {w w1 : World} {x : Value} {l : List Fld} {F : Nat → Prop} {s : Wq} (h : FdI w x l) (hf : Fr (fun _ => False) w w1) (hF : ∀ k, F k → w.heap.size ≤ k) (g : Nat) (hg : w.heap.size ≤ g) : FdX w1 (.wr s) x l F g := by
 obtain ⟨⟨xo, xc, e, hv⟩, hn⟩ := h
 have hv1 := hv.stp (Stp.of_fr hf _ (fun _ _ => False)) (fun _ _ _ _ _ h => h)
 refine ⟨fun _ _ => ⟨xo, xc, e, ⟨hv.cap, fun j f hj => ?_⟩, fun g' o' e' hl => ?_⟩, fun q e => (by cases e), hn⟩
 ·obtain ⟨h0, g', o, h1, _, h3⟩ := hv.el j f hj
  obtain ⟨_, g2, o2, h1', _, h3'⟩ := hv1.el j f hj
  obtain ⟨rfl, rfl⟩ : g2 = g' ∧ o2 = o := by rw [h1] at h1'; injection h1' with e1; injection e1 with e2 e3; exact ⟨e2.symm, e3.symm⟩
  have hlt : g2 < w.heap.size := ltC h3.1
  exact ⟨h0, g2, o2, h1, fun hx => by have := hF g2 hx; omega, h3'⟩
 ·obtain ⟨f, hj⟩ : ∃ f, l[0]? = some f := by cases l with
   | nil => exact absurd rfl hl
   | cons a t => exact ⟨a, rfl⟩
  obtain ⟨_, g2, o2, h1, _, h3⟩ := hv.el 0 f hj
  rw [e'] at h1
  injection h1 with e1
  injection e1 with e2 e3
  have hlt : g2 < w.heap.size := ltC h3.1
  omega
theorem SuI.sux {w w1 : World} {x : Value} {l : List SuM} {F : Nat → Prop} {s : Wq} (h : SuI w x l) (hf : Fr (fun _ => False) w w1) (hF : ∀ k, F k → w.heap.size ≤ k) (g : Nat) (hg : w.heap.size ≤ g) : SuX w1 (.wr s) x l F g := by
 obtain ⟨⟨xo, xc, e, hv⟩, hn⟩ := h
 have hv1 := hv.stp (Stp.of_fr hf _ (fun _ _ => False)) (fun _ _ _ _ _ h => h)
 refine ⟨fun _ _ => ⟨xo, xc, e, ⟨hv.cap, fun j f hj => ?_⟩, fun g' o' e' hl => ?_⟩, fun q e => (by cases e), hn⟩
 ·obtain ⟨h0, g', o, h1, _, h3⟩ := hv.el j f hj
  obtain ⟨_, g2, o2, h1', _, h3'⟩ := hv1.el j f hj
  obtain ⟨rfl, rfl⟩ : g2 = g' ∧ o2 = o := by rw [h1] at h1'; injection h1' with e1; injection e1 with e2 e3; exact ⟨e2.symm, e3.symm⟩
  have hlt : g2 < w.heap.size := ltC h3.1
  exact ⟨h0, g2, o2, h1, fun hx => by have := hF g2 hx; omega, h3'⟩
 ·obtain ⟨f, hj⟩ : ∃ f, l[0]? = some f := by cases l with
   | nil => exact absurd rfl hl
   | cons a t => exact ⟨a, rfl⟩
  obtain ⟨_, g2, o2, h1, _, h3⟩ := hv.el 0 f hj
  rw [e'] at h1
  injection h1 with e1
  injection e1 with e2 e3
  have hlt : g2 < w.heap.size := ltC h3.1
  omega
def RqM.vals (v : RqM) (x : Value) : Array Value := #[.int .u32 (v.cl : Nat), .int .u32 (v.nu : Nat), .int .u32 (v.ac : Nat), .int .u8 (v.op : Nat), .int .u32 (v.re : Nat), .int .u32 (v.ve : Nat), .int .u32 (v.wa : Nat), .int .u32 (v.ow : Nat), x, .string v.rs]
def AnM.vals (v : AnM) (x y : Value) : Array Value := #[.int .u32 (v.cl : Nat), .int .u32 (v.nu : Nat), .int .u8 (v.co : Nat), .int .u32 (v.re : Nat), .int .u32 (v.ve : Nat), x, y]
def EvM.vals (v : EvM) (x y : Value) : Array Value := #[.int .u32 (v.pl : Nat), .int .u32 (v.rq.cl : Nat), .int .u32 (v.rq.nu : Nat), .int .u32 (v.rq.ac : Nat), .int .u8 (v.rq.op : Nat), .int .u32 (v.rq.re : Nat), .int .u32 (v.rq.ve : Nat), .int .u32 (v.rq.wa : Nat), .int .u32 (v.rq.ow : Nat), x, .string v.rq.rs, .int .u8 (v.co : Nat), y]
set_option maxRecDepth 100000 in
theorem putRequest (v : RqM) (x : Value) (E : Nat → Addr) (w : World) (hg : G6 w E) (hw : 9 ≤ w.heap.size) (hx : FdI w x v.fs) (hv : v.ok) :
  Calls Tryz.prog 13 #[.agg (v.vals x)] w fun e w' => PutRes w w' e (requestW v) E := by
 have hr := requestW_room v
 obtain ⟨wb, hwb⟩ : ∃ wb, w.alloc (.cells (v.vals x) 30) = wb := ⟨_, rfl⟩
 have hbx : Fr (fun _ => False) w wb := by rw [← hwb]; exact box1 _ _
 have hx' := hx.fr0 hbx
 have hp := put_Request (v.vals x) (requestW v) E wb (hg.fr hbx (fun _ h => h.elim)) (by have := hbx.size; omega) (fun w1 cb b F hC hcs hL hF hf => by
  have hF' : ∀ k, F k → wb.heap.size ≤ k := fun k hk => by have := hF k hk; omega
  refine (whole_Request cw0 v x cb b wb.heap.size F E w1 hC ⟨hcs 0 _ rfl, hcs 1 _ rfl, hcs 2 _ rfl, hcs 3 _ rfl, hcs 4 _ rfl, hcs 5 _ rfl, hcs 6 _ rfl, hcs 7 _ rfl, hcs 8 _ rfl, hcs 9 _ rfl⟩ (hx'.fdx hf hF' _ (Nat.le_refl _)) hL hv (cw0_room 221 (by decide))).mono ?_
  rintro e w' ⟨rfl, F', _, hC', _, _, hs⟩
  exact ⟨rfl, F', by rw [← requestW_eq]; exact hC', hs.mono (fun k j _ h => h.1)⟩) (room_len hr)
 refine (PutRequest_go _ _ _ _ _ _ _ _ _ _ w (fun e w' => PutRes w w' e (requestW v) E) ?_).mono (fun e w' h => h.2)
 show Calls Tryz.prog 29 #[.agg (v.vals x)] (w.alloc (.cells (v.vals x) 30)) _
 rw [hwb]
 exact hp.mono (fun e w' h => by rw [← hwb] at h; exact PutRes.box h)
set_option maxRecDepth 100000 in
theorem putAnswer (v : AnM) (x y : Value) (E : Nat → Addr) (w : World) (hg : G6 w E) (hw : 9 ≤ w.heap.size) (hx : FdI w x v.fs) (hy : SuI w y v.hi) (hv : v.ok) :
  Calls Tryz.prog 14 #[.agg (v.vals x y)] w fun e w' => PutRes w w' e (answerW v) E := by
 have hr := answerW_room v
 obtain ⟨wb, hwb⟩ : ∃ wb, w.alloc (.cells (v.vals x y) 33) = wb := ⟨_, rfl⟩
 have hbx : Fr (fun _ => False) w wb := by rw [← hwb]; exact box1 _ _
 have hx' := hx.fr0 hbx
 have hy' := hy.fr0 hbx
 have hp := put_Answer (v.vals x y) (answerW v) E wb (hg.fr hbx (fun _ h => h.elim)) (by have := hbx.size; omega) (fun w1 cb b F hC hcs hL hF hf => by
  have hF' : ∀ k, F k → wb.heap.size ≤ k := fun k hk => by have := hF k hk; omega
  refine (whole_Answer cw0 v x y cb b wb.heap.size F E w1 hC ⟨hcs 0 _ rfl, hcs 1 _ rfl, hcs 2 _ rfl, hcs 3 _ rfl, hcs 4 _ rfl, hcs 5 _ rfl, hcs 6 _ rfl⟩ (hx'.fdx hf hF' _ (Nat.le_refl _)) (hy'.sux hf hF' _ (Nat.le_refl _)) hL hv (cw0_room 501 (by decide))).mono ?_
  rintro e w' ⟨rfl, F', _, _, hC', _, _, _, hs⟩
  exact ⟨rfl, F', by rw [← answerW_eq]; exact hC', hs.mono (fun k j _ h => h.1)⟩) (room_len hr)
 refine (PutAnswer_go _ _ _ _ _ _ _ w (fun e w' => PutRes w w' e (answerW v) E) ?_).mono (fun e w' h => h.2)
 show Calls Tryz.prog 30 #[.agg (v.vals x y)] (w.alloc (.cells (v.vals x y) 33)) _
 rw [hwb]
 exact hp.mono (fun e w' h => by rw [← hwb] at h; exact PutRes.box h)
set_option maxRecDepth 100000 in
theorem putEvent (v : EvM) (x y : Value) (E : Nat → Addr) (w : World) (hg : G6 w E) (hw : 9 ≤ w.heap.size) (hx : FdI w x v.rq.fs) (hy : SlI w y v.dg) (hv : v.ok) :
  Calls Tryz.prog 31 #[.agg (v.vals x y)] w fun e w' => PutRes w w' e (eventW v) E := by
 have hr := eventW_room v
 obtain ⟨wb, hwb⟩ : ∃ wb, w.alloc (.cells (v.vals x y) 35) = wb := ⟨_, rfl⟩
 have hbx : Fr (fun _ => False) w wb := by rw [← hwb]; exact box1 _ _
 have hx' := hx.fr0 hbx
 have hy' := hy.fr0 hbx
 have hp := put_Event (v.vals x y) (eventW v) E wb (hg.fr hbx (fun _ h => h.elim)) (by have := hbx.size; omega) (fun w1 cb b F hC hcs hL hF hf => by
  have hF' : ∀ k, F k → wb.heap.size ≤ k := fun k hk => by have := hF k hk; omega
  refine (whole_Event cw0 v x y cb b wb.heap.size F E w1 hC ⟨hcs 0 _ rfl, ⟨hcs 1 _ rfl, hcs 2 _ rfl, hcs 3 _ rfl, hcs 4 _ rfl, hcs 5 _ rfl, hcs 6 _ rfl, hcs 7 _ rfl, hcs 8 _ rfl, hcs 9 _ rfl, hcs 10 _ rfl⟩, hcs 11 _ rfl, hcs 12 _ rfl⟩ (hx'.fdx hf hF' _ (Nat.le_refl _)) (hy'.bvg hf hF' _ (Nat.le_refl _)) hL hv (cw0_room 231 (by decide))).mono ?_
  rintro e w' ⟨rfl, F', _, _, hC', _, _, _, hs⟩
  exact ⟨rfl, F', by rw [← eventW_eq]; exact hC', hs.mono (fun k j _ h => h.1)⟩) (room_len hr)
 refine (PutEvent_go _ _ _ _ _ _ _ _ _ _ _ _ _ w (fun e w' => PutRes w w' e (eventW v) E) ?_).mono (fun e w' h => h.2)
 show Calls Tryz.prog 74 #[.agg (v.vals x y)] (w.alloc (.cells (v.vals x y) 35)) _
 rw [hwb]
 exact hp.mono (fun e w' h => by rw [← hwb] at h; exact PutRes.box h)
set_option maxRecDepth 100000 in
set_option maxHeartbeats 2000000 in
theorem GetRequest_go (xo : Option Addr) (n xc : Nat) (w : World) (Q : World → Array Value → Value → Prop) (h : Calls Tryz.prog 77 #[.slice xo n xc] (w.alloc (.cells #[.int .u32 0, .int .u32 0, .int .u32 0, .int .u8 0, .int .u32 0, .int .u32 0, .int .u32 0, .int .u32 0, .slice none 0 0, .string ⟨#[]⟩] 30)) fun e w' => ∃ v0 v1 v2 v3 v4 v5 v6 v7 v8 v9 err, e = .returned (.tuple #[.agg #[v0, v1, v2, v3, v4, v5, v6, v7, v8, v9], err]) ∧ (∀ v ∈ ([v0, v1, v2, v3, v4, v5, v6, v7, v8, v9] : List Value), v.oneCell' = true) ∧ Fr (fun _ => False) (w.alloc (.cells #[.int .u32 0, .int .u32 0, .int .u32 0, .int .u8 0, .int .u32 0, .int .u32 0, .int .u32 0, .int .u32 0, .slice none 0 0, .string ⟨#[]⟩] 30)) w' ∧ Q w' #[v0, v1, v2, v3, v4, v5, v6, v7, v8, v9] err) :
  Calls Tryz.prog 34 #[.slice xo n xc] w fun e w' => ∃ vs err, e = .returned (.tuple #[.agg vs, err]) ∧ ∃ w2, Q w2 vs err ∧ Fr (fun k => k = w.heap.size) w2 w' ∧ (∀ F, Stp w2 w' F F (fun k _ => k = w.heap.size)) ∧ Fr (fun _ => False) w w' ∧ w2.heap[w.heap.size]? = some (.cells #[.int .u32 0, .int .u32 0, .int .u32 0, .int .u8 0, .int .u32 0, .int .u32 0, .int .u32 0, .int .u32 0, .slice none 0 0, .string ⟨#[]⟩] 30) := by
 have H := hid h
 clear h
 go_enter Tryz.func34, Tryz.ntmps34
 go_wp2_with fail
 refine (uh H).mono ?_
 rintro e w5 ⟨v0, v1, v2, v3, v4, v5, v6, v7, v8, v9, err, rfl, hone, hf5, hq⟩
 have hst0 : ∀ (a : Addr) (m : Mode) (W : World), (store a v0 m).run Tryz.prog W = stored Tryz.prog W a v0 m := fun _ _ _ => run_store _ _ _ _ _ (hone v0 (by simp))
 have hst1 : ∀ (a : Addr) (m : Mode) (W : World), (store a v1 m).run Tryz.prog W = stored Tryz.prog W a v1 m := fun _ _ _ => run_store _ _ _ _ _ (hone v1 (by simp))
 have hst2 : ∀ (a : Addr) (m : Mode) (W : World), (store a v2 m).run Tryz.prog W = stored Tryz.prog W a v2 m := fun _ _ _ => run_store _ _ _ _ _ (hone v2 (by simp))
 have hst3 : ∀ (a : Addr) (m : Mode) (W : World), (store a v3 m).run Tryz.prog W = stored Tryz.prog W a v3 m := fun _ _ _ => run_store _ _ _ _ _ (hone v3 (by simp))
 have hst4 : ∀ (a : Addr) (m : Mode) (W : World), (store a v4 m).run Tryz.prog W = stored Tryz.prog W a v4 m := fun _ _ _ => run_store _ _ _ _ _ (hone v4 (by simp))
 have hst5 : ∀ (a : Addr) (m : Mode) (W : World), (store a v5 m).run Tryz.prog W = stored Tryz.prog W a v5 m := fun _ _ _ => run_store _ _ _ _ _ (hone v5 (by simp))
 have hst6 : ∀ (a : Addr) (m : Mode) (W : World), (store a v6 m).run Tryz.prog W = stored Tryz.prog W a v6 m := fun _ _ _ => run_store _ _ _ _ _ (hone v6 (by simp))
 have hst7 : ∀ (a : Addr) (m : Mode) (W : World), (store a v7 m).run Tryz.prog W = stored Tryz.prog W a v7 m := fun _ _ _ => run_store _ _ _ _ _ (hone v7 (by simp))
 have hst8 : ∀ (a : Addr) (m : Mode) (W : World), (store a v8 m).run Tryz.prog W = stored Tryz.prog W a v8 m := fun _ _ _ => run_store _ _ _ _ _ (hone v8 (by simp))
 have hst9 : ∀ (a : Addr) (m : Mode) (W : World), (store a v9 m).run Tryz.prog W = stored Tryz.prog W a v9 m := fun _ _ _ => run_store _ _ _ _ _ (hone v9 (by simp))
 have hrb5 : w5.heap[w.heap.size]? = some (.cells #[.int .u32 0, .int .u32 0, .int .u32 0, .int .u8 0, .int .u32 0, .int .u32 0, .int .u32 0, .int .u32 0, .slice none 0 0, .string ⟨#[]⟩] 30) := (hf5.block w.heap.size (by simp) (fun h => h)).trans (heap_alloc_new _ _)
 have hr05 : w5.cell? ⟨w.heap.size, 0, none⟩ = some (.int .u32 0) := by simp [World.cell?, hrb5]
 have hr15 : w5.cell? ⟨w.heap.size, 1, none⟩ = some (.int .u32 0) := by simp [World.cell?, hrb5]
 have hr25 : w5.cell? ⟨w.heap.size, 2, none⟩ = some (.int .u32 0) := by simp [World.cell?, hrb5]
 have hr35 : w5.cell? ⟨w.heap.size, 3, none⟩ = some (.int .u8 0) := by simp [World.cell?, hrb5]
 have hr45 : w5.cell? ⟨w.heap.size, 4, none⟩ = some (.int .u32 0) := by simp [World.cell?, hrb5]
 have hr55 : w5.cell? ⟨w.heap.size, 5, none⟩ = some (.int .u32 0) := by simp [World.cell?, hrb5]
 have hr65 : w5.cell? ⟨w.heap.size, 6, none⟩ = some (.int .u32 0) := by simp [World.cell?, hrb5]
 have hr75 : w5.cell? ⟨w.heap.size, 7, none⟩ = some (.int .u32 0) := by simp [World.cell?, hrb5]
 have hr85 : w5.cell? ⟨w.heap.size, 8, none⟩ = some (.slice none 0 0) := by simp [World.cell?, hrb5]
 have hr95 : w5.cell? ⟨w.heap.size, 9, none⟩ = some (.string ⟨#[]⟩) := by simp [World.cell?, hrb5]
 have hrz5 : ∀ i, w5.frozen? ⟨w.heap.size, i, none⟩ = false := fun i => by simp [World.frozen?, hrb5]
 have hrl5 := ltC hr05
 have H5 := hid (And.intro hf5 (And.intro hq hrb5))
 clear hf5 hq hone hrb5
 go_wp2_with fail
 refine bodyPost_ret (v := .tuple #[.agg #[v0, v1, v2, v3, v4, v5, v6, v7, v8, v9], err]) (by simp [results, Tryz.results34, go_sem, hr05, hr15, hr25, hr35, hr45, hr55, hr65, hr75, hr85, hr95]) rfl ?_
 have hf05 : Fr (fun _ => False) w w5 := (box1 w _).trans (uh H5).1 (fun _ _ h => h)
 exact ⟨_, _, rfl, w5, (uh H5).2.1, ((((((((((Fr.refl (fun k => k = w.heap.size) w5).setCell (.inl rfl) _).setCell (.inl rfl) _).setCell (.inl rfl) _).setCell (.inl rfl) _).setCell (.inl rfl) _).setCell (.inl rfl) _).setCell (.inl rfl) _).setCell (.inl rfl) _).setCell (.inl rfl) _).setCell (.inl rfl) _, fun F => ((((((((((Stp.refl w5 F (fun k _ => k = w.heap.size)).trans (Stp.set w.heap.size 0 _) (fun k j _ h => h.1)).trans (Stp.set w.heap.size 1 _) (fun k j _ h => h.1)).trans (Stp.set w.heap.size 2 _) (fun k j _ h => h.1)).trans (Stp.set w.heap.size 3 _) (fun k j _ h => h.1)).trans (Stp.set w.heap.size 4 _) (fun k j _ h => h.1)).trans (Stp.set w.heap.size 5 _) (fun k j _ h => h.1)).trans (Stp.set w.heap.size 6 _) (fun k j _ h => h.1)).trans (Stp.set w.heap.size 7 _) (fun k j _ h => h.1)).trans (Stp.set w.heap.size 8 _) (fun k j _ h => h.1)).trans (Stp.set w.heap.size 9 _) (fun k j _ h => h.1), ((((((((((hf05).setCell (.inr (Nat.le_refl _)) _).setCell (.inr (Nat.le_refl _)) _).setCell (.inr (Nat.le_refl _)) _).setCell (.inr (Nat.le_refl _)) _).setCell (.inr (Nat.le_refl _)) _).setCell (.inr (Nat.le_refl _)) _).setCell (.inr (Nat.le_refl _)) _).setCell (.inr (Nat.le_refl _)) _).setCell (.inr (Nat.le_refl _)) _).setCell (.inr (Nat.le_refl _)) _, (uh H5).2.2⟩
set_option maxRecDepth 100000 in
set_option maxHeartbeats 2000000 in
theorem GetAnswer_go (xo : Option Addr) (n xc : Nat) (w : World) (Q : World → Array Value → Value → Prop) (h : Calls Tryz.prog 78 #[.slice xo n xc] (w.alloc (.cells #[.int .u32 0, .int .u32 0, .int .u8 0, .int .u32 0, .int .u32 0, .slice none 0 0, .slice none 0 0] 33)) fun e w' => ∃ v0 v1 v2 v3 v4 v5 v6 err, e = .returned (.tuple #[.agg #[v0, v1, v2, v3, v4, v5, v6], err]) ∧ (∀ v ∈ ([v0, v1, v2, v3, v4, v5, v6] : List Value), v.oneCell' = true) ∧ Fr (fun _ => False) (w.alloc (.cells #[.int .u32 0, .int .u32 0, .int .u8 0, .int .u32 0, .int .u32 0, .slice none 0 0, .slice none 0 0] 33)) w' ∧ Q w' #[v0, v1, v2, v3, v4, v5, v6] err) :
  Calls Tryz.prog 35 #[.slice xo n xc] w fun e w' => ∃ vs err, e = .returned (.tuple #[.agg vs, err]) ∧ ∃ w2, Q w2 vs err ∧ Fr (fun k => k = w.heap.size) w2 w' ∧ (∀ F, Stp w2 w' F F (fun k _ => k = w.heap.size)) ∧ Fr (fun _ => False) w w' ∧ w2.heap[w.heap.size]? = some (.cells #[.int .u32 0, .int .u32 0, .int .u8 0, .int .u32 0, .int .u32 0, .slice none 0 0, .slice none 0 0] 33) := by
 have H := hid h
 clear h
 go_enter Tryz.func35, Tryz.ntmps35
 go_wp2_with fail
 refine (uh H).mono ?_
 rintro e w5 ⟨v0, v1, v2, v3, v4, v5, v6, err, rfl, hone, hf5, hq⟩
 have hst0 : ∀ (a : Addr) (m : Mode) (W : World), (store a v0 m).run Tryz.prog W = stored Tryz.prog W a v0 m := fun _ _ _ => run_store _ _ _ _ _ (hone v0 (by simp))
 have hst1 : ∀ (a : Addr) (m : Mode) (W : World), (store a v1 m).run Tryz.prog W = stored Tryz.prog W a v1 m := fun _ _ _ => run_store _ _ _ _ _ (hone v1 (by simp))
 have hst2 : ∀ (a : Addr) (m : Mode) (W : World), (store a v2 m).run Tryz.prog W = stored Tryz.prog W a v2 m := fun _ _ _ => run_store _ _ _ _ _ (hone v2 (by simp))
 have hst3 : ∀ (a : Addr) (m : Mode) (W : World), (store a v3 m).run Tryz.prog W = stored Tryz.prog W a v3 m := fun _ _ _ => run_store _ _ _ _ _ (hone v3 (by simp))
 have hst4 : ∀ (a : Addr) (m : Mode) (W : World), (store a v4 m).run Tryz.prog W = stored Tryz.prog W a v4 m := fun _ _ _ => run_store _ _ _ _ _ (hone v4 (by simp))
 have hst5 : ∀ (a : Addr) (m : Mode) (W : World), (store a v5 m).run Tryz.prog W = stored Tryz.prog W a v5 m := fun _ _ _ => run_store _ _ _ _ _ (hone v5 (by simp))
 have hst6 : ∀ (a : Addr) (m : Mode) (W : World), (store a v6 m).run Tryz.prog W = stored Tryz.prog W a v6 m := fun _ _ _ => run_store _ _ _ _ _ (hone v6 (by simp))
 have hrb5 : w5.heap[w.heap.size]? = some (.cells #[.int .u32 0, .int .u32 0, .int .u8 0, .int .u32 0, .int .u32 0, .slice none 0 0, .slice none 0 0] 33) := (hf5.block w.heap.size (by simp) (fun h => h)).trans (heap_alloc_new _ _)
 have hr05 : w5.cell? ⟨w.heap.size, 0, none⟩ = some (.int .u32 0) := by simp [World.cell?, hrb5]
 have hr15 : w5.cell? ⟨w.heap.size, 1, none⟩ = some (.int .u32 0) := by simp [World.cell?, hrb5]
 have hr25 : w5.cell? ⟨w.heap.size, 2, none⟩ = some (.int .u8 0) := by simp [World.cell?, hrb5]
 have hr35 : w5.cell? ⟨w.heap.size, 3, none⟩ = some (.int .u32 0) := by simp [World.cell?, hrb5]
 have hr45 : w5.cell? ⟨w.heap.size, 4, none⟩ = some (.int .u32 0) := by simp [World.cell?, hrb5]
 have hr55 : w5.cell? ⟨w.heap.size, 5, none⟩ = some (.slice none 0 0) := by simp [World.cell?, hrb5]
 have hr65 : w5.cell? ⟨w.heap.size, 6, none⟩ = some (.slice none 0 0) := by simp [World.cell?, hrb5]
 have hrz5 : ∀ i, w5.frozen? ⟨w.heap.size, i, none⟩ = false := fun i => by simp [World.frozen?, hrb5]
 have hrl5 := ltC hr05
 have H5 := hid (And.intro hf5 (And.intro hq hrb5))
 clear hf5 hq hone hrb5
 go_wp2_with fail
 refine bodyPost_ret (v := .tuple #[.agg #[v0, v1, v2, v3, v4, v5, v6], err]) (by simp [results, Tryz.results35, go_sem, hr05, hr15, hr25, hr35, hr45, hr55, hr65]) rfl ?_
 have hf05 : Fr (fun _ => False) w w5 := (box1 w _).trans (uh H5).1 (fun _ _ h => h)
 exact ⟨_, _, rfl, w5, (uh H5).2.1, (((((((Fr.refl (fun k => k = w.heap.size) w5).setCell (.inl rfl) _).setCell (.inl rfl) _).setCell (.inl rfl) _).setCell (.inl rfl) _).setCell (.inl rfl) _).setCell (.inl rfl) _).setCell (.inl rfl) _, fun F => (((((((Stp.refl w5 F (fun k _ => k = w.heap.size)).trans (Stp.set w.heap.size 0 _) (fun k j _ h => h.1)).trans (Stp.set w.heap.size 1 _) (fun k j _ h => h.1)).trans (Stp.set w.heap.size 2 _) (fun k j _ h => h.1)).trans (Stp.set w.heap.size 3 _) (fun k j _ h => h.1)).trans (Stp.set w.heap.size 4 _) (fun k j _ h => h.1)).trans (Stp.set w.heap.size 5 _) (fun k j _ h => h.1)).trans (Stp.set w.heap.size 6 _) (fun k j _ h => h.1), (((((((hf05).setCell (.inr (Nat.le_refl _)) _).setCell (.inr (Nat.le_refl _)) _).setCell (.inr (Nat.le_refl _)) _).setCell (.inr (Nat.le_refl _)) _).setCell (.inr (Nat.le_refl _)) _).setCell (.inr (Nat.le_refl _)) _).setCell (.inr (Nat.le_refl _)) _, (uh H5).2.2⟩
set_option maxRecDepth 100000 in
set_option maxHeartbeats 2000000 in
theorem GetEvent_go (xo : Option Addr) (n xc : Nat) (w : World) (Q : World → Array Value → Value → Prop) (h : Calls Tryz.prog 79 #[.slice xo n xc] (w.alloc (.cells #[.int .u32 0, .int .u32 0, .int .u32 0, .int .u32 0, .int .u8 0, .int .u32 0, .int .u32 0, .int .u32 0, .int .u32 0, .slice none 0 0, .string ⟨#[]⟩, .int .u8 0, .slice none 0 0] 35)) fun e w' => ∃ v0 v1 v2 v3 v4 v5 v6 v7 v8 v9 v10 v11 v12 err, e = .returned (.tuple #[.agg #[v0, v1, v2, v3, v4, v5, v6, v7, v8, v9, v10, v11, v12], err]) ∧ (∀ v ∈ ([v0, v1, v2, v3, v4, v5, v6, v7, v8, v9, v10, v11, v12] : List Value), v.oneCell' = true) ∧ Fr (fun _ => False) (w.alloc (.cells #[.int .u32 0, .int .u32 0, .int .u32 0, .int .u32 0, .int .u8 0, .int .u32 0, .int .u32 0, .int .u32 0, .int .u32 0, .slice none 0 0, .string ⟨#[]⟩, .int .u8 0, .slice none 0 0] 35)) w' ∧ Q w' #[v0, v1, v2, v3, v4, v5, v6, v7, v8, v9, v10, v11, v12] err) :
  Calls Tryz.prog 36 #[.slice xo n xc] w fun e w' => ∃ vs err, e = .returned (.tuple #[.agg vs, err]) ∧ ∃ w2, Q w2 vs err ∧ Fr (fun k => k = w.heap.size) w2 w' ∧ (∀ F, Stp w2 w' F F (fun k _ => k = w.heap.size)) ∧ Fr (fun _ => False) w w' ∧ w2.heap[w.heap.size]? = some (.cells #[.int .u32 0, .int .u32 0, .int .u32 0, .int .u32 0, .int .u8 0, .int .u32 0, .int .u32 0, .int .u32 0, .int .u32 0, .slice none 0 0, .string ⟨#[]⟩, .int .u8 0, .slice none 0 0] 35) := by
 have H := hid h
 clear h
 go_enter Tryz.func36, Tryz.ntmps36
 go_wp2_with fail
 refine (uh H).mono ?_
 rintro e w5 ⟨v0, v1, v2, v3, v4, v5, v6, v7, v8, v9, v10, v11, v12, err, rfl, hone, hf5, hq⟩
 have hst0 : ∀ (a : Addr) (m : Mode) (W : World), (store a v0 m).run Tryz.prog W = stored Tryz.prog W a v0 m := fun _ _ _ => run_store _ _ _ _ _ (hone v0 (by simp))
 have hst1 : ∀ (a : Addr) (m : Mode) (W : World), (store a v1 m).run Tryz.prog W = stored Tryz.prog W a v1 m := fun _ _ _ => run_store _ _ _ _ _ (hone v1 (by simp))
 have hst2 : ∀ (a : Addr) (m : Mode) (W : World), (store a v2 m).run Tryz.prog W = stored Tryz.prog W a v2 m := fun _ _ _ => run_store _ _ _ _ _ (hone v2 (by simp))
 have hst3 : ∀ (a : Addr) (m : Mode) (W : World), (store a v3 m).run Tryz.prog W = stored Tryz.prog W a v3 m := fun _ _ _ => run_store _ _ _ _ _ (hone v3 (by simp))
 have hst4 : ∀ (a : Addr) (m : Mode) (W : World), (store a v4 m).run Tryz.prog W = stored Tryz.prog W a v4 m := fun _ _ _ => run_store _ _ _ _ _ (hone v4 (by simp))
 have hst5 : ∀ (a : Addr) (m : Mode) (W : World), (store a v5 m).run Tryz.prog W = stored Tryz.prog W a v5 m := fun _ _ _ => run_store _ _ _ _ _ (hone v5 (by simp))
 have hst6 : ∀ (a : Addr) (m : Mode) (W : World), (store a v6 m).run Tryz.prog W = stored Tryz.prog W a v6 m := fun _ _ _ => run_store _ _ _ _ _ (hone v6 (by simp))
 have hst7 : ∀ (a : Addr) (m : Mode) (W : World), (store a v7 m).run Tryz.prog W = stored Tryz.prog W a v7 m := fun _ _ _ => run_store _ _ _ _ _ (hone v7 (by simp))
 have hst8 : ∀ (a : Addr) (m : Mode) (W : World), (store a v8 m).run Tryz.prog W = stored Tryz.prog W a v8 m := fun _ _ _ => run_store _ _ _ _ _ (hone v8 (by simp))
 have hst9 : ∀ (a : Addr) (m : Mode) (W : World), (store a v9 m).run Tryz.prog W = stored Tryz.prog W a v9 m := fun _ _ _ => run_store _ _ _ _ _ (hone v9 (by simp))
 have hst10 : ∀ (a : Addr) (m : Mode) (W : World), (store a v10 m).run Tryz.prog W = stored Tryz.prog W a v10 m := fun _ _ _ => run_store _ _ _ _ _ (hone v10 (by simp))
 have hst11 : ∀ (a : Addr) (m : Mode) (W : World), (store a v11 m).run Tryz.prog W = stored Tryz.prog W a v11 m := fun _ _ _ => run_store _ _ _ _ _ (hone v11 (by simp))
 have hst12 : ∀ (a : Addr) (m : Mode) (W : World), (store a v12 m).run Tryz.prog W = stored Tryz.prog W a v12 m := fun _ _ _ => run_store _ _ _ _ _ (hone v12 (by simp))
 have hrb5 : w5.heap[w.heap.size]? = some (.cells #[.int .u32 0, .int .u32 0, .int .u32 0, .int .u32 0, .int .u8 0, .int .u32 0, .int .u32 0, .int .u32 0, .int .u32 0, .slice none 0 0, .string ⟨#[]⟩, .int .u8 0, .slice none 0 0] 35) := (hf5.block w.heap.size (by simp) (fun h => h)).trans (heap_alloc_new _ _)
 have hr05 : w5.cell? ⟨w.heap.size, 0, none⟩ = some (.int .u32 0) := by simp [World.cell?, hrb5]
 have hr15 : w5.cell? ⟨w.heap.size, 1, none⟩ = some (.int .u32 0) := by simp [World.cell?, hrb5]
 have hr25 : w5.cell? ⟨w.heap.size, 2, none⟩ = some (.int .u32 0) := by simp [World.cell?, hrb5]
 have hr35 : w5.cell? ⟨w.heap.size, 3, none⟩ = some (.int .u32 0) := by simp [World.cell?, hrb5]
 have hr45 : w5.cell? ⟨w.heap.size, 4, none⟩ = some (.int .u8 0) := by simp [World.cell?, hrb5]
 have hr55 : w5.cell? ⟨w.heap.size, 5, none⟩ = some (.int .u32 0) := by simp [World.cell?, hrb5]
 have hr65 : w5.cell? ⟨w.heap.size, 6, none⟩ = some (.int .u32 0) := by simp [World.cell?, hrb5]
 have hr75 : w5.cell? ⟨w.heap.size, 7, none⟩ = some (.int .u32 0) := by simp [World.cell?, hrb5]
 have hr85 : w5.cell? ⟨w.heap.size, 8, none⟩ = some (.int .u32 0) := by simp [World.cell?, hrb5]
 have hr95 : w5.cell? ⟨w.heap.size, 9, none⟩ = some (.slice none 0 0) := by simp [World.cell?, hrb5]
 have hr105 : w5.cell? ⟨w.heap.size, 10, none⟩ = some (.string ⟨#[]⟩) := by simp [World.cell?, hrb5]
 have hr115 : w5.cell? ⟨w.heap.size, 11, none⟩ = some (.int .u8 0) := by simp [World.cell?, hrb5]
 have hr125 : w5.cell? ⟨w.heap.size, 12, none⟩ = some (.slice none 0 0) := by simp [World.cell?, hrb5]
 have hrz5 : ∀ i, w5.frozen? ⟨w.heap.size, i, none⟩ = false := fun i => by simp [World.frozen?, hrb5]
 have hrl5 := ltC hr05
 have H5 := hid (And.intro hf5 (And.intro hq hrb5))
 clear hf5 hq hone hrb5
 go_wp2_with fail
 refine bodyPost_ret (v := .tuple #[.agg #[v0, v1, v2, v3, v4, v5, v6, v7, v8, v9, v10, v11, v12], err]) (by simp [results, Tryz.results36, go_sem, hr05, hr15, hr25, hr35, hr45, hr55, hr65, hr75, hr85, hr95, hr105, hr115, hr125]) rfl ?_
 have hf05 : Fr (fun _ => False) w w5 := (box1 w _).trans (uh H5).1 (fun _ _ h => h)
 exact ⟨_, _, rfl, w5, (uh H5).2.1, (((((((((((((Fr.refl (fun k => k = w.heap.size) w5).setCell (.inl rfl) _).setCell (.inl rfl) _).setCell (.inl rfl) _).setCell (.inl rfl) _).setCell (.inl rfl) _).setCell (.inl rfl) _).setCell (.inl rfl) _).setCell (.inl rfl) _).setCell (.inl rfl) _).setCell (.inl rfl) _).setCell (.inl rfl) _).setCell (.inl rfl) _).setCell (.inl rfl) _, fun F => (((((((((((((Stp.refl w5 F (fun k _ => k = w.heap.size)).trans (Stp.set w.heap.size 0 _) (fun k j _ h => h.1)).trans (Stp.set w.heap.size 1 _) (fun k j _ h => h.1)).trans (Stp.set w.heap.size 2 _) (fun k j _ h => h.1)).trans (Stp.set w.heap.size 3 _) (fun k j _ h => h.1)).trans (Stp.set w.heap.size 4 _) (fun k j _ h => h.1)).trans (Stp.set w.heap.size 5 _) (fun k j _ h => h.1)).trans (Stp.set w.heap.size 6 _) (fun k j _ h => h.1)).trans (Stp.set w.heap.size 7 _) (fun k j _ h => h.1)).trans (Stp.set w.heap.size 8 _) (fun k j _ h => h.1)).trans (Stp.set w.heap.size 9 _) (fun k j _ h => h.1)).trans (Stp.set w.heap.size 10 _) (fun k j _ h => h.1)).trans (Stp.set w.heap.size 11 _) (fun k j _ h => h.1)).trans (Stp.set w.heap.size 12 _) (fun k j _ h => h.1), (((((((((((((hf05).setCell (.inr (Nat.le_refl _)) _).setCell (.inr (Nat.le_refl _)) _).setCell (.inr (Nat.le_refl _)) _).setCell (.inr (Nat.le_refl _)) _).setCell (.inr (Nat.le_refl _)) _).setCell (.inr (Nat.le_refl _)) _).setCell (.inr (Nat.le_refl _)) _).setCell (.inr (Nat.le_refl _)) _).setCell (.inr (Nat.le_refl _)) _).setCell (.inr (Nat.le_refl _)) _).setCell (.inr (Nat.le_refl _)) _).setCell (.inr (Nat.le_refl _)) _).setCell (.inr (Nat.le_refl _)) _, (uh H5).2.2⟩
set_option maxRecDepth 100000 in
set_option maxHeartbeats 2000000 in
theorem GetHead_go (xo : Option Addr) (n xc : Nat) (w : World) (Q : World → Array Value → Value → Prop) (h : Calls Tryz.prog 48 #[.slice xo n xc] (w.alloc (.cells #[.int .u32 0, .slice none 0 0] 25)) fun e w' => ∃ v0 v1 err, e = .returned (.tuple #[.agg #[v0, v1], err]) ∧ (∀ v ∈ ([v0, v1] : List Value), v.oneCell' = true) ∧ Fr (fun _ => False) (w.alloc (.cells #[.int .u32 0, .slice none 0 0] 25)) w' ∧ Q w' #[v0, v1] err) :
  Calls Tryz.prog 22 #[.slice xo n xc] w fun e w' => ∃ vs err, e = .returned (.tuple #[.agg vs, err]) ∧ ∃ w2, Q w2 vs err ∧ Fr (fun k => k = w.heap.size) w2 w' ∧ (∀ F, Stp w2 w' F F (fun k _ => k = w.heap.size)) ∧ Fr (fun _ => False) w w' ∧ w2.heap[w.heap.size]? = some (.cells #[.int .u32 0, .slice none 0 0] 25) := by
 have H := hid h
 clear h
 go_enter Tryz.func22, Tryz.ntmps22
 go_wp2_with fail
 refine (uh H).mono ?_
 rintro e w5 ⟨v0, v1, err, rfl, hone, hf5, hq⟩
 have hst0 : ∀ (a : Addr) (m : Mode) (W : World), (store a v0 m).run Tryz.prog W = stored Tryz.prog W a v0 m := fun _ _ _ => run_store _ _ _ _ _ (hone v0 (by simp))
 have hst1 : ∀ (a : Addr) (m : Mode) (W : World), (store a v1 m).run Tryz.prog W = stored Tryz.prog W a v1 m := fun _ _ _ => run_store _ _ _ _ _ (hone v1 (by simp))
 have hrb5 : w5.heap[w.heap.size]? = some (.cells #[.int .u32 0, .slice none 0 0] 25) := (hf5.block w.heap.size (by simp) (fun h => h)).trans (heap_alloc_new _ _)
 have hr05 : w5.cell? ⟨w.heap.size, 0, none⟩ = some (.int .u32 0) := by simp [World.cell?, hrb5]
 have hr15 : w5.cell? ⟨w.heap.size, 1, none⟩ = some (.slice none 0 0) := by simp [World.cell?, hrb5]
 have hrz5 : ∀ i, w5.frozen? ⟨w.heap.size, i, none⟩ = false := fun i => by simp [World.frozen?, hrb5]
 have hrl5 := ltC hr05
 have H5 := hid (And.intro hf5 (And.intro hq hrb5))
 clear hf5 hq hone hrb5
 go_wp2_with fail
 refine bodyPost_ret (v := .tuple #[.agg #[v0, v1], err]) (by simp [results, Tryz.results22, go_sem, hr05, hr15]) rfl ?_
 have hf05 : Fr (fun _ => False) w w5 := (box1 w _).trans (uh H5).1 (fun _ _ h => h)
 exact ⟨_, _, rfl, w5, (uh H5).2.1, ((Fr.refl (fun k => k = w.heap.size) w5).setCell (.inl rfl) _).setCell (.inl rfl) _, fun F => ((Stp.refl w5 F (fun k _ => k = w.heap.size)).trans (Stp.set w.heap.size 0 _) (fun k j _ h => h.1)).trans (Stp.set w.heap.size 1 _) (fun k j _ h => h.1), ((hf05).setCell (.inr (Nat.le_refl _)) _).setCell (.inr (Nat.le_refl _)) _, (uh H5).2.2⟩
set_option maxRecDepth 100000 in
set_option maxHeartbeats 2000000 in
theorem GetSigned_go (xo : Option Addr) (n xc : Nat) (w : World) (Q : World → Array Value → Value → Prop) (h : Calls Tryz.prog 80 #[.slice xo n xc] (w.alloc (.cells #[.int .u32 0, .slice none 0 0, .int .u32 0, .slice none 0 0] 37)) fun e w' => ∃ v0 v1 v2 v3 err, e = .returned (.tuple #[.agg #[v0, v1, v2, v3], err]) ∧ (∀ v ∈ ([v0, v1, v2, v3] : List Value), v.oneCell' = true) ∧ Fr (fun _ => False) (w.alloc (.cells #[.int .u32 0, .slice none 0 0, .int .u32 0, .slice none 0 0] 37)) w' ∧ Q w' #[v0, v1, v2, v3] err) :
  Calls Tryz.prog 37 #[.slice xo n xc] w fun e w' => ∃ vs err, e = .returned (.tuple #[.agg vs, err]) ∧ ∃ w2, Q w2 vs err ∧ Fr (fun k => k = w.heap.size) w2 w' ∧ (∀ F, Stp w2 w' F F (fun k _ => k = w.heap.size)) ∧ Fr (fun _ => False) w w' ∧ w2.heap[w.heap.size]? = some (.cells #[.int .u32 0, .slice none 0 0, .int .u32 0, .slice none 0 0] 37) := by
 have H := hid h
 clear h
 go_enter Tryz.func37, Tryz.ntmps37
 go_wp2_with fail
 refine (uh H).mono ?_
 rintro e w5 ⟨v0, v1, v2, v3, err, rfl, hone, hf5, hq⟩
 have hst0 : ∀ (a : Addr) (m : Mode) (W : World), (store a v0 m).run Tryz.prog W = stored Tryz.prog W a v0 m := fun _ _ _ => run_store _ _ _ _ _ (hone v0 (by simp))
 have hst1 : ∀ (a : Addr) (m : Mode) (W : World), (store a v1 m).run Tryz.prog W = stored Tryz.prog W a v1 m := fun _ _ _ => run_store _ _ _ _ _ (hone v1 (by simp))
 have hst2 : ∀ (a : Addr) (m : Mode) (W : World), (store a v2 m).run Tryz.prog W = stored Tryz.prog W a v2 m := fun _ _ _ => run_store _ _ _ _ _ (hone v2 (by simp))
 have hst3 : ∀ (a : Addr) (m : Mode) (W : World), (store a v3 m).run Tryz.prog W = stored Tryz.prog W a v3 m := fun _ _ _ => run_store _ _ _ _ _ (hone v3 (by simp))
 have hrb5 : w5.heap[w.heap.size]? = some (.cells #[.int .u32 0, .slice none 0 0, .int .u32 0, .slice none 0 0] 37) := (hf5.block w.heap.size (by simp) (fun h => h)).trans (heap_alloc_new _ _)
 have hr05 : w5.cell? ⟨w.heap.size, 0, none⟩ = some (.int .u32 0) := by simp [World.cell?, hrb5]
 have hr15 : w5.cell? ⟨w.heap.size, 1, none⟩ = some (.slice none 0 0) := by simp [World.cell?, hrb5]
 have hr25 : w5.cell? ⟨w.heap.size, 2, none⟩ = some (.int .u32 0) := by simp [World.cell?, hrb5]
 have hr35 : w5.cell? ⟨w.heap.size, 3, none⟩ = some (.slice none 0 0) := by simp [World.cell?, hrb5]
 have hrz5 : ∀ i, w5.frozen? ⟨w.heap.size, i, none⟩ = false := fun i => by simp [World.frozen?, hrb5]
 have hrl5 := ltC hr05
 have H5 := hid (And.intro hf5 (And.intro hq hrb5))
 clear hf5 hq hone hrb5
 go_wp2_with fail
 refine bodyPost_ret (v := .tuple #[.agg #[v0, v1, v2, v3], err]) (by simp [results, Tryz.results37, go_sem, hr05, hr15, hr25, hr35]) rfl ?_
 have hf05 : Fr (fun _ => False) w w5 := (box1 w _).trans (uh H5).1 (fun _ _ h => h)
 exact ⟨_, _, rfl, w5, (uh H5).2.1, ((((Fr.refl (fun k => k = w.heap.size) w5).setCell (.inl rfl) _).setCell (.inl rfl) _).setCell (.inl rfl) _).setCell (.inl rfl) _, fun F => ((((Stp.refl w5 F (fun k _ => k = w.heap.size)).trans (Stp.set w.heap.size 0 _) (fun k j _ h => h.1)).trans (Stp.set w.heap.size 1 _) (fun k j _ h => h.1)).trans (Stp.set w.heap.size 2 _) (fun k j _ h => h.1)).trans (Stp.set w.heap.size 3 _) (fun k j _ h => h.1), ((((hf05).setCell (.inr (Nat.le_refl _)) _).setCell (.inr (Nat.le_refl _)) _).setCell (.inr (Nat.le_refl _)) _).setCell (.inr (Nat.le_refl _)) _, (uh H5).2.2⟩
set_option maxRecDepth 100000 in
set_option maxHeartbeats 2000000 in
theorem GetProof_go (xo : Option Addr) (n xc : Nat) (w : World) (Q : World → Array Value → Value → Prop) (h : Calls Tryz.prog 81 #[.slice xo n xc] (w.alloc (.cells #[.slice none 0 0] 40)) fun e w' => ∃ v0 err, e = .returned (.tuple #[.agg #[v0], err]) ∧ (∀ v ∈ ([v0] : List Value), v.oneCell' = true) ∧ Fr (fun _ => False) (w.alloc (.cells #[.slice none 0 0] 40)) w' ∧ Q w' #[v0] err) :
  Calls Tryz.prog 38 #[.slice xo n xc] w fun e w' => ∃ vs err, e = .returned (.tuple #[.agg vs, err]) ∧ ∃ w2, Q w2 vs err ∧ Fr (fun k => k = w.heap.size) w2 w' ∧ (∀ F, Stp w2 w' F F (fun k _ => k = w.heap.size)) ∧ Fr (fun _ => False) w w' ∧ w2.heap[w.heap.size]? = some (.cells #[.slice none 0 0] 40) := by
 have H := hid h
 clear h
 go_enter Tryz.func38, Tryz.ntmps38
 go_wp2_with fail
 refine (uh H).mono ?_
 rintro e w5 ⟨v0, err, rfl, hone, hf5, hq⟩
 have hst0 : ∀ (a : Addr) (m : Mode) (W : World), (store a v0 m).run Tryz.prog W = stored Tryz.prog W a v0 m := fun _ _ _ => run_store _ _ _ _ _ (hone v0 (by simp))
 have hrb5 : w5.heap[w.heap.size]? = some (.cells #[.slice none 0 0] 40) := (hf5.block w.heap.size (by simp) (fun h => h)).trans (heap_alloc_new _ _)
 have hr05 : w5.cell? ⟨w.heap.size, 0, none⟩ = some (.slice none 0 0) := by simp [World.cell?, hrb5]
 have hrz5 : ∀ i, w5.frozen? ⟨w.heap.size, i, none⟩ = false := fun i => by simp [World.frozen?, hrb5]
 have hrl5 := ltC hr05
 have H5 := hid (And.intro hf5 (And.intro hq hrb5))
 clear hf5 hq hone hrb5
 go_wp2_with fail
 refine bodyPost_ret (v := .tuple #[.agg #[v0], err]) (by simp [results, Tryz.results38, go_sem, hr05]) rfl ?_
 have hf05 : Fr (fun _ => False) w w5 := (box1 w _).trans (uh H5).1 (fun _ _ h => h)
 exact ⟨_, _, rfl, w5, (uh H5).2.1, (Fr.refl (fun k => k = w.heap.size) w5).setCell (.inl rfl) _, fun F => (Stp.refl w5 F (fun k _ => k = w.heap.size)).trans (Stp.set w.heap.size 0 _) (fun k j _ h => h.1), (hf05).setCell (.inr (Nat.le_refl _)) _, (uh H5).2.2⟩
end Go.Proofs.YtlphcgfmjhbeoaaGreatDoor
