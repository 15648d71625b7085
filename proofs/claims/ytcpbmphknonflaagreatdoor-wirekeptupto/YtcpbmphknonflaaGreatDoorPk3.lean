import Derived.Test.YtcpbmphknonflaaGreatDoorPk2
import Derived.Deep.Cut
import Derived.Deep.CutRange
import Derived.Test.YtcpbmphknonflaaGreatDoorSen
import Derived.Test.YtcpbmphknonflaaGreatDoorCnt
import Derived.Deep.Slices
import Derived.Deep.DeepHandedRow
import Derived.Deep.DeepWitnessRowRef
import Derived.Test.YtcpbmphknonflaaGreatDoorCards
import Derived.Test.YtcpbmphknonflaaGreatDoorTie
namespace Go.Proofs.YtcpbmphknonflaaGreatDoor
open Go.RowKit

set_option maxRecDepth 100000 in
theorem PutHead_go (v0 v1 : Value) (w : World) (Q : Ending → World → Prop) (h : Calls Tryz.prog 53 #[.agg #[v0, v1]] (w.alloc (.cells #[v0, v1] 25)) fun e w' => (∃ v err, e = .returned (.tuple #[v, err])) ∧ Q e w') : Calls Tryz.prog 27 #[.agg #[v0, v1]] w fun e w' => (∃ v err, e = .returned (.tuple #[v, err])) ∧ Q e w' := by
  have H := hide h
  clear h
  go_enter Tryz.func27, Tryz.ntmps27
  go_wp2_with fail
  refine (unhide H).mono ?_
  rintro e w' ⟨⟨v, err, rfl⟩, hr⟩
  have HR := hide hr
  clear hr
  go_wp2_with fail
  go_ret2
  exact ⟨⟨v, err, rfl⟩, unhide HR⟩
set_option maxRecDepth 100000 in
theorem PutSigned_go (v0 v1 v2 v3 : Value) (w : World) (Q : Ending → World → Prop) (h : Calls Tryz.prog 51 #[.agg #[v0, v1, v2, v3]] (w.alloc (.cells #[v0, v1, v2, v3] 37)) fun e w' => (∃ v err, e = .returned (.tuple #[v, err])) ∧ Q e w') : Calls Tryz.prog 25 #[.agg #[v0, v1, v2, v3]] w fun e w' => (∃ v err, e = .returned (.tuple #[v, err])) ∧ Q e w' := by
  have H := hide h
  clear h
  go_enter Tryz.func25, Tryz.ntmps25
  go_wp2_with fail
  refine (unhide H).mono ?_
  rintro e w' ⟨⟨v, err, rfl⟩, hr⟩
  have HR := hide hr
  clear hr
  go_wp2_with fail
  go_ret2
  exact ⟨⟨v, err, rfl⟩, unhide HR⟩
set_option maxRecDepth 100000 in
theorem PutProof_go (v0 : Value) (w : World) (Q : Ending → World → Prop) (h : Calls Tryz.prog 49 #[.agg #[v0]] (w.alloc (.cells #[v0] 40)) fun e w' => (∃ v err, e = .returned (.tuple #[v, err])) ∧ Q e w') : Calls Tryz.prog 23 #[.agg #[v0]] w fun e w' => (∃ v err, e = .returned (.tuple #[v, err])) ∧ Q e w' := by
  have H := hide h
  clear h
  go_enter Tryz.func23, Tryz.ntmps23
  go_wp2_with fail
  refine (unhide H).mono ?_
  rintro e w' ⟨⟨v, err, rfl⟩, hr⟩
  have HR := hide hr
  clear hr
  go_wp2_with fail
  go_ret2
  exact ⟨⟨v, err, rfl⟩, unhide HR⟩
set_option maxRecDepth 100000 in
theorem PutRequest_go (v0 v1 v2 v3 v4 v5 v6 v7 v8 v9 : Value) (w : World) (Q : Ending → World → Prop) (h : Calls Tryz.prog 35 #[.agg #[v0, v1, v2, v3, v4, v5, v6, v7, v8, v9]] (w.alloc (.cells #[v0, v1, v2, v3, v4, v5, v6, v7, v8, v9] 30)) fun e w' => (∃ v err, e = .returned (.tuple #[v, err])) ∧ Q e w') : Calls Tryz.prog 15 #[.agg #[v0, v1, v2, v3, v4, v5, v6, v7, v8, v9]] w fun e w' => (∃ v err, e = .returned (.tuple #[v, err])) ∧ Q e w' := by
  have H := hide h
  clear h
  go_enter Tryz.func15, Tryz.ntmps15
  go_wp2_with fail
  refine (unhide H).mono ?_
  rintro e w' ⟨⟨v, err, rfl⟩, hr⟩
  have HR := hide hr
  clear hr
  go_wp2_with fail
  go_ret2
  exact ⟨⟨v, err, rfl⟩, unhide HR⟩
set_option maxRecDepth 100000 in
theorem PutAnswer_go (v0 v1 v2 v3 v4 v5 v6 : Value) (w : World) (Q : Ending → World → Prop) (h : Calls Tryz.prog 36 #[.agg #[v0, v1, v2, v3, v4, v5, v6]] (w.alloc (.cells #[v0, v1, v2, v3, v4, v5, v6] 33)) fun e w' => (∃ v err, e = .returned (.tuple #[v, err])) ∧ Q e w') : Calls Tryz.prog 16 #[.agg #[v0, v1, v2, v3, v4, v5, v6]] w fun e w' => (∃ v err, e = .returned (.tuple #[v, err])) ∧ Q e w' := by
  have H := hide h
  clear h
  go_enter Tryz.func16, Tryz.ntmps16
  go_wp2_with fail
  refine (unhide H).mono ?_
  rintro e w' ⟨⟨v, err, rfl⟩, hr⟩
  have HR := hide hr
  clear hr
  go_wp2_with fail
  go_ret2
  exact ⟨⟨v, err, rfl⟩, unhide HR⟩
set_option maxRecDepth 100000 in
theorem PutEvent_go (v0 v1 v2 v3 v4 v5 v6 v7 v8 v9 v10 v11 v12 : Value) (w : World) (Q : Ending → World → Prop) (h : Calls Tryz.prog 80 #[.agg #[v0, v1, v2, v3, v4, v5, v6, v7, v8, v9, v10, v11, v12]] (w.alloc (.cells #[v0, v1, v2, v3, v4, v5, v6, v7, v8, v9, v10, v11, v12] 35)) fun e w' => (∃ v err, e = .returned (.tuple #[v, err])) ∧ Q e w') : Calls Tryz.prog 37 #[.agg #[v0, v1, v2, v3, v4, v5, v6, v7, v8, v9, v10, v11, v12]] w fun e w' => (∃ v err, e = .returned (.tuple #[v, err])) ∧ Q e w' := by
  have H := hide h
  clear h
  go_enter Tryz.func37, Tryz.ntmps37
  go_wp2_with fail
  refine (unhide H).mono ?_
  rintro e w' ⟨⟨v, err, rfl⟩, hr⟩
  have HR := hide hr
  clear hr
  go_wp2_with fail
  go_ret2
  exact ⟨⟨v, err, rfl⟩, unhide HR⟩
end Go.Proofs.YtcpbmphknonflaaGreatDoor

namespace Go.Proofs.YtcpbmphknonflaaGreatDoor
open Go.RowKit

def CS.wq : CS → Wq
  | .wr s => s
  | .rd _ => ⟨ByteArray.empty, [], none⟩
def CS.rq : CS → Q
  | .wr _ => ⟨ByteArray.empty, [], 0, 0, none⟩
  | .rd q => q
/-- A new writer, a new reader. -/
def cw0 : CS := .wr ⟨ByteArray.empty, [], none⟩
def cr0 (l : List Nat) : CS := .rd ⟨ByteArray.empty, l, 0, 0, none⟩
theorem cw0_room (n : Nat) (h : n ≤ 1000000) : cw0.room n := by simp only [cw0, CS.room, CS.len, List.length_nil]; omega
theorem room_len {s : Wq} {n : Nat} (h : (CS.wr s).room n) : s.l.length ≤ 140737488355328 := by simp only [CS.room, CS.len] at h; omega
/-- Bytes that come in: they lie in memory that was there. -/
structure SlI (w : World) (x : Value) (l : List Nat) : Prop where
  src : Src w x l
  lt : ∀ g o m c, x = .slice (some ⟨g, o, none⟩) m c → g < w.heap.size
  len : l.length < 9223372036854775808
theorem SlI.bvg {w w1 : World} {x : Value} {l : List Nat} {F : Nat → Prop} (h : SlI w x l) (hf : Fr (fun _ => False) w w1) (hF : ∀ k, F k → w.heap.size ≤ k) (g : Nat) (hg : w.heap.size ≤ g) : BVg w1 x l F g :=
  ⟨⟨h.src.fr hf (fun _ _ _ _ _ h => h), fun k o m c e => ⟨Nat.lt_of_lt_of_le (h.lt k o m c e) hf.size, fun hx => by have := hF k hx; have := h.lt k o m c e; omega⟩⟩, fun k o m c e => by have := h.lt k o m c e; omega, h.len⟩
def headW (size : Nat) (root : List Nat) : Wq := ((cw0.pForm 4).pHead (size, root)).1.wq
def headR (l : List Nat) : CS × Nat × List Nat := ((cr0 l).pForm 4).pHead (0, [])
def signedW (v : (Nat × List Nat) × Nat × List Nat) : Wq := ((cw0.pForm 5).pSigned v).1.wq
def signedR (l : List Nat) : CS × (Nat × List Nat) × Nat × List Nat := ((cr0 l).pForm 5).pSigned ((0, []), 0, [])
def proofW (ps : List (List Nat)) : Wq := ((cw0.pForm 6).pProof ps).1.wq
def proofR (l : List Nat) : CS × List (List Nat) := ((cr0 l).pForm 6).pProof []
theorem SlI.fr0 {w w1 : World} {x : Value} {l : List Nat} (h : SlI w x l) (hf : Fr (fun _ => False) w w1) : SlI w1 x l :=
  ⟨h.src.fr hf (fun _ _ _ _ _ h => h), fun k o m c e => Nat.lt_of_lt_of_le (h.lt k o m c e) hf.size, h.len⟩
/-- What PutX tells. -/
def PutRes (w w' : World) (e : Ending) (s : Wq) (E : Nat → Addr) : Prop := ∃ v err, e = .returned (.tuple #[v, err]) ∧ w'.ownsRow w.heap.size 5 1 v s.out.length (cellsOf s.out) ∧ ErrV w' err (ftV s.f) E ∧ Fr (fun _ => False) w w'
theorem PutRes.box {w w' : World} {e : Ending} {s : Wq} {E : Nat → Addr} {vs : Array Value} {t : TypeId} (h : PutRes (w.alloc (.cells vs t)) w' e s E) : (∃ v err, e = .returned (.tuple #[v, err])) ∧ PutRes w w' e s E := by
  obtain ⟨v, err, rfl, h1, h2, h3⟩ := h
  have hb := box1 w (.cells vs t)
  exact ⟨⟨v, err, rfl⟩, v, err, rfl, ownsRow_base h1 hb.size, h2, hb.trans h3 (fun _ _ h => h)⟩
/-- PutHead. -/
theorem putHead (size : Nat) (root : List Nat) (x : Value) (E : Nat → Addr) (w : World) (hg : G6 w E) (hw : 9 ≤ w.heap.size) (hx : SlI w x root) (hsz : size < 4294967296) :
    Calls Tryz.prog 27 #[.agg #[.int .u32 (size : Nat), x]] w fun e w' => PutRes w w' e (headW size root) E := by
  have hr : (CS.wr (headW size root)).room 0 := CS.pHead_room (n := 0) (CS.pForm_room (cw0_room 3 (by decide)) 4) (size, root)
  obtain ⟨wb, hwb⟩ : ∃ wb, w.alloc (.cells #[.int .u32 (size : Nat), x] 25) = wb := ⟨_, rfl⟩
  have hbx : Fr (fun _ => False) w wb := by rw [← hwb]; exact box1 _ _
  have hx' := hx.fr0 hbx
  have hp := put_Head #[.int .u32 (size : Nat), x] (headW size root) E wb (hg.fr hbx (fun _ h => h.elim)) (by have := hbx.size; omega) (fun w1 cb b F hC hcs hL hF hf => by
    refine (whole_Head cw0 size root x cb b wb.heap.size F E w1 hC (hcs 0 _ rfl) (hcs 1 _ rfl) (hx'.bvg hf (fun k hk => by have := hF k hk; omega) _ (Nat.le_refl _)) hL hsz (cw0_room 3 (by decide))).mono ?_
    rintro e w' ⟨rfl, F', hC', _, x', _, _, hs⟩
    exact ⟨rfl, F', hC', hs.mono (fun k j _ h => h.1)⟩) (room_len hr)
  refine (PutHead_go _ _ w (fun e w' => PutRes w w' e (headW size root) E) ?_).mono (fun e w' h => h.2)
  rw [hwb]
  exact hp.mono (fun e w' h => by rw [← hwb] at h; exact PutRes.box h)
/-- PutSigned. -/
theorem putSigned (size key : Nat) (root sig : List Nat) (x y : Value) (E : Nat → Addr) (w : World) (hg : G6 w E) (hw : 9 ≤ w.heap.size) (hx : SlI w x root) (hy : SlI w y sig) (hsz : size < 4294967296) (hkey : key < 4294967296) :
    Calls Tryz.prog 25 #[.agg #[.int .u32 (size : Nat), x, .int .u32 (key : Nat), y]] w fun e w' => PutRes w w' e (signedW ((size, root), key, sig)) E := by
  have hr : (CS.wr (signedW ((size, root), key, sig))).room 0 := CS.pByt_room (n := 0) (CS.pU32_room (n := 1) (CS.pHead_room (n := 2) (CS.pForm_room (cw0_room 5 (by decide)) 5) (size, root)) _ _ _) _ _ _ _ (fun e => by have := szN_fit [] 0 32768 (fun v : List Nat => v.length) sig e; show sig.length ≤ 32768; omega)
  obtain ⟨wb, hwb⟩ : ∃ wb, w.alloc (.cells #[.int .u32 (size : Nat), x, .int .u32 (key : Nat), y] 37) = wb := ⟨_, rfl⟩
  have hbx : Fr (fun _ => False) w wb := by rw [← hwb]; exact box1 _ _
  have hx' := hx.fr0 hbx
  have hy' := hy.fr0 hbx
  have hp := put_Signed #[.int .u32 (size : Nat), x, .int .u32 (key : Nat), y] (signedW ((size, root), key, sig)) E wb (hg.fr hbx (fun _ h => h.elim)) (by have := hbx.size; omega) (fun w1 cb b F hC hcs hL hF hf => by
    refine (whole_Signed cw0 size key root sig x y cb b wb.heap.size F E w1 hC (hcs 0 _ rfl) (hcs 1 _ rfl) (hcs 2 _ rfl) (hcs 3 _ rfl) (hx'.bvg hf (fun k hk => by have := hF k hk; omega) _ (Nat.le_refl _)) (hy'.bvg hf (fun k hk => by have := hF k hk; omega) _ (Nat.le_refl _)) hL hsz hkey (cw0_room 5 (by decide))).mono ?_
    rintro e w' ⟨rfl, F', hC', _, _, x', y', _, _, _, _, hs⟩
    exact ⟨rfl, F', hC', hs.mono (fun k j _ h => h.1)⟩) (room_len hr)
  refine (PutSigned_go _ _ _ _ w (fun e w' => PutRes w w' e (signedW ((size, root), key, sig)) E) ?_).mono (fun e w' h => h.2)
  rw [hwb]
  exact hp.mono (fun e w' h => by rw [← hwb] at h; exact PutRes.box h)
theorem loopW_wr (ps : List (List Nat)) : ∀ (s : Wq), ∃ s', loopW (fun c v => c.pHash n_hash v) (.wr s) ps = .wr s' := by
  induction ps with
  | nil => intro s; exact ⟨s, rfl⟩
  | cons p ps ih => intro s; exact ih _
theorem loopW_room (ps : List (List Nat)) : ∀ {c : CS} {n : Nat}, c.room (n + ps.length) → (loopW (fun c v => c.pHash n_hash v) c ps).room n := by
  induction ps with
  | nil => intro c n h; exact h
  | cons p ps ih => intro c n h; exact ih (CS.pHash_room (n := n + ps.length) (by simpa [Nat.add_assoc] using h) _ _)
theorem proofW_eq (ps : List (List Nat)) : ((cw0.pForm 6).pProof ps).1 = .wr (proofW ps) := by
  obtain ⟨s, hs⟩ : ∃ s, ((cw0.pForm 6).pProof ps).1 = .wr s := loopW_wr _ _
  unfold proofW
  rw [hs]
  rfl
/-- Slices of bytes that come in. -/
structure PcI (w : World) (xo : Option Addr) (xc : Nat) (ps : List (List Nat)) : Prop where
  cap : ps.length ≤ xc
  len : ps.length < 9223372036854775808
  el : ∀ (j : Nat) p, ps[j]? = some p → ∃ g o x, xo = some ⟨g, o, none⟩ ∧ w.cell? ⟨g, o + j, none⟩ = some x ∧ SlI w x p
theorem PcI.pcv {w w1 : World} {xo : Option Addr} {xc : Nat} {ps : List (List Nat)} {F : Nat → Prop} (h : PcI w xo xc ps) (hf : Fr (fun _ => False) w w1) (hF : ∀ k, F k → w.heap.size ≤ k) : PcV w1 xo xc ps F := by
  refine ⟨h.cap, fun j p hp => ?_⟩
  obtain ⟨g, o, x, h1, h2, h3⟩ := h.el j p hp
  have hlt := lt_of_cell h2
  exact ⟨g, o, x, h1, fun hx => by have := hF g hx; simp only at hlt; omega, (hf.cell (p := ⟨g, o + j, none⟩) hlt (fun h => h)).trans h2, (h3.bvg hf hF w.heap.size (Nat.le_refl _)).bv, h3.len⟩
theorem PcI.fr0 {w w1 : World} {xo : Option Addr} {xc : Nat} {ps : List (List Nat)} (h : PcI w xo xc ps) (hf : Fr (fun _ => False) w w1) : PcI w1 xo xc ps := by
  refine ⟨h.cap, h.len, fun j p hp => ?_⟩
  obtain ⟨g, o, x, h1, h2, h3⟩ := h.el j p hp
  exact ⟨g, o, x, h1, (hf.cell (p := ⟨g, o + j, none⟩) (lt_of_cell h2) (fun h => h)).trans h2, h3.fr0 hf⟩
/-- PutProof. -/
theorem putProof (ps : List (List Nat)) (xo : Option Addr) (xc : Nat) (E : Nat → Addr) (w : World) (hg : G6 w E) (hw : 9 ≤ w.heap.size) (hx : PcI w xo xc ps) :
    Calls Tryz.prog 23 #[.agg #[.slice xo ps.length xc]] w fun e w' => PutRes w w' e (proofW ps) E := by
  have hr : (CS.wr (proofW ps)).room 0 := by
    rw [← proofW_eq]
    refine loopW_room (ps.take (min ps.length 4096)) (n := 0) ?_
    have h2 := CS.pInt_room (n := 4096) (CS.pForm_room (n := 4097) (cw0_room 4098 (by decide)) 6) n_hashes (4096 : Nat) (lrs (4096 : Nat) []) ps.length
    have h3 : (ps.take (min ps.length 4096)).length ≤ 4096 := by rw [List.length_take]; omega
    exact Nat.le_trans (Nat.add_le_add_left (Nat.mul_le_mul_left 40000 (by omega)) _) h2
  obtain ⟨wb, hwb⟩ : ∃ wb, w.alloc (.cells #[.slice xo ps.length xc] 40) = wb := ⟨_, rfl⟩
  have hbx : Fr (fun _ => False) w wb := by rw [← hwb]; exact box1 _ _
  have hx' := hx.fr0 hbx
  have hp := put_Proof #[.slice xo ps.length xc] (proofW ps) E wb (hg.fr hbx (fun _ h => h.elim)) (by have := hbx.size; omega) (fun w1 cb b F hC hcs hL hF hf => by
    refine (whole_Proof_w _ ps xo xc cb b wb.heap.size F E w1 hC (hcs 0 _ rfl) (hL 0) (hx'.pcv hf (fun k hk => by have := hF k hk; omega)) hx.len (cw0_room 5001 (by decide))).mono ?_
    rintro e w' ⟨rfl, F', hC', hs⟩
    exact ⟨rfl, F', by rw [← proofW_eq]; exact hC', hs.mono (fun k j _ h => h.elim)⟩) (room_len hr)
  refine (PutProof_go _ w (fun e w' => PutRes w w' e (proofW ps) E) ?_).mono (fun e w' h => h.2)
  rw [hwb]
  exact hp.mono (fun e w' h => by rw [← hwb] at h; exact PutRes.box h)
end Go.Proofs.YtcpbmphknonflaaGreatDoor

namespace Go.Proofs.YtcpbmphknonflaaGreatDoor
open Go.RowKit

set_option maxRecDepth 100000 in
set_option maxHeartbeats 2000000 in
theorem GetHead_go (xo : Option Addr) (n xc : Nat) (w : World) (Q : World → Array Value → Value → Prop) (h : Calls Tryz.prog 54 #[.slice xo n xc] (w.alloc (.cells #[.int .u32 0, .slice none 0 0] 25)) fun e w' => ∃ v0 v1 err, e = .returned (.tuple #[.agg #[v0, v1], err]) ∧ (∀ v ∈ ([v0, v1] : List Value), v.oneCell' = true) ∧ Fr (fun _ => False) (w.alloc (.cells #[.int .u32 0, .slice none 0 0] 25)) w' ∧ Q w' #[v0, v1] err) :
    Calls Tryz.prog 28 #[.slice xo n xc] w fun e w' => ∃ vs err, e = .returned (.tuple #[.agg vs, err]) ∧ ∃ w2, Q w2 vs err ∧ Fr (fun k => k = w.heap.size) w2 w' ∧ (∀ F, Stp w2 w' F F (fun k _ => k = w.heap.size)) ∧ Fr (fun _ => False) w w' ∧ w2.heap[w.heap.size]? = some (.cells #[.int .u32 0, .slice none 0 0] 25) := by
  have H := hide h
  clear h
  go_enter Tryz.func28, Tryz.ntmps28
  go_wp2_with fail
  refine (unhide H).mono ?_
  rintro e w5 ⟨v0, v1, err, rfl, hone, hf5, hq⟩
  have hst0 : ∀ (a : Addr) (m : Mode) (W : World), (store a v0 m).run Tryz.prog W = stored Tryz.prog W a v0 m := fun _ _ _ => run_store _ _ _ _ _ (hone v0 (by simp))
  have hst1 : ∀ (a : Addr) (m : Mode) (W : World), (store a v1 m).run Tryz.prog W = stored Tryz.prog W a v1 m := fun _ _ _ => run_store _ _ _ _ _ (hone v1 (by simp))
  have hrb5 : w5.heap[w.heap.size]? = some (.cells #[.int .u32 0, .slice none 0 0] 25) := (hf5.block w.heap.size (by simp) (fun h => h)).trans (heap_alloc_new _ _)
  have hr05 : w5.cell? ⟨w.heap.size, 0, none⟩ = some (.int .u32 0) := by simp [World.cell?, hrb5]
  have hr15 : w5.cell? ⟨w.heap.size, 1, none⟩ = some (.slice none 0 0) := by simp [World.cell?, hrb5]
  have hrz5 : ∀ i, w5.frozen? ⟨w.heap.size, i, none⟩ = false := fun i => by simp [World.frozen?, hrb5]
  have hrl5 := lt_of_cell hr05
  have H5 := hide (And.intro hf5 (And.intro hq hrb5))
  clear hf5 hq hone hrb5
  go_wp2_with fail
  refine bodyPost_ret (v := .tuple #[.agg #[v0, v1], err]) (by simp [results, Tryz.results28, go_sem, hr05, hr15]) rfl ?_
  have hf05 : Fr (fun _ => False) w w5 := (box1 w _).trans (unhide H5).1 (fun _ _ h => h)
  exact ⟨_, _, rfl, w5, (unhide H5).2.1, ((Fr.refl (fun k => k = w.heap.size) w5).setCell (.inl rfl) _).setCell (.inl rfl) _, fun F => ((Stp.refl w5 F (fun k _ => k = w.heap.size)).trans (Stp.set w.heap.size 0 _) (fun k j _ h => h.1)).trans (Stp.set w.heap.size 1 _) (fun k j _ h => h.1), ((hf05).setCell (.inr (Nat.le_refl _)) _).setCell (.inr (Nat.le_refl _)) _, (unhide H5).2.2⟩
set_option maxRecDepth 100000 in
set_option maxHeartbeats 2000000 in
theorem GetSigned_go (xo : Option Addr) (n xc : Nat) (w : World) (Q : World → Array Value → Value → Prop) (h : Calls Tryz.prog 52 #[.slice xo n xc] (w.alloc (.cells #[.int .u32 0, .slice none 0 0, .int .u32 0, .slice none 0 0] 37)) fun e w' => ∃ v0 v1 v2 v3 err, e = .returned (.tuple #[.agg #[v0, v1, v2, v3], err]) ∧ (∀ v ∈ ([v0, v1, v2, v3] : List Value), v.oneCell' = true) ∧ Fr (fun _ => False) (w.alloc (.cells #[.int .u32 0, .slice none 0 0, .int .u32 0, .slice none 0 0] 37)) w' ∧ Q w' #[v0, v1, v2, v3] err) :
    Calls Tryz.prog 26 #[.slice xo n xc] w fun e w' => ∃ vs err, e = .returned (.tuple #[.agg vs, err]) ∧ ∃ w2, Q w2 vs err ∧ Fr (fun k => k = w.heap.size) w2 w' ∧ (∀ F, Stp w2 w' F F (fun k _ => k = w.heap.size)) ∧ Fr (fun _ => False) w w' ∧ w2.heap[w.heap.size]? = some (.cells #[.int .u32 0, .slice none 0 0, .int .u32 0, .slice none 0 0] 37) := by
  have H := hide h
  clear h
  go_enter Tryz.func26, Tryz.ntmps26
  go_wp2_with fail
  refine (unhide H).mono ?_
  rintro e w5 ⟨v0, v1, v2, v3, err, rfl, hone, hf5, hq⟩
  have hst0 : ∀ (a : Addr) (m : Mode) (W : World), (store a v0 m).run Tryz.prog W = stored Tryz.prog W a v0 m := fun _ _ _ => run_store _ _ _ _ _ (hone v0 (by simp))
  have hst1 : ∀ (a : Addr) (m : Mode) (W : World), (store a v1 m).run Tryz.prog W = stored Tryz.prog W a v1 m := fun _ _ _ => run_store _ _ _ _ _ (hone v1 (by simp))
  have hst2 : ∀ (a : Addr) (m : Mode) (W : World), (store a v2 m).run Tryz.prog W = stored Tryz.prog W a v2 m := fun _ _ _ => run_store _ _ _ _ _ (hone v2 (by simp))
  have hst3 : ∀ (a : Addr) (m : Mode) (W : World), (store a v3 m).run Tryz.prog W = stored Tryz.prog W a v3 m := fun _ _ _ => run_store _ _ _ _ _ (hone v3 (by simp))
  have hrb5 : w5.heap[w.heap.size]? = some (.cells #[.int .u32 0, .slice none 0 0, .int .u32 0, .slice none 0 0] 37) := (hf5.block w.heap.size (by simp) (fun h => h)).trans (heap_alloc_new _ _)
  have hr05 : w5.cell? ⟨w.heap.size, 0, none⟩ = some (.int .u32 0) := by simp [World.cell?, hrb5]
  have hr15 : w5.cell? ⟨w.heap.size, 1, none⟩ = some (.slice none 0 0) := by simp [World.cell?, hrb5]
  have hr25 : w5.cell? ⟨w.heap.size, 2, none⟩ = some (.int .u32 0) := by simp [World.cell?, hrb5]
  have hr35 : w5.cell? ⟨w.heap.size, 3, none⟩ = some (.slice none 0 0) := by simp [World.cell?, hrb5]
  have hrz5 : ∀ i, w5.frozen? ⟨w.heap.size, i, none⟩ = false := fun i => by simp [World.frozen?, hrb5]
  have hrl5 := lt_of_cell hr05
  have H5 := hide (And.intro hf5 (And.intro hq hrb5))
  clear hf5 hq hone hrb5
  go_wp2_with fail
  refine bodyPost_ret (v := .tuple #[.agg #[v0, v1, v2, v3], err]) (by simp [results, Tryz.results26, go_sem, hr05, hr15, hr25, hr35]) rfl ?_
  have hf05 : Fr (fun _ => False) w w5 := (box1 w _).trans (unhide H5).1 (fun _ _ h => h)
  exact ⟨_, _, rfl, w5, (unhide H5).2.1, ((((Fr.refl (fun k => k = w.heap.size) w5).setCell (.inl rfl) _).setCell (.inl rfl) _).setCell (.inl rfl) _).setCell (.inl rfl) _, fun F => ((((Stp.refl w5 F (fun k _ => k = w.heap.size)).trans (Stp.set w.heap.size 0 _) (fun k j _ h => h.1)).trans (Stp.set w.heap.size 1 _) (fun k j _ h => h.1)).trans (Stp.set w.heap.size 2 _) (fun k j _ h => h.1)).trans (Stp.set w.heap.size 3 _) (fun k j _ h => h.1), ((((hf05).setCell (.inr (Nat.le_refl _)) _).setCell (.inr (Nat.le_refl _)) _).setCell (.inr (Nat.le_refl _)) _).setCell (.inr (Nat.le_refl _)) _, (unhide H5).2.2⟩
set_option maxRecDepth 100000 in
set_option maxHeartbeats 2000000 in
theorem GetProof_go (xo : Option Addr) (n xc : Nat) (w : World) (Q : World → Array Value → Value → Prop) (h : Calls Tryz.prog 50 #[.slice xo n xc] (w.alloc (.cells #[.slice none 0 0] 40)) fun e w' => ∃ v0 err, e = .returned (.tuple #[.agg #[v0], err]) ∧ (∀ v ∈ ([v0] : List Value), v.oneCell' = true) ∧ Fr (fun _ => False) (w.alloc (.cells #[.slice none 0 0] 40)) w' ∧ Q w' #[v0] err) :
    Calls Tryz.prog 24 #[.slice xo n xc] w fun e w' => ∃ vs err, e = .returned (.tuple #[.agg vs, err]) ∧ ∃ w2, Q w2 vs err ∧ Fr (fun k => k = w.heap.size) w2 w' ∧ (∀ F, Stp w2 w' F F (fun k _ => k = w.heap.size)) ∧ Fr (fun _ => False) w w' ∧ w2.heap[w.heap.size]? = some (.cells #[.slice none 0 0] 40) := by
  have H := hide h
  clear h
  go_enter Tryz.func24, Tryz.ntmps24
  go_wp2_with fail
  refine (unhide H).mono ?_
  rintro e w5 ⟨v0, err, rfl, hone, hf5, hq⟩
  have hst0 : ∀ (a : Addr) (m : Mode) (W : World), (store a v0 m).run Tryz.prog W = stored Tryz.prog W a v0 m := fun _ _ _ => run_store _ _ _ _ _ (hone v0 (by simp))
  have hrb5 : w5.heap[w.heap.size]? = some (.cells #[.slice none 0 0] 40) := (hf5.block w.heap.size (by simp) (fun h => h)).trans (heap_alloc_new _ _)
  have hr05 : w5.cell? ⟨w.heap.size, 0, none⟩ = some (.slice none 0 0) := by simp [World.cell?, hrb5]
  have hrz5 : ∀ i, w5.frozen? ⟨w.heap.size, i, none⟩ = false := fun i => by simp [World.frozen?, hrb5]
  have hrl5 := lt_of_cell hr05
  have H5 := hide (And.intro hf5 (And.intro hq hrb5))
  clear hf5 hq hone hrb5
  go_wp2_with fail
  refine bodyPost_ret (v := .tuple #[.agg #[v0], err]) (by simp [results, Tryz.results24, go_sem, hr05]) rfl ?_
  have hf05 : Fr (fun _ => False) w w5 := (box1 w _).trans (unhide H5).1 (fun _ _ h => h)
  exact ⟨_, _, rfl, w5, (unhide H5).2.1, (Fr.refl (fun k => k = w.heap.size) w5).setCell (.inl rfl) _, fun F => (Stp.refl w5 F (fun k _ => k = w.heap.size)).trans (Stp.set w.heap.size 0 _) (fun k j _ h => h.1), (hf05).setCell (.inr (Nat.le_refl _)) _, (unhide H5).2.2⟩
end Go.Proofs.YtcpbmphknonflaaGreatDoor

namespace Go.Proofs.YtcpbmphknonflaaGreatDoor
open Go.RowKit

theorem own_stp {w w' : World} {lo n e : Nat} {x : Value} {xs : List Value} {F F' : Nat → Prop} {P : Nat → Nat → Prop} (h : w.ownsRow lo e 1 x n xs) (hn : ∀ k, x.ownBlock = some k → ¬ F k) (hs : Stp w w' F F' P) (hP : ∀ k j, P k j → k < lo) : w'.ownsRow lo e 1 x n xs ∧ ∀ k, x.ownBlock = some k → ¬ F' k :=
  ⟨ownsRow_of_block h (fun k hk => hs.block (h.lt k hk).2 (hn k hk) (fun j hp => by have := hP k j hp; have := (h.lt k hk).1; omega)), fun k hk => hs.nF (h.lt k hk).2 (hn k hk)⟩
theorem BO.own {w0 w : World} {q : Q} {x' : Value} {l' : List Nat} {F : Nat → Prop} {g lo : Nat} (h : BO w0 w (.rd q) x' l' F g) (hlo : lo ≤ w0.heap.size) : w.ownsRow lo 5 1 x' l'.length (cellsOf l') ∧ (∀ k, x'.ownBlock = some k → ¬ F k) ∧ x'.oneCell' = true := by
  have hown := h.val q rfl
  refine ⟨own_mono hown hlo, fun k hk => ?_, ?_⟩
  · obtain ⟨m, c, e⟩ := own_at hown hk
    exact (h.bv.bv.at_ k 0 m c e).2
  · obtain ⟨xo, xc, rfl⟩ := h.bv.bv.src.form
    rfl
theorem bvg_nil (w : World) (F : Nat → Prop) (g : Nat) : BVg w (.slice none 0 0) [] F g := ⟨⟨.inl ⟨rfl, rfl⟩, fun _ _ _ _ e => (by cases e)⟩, fun _ _ _ _ e => (by cases e), by decide⟩
theorem own_one {w : World} {lo n : Nat} {x : Value} {xs : List Value} {e : Nat} (h : w.ownsRow lo e 1 x n xs) : x.oneCell' = true := by
  rcases h.2 with ⟨rfl, _⟩ | ⟨g, cap, cur, rfl, _⟩ <;> rfl
theorem errV_fr {w w' : World} {v : Value} {x : ByteArray × Nat × Nat} {E : Nat → Addr} {k0 : Nat} {vs : Array Value} {t : TypeId} (h : ErrV w v x E) (hf : Fr (fun k => k = k0) w w') (hb : w.heap[k0]? = some (.cells vs t)) (hne : t ≠ 90) : ErrV w' v x E := by
  rcases h with h | ⟨h1, h7, fb, rfl, hbb⟩
  · exact .inl h
  · have hlt : fb < w.heap.size := by
      rcases Nat.lt_or_ge fb w.heap.size with hx | hx
      · exact hx
      · rw [Array.getElem?_eq_none hx] at hbb; cases hbb
    refine .inr ⟨h1, h7, fb, rfl, (hf.block fb hlt (fun e => ?_)).trans hbb⟩
    rw [e, hb] at hbb
    simp [faultObj] at hbb
    exact hne hbb.2
/-- GetHead. -/
theorem getHead (x : Value) (l : List Nat) (E : Nat → Addr) (w : World) (hg : G6 w E) (hw : 9 ≤ w.heap.size) (hx : Src w x l) (hl : l.length ≤ 140737488355328) :
    Calls Tryz.prog 28 #[x] w fun e w' => ∃ vs err, e = .returned (.tuple #[.agg vs, err]) ∧ ErrV w' err (headR l).1.rq.fin E ∧ ((headR l).1.rq.fin.2.2 ≠ 0 → vs = #[.int .u32 0, .slice none 0 0]) ∧ ((headR l).1.rq.fin.2.2 = 0 → ∃ y, vs = #[.int .u32 ((headR l).2.1 : Nat), y] ∧ w'.ownsRow w.heap.size 5 1 y (headR l).2.2.length (cellsOf (headR l).2.2)) ∧ Fr (fun _ => False) w w' := by
  obtain ⟨xo, xc, rfl⟩ := hx.form
  obtain ⟨wb, hwb⟩ : ∃ wb, w.alloc (.cells #[.int .u32 0, .slice none 0 0] 25) = wb := ⟨_, rfl⟩
  have hbx : Fr (fun _ => False) w wb := by rw [← hwb]; exact box1 _ _
  have hsb : wb.heap.size = w.heap.size + 1 := by rw [← hwb]; simp
  have hp := get_Head _ l (headR l).1.rq (fun w' F _ vs => ∃ y, vs = #[.int .u32 ((headR l).2.1 : Nat), y] ∧ w'.ownsRow (w.heap.size + 2) 5 1 y (headR l).2.2.length (cellsOf (headR l).2.2) ∧ ∀ k, y.ownBlock = some k → ¬ F k) E wb (hg.fr hbx (fun _ h => h.elim)) (by omega) (hx.fr hbx (fun _ _ _ _ _ h => h)) hl
    (fun w2 w' F F' P g vs ⟨y, h1, h2, h3⟩ hs hP => by
      obtain ⟨h4, h5⟩ := own_stp h2 h3 hs (fun k j hp => by have := hP k j hp; omega)
      exact ⟨y, h1, h4, h5⟩)
    (fun w1 cb b F g hC h0 h1 hL hF hgg hf => by
      refine (whole_Head (cr0 l) 0 [] (.slice none 0 0) cb b g F E w1 hC h0 h1 (bvg_nil w1 F g) hL (by decide) (by simp only [CS.room, CS.len, cr0]; omega)).mono ?_
      rintro e w' ⟨rfl, F', hC', hc0, y, hc1, hb, hs⟩
      have hlt := (hL 0).lt
      obtain ⟨ho, hn, h1c⟩ := BO.own (lo := w.heap.size + 2) hb (by omega)
      exact ⟨rfl, F', hC', _, y, hc0, hc1, fun v hv => by
        simp at hv
        rcases hv with rfl | rfl
        · rfl
        · exact h1c, ⟨y, rfl, ho, hn⟩, hs.mono (fun k j _ h => h.1)⟩)
  refine (GetHead_go xo l.length xc w (fun w' vs err => ErrV w' err (headR l).1.rq.fin E ∧ ((headR l).1.rq.fin.2.2 ≠ 0 → vs = #[.int .u32 0, .slice none 0 0]) ∧ ((headR l).1.rq.fin.2.2 = 0 → ∃ (y : Value) (F : Nat → Prop), vs = #[.int .u32 ((headR l).2.1 : Nat), y] ∧ w'.ownsRow (w.heap.size + 2) 5 1 y (headR l).2.2.length (cellsOf (headR l).2.2) ∧ ∀ k, y.ownBlock = some k → ¬ F k)) ?_).mono ?_
  · rw [hwb]
    refine hp.mono ?_
    rintro e w' ⟨vs, err, rfl, hE, hz, hr, hf⟩
    by_cases h0 : (headR l).1.rq.fin.2.2 = 0
    · obtain ⟨F', g, ⟨y, rfl, ho, hn⟩, _⟩ := hr h0
      exact ⟨_, _, err, rfl, fun v hv => by
        simp at hv
        rcases hv with rfl | rfl
        · rfl
        · exact own_one ho, hf, hE, fun h => absurd h0 h, fun _ => ⟨y, F', rfl, ho, hn⟩⟩
    · obtain rfl := hz h0
      exact ⟨_, _, err, rfl, fun v hv => by
        simp at hv
        rcases hv with rfl | rfl <;> rfl, hf, hE, fun _ => rfl, fun h => absurd h h0⟩
  · rintro e w' ⟨vs, err, rfl, w2, ⟨hE, hz, hr⟩, hf1, hs, hf, hrb⟩
    refine ⟨vs, err, rfl, errV_fr hE hf1 hrb (by decide), hz, fun h0 => ?_, hf⟩
    obtain ⟨y, F, h1, ho, hn⟩ := hr h0
    exact ⟨y, h1, ownsRow_base (own_stp ho hn (hs F) (fun k j h => by omega)).1 (by omega)⟩
/-- GetSigned. -/
theorem getSigned (x : Value) (l : List Nat) (E : Nat → Addr) (w : World) (hg : G6 w E) (hw : 9 ≤ w.heap.size) (hx : Src w x l) (hl : l.length ≤ 140737488355328) :
    Calls Tryz.prog 26 #[x] w fun e w' => ∃ vs err, e = .returned (.tuple #[.agg vs, err]) ∧ ErrV w' err (signedR l).1.rq.fin E ∧ ((signedR l).1.rq.fin.2.2 ≠ 0 → vs = #[.int .u32 0, .slice none 0 0, .int .u32 0, .slice none 0 0]) ∧ ((signedR l).1.rq.fin.2.2 = 0 → ∃ y z, vs = #[.int .u32 ((signedR l).2.1.1 : Nat), y, .int .u32 ((signedR l).2.2.1 : Nat), z] ∧ w'.ownsRow w.heap.size 5 1 y (signedR l).2.1.2.length (cellsOf (signedR l).2.1.2) ∧ w'.ownsRow w.heap.size 5 1 z (signedR l).2.2.2.length (cellsOf (signedR l).2.2.2)) ∧ Fr (fun _ => False) w w' := by
  obtain ⟨xo, xc, rfl⟩ := hx.form
  obtain ⟨wb, hwb⟩ : ∃ wb, w.alloc (.cells #[.int .u32 0, .slice none 0 0, .int .u32 0, .slice none 0 0] 37) = wb := ⟨_, rfl⟩
  have hbx : Fr (fun _ => False) w wb := by rw [← hwb]; exact box1 _ _
  have hsb : wb.heap.size = w.heap.size + 1 := by rw [← hwb]; simp
  have hp := get_Signed _ l (signedR l).1.rq (fun w' F _ vs => ∃ y z, vs = #[.int .u32 ((signedR l).2.1.1 : Nat), y, .int .u32 ((signedR l).2.2.1 : Nat), z] ∧ (w'.ownsRow (w.heap.size + 2) 5 1 y (signedR l).2.1.2.length (cellsOf (signedR l).2.1.2) ∧ ∀ k, y.ownBlock = some k → ¬ F k) ∧ w'.ownsRow (w.heap.size + 2) 5 1 z (signedR l).2.2.2.length (cellsOf (signedR l).2.2.2) ∧ ∀ k, z.ownBlock = some k → ¬ F k) E wb (hg.fr hbx (fun _ h => h.elim)) (by omega) (hx.fr hbx (fun _ _ _ _ _ h => h)) hl
    (fun w2 w' F F' P g vs ⟨y, z, h1, h2, h3⟩ hs hP => ⟨y, z, h1, own_stp h2.1 h2.2 hs (fun k j hp => by have := hP k j hp; omega), own_stp h3.1 h3.2 hs (fun k j hp => by have := hP k j hp; omega)⟩)
    (fun w1 cb b F g hC h0 h1 h2 h3 hL hF hgg hf => by
      refine (whole_Signed (cr0 l) 0 0 [] [] (.slice none 0 0) (.slice none 0 0) cb b g F E w1 hC h0 h1 h2 h3 (bvg_nil w1 F g) (bvg_nil w1 F g) hL (by decide) (by decide) (by simp only [CS.room, CS.len, cr0]; omega)).mono ?_
      rintro e w' ⟨rfl, F', hC', hc0, hc2, y, z, hc1, hc3, hb, hb2, hs⟩
      have hlt := (hL 0).lt
      obtain ⟨ho, hn, h1c⟩ := BO.own (lo := w.heap.size + 2) hb (by omega)
      obtain ⟨ho2, hn2, h1c2⟩ := BO.own (lo := w.heap.size + 2) hb2 (by omega)
      exact ⟨rfl, F', hC', _, y, _, z, hc0, hc1, hc2, hc3, fun v hv => by
        simp at hv
        rcases hv with rfl | rfl | rfl | rfl
        · rfl
        · exact h1c
        · rfl
        · exact h1c2, ⟨y, z, rfl, ⟨ho, hn⟩, ho2, hn2⟩, hs.mono (fun k j _ h => h.1)⟩)
  refine (GetSigned_go xo l.length xc w (fun w' vs err => ErrV w' err (signedR l).1.rq.fin E ∧ ((signedR l).1.rq.fin.2.2 ≠ 0 → vs = #[.int .u32 0, .slice none 0 0, .int .u32 0, .slice none 0 0]) ∧ ((signedR l).1.rq.fin.2.2 = 0 → ∃ (y z : Value) (F : Nat → Prop), vs = #[.int .u32 ((signedR l).2.1.1 : Nat), y, .int .u32 ((signedR l).2.2.1 : Nat), z] ∧ (w'.ownsRow (w.heap.size + 2) 5 1 y (signedR l).2.1.2.length (cellsOf (signedR l).2.1.2) ∧ ∀ k, y.ownBlock = some k → ¬ F k) ∧ w'.ownsRow (w.heap.size + 2) 5 1 z (signedR l).2.2.2.length (cellsOf (signedR l).2.2.2) ∧ ∀ k, z.ownBlock = some k → ¬ F k)) ?_).mono ?_
  · rw [hwb]
    refine hp.mono ?_
    rintro e w' ⟨vs, err, rfl, hE, hz, hr, hf⟩
    by_cases h0 : (signedR l).1.rq.fin.2.2 = 0
    · obtain ⟨F', g, ⟨y, z, rfl, ho, ho2⟩, _⟩ := hr h0
      exact ⟨_, _, _, _, err, rfl, fun v hv => by
        simp at hv
        rcases hv with rfl | rfl | rfl | rfl
        · rfl
        · exact own_one ho.1
        · rfl
        · exact own_one ho2.1, hf, hE, fun h => absurd h0 h, fun _ => ⟨y, z, F', rfl, ho, ho2⟩⟩
    · obtain rfl := hz h0
      exact ⟨_, _, _, _, err, rfl, fun v hv => by
        simp at hv
        rcases hv with rfl | rfl | rfl | rfl <;> rfl, hf, hE, fun _ => rfl, fun h => absurd h h0⟩
  · rintro e w' ⟨vs, err, rfl, w2, ⟨hE, hz, hr⟩, hf1, hs, hf, hrb⟩
    refine ⟨vs, err, rfl, errV_fr hE hf1 hrb (by decide), hz, fun h0 => ?_, hf⟩
    obtain ⟨y, z, F, h1, ho, ho2⟩ := hr h0
    exact ⟨y, z, h1, ownsRow_base (own_stp ho.1 ho.2 (hs F) (fun k j h => by omega)).1 (by omega), ownsRow_base (own_stp ho2.1 ho2.2 (hs F) (fun k j h => by omega)).1 (by omega)⟩
theorem proofR_eq (l : List Nat) : ∃ q, (proofR l).1 = .rd q := by
  have key : ∀ n c, (∃ q, c = CS.rd q) → ∃ q, (loopR (fun c v => c.pHash n_hash v) [] n c).1 = .rd q := by
    intro n
    induction n with
    | zero => intro c h; exact h
    | succ n ih =>
      intro c h
      obtain ⟨q, hq⟩ := ih c h
      show ∃ q, ((loopR (fun c v => c.pHash n_hash v) [] n c).1.pHash n_hash []).1 = .rd q
      rw [hq]
      exact ⟨_, rfl⟩
  exact key _ _ ⟨_, rfl⟩
theorem proofR_rq (l : List Nat) : (proofR l).1 = .rd (proofR l).1.rq := by
  obtain ⟨q, hq⟩ := proofR_eq l
  rw [hq]
  rfl
/-- GetProof. -/
theorem getProof (x : Value) (l : List Nat) (E : Nat → Addr) (w : World) (hg : G6 w E) (hw : 9 ≤ w.heap.size) (hx : Src w x l) (hl : l.length ≤ 140737488355328) :
    Calls Tryz.prog 24 #[x] w fun e w' => ∃ vs err, e = .returned (.tuple #[.agg vs, err]) ∧ ErrV w' err (proofR l).1.rq.fin E ∧ ((proofR l).1.rq.fin.2.2 ≠ 0 → vs = #[.slice none 0 0]) ∧ ((proofR l).1.rq.fin.2.2 = 0 → ∃ y, vs = #[y] ∧ OwP w' w.heap.size y (proofR l).2 (fun _ => False)) ∧ Fr (fun _ => False) w w' := by
  obtain ⟨xo, xc, rfl⟩ := hx.form
  obtain ⟨wb, hwb⟩ : ∃ wb, w.alloc (.cells #[.slice none 0 0] 40) = wb := ⟨_, rfl⟩
  have hbx : Fr (fun _ => False) w wb := by rw [← hwb]; exact box1 _ _
  have hsb : wb.heap.size = w.heap.size + 1 := by rw [← hwb]; simp
  have hp := get_Proof _ l (proofR l).1.rq (fun w' F _ vs => ∃ y, vs = #[y] ∧ OwP w' (w.heap.size + 2) y (proofR l).2 F) E wb (hg.fr hbx (fun _ h => h.elim)) (by omega) (hx.fr hbx (fun _ _ _ _ _ h => h)) hl
    (fun w2 w' F F' P g vs ⟨y, h1, h2⟩ hs hP => ⟨y, h1, h2.stp hs (fun k j hk _ hp => by have := hP k j hp; omega)⟩)
    (fun w1 cb b F g hC h0 hL hF hgg hf => by
      refine (whole_Proof_r _ cb b g F E w1 hC h0 (hL 0)).mono ?_
      rintro e w' ⟨rfl, F', hC', y, hc, hO, hs⟩
      have hlt := (hL 0).lt
      obtain ⟨yo, yc, e1⟩ := hO.form
      exact ⟨rfl, F', by rw [← proofR_rq]; exact hC', y, hc, fun v hv => by
        simp at hv
        rw [hv, e1]
        rfl, ⟨y, rfl, hO.base (by omega)⟩, hs.mono (fun k j _ h => h.1)⟩)
  refine (GetProof_go xo l.length xc w (fun w' vs err => ErrV w' err (proofR l).1.rq.fin E ∧ ((proofR l).1.rq.fin.2.2 ≠ 0 → vs = #[.slice none 0 0]) ∧ ((proofR l).1.rq.fin.2.2 = 0 → ∃ (y : Value) (F : Nat → Prop), vs = #[y] ∧ OwP w' (w.heap.size + 2) y (proofR l).2 F)) ?_).mono ?_
  · rw [hwb]
    refine hp.mono ?_
    rintro e w' ⟨vs, err, rfl, hE, hz, hr, hf⟩
    by_cases h0 : (proofR l).1.rq.fin.2.2 = 0
    · obtain ⟨F', g, ⟨y, rfl, hO⟩, _⟩ := hr h0
      obtain ⟨yo, yc, e1⟩ := hO.form
      exact ⟨_, err, rfl, fun v hv => by
        simp at hv
        rw [hv, e1]
        rfl, hf, hE, fun h => absurd h0 h, fun _ => ⟨y, F', rfl, hO⟩⟩
    · obtain rfl := hz h0
      exact ⟨_, err, rfl, fun v hv => by
        simp at hv
        rw [hv]
        rfl, hf, hE, fun _ => rfl, fun h => absurd h h0⟩
  · rintro e w' ⟨vs, err, rfl, w2, ⟨hE, hz, hr⟩, hf1, hs, hf, hrb⟩
    refine ⟨vs, err, rfl, errV_fr hE hf1 hrb (by decide), hz, fun h0 => ?_, hf⟩
    obtain ⟨y, F, h1, hO⟩ := hr h0
    have hO' := (hO.stp (hs F) (fun k j hk _ h => by omega)).base (show w.heap.size ≤ w.heap.size + 2 by omega)
    obtain ⟨us, a1, a2, a3, a4, a5⟩ := hO'.us
    exact ⟨y, h1, fun _ _ h => h, us, a1, a2, a3, fun j u k hu hk => ⟨fun h => h, (a4 j u k hu hk).2⟩, a5⟩
end Go.Proofs.YtcpbmphknonflaaGreatDoor

namespace Go.Proofs.YtcpbmphknonflaaGreatDoor
open Go.RowKit

theorem headW_1 : (headW 258 [7]).f = none ∧ (headW 258 [7]).out = [4, 0, 0, 1, 258, 0, 0, 0, 1, 7] := ⟨by kernel_rfl, by kernel_rfl⟩
theorem headR_1 : (headR [4, 0, 0, 1, 2, 0, 0, 0, 1, 7]).1.rq.fin.2.2 = 0 ∧ (headR [4, 0, 0, 1, 2, 0, 0, 0, 1, 7]).2.1 = 258 := ⟨by kernel_rfl, by kernel_rfl⟩
theorem headR_0 : (headR []).1.rq.fin.2.2 = 1 := by kernel_rfl
/-- Bytes of a literal. -/
theorem lit_sl (w : World) (l : List Nat) (vs : Array Value) (t : TypeId) (hv : vs.toList = cellsOf l) (hl : l.length < 9223372036854775808) : SlI (w.alloc (.cells vs t)) (.slice (some ⟨w.heap.size, 0, none⟩) l.length l.length) l := by
  refine ⟨.inr (.inl ⟨w.heap.size, 0, l.length, rfl, fun j v hj => ?_⟩), fun g o m c e => by cases e; simp, hl⟩
  rw [World.cell?_alloc_at _ _ _ _ rfl, Nat.zero_add, ← Array.getElem?_toList, hv]
  exact hj
set_option maxRecDepth 100000 in
/-- awake. -/
theorem awake7 (E : Nat → Addr) (w : World) (hg : G6 w E) (hw : 9 ≤ w.heap.size) :
    Calls Tryz.prog 9 #[] w fun e w' => e = .returned (.bool true) ∧ Fr (fun _ => False) w w' := by
  have H := hide hg
  have HP := hide (putHead 258 [7] (.slice (some ⟨w.heap.size, 0, none⟩) 1 1) E (w.alloc (.cells #[.int .u8 7] 5)) (hg.fr (box1 _ _) (fun _ h => h.elim)) (by simp; omega) (lit_sl w [7] #[.int .u8 7] _ rfl (by decide)) (by decide))
  clear hg
  go_enter Tryz.func9, Tryz.ntmps9
  go_wp2_with fail
  refine (unhide HP).mono ?_
  rintro e w1 ⟨v, err, rfl, hown, hE, hf1⟩
  rw [headW_1.1] at hE
  rw [headW_1.2] at hown
  obtain ⟨vo, vc, rfl⟩ := own_form hown
  have hen : err = .nilIface := by
    rcases hE with ⟨_, h⟩ | ⟨h, _⟩
    · exact h
    · exact absurd h (by decide)
  subst hen
  have hf01 : Fr (fun _ => False) w w1 := (box1 w _).trans hf1 (fun _ _ h => h)
  have H1 := hide (And.intro hown hf01)
  clear hown hE hf1 hf01
  go_wp2_with fail
  have hfb := box1 w1 (.cells #[.int .u8 4, .int .u8 0, .int .u8 0, .int .u8 1, .int .u8 2, .int .u8 0, .int .u8 0, .int .u8 0, .int .u8 1, .int .u8 7] 5)
  refine (getHead (.slice (some ⟨w1.heap.size, 0, none⟩) 10 10) [4, 0, 0, 1, 2, 0, 0, 0, 1, 7] E _ ((unhide H).fr ((unhide H1).2.trans hfb (fun _ _ h => h)) (fun _ h => h.elim)) (by have := (unhide H1).2.size; simp; omega) (lit_sl w1 [4, 0, 0, 1, 2, 0, 0, 0, 1, 7] _ _ rfl (by decide)).src (by decide)).mono ?_
  rintro e w2 ⟨vs, err2, rfl, hE2, hz2, hr2, hf2⟩
  clear hz2
  obtain ⟨y, rfl, hy⟩ := hr2 headR_1.1
  rw [headR_1.2]
  have hen2 : err2 = .nilIface := by
    rcases hE2 with ⟨_, h⟩ | ⟨h, _⟩
    · exact h
    · rw [headR_1.1] at h; exact absurd h (by decide)
  subst hen2
  obtain ⟨yo, yc, rfl⟩ := own_form hy
  generalize (headR [4, 0, 0, 1, 2, 0, 0, 0, 1, 7]).2.2.length = yn at *
  have hf02 := (unhide H1).2.trans (hfb.trans hf2 (fun _ _ h => h)) (fun _ _ h => h)
  have hf12 := hfb.trans hf2 (fun _ _ h => h)
  have H2 := hide (And.intro hf02 hf12)
  clear hy hr2 hE2 hf2 hfb hf02 hf12
  go_wp2_with fail
  have hfc := box1 w2 (.cells #[.int .u32 258, .slice yo yn yc] 25)
  refine (getHead (.slice none 0 0) [] E _ ((unhide H).fr ((unhide H2).1.trans hfc (fun _ _ h => h)) (fun _ h => h.elim)) (by have := (unhide H2).1.size; simp; omega) (.inl ⟨rfl, rfl⟩) (by decide)).mono ?_
  rintro e w3 ⟨vs3, err3, rfl, hE3, hz3, hr3, hf3⟩
  obtain rfl := hz3 (by rw [headR_0]; decide)
  obtain ⟨fb, rfl⟩ : ∃ fb, err3 = .iface 85 (.pointer (some ⟨fb, 0, none⟩)) := by
    rcases hE3 with ⟨h, _⟩ | ⟨_, _, fb, h, _⟩
    · rw [headR_0] at h; exact absurd h (by decide)
    · exact ⟨fb, h⟩
  have hf13 := (unhide H2).2.trans (hfc.trans hf3 (fun _ _ h => h)) (fun _ _ h => h)
  have hf03 := (unhide H2).1.trans (hfc.trans hf3 (fun _ _ h => h)) (fun _ _ h => h)
  have hcz : w3.cell? ⟨w2.heap.size, 0, none⟩ = some (.int .u32 258) := (hf3.cell (p := ⟨w2.heap.size, 0, none⟩) (by simp) (fun h => h)).trans (by simp)
  have hlz := lt_of_cell hcz
  have hsrc : Src w3 (.slice vo 10 vc) [4, 0, 0, 1, 258, 0, 0, 0, 1, 7] := (own_src (unhide H1).1).fr hf13 (fun _ _ _ _ _ h => h)
  have H3 := hide (And.intro hsrc hf03)
  have hS0 : Fr (fun _ => False) w3 w3 := Fr.refl _ _
  clear hz3 hr3 hE3 hf3 hfc hf13 hf03 hsrc
  go_wp2_with fail
  have hfd := box2 w3 (.cells #[.int .u32 0, .slice none 0 0] 25) (.cells #[.int .u8 4, .int .u8 0, .int .u8 0, .int .u8 1, .int .u8 2, .int .u8 0, .int .u8 0, .int .u8 0, .int .u8 1, .int .u8 7] 5)
  have hlit : Src ((w3.alloc (.cells #[.int .u32 0, .slice none 0 0] 25)).alloc (.cells #[.int .u8 4, .int .u8 0, .int .u8 0, .int .u8 1, .int .u8 2, .int .u8 0, .int .u8 0, .int .u8 0, .int .u8 1, .int .u8 7] 5)) (.slice (some ⟨w3.heap.size + 1, 0, none⟩) 10 10) [4, 0, 0, 1, 2, 0, 0, 0, 1, 7] := by
    have := (lit_sl (w3.alloc (.cells #[.int .u32 0, .slice none 0 0] 25)) [4, 0, 0, 1, 2, 0, 0, 0, 1, 7] #[.int .u8 4, .int .u8 0, .int .u8 0, .int .u8 1, .int .u8 2, .int .u8 0, .int .u8 0, .int .u8 0, .int .u8 1, .int .u8 7] 5 rfl (by decide)).src
    simpa using this
  refine (same_any _ _ [4, 0, 0, 1, 258, 0, 0, 0, 1, 7] [4, 0, 0, 1, 2, 0, 0, 0, 1, 7] _ ((unhide H3).1.fr hfd (fun _ _ _ _ _ h => h)) hlit (by decide)).mono ?_
  rintro e w4 ⟨rfl, nd, rfl⟩
  have hsb : sameB [4, 0, 0, 1, 258, 0, 0, 0, 1, 7] [4, 0, 0, 1, 2, 0, 0, 0, 1, 7] = true := by decide
  rw [hsb]
  have hfd4 := (Fr.drewN (S := fun _ => False) hfd nd)
  have hcz4 := (hfd4.cell (p := ⟨w2.heap.size, 0, none⟩) hlz (fun h => h)).trans hcz
  have H4 := hide ((unhide H3).2.trans hfd4 (fun _ _ h => h))
  clear hlit hsb hfd hfd4
  go_wp2_with fail
  go_ret
  exact ⟨rfl, unhide H4⟩
end Go.Proofs.YtcpbmphknonflaaGreatDoor

namespace Go.Proofs.YtcpbmphknonflaaGreatDoor
open Go.RowKit

/-- Bytes, laid with their count. -/
def enc1 (p : List Nat) : List Nat := be 4 p.length ++ p
def encs : List (List Nat) → List Nat
  | [] => []
  | p :: ps => enc1 p ++ encs ps
theorem encs_append (a b : List (List Nat)) : encs (a ++ b) = encs a ++ encs b := by
  induction a with
  | nil => rfl
  | cons p ps ih => simp [encs, ih]
theorem be4 (n : Nat) : be 4 n = [n / 256 ^ 3, n / 256 ^ 2, n / 256 ^ 1, n / 256 ^ 0] := rfl
theorem val_be4 (n : Nat) (h : n < 4294967296) : val (be 4 n) = n := by
  rw [be4]
  simp only [val, List.foldl_cons, List.foldl_nil]
  omega
/-- A reader at a count, at bytes. -/
theorem go7_at (nm : ByteArray) (pre rest : List Nat) (part n : Nat) (m : Int) (h : n < 4294967296) (hm : (n : Int) ≤ m) : Q.go ⟨nm, pre ++ (be 4 n ++ rest), pre.length, part, none⟩ 7 m = (⟨nm, pre ++ (be 4 n ++ rest), pre.length + 4, pre.length, none⟩, n, []) := by
  have hv : Q.num ⟨nm, pre ++ (be 4 n ++ rest), pre.length, part, none⟩ 4 = n := by
    simp only [Q.num, List.drop_left]
    rw [List.take_left' (by rw [be_length]), val_be4 n h]
  have hl : ¬ (pre ++ (be 4 n ++ rest)).length < 4 + pre.length := by simp [be_length]; omega
  have hm' : ¬ m < (n : Int) := by omega
  simp [Q.go, Q.step, wid, hv, hm', be_length]
  omega
theorem go6_at (nm : ByteArray) (pre rest p : List Nat) (part : Nat) (m : Int) (h : p.length < 4294967296) (hm : (p.length : Int) ≤ m) : Q.go ⟨nm, pre ++ (enc1 p ++ rest), pre.length, part, none⟩ 6 m = (⟨nm, pre ++ (enc1 p ++ rest), (pre ++ enc1 p).length, pre.length, none⟩, 0, p) := by
  have hv : Q.num ⟨nm, pre ++ (enc1 p ++ rest), pre.length, part, none⟩ 4 = p.length := by
    simp only [Q.num, List.drop_left, enc1, List.append_assoc]
    rw [List.take_left' (by rw [be_length]), val_be4 _ h]
  have hm' : ¬ m < (p.length : Int) := by omega
  have hd : (pre ++ (enc1 p ++ rest)).drop (pre.length + 4) = p ++ rest := by
    have : pre ++ (enc1 p ++ rest) = (pre ++ be 4 p.length) ++ (p ++ rest) := by simp [enc1]
    rw [this, List.drop_left' (by simp [be_length])]
  have hlen : (enc1 p).length = 4 + p.length := by simp [enc1, be_length]
  have hal : (pre ++ (enc1 p ++ rest)).length = pre.length + 4 + p.length + rest.length := by simp [hlen]; omega
  have h1 : ¬ (pre ++ (enc1 p ++ rest)).length < 4 + pre.length := by omega
  have h2 : ¬ (pre ++ (enc1 p ++ rest)).length < p.length + (pre.length + 4) := by omega
  have h3 : (pre ++ enc1 p).length = pre.length + 4 + p.length := by rw [List.length_append, hlen]; omega
  have e : Q.go ⟨nm, pre ++ (enc1 p ++ rest), pre.length, part, none⟩ 6 m = (⟨nm, pre ++ (enc1 p ++ rest), pre.length + 4 + p.length, pre.length, none⟩, 0, ((pre ++ (enc1 p ++ rest)).drop (pre.length + 4)).take p.length) := by
    unfold Q.go Q.step
    simp only [hv, wid]
    rw [if_neg (by decide), if_neg (by simp), if_neg (by decide)]
    simp only [if_pos, or_true, true_or]
    rw [if_neg (by simpa using h1), if_neg (by simp), if_neg (by simpa using hm'), if_neg (by simp), if_neg h2]
  rw [e, hd, h3, List.take_left' rfl]
/-- A writer and a reader at a hash that may be. -/
theorem szN_ok {lo hi : Int} {n : Nat} (h1 : lo ≤ n) (h2 : (n : Int) ≤ hi) : szN lo hi n = 0 := by
  unfold szN
  rw [if_neg (by omega), if_neg (by omega)]
theorem pByt_w (nm0 nm : ByteArray) (l p : List Nat) (lo m : Int) (h1 : lo ≤ p.length) (h2 : (p.length : Int) ≤ m) (h3 : p.length < 4294967296) : (CS.wr ⟨nm0, l, none⟩).pByt nm m [fun v => szN lo m v.length] p = (.wr ⟨nm, l ++ enc1 p, none⟩, p) := by
  have e : fb [fun v : List Nat => szN lo m v.length] p = 0 := by simp [fb, szN_ok h1 h2]
  simp [CS.pByt, e, Wq.named, Wq.failN, Wq.lim, Wq.putB, h2, h3, enc1]
theorem pByt_r (nm0 nm : ByteArray) (pre rest p : List Nat) (part : Nat) (lo m : Int) (h1 : lo ≤ p.length) (h2 : (p.length : Int) ≤ m) (h3 : p.length < 4294967296) (old : List Nat) : (CS.rd ⟨nm0, pre ++ (enc1 p ++ rest), pre.length, part, none⟩).pByt nm m [fun v => szN lo m v.length] old = (.rd ⟨nm, pre ++ (enc1 p ++ rest), (pre ++ enc1 p).length, pre.length, none⟩, p) := by
  have e : fb [fun v : List Nat => szN lo m v.length] p = 0 := by simp [fb, szN_ok h1 h2]
  have hg := go6_at nm pre rest p part m h3 h2
  simp only [CS.pByt, Q.named, hg, e, Q.failN]
  simp
theorem loopW_ok (ps : List (List Nat)) (hp : ∀ p ∈ ps, 1 ≤ p.length ∧ p.length ≤ 32) : ∀ nm0 l, ∃ nm, loopW (fun c v => c.pHash n_hash v) (.wr ⟨nm0, l, none⟩) ps = .wr ⟨nm, l ++ encs ps, none⟩ := by
  induction ps with
  | nil => intro nm0 l; exact ⟨nm0, by simp [loopW, encs]⟩
  | cons p ps ih =>
    intro nm0 l
    have hpp := hp p (List.mem_cons_self ..)
    have e : (CS.wr ⟨nm0, l, none⟩).pHash n_hash p = (.wr ⟨n_hash, l ++ enc1 p, none⟩, p) := pByt_w nm0 n_hash l p 1 32 (by omega) (by omega) (by omega)
    obtain ⟨nm, h⟩ := ih (fun p' hp' => hp p' (List.mem_cons_of_mem _ hp')) n_hash (l ++ enc1 p)
    refine ⟨nm, ?_⟩
    simp only [loopW, e, h, encs, List.append_assoc]
theorem loopR_ok (ps : List (List Nat)) (hp : ∀ p ∈ ps, 1 ≤ p.length ∧ p.length ≤ 32) (pre post : List Nat) (nm0 : ByteArray) (part0 : Nat) : ∀ k, k ≤ ps.length → ∃ nm part, loopR (fun c v => c.pHash n_hash v) [] k (.rd ⟨nm0, pre ++ (encs ps ++ post), pre.length, part0, none⟩) = (.rd ⟨nm, pre ++ (encs ps ++ post), (pre ++ encs (ps.take k)).length, part, none⟩, ps.take k) := by
  intro k
  induction k with
  | zero => intro _; exact ⟨nm0, part0, by simp [loopR, encs]⟩
  | succ k ih =>
    intro hk
    obtain ⟨nm, part, h⟩ := ih (by omega)
    obtain ⟨p, hpk⟩ : ∃ p, ps[k]? = some p := ⟨ps[k], List.getElem?_eq_getElem (by omega)⟩
    have hpp := hp p (List.mem_of_getElem? hpk)
    have ht : ps.take (k + 1) = ps.take k ++ [p] := by rw [List.take_add_one, hpk]; rfl
    have hall : pre ++ (encs ps ++ post) = (pre ++ encs (ps.take k)) ++ (enc1 p ++ (encs (ps.drop (k + 1)) ++ post)) := by
      have h2 : ps = ps.take k ++ ([p] ++ ps.drop (k + 1)) := by
        conv => lhs; rw [← List.take_append_drop (k + 1) ps, ht]
        simp
      conv => lhs; rw [h2, encs_append, encs_append]
      simp [encs]
    have e := pByt_r nm n_hash (pre ++ encs (ps.take k)) (encs (ps.drop (k + 1)) ++ post) p part 1 32 (by omega) (by omega) (by omega) []
    rw [← hall] at e
    refine ⟨n_hash, (pre ++ encs (ps.take k)).length, ?_⟩
    have e' : (CS.rd ⟨nm, pre ++ (encs ps ++ post), (pre ++ encs (ps.take k)).length, part, none⟩).pHash n_hash [] = _ := e
    simp only [loopR, h, e']
    rw [ht, encs_append]
    simp [encs]
end Go.Proofs.YtcpbmphknonflaaGreatDoor

namespace Go.Proofs.YtcpbmphknonflaaGreatDoor
open Go.RowKit

theorem go4_at (nm : ByteArray) (pre rest : List Nat) (part n : Nat) (h : n < 4294967296) : Q.go ⟨nm, pre ++ (be 4 n ++ rest), pre.length, part, none⟩ 4 0 = (⟨nm, pre ++ (be 4 n ++ rest), pre.length + 4, pre.length, none⟩, n, []) := by
  have hv : Q.num ⟨nm, pre ++ (be 4 n ++ rest), pre.length, part, none⟩ 4 = n := by
    simp only [Q.num, List.drop_left]
    rw [List.take_left' (by rw [be_length]), val_be4 n h]
  have h1 : ¬ (pre ++ (be 4 n ++ rest)).length < 4 + pre.length := by simp [be_length]; omega
  unfold Q.go Q.step
  simp only [wid]
  rw [if_neg (by decide), if_neg (by simp), if_neg (by decide), if_neg (by simpa using h1), if_neg (by simp), if_neg (by simp), if_pos (by decide)]
  simp [hv]
theorem pU32_w (nm0 nm : ByteArray) (l : List Nat) (n : Nat) : (CS.wr ⟨nm0, l, none⟩).pU32 nm [] n = (.wr ⟨nm, l ++ be 4 n, none⟩, n) := by simp [CS.pU32, fb, Wq.named, Wq.failN, Wq.putB]
theorem pU32_r (nm0 nm : ByteArray) (pre rest : List Nat) (part n old : Nat) (h : n < 4294967296) : (CS.rd ⟨nm0, pre ++ (be 4 n ++ rest), pre.length, part, none⟩).pU32 nm [] old = (.rd ⟨nm, pre ++ (be 4 n ++ rest), (pre ++ be 4 n).length, pre.length, none⟩, n) := by
  have hg := go4_at nm pre rest part n h
  simp only [CS.pU32, Q.named, hg, fb, Q.failN]
  simp [be_length]
theorem form_w (k : Nat) : cw0.pForm k = .wr ⟨n_form, [k], none⟩ := by
  simp [cw0, CS.pForm, CS.pU8, fb, wiN, Wq.named, Wq.failN, Wq.putB, be]
theorem form_r (k : Nat) (hk : k < 256) (rest : List Nat) : (cr0 ([k] ++ rest)).pForm k = .rd ⟨n_form, [k] ++ rest, 1, 0, none⟩ := by
  have hg : Q.go ⟨n_form, [k] ++ rest, 0, 0, none⟩ 1 0 = (⟨n_form, [k] ++ rest, 1, 0, none⟩, k, []) := by
    have hv : Q.num ⟨n_form, [k] ++ rest, 0, 0, none⟩ 1 = k := by simp [Q.num, val]; omega
    unfold Q.go Q.step
    simp only [wid]
    rw [if_neg (by decide), if_neg (by simp), if_neg (by decide), if_neg (by simp), if_neg (by simp), if_neg (by simp), if_pos (by decide)]
    simp
    exact hv
  simp only [cr0, CS.pForm, CS.pU8, Q.named, hg, fb, wiN, Q.failN]
  simp
theorem fin_ok (nm : ByteArray) (all : List Nat) (part : Nat) : (Q.fin ⟨nm, all, all.length, part, none⟩).2.2 = 0 := by
  simp [Q.fin, Q.named, Q.ended, ftV]
/-- A proof's bytes. -/
def proofB (ps : List (List Nat)) : List Nat := [6] ++ (be 4 ps.length ++ encs ps)
theorem proofW_ok (ps : List (List Nat)) (hp : ∀ p ∈ ps, 1 ≤ p.length ∧ p.length ≤ 32) (hn : ps.length ≤ 4096) : (proofW ps).f = none ∧ (proofW ps).out = proofB ps := by
  have e1 : (CS.wr ⟨n_form, [6], none⟩).pInt n_hashes (4096 : Nat) (lrs (4096 : Nat) []) ps.length = (.wr ⟨n_hashes, [6] ++ be 4 ps.length, none⟩, (ps.length : Int)) := by
    have ef : fb (lrs (4096 : Nat) []) (ps.length : Int) = 0 := by simp [lrs, fb, wiI]; omega
    have h1 : ¬ ((ps.length : Int) < 0) := by omega
    have h2 : (ps.length : Int) ≤ (4096 : Nat) ∧ ps.length < 4294967296 := by omega
    simp only [CS.pInt, ef, Wq.named, Wq.failN, Wq.cnt, Wq.lim, Wq.putB, Int.toNat_natCast, if_neg h1, if_pos h2]
    simp
  have e2 : ps.take (min ps.length 4096) = ps := by rw [Nat.min_eq_left hn, List.take_length]
  obtain ⟨nm, h⟩ := loopW_ok ps hp n_hashes ([6] ++ be 4 ps.length)
  have e3 : ((cw0.pForm 6).pProof ps).1 = .wr ⟨nm, [6] ++ be 4 ps.length ++ encs ps, none⟩ := by
    rw [form_w]
    show loopW _ ((CS.wr ⟨n_form, [6], none⟩).pInt n_hashes (4096 : Nat) (lrs (4096 : Nat) []) ps.length).1 (ps.take (min ps.length 4096)) = _
    rw [e1, e2]
    exact h
  rw [proofW_eq] at e3
  have e4 : proofW ps = ⟨nm, [6] ++ be 4 ps.length ++ encs ps, none⟩ := by injection e3
  rw [e4]
  exact ⟨rfl, by simp [Wq.out, proofB]⟩
theorem proofR_ok (ps : List (List Nat)) (hp : ∀ p ∈ ps, 1 ≤ p.length ∧ p.length ≤ 32) (hn : ps.length ≤ 4096) : (proofR (proofB ps)).1.rq.fin.2.2 = 0 ∧ (proofR (proofB ps)).2 = ps := by
  have hg := go7_at n_hashes [6] (encs ps) 0 ps.length (4096 : Nat) (by omega) (by omega)
  have hg' : Q.go (Q.named ⟨n_form, [6] ++ (be 4 ps.length ++ encs ps), 1, 0, none⟩ n_hashes) 7 (4096 : Nat) = (⟨n_hashes, [6] ++ (be 4 ps.length ++ encs ps), 5, 1, none⟩, ps.length, []) := hg
  have e1 : ((CS.rd ⟨n_form, [6] ++ (be 4 ps.length ++ encs ps), 1, 0, none⟩).pInt n_hashes (4096 : Nat) (lrs (4096 : Nat) []) 0).1 = .rd ⟨n_hashes, [6] ++ (be 4 ps.length ++ encs ps), 5, 1, none⟩ := by
    have ef : fb (lrs (4096 : Nat) []) (ps.length : Int) = 0 := by simp [lrs, fb, wiI]; omega
    simp only [CS.pInt, hg', ef, Q.failN]
    simp
  have hpre : [6] ++ (be 4 ps.length ++ encs ps) = ([6] ++ be 4 ps.length) ++ (encs ps ++ []) := by simp
  obtain ⟨nm, part, h⟩ := loopR_ok ps hp ([6] ++ be 4 ps.length) [] n_hashes 1 ps.length (Nat.le_refl _)
  have e3 : proofR (proofB ps) = (.rd ⟨nm, [6] ++ (be 4 ps.length ++ encs ps), ([6] ++ (be 4 ps.length ++ encs ps)).length, part, none⟩, ps) := by
    unfold proofR proofB
    rw [form_r 6 (by decide)]
    show loopR _ [] (min (Q.go (Q.named ⟨n_form, [6] ++ (be 4 ps.length ++ encs ps), 1, 0, none⟩ n_hashes) 7 (4096 : Nat)).2.1 4096) ((CS.rd ⟨n_form, [6] ++ (be 4 ps.length ++ encs ps), 1, 0, none⟩).pInt n_hashes (4096 : Nat) (lrs (4096 : Nat) []) 0).1 = _
    rw [e1, hg']
    show loopR _ [] (min ps.length 4096) _ = _
    rw [Nat.min_eq_left hn]
    have hl5 : ([6] ++ be 4 ps.length).length = 5 := by simp [be_length]
    rw [hl5] at h
    rw [hpre, h, List.take_length]
    simp
  rw [e3]
  exact ⟨fin_ok _ _ _, rfl⟩
/-- The bytes of a signed head of size 1, root 1, key 2. -/
def signedB (sig : List Nat) : List Nat := [5] ++ (be 4 1 ++ (enc1 [1] ++ (be 4 2 ++ (enc1 sig ++ []))))
theorem signedW_ok (sig : List Nat) (hs : sig.length ≤ 32768) : (signedW ((1, [1]), 2, sig)).f = none ∧ (signedW ((1, [1]), 2, sig)).out = signedB sig := by
  have e : signedW ((1, [1]), 2, sig) = ⟨n_signature, signedB sig, none⟩ := by
    unfold signedW
    rw [form_w]
    have a1 := pU32_w n_form n_size [5] 1
    have a2 : (CS.wr ⟨n_size, [5] ++ be 4 1, none⟩).pHash n_root [1] = _ := pByt_w n_size n_root ([5] ++ be 4 1) [1] 1 32 (by decide) (by decide) (by decide)
    have a3 := pU32_w n_root n_key ([5] ++ be 4 1 ++ enc1 [1]) 2
    have a4 := pByt_w n_key n_signature ([5] ++ be 4 1 ++ enc1 [1] ++ be 4 2) sig 0 32768 (by omega) (by omega) (by omega)
    simp only [CS.pSigned, CS.pHead, a1, a2, a3, a4, CS.wq, signedB]
    simp
  rw [e]
  exact ⟨rfl, rfl⟩
theorem signedR_ok (sig : List Nat) (hs : sig.length ≤ 32768) : (signedR (signedB sig)).1.rq.fin.2.2 = 0 ∧ (signedR (signedB sig)).2.1.2 = [1] ∧ (signedR (signedB sig)).2.2.2 = sig := by
  have a0 := form_r 5 (by decide) (be 4 1 ++ (enc1 [1] ++ (be 4 2 ++ (enc1 sig ++ []))))
  have a1 := pU32_r n_form n_size [5] (enc1 [1] ++ (be 4 2 ++ (enc1 sig ++ []))) 0 1 0 (by decide)
  have a2 := pByt_r n_size n_root ([5] ++ be 4 1) (be 4 2 ++ (enc1 sig ++ [])) [1] 1 1 32 (by decide) (by decide) (by decide) []
  have a3 := pU32_r n_root n_key ([5] ++ be 4 1 ++ enc1 [1]) (enc1 sig ++ []) 5 2 0 (by decide)
  have a4 := pByt_r n_key n_signature ([5] ++ be 4 1 ++ enc1 [1] ++ be 4 2) [] sig 10 0 32768 (by omega) (by omega) (by omega) []
  have e : signedR (signedB sig) = (.rd ⟨n_signature, signedB sig, (signedB sig).length, 14, none⟩, (1, [1]), 2, sig) := by
    unfold signedR
    have b0 : (cr0 (signedB sig)).pForm 5 = .rd ⟨n_form, signedB sig, ([5] : List Nat).length, 0, none⟩ := a0
    have b1 : (CS.rd ⟨n_form, signedB sig, ([5] : List Nat).length, 0, none⟩).pU32 n_size [] 0 = (.rd ⟨n_size, signedB sig, ([5] ++ be 4 1).length, 1, none⟩, 1) := a1
    have b2 : (CS.rd ⟨n_size, signedB sig, ([5] ++ be 4 1).length, 1, none⟩).pHash n_root [] = (.rd ⟨n_root, signedB sig, ([5] ++ be 4 1 ++ enc1 [1]).length, 5, none⟩, [1]) := by
      simp only [List.append_assoc] at a2 ⊢
      exact a2
    have b3 : (CS.rd ⟨n_root, signedB sig, ([5] ++ be 4 1 ++ enc1 [1]).length, 5, none⟩).pU32 n_key [] 0 = (.rd ⟨n_key, signedB sig, ([5] ++ be 4 1 ++ enc1 [1] ++ be 4 2).length, 10, none⟩, 2) := by
      simp only [List.append_assoc] at a3 ⊢
      exact a3
    have b4 : (CS.rd ⟨n_key, signedB sig, ([5] ++ be 4 1 ++ enc1 [1] ++ be 4 2).length, 10, none⟩).pByt n_signature 32768 [fun v => szN 0 32768 v.length] [] = (.rd ⟨n_signature, signedB sig, ([5] ++ be 4 1 ++ enc1 [1] ++ be 4 2 ++ enc1 sig).length, 14, none⟩, sig) := by
      simp only [List.append_assoc] at a4 ⊢
      exact a4
    rw [b0]
    simp only [CS.pSigned, CS.pHead, b1, b2, b3, b4]
    simp [signedB]
  rw [e]
  exact ⟨fin_ok _ _ _, rfl, rfl⟩
end Go.Proofs.YtcpbmphknonflaaGreatDoor

namespace Go.Proofs.YtcpbmphknonflaaGreatDoor
open Go.RowKit

/-- append(nil, x...): a row of one's own. -/
theorem app_nil7 (w : World) (x : Value) (l : List Nat) (hx : Src w x l) (hl : l.length ≤ 140737488355328) :
    ∃ ao cap w', (Builtin.append_ #[23, 23] 23 #[.slice none 0 0, x]).run Tryz.prog w = .ok (.slice ao l.length cap) w' ∧ w'.ownsRow w.heap.size 5 1 (.slice ao l.length cap) l.length (cellsOf l) ∧ Fr (fun _ => False) w w' := by
  obtain ⟨ao, cap, w', hr, hown, hg, _⟩ := run_app_sl w 23 w.heap.size 0 (.slice none 0 0) x [] l (World.ownsRow_nil _ _ _ _) hx (by omega) (Nat.le_refl _)
  simp only [Nat.zero_add, List.nil_append] at hr hown
  exact ⟨ao, cap, w', hr, hown, (Fr.refl _ _).grown hg (fun k hk => by cases hk)⟩
theorem own_pre7 {w : World} {base e g N n cap : Nat} {ys : List Value} (h : w.ownsRow base e 1 (.slice (some ⟨g, 0, none⟩) N cap) N ys) (hn : n ≤ N) : w.ownsRow base e 1 (.slice (some ⟨g, 0, none⟩) n cap) n (ys.take n) := by
  rcases h.2 with ⟨e1, _⟩ | ⟨g', cap', cur, e1, h1, h2, h3, h4, h5, h6⟩
  · simp at e1
  · simp only [Value.slice.injEq, Option.some.injEq, Addr.mk.injEq, and_true, true_and] at e1
    obtain ⟨rfl, rfl⟩ := e1
    have hl : ys.length = N := by simpa using h.1
    refine ⟨by rw [List.length_take, hl]; omega, .inr ⟨g, cap, cur, rfl, h1, h2, by omega, h4, h5, ?_⟩⟩
    rw [← h6, List.take_take]
    congr 1
    omega
/-- x = append(x, 66) onto a row of one's own: it stays where it is, or lies anew. -/
theorem app66 (w : World) (base n cap : Nat) (ao : Option Addr) (xs : List Value) (hown : w.ownsRow base 5 1 (.slice ao n cap) n xs) (hn : n ≤ 1000) (hbase : base ≤ w.heap.size) :
    ∃ g cap' w', (Builtin.append_ #[23, 23] 23 #[.slice ao n cap, .slice (some ⟨w.heap.size, 0, none⟩) 1 1]).run Tryz.prog (w.alloc (.cells #[.int .u8 66] 5)) = .ok (.slice (some ⟨g, 0, none⟩) (n + 1) cap') w' ∧ w'.ownsRow base 5 1 (.slice (some ⟨g, 0, none⟩) (n + 1) cap') (n + 1) (xs ++ [.int .u8 66]) ∧
      Fr (fun k => (Value.slice ao n cap).ownBlock = some k) w w' ∧ ((ao = some ⟨g, 0, none⟩ ∧ cap' = cap) ∨ (w.heap.size ≤ g ∧ Fr (fun _ => False) w w')) := by
  obtain ⟨i0, hi, hz0, hz1, hz2⟩ := info_parts Tryz.info5
  have hbx := box1 w (.cells #[.int .u8 66] 5)
  have hownb : (w.alloc (.cells #[.int .u8 66] 5)).ownsRow base 5 1 (.slice ao n cap) n xs := ownsRow_of_block hown (fun k hk => Below.heap_alloc _ _ _ (hown.lt k hk).2)
  have hn' : ∀ (j : Nat) u, ([.int .u8 66] : List Value)[j]? = some u → (w.alloc (.cells #[.int .u8 66] 5)).cell? ((⟨w.heap.size, 0, none⟩ : Addr).add j) = some u := fun j u hu => by
    rw [addr_add, World.cell?_alloc_at _ _ _ _ rfl]; simpa using hu
  have h1 : ∀ u ∈ ([.int .u8 66] : List Value), u.oneCell' = true := fun u hu => by simp at hu; subst hu; rfl
  obtain ⟨v', w', hr, h2, h3, _, h5⟩ := run_append_own_at (P := Tryz.prog) (w := w.alloc (.cells #[.int .u8 66] 5)) base 23 23 5 i0 (.int .u8 0) 1 1 Tryz.underlying23 hi hz0 hz1 hz2 rfl (by decide) (.slice ao n cap) n xs hownb ⟨w.heap.size, 0, none⟩ 1 1 [.int .u8 66] rfl hn' h1 (by simp only [maxLen]; omega) (by omega) (by simp; omega)
  obtain ⟨g, cap', rfl, _, hlt⟩ := h2.form (by omega)
  have hfr : Fr (fun k => (Value.slice ao n cap).ownBlock = some k) w w' := (hbx.mono (fun _ _ h => h.elim)).grown h3 (fun k hk => .inl hk)
  refine ⟨g, cap', w', hr, h2, hfr, ?_⟩
  have hxl : xs.length = n := by simpa using hown.1
  rcases hown.2 with ⟨e1, e2⟩ | ⟨q, cap2, cur, e1, k1, k2, k3, k4, k5, k6⟩
  · simp only [Value.slice.injEq] at e1
    obtain ⟨rfl, rfl, rfl⟩ := e1
    right
    have hg : w.heap.size ≤ g := by
      rcases h5 with e | e
      · cases e
      · cases e; simp
    exact ⟨hg, hfr.mono (fun k _ h => by cases h)⟩
  · simp only [Value.slice.injEq, true_and] at e1
    obtain ⟨rfl, rfl⟩ := e1
    have k2' : (w.alloc (.cells #[.int .u8 66] 5)).heap[q]? = some (.cells cur 5 (0, 0)) := by
      rw [Below.heap_alloc _ _ _ (hown.lt q rfl).2]; exact k2
    by_cases hroom : n + 1 ≤ cap
    · left
      have hr2 := run_append_room (P := Tryz.prog) (w.alloc (.cells #[.int .u8 66] 5)) 23 23 5 i0 Tryz.underlying23 hi q n cap cur k2' ⟨w.heap.size, 0, none⟩ 1 1 [.int .u8 66] (by rw [hz1]; rfl) hn' h1 hroom (by rw [hz1]; simp; omega)
      rw [hr] at hr2
      injection hr2 with f1 f2
      injection f1 with f1 _ f3
      injection f1 with f1
      injection f1 with f1 _ _
      subst f1 f3
      exact ⟨rfl, rfl⟩
    · right
      have hr2 := run_append_grow (P := Tryz.prog) (w.alloc (.cells #[.int .u8 66] 5)) 23 23 5 i0 (.int .u8 0) Tryz.underlying23 hi hz0 ⟨q, 0, none⟩ n cap xs (by rw [hxl, hz1, Nat.mul_one]) (hownb.cells (g := q) rfl) ⟨w.heap.size, 0, none⟩ 1 1 [.int .u8 66] (by rw [hz1]; rfl) hn' (by omega) (by omega) (by rw [hz2]; exact growslice_fits (by omega) (by omega))
      rw [hr] at hr2
      injection hr2 with f1 f2
      injection f1 with f1 _ _
      injection f1 with f1
      injection f1 with f1 _ _
      refine ⟨by rw [f1]; simp, ⟨hfr.os, hfr.tape, hfr.output, hfr.size, fun k hk _ => ?_⟩⟩
      rw [f2, Below.heap_alloc _ _ _ (by simp; omega)]
      exact Below.heap_alloc _ _ _ hk
/-- Own slices of own bytes, with the slices told. -/
structure OwU (w : World) (base : Nat) (x : Value) (ps : List (List Nat)) (us : List Value) : Prop where
  len : us.length = ps.length
  row : w.ownsRow base 23 1 x ps.length us
  el : ∀ (j : Nat) u p, us[j]? = some u → ps[j]? = some p → w.ownsRow base 5 1 u p.length (cellsOf p)
  ne : ∀ (j : Nat) u k, us[j]? = some u → u.ownBlock = some k → x.ownBlock ≠ some k
  ap : ∀ (j j' : Nat) u u' k, j ≠ j' → us[j]? = some u → us[j']? = some u' → u.ownBlock = some k → u'.ownBlock ≠ some k
theorem OwP.u {w : World} {base : Nat} {x : Value} {ps : List (List Nat)} {F : Nat → Prop} (h : OwP w base x ps F) : ∃ us, OwU w base x ps us := by
  obtain ⟨us, h1, h2, h3, h4, h5⟩ := h.us
  exact ⟨us, h1, h2, h3, fun j u k hu hk => (h4 j u k hu hk).2, h5⟩
theorem OwU.p {w : World} {base : Nat} {x : Value} {ps : List (List Nat)} {us : List Value} (h : OwU w base x ps us) : OwP w base x ps (fun _ => False) :=
  ⟨fun _ _ h => h, us, h.len, h.row, h.el, fun j u k hu hk => ⟨fun h => h, h.ne j u k hu hk⟩, h.ap⟩
theorem OwU.ult {w : World} {base : Nat} {x : Value} {ps : List (List Nat)} {us : List Value} (h : OwU w base x ps us) {j : Nat} {u : Value} {k : Nat} (hu : us[j]? = some u) (hk : u.ownBlock = some k) : base ≤ k ∧ k < w.heap.size := by
  have hj : j < ps.length := by rw [← h.len]; exact (List.getElem?_eq_some_iff.1 hu).1
  exact (h.el j u _ hu (List.getElem?_eq_getElem hj)).lt k hk
theorem OwU.fr {w w' : World} {base : Nat} {x : Value} {ps : List (List Nat)} {us : List Value} {S : Nat → Prop} (h : OwU w base x ps us) (hf : Fr S w w') (hS : ∀ k, base ≤ k → k < w.heap.size → ¬ S k) : OwU w' base x ps us :=
  ⟨h.len, ownsRow_of_block h.row (fun k hk => hf.block k (h.row.lt k hk).2 (hS k (h.row.lt k hk).1 (h.row.lt k hk).2)), fun j u p hu hp => ownsRow_of_block (h.el j u p hu hp) (fun k hk => hf.block k (h.ult hu hk).2 (hS k (h.ult hu hk).1 (h.ult hu hk).2)), h.ne, h.ap⟩
theorem OwU.at_ {w : World} {base : Nat} {x : Value} {ps : List (List Nat)} {us : List Value} (h : OwU w base x ps us) (j : Nat) (hj : j < ps.length) : ∃ gx c uo uc, x = .slice (some ⟨gx, 0, none⟩) ps.length c ∧ us[j]? = some (.slice uo (ps[j]).length uc) ∧ w.cell? ⟨gx, j, none⟩ = some (.slice uo (ps[j]).length uc) ∧ w.ownsRow base 5 1 (.slice uo (ps[j]).length uc) (ps[j]).length (cellsOf ps[j]) := by
  have hju : j < us.length := by rw [h.len]; exact hj
  have hu := List.getElem?_eq_getElem hju
  have he := h.el j _ _ hu (List.getElem?_eq_getElem hj)
  obtain ⟨uo, uc, e⟩ := own_form he
  obtain ⟨gx, c, rfl, _⟩ := h.row.form (by omega)
  rw [e] at he hu
  exact ⟨gx, c, uo, uc, rfl, hu, (h.row.cellAt j (by omega)).trans hu, he⟩
theorem OwU.upd {w w' : World} {base : Nat} {x : Value} {ps : List (List Nat)} {us : List Value} (h : OwU w base x ps us) (j : Nat) (u : Value) (p p' : List Nat) (hu : us[j]? = some u) (hp : ps[j]? = some p) (hf : Fr (fun k => u.ownBlock = some k) w w') (hn : w'.ownsRow base 5 1 u p'.length (cellsOf p')) : OwU w' base x (ps.set j p') us := by
  refine ⟨by simp [h.len], ?_, fun i v q hv hq => ?_, h.ne, h.ap⟩
  · rw [List.length_set]
    exact ownsRow_of_block h.row (fun k hk => hf.block k (h.row.lt k hk).2 (fun e => h.ne j u k hu e hk))
  · by_cases hij : j = i
    · subst hij
      rw [hu] at hv
      cases hv
      rw [List.getElem?_set_self (List.getElem?_eq_some_iff.1 hp).1] at hq
      cases hq
      exact hn
    · rw [List.getElem?_set_ne hij] at hq
      exact ownsRow_of_block (h.el i v q hv hq) (fun k hk => hf.block k (h.ult hv hk).2 (fun e => h.ap j i u v k hij hu hv e hk))
theorem cellsOf_set77 (p : List Nat) (k : Nat) : (cellsOf p).set k (.int .u8 77) = cellsOf (p.set k 77) := by
  simp [cellsOf, List.map_set, B]
/-- A byte of one of them turned to 77. -/
theorem OwU.set77 {w : World} {base : Nat} {x : Value} {ps : List (List Nat)} {us : List Value} (h : OwU w base x ps us) (j g n c k : Nat) (p : List Nat) (hu : us[j]? = some (.slice (some ⟨g, 0, none⟩) n c)) (hp : ps[j]? = some p) : OwU (w.setCell ⟨g, k, none⟩ (.int .u8 77)) base x (ps.set j (p.set k 77)) us := by
  have he := h.el j _ p hu hp
  obtain rfl : n = p.length := by
    obtain ⟨ao, cap, e⟩ := own_form he
    cases e
    rfl
  have hst := (World.ownsRow.stored he k (.int .u8 77)).1
  rw [cellsOf_set77] at hst
  have hfr : Fr (fun k => (Value.slice (some ⟨g, 0, none⟩) p.length c).ownBlock = some k) w (w.setCell ⟨g, k, none⟩ (.int .u8 77)) := ((Fr.refl (fun x => x = g) w).setCell (p := ⟨g, k, none⟩) (.inl rfl) _).mono (fun x _ e => by rw [e]; rfl)
  exact h.upd j _ p (p.set k 77) hu hp hfr (by rw [List.length_set]; exact hst)
theorem OwU.upd0 {w w' : World} {base : Nat} {x : Value} {ps : List (List Nat)} {us : List Value} (h : OwU w base x ps us) (j : Nat) (u : Value) (p : List Nat) (hu : us[j]? = some u) (hp : ps[j]? = some p) (hf : Fr (fun k => u.ownBlock = some k) w w') (hn : w'.ownsRow base 5 1 u p.length (cellsOf p)) : OwU w' base x ps us := by
  have := h.upd j u p p hu hp hf hn
  rwa [show ps.set j p = ps from by
    obtain ⟨hj, rfl⟩ := List.getElem?_eq_some_iff.1 hp
    exact List.set_getElem_self hj] at this
theorem OwU.pci {w : World} {base : Nat} {ps : List (List Nat)} {us : List Value} {xo : Option Addr} {xc : Nat} (h : OwU w base (.slice xo ps.length xc) ps us) (hl : ps.length < 9223372036854775808) (hp : ∀ p ∈ ps, p.length < 9223372036854775808) : PcI w xo xc ps := by
  refine ⟨?_, hl, fun j p hpj => ?_⟩
  · rcases h.row.2 with ⟨e, h0⟩ | ⟨g, c, cur, e, _, _, hc, _⟩
    · omega
    · cases e; exact hc
  · obtain ⟨hj, rfl⟩ := List.getElem?_eq_some_iff.1 hpj
    obtain ⟨gx, c, uo, uc, e, hu, hc, ho⟩ := h.at_ j hj
    cases e
    exact ⟨gx, 0, _, rfl, by rw [Nat.zero_add]; exact hc, own_src ho, fun g o m c e => (ho.lt g (by rw [e]; rfl)).2, hp _ (List.getElem_mem hj)⟩
theorem Src.take7 {w : World} {xo : Option Addr} {xc : Nat} {p : List Nat} (h : Src w (.slice xo p.length xc) p) (n : Nat) (hn : n ≤ p.length) : Src w (.slice xo n xc) (p.take n) := by
  rcases h with ⟨e, e2⟩ | ⟨g, o, c, e, hc⟩ | ⟨a, c, e, e2⟩
  · subst e2
    have : n = 0 := by simpa using hn
    subst this
    exact .inl ⟨by simpa using e, rfl⟩
  · simp only [Value.slice.injEq, true_and] at e
    obtain ⟨rfl, rfl⟩ := e
    refine .inr (.inl ⟨g, o, xc, by rw [List.length_take, Nat.min_eq_left hn], fun j v hv => hc j v ?_⟩)
    have hj : j < n := by
      have := (List.getElem?_eq_some_iff.1 hv).1
      rw [cellsOf_length, List.length_take] at this
      omega
    rw [cellsOf, List.map_take, List.getElem?_take_of_lt hj] at hv
    exact hv
  · subst e2
    have : n = 0 := by simpa using hn
    subst this
    simp only [Value.slice.injEq] at e
    exact .inr (.inr ⟨a, xc, by rw [e.1], rfl⟩)
/-- The hashes that go into the proof. -/
def pk1 (h : List Nat) : List (List Nat) := if h.length = 0 then [] else [h.take 32]
def pk (hs : List (List Nat)) : List (List Nat) := hs.flatMap pk1
theorem pk_succ (hs : List (List Nat)) (k : Nat) (h : List Nat) (hk : hs[k]? = some h) : pk (hs.take (k + 1)) = pk (hs.take k) ++ pk1 h := by
  rw [List.take_add_one, hk]
  simp [pk]
theorem pk_ok (hs : List (List Nat)) : ∀ p ∈ pk hs, 1 ≤ p.length ∧ p.length ≤ 32 := by
  intro p hp
  simp only [pk, List.mem_flatMap] at hp
  obtain ⟨h, _, hp⟩ := hp
  unfold pk1 at hp
  split at hp
  · cases hp
  · simp at hp
    subst hp
    rw [List.length_take]
    omega
theorem pk_len (hs : List (List Nat)) : (pk hs).length ≤ hs.length := by
  induction hs with
  | nil => simp [pk]
  | cons h t ih =>
    have e : pk (h :: t) = pk1 h ++ pk t := by simp [pk]
    have : (pk1 h).length ≤ 1 := by unfold pk1; split <;> simp
    rw [e, List.length_append, List.length_cons]
    omega
end Go.Proofs.YtcpbmphknonflaaGreatDoor

namespace Go.Proofs.YtcpbmphknonflaaGreatDoor
open Go.RowKit

theorem blk_cell {w : World} {b t o : Nat} {cs : Array Value} (h : w.heap[b]? = some (.cells cs t)) (v : Value) (hv : cs[o]? = some v) : w.cell? ⟨b, o, none⟩ = some v := by simp [World.cell?, h, hv]
theorem blk_frz {w : World} {b t o : Nat} {cs : Array Value} (h : w.heap[b]? = some (.cells cs t)) : w.frozen? ⟨b, o, none⟩ = false := by simp [World.frozen?, h]
theorem blkset9 {w : World} {b t : Nat} {cs : Array Value} (h : w.heap[b]? = some (.cells cs t)) (o : Nat) (v : Value) : (w.setCell ⟨b, o, none⟩ v).heap[b]? = some (.cells (cs.setIfInBounds o v) t) := by
  simp [World.setCell, Array.getElem?_modify, h]
/-- One more hash, copied and appended to the proof's list. -/
theorem kstep (wr : World) (bp : Nat) (ao : Option Addr) (cap : Nat) (ps : List (List Nat)) (h : OwP wr (bp + 1) (.slice ao ps.length cap) ps (fun _ => False)) (hb : wr.heap[bp]? = some (.cells #[.slice ao ps.length cap] 40)) (x : Value) (L : List Nat) (hx : Src wr x L) (hn : L.length ≤ 32) (hl : ps.length < 100) :
    ∃ a c w2 ao' cap' w3, (Builtin.append_ #[23, 23] 23 #[.slice none 0 0, x]).run Tryz.prog wr.drew = .ok (.slice a L.length c) w2 ∧ w2.cell? ⟨bp, 0, none⟩ = some (.slice ao ps.length cap) ∧
      (Builtin.append_ #[38, 38] 38 #[.slice ao ps.length cap, .slice (some ⟨w2.heap.size, 0, none⟩) 1 1]).run Tryz.prog (w2.alloc (.cells #[.slice a L.length c] 23)) = .ok (.slice ao' (ps.length + 1) cap') w3 ∧ w3.cell? ⟨bp, 0, none⟩ = some (.slice ao ps.length cap) ∧ w3.frozen? ⟨bp, 0, none⟩ = false ∧
      OwP (w3.setCell ⟨bp, 0, none⟩ (.slice ao' (ps.length + 1) cap')) (bp + 1) (.slice ao' (ps.length + 1) cap') (ps ++ [L]) (fun _ => False) ∧ (w3.setCell ⟨bp, 0, none⟩ (.slice ao' (ps.length + 1) cap')).heap[bp]? = some (.cells #[.slice ao' (ps.length + 1) cap'] 40) ∧ Fr (fun k => bp ≤ k) wr (w3.setCell ⟨bp, 0, none⟩ (.slice ao' (ps.length + 1) cap')) := by
  have hbl : bp < wr.heap.size := by
    rcases Nat.lt_or_ge bp wr.heap.size with hx | hx
    · exact hx
    · rw [Array.getElem?_eq_none hx] at hb; cases hb
  have hd : Fr (fun _ => False) wr wr.drew := (Fr.refl _ _).drew
  obtain ⟨a, c, w2, hr, hown, hf⟩ := app_nil7 wr.drew x L (hx.fr hd (fun _ _ _ _ _ h => h)) (by omega)
  have hf2 : Fr (fun _ => False) wr w2 := hd.trans hf (fun _ _ h => h)
  have h2 := h.fr0 hf2
  have hb2 : w2.heap[bp]? = _ := (hf2.block bp hbl (fun h => h)).trans hb
  obtain ⟨us0, _, hrow0, _, _⟩ := h.us
  have hold : ∀ k, (Value.slice ao ps.length cap).ownBlock = some k → bp + 1 ≤ k ∧ k < wr.heap.size := fun k hk => hrow0.lt k hk
  have hnew : ∀ k, (Value.slice a L.length c).ownBlock = some k → wr.heap.size ≤ k := fun k hk => (hown.lt k hk).1
  obtain ⟨ao', cap', w3, hr3, hO3, hf3⟩ := h2.app a c L (by have := hf2.size; omega) (own_mono hown (by show bp + 1 ≤ wr.heap.size; omega)) (fun k hk => ⟨fun h => h, fun e => by have := (hold k e).2; have := hnew k hk; omega⟩)
    (fun us hus j u kk hu hkk e => by
      obtain ⟨us1, hl1, hr1, he1, _⟩ := h.us
      have hr1' : w2.ownsRow (bp + 1) 23 1 (.slice ao ps.length cap) ps.length us1 := ownsRow_of_block hr1 (fun kx hkx => hf2.block kx (hr1.lt kx hkx).2 (fun h => h))
      obtain rfl := ownsRow_unique hus hr1'
      have hj : j < ps.length := by rw [← hl1]; exact (List.getElem?_eq_some_iff.1 hu).1
      have ho := (he1 j u _ hu (List.getElem?_eq_getElem hj)).lt kk e
      have := hnew kk hkk
      omega) (fun k hk => hk.elim) (by omega)
  rw [List.length_append, List.length_singleton] at hr3 hO3
  have hb3 : w3.heap[bp]? = _ := (hf3.block bp (by have := hf2.size; omega) (fun e => by have := (hold bp e).1; omega)).trans hb2
  have hfs : Fr (fun k => k = bp) w3 (w3.setCell ⟨bp, 0, none⟩ (.slice ao' (ps.length + 1) cap')) := (Fr.refl (fun k => k = bp) _).setCell (p := ⟨bp, 0, none⟩) (.inl rfl) _
  refine ⟨a, c, w2, ao', cap', w3, hr, blk_cell hb2 _ rfl, hr3, blk_cell hb3 _ rfl, blk_frz hb3, hO3.stp (Stp.set bp 0 _) (fun k j hk _ e => by omega), by rw [blkset9 hb3]; simp, ?_⟩
  exact ((hf2.mono (fun _ _ h => h.elim)).trans hf3 (fun k _ hk => by have := (hold k hk).1; omega)).trans hfs (fun k _ hk => by omega)
theorem encs_len (ps : List (List Nat)) (hp : ∀ p ∈ ps, 1 ≤ p.length ∧ p.length ≤ 32) : (encs ps).length ≤ 36 * ps.length := by
  induction ps with
  | nil => simp [encs]
  | cons p t ih =>
    have h1 := hp p (List.mem_cons_self ..)
    have h2 := ih (fun q hq => hp q (List.mem_cons_of_mem _ hq))
    simp only [encs, enc1, List.length_append, be_length, List.length_cons]
    omega
theorem proofB_len (ps : List (List Nat)) (hp : ∀ p ∈ ps, 1 ≤ p.length ∧ p.length ≤ 32) (hl : ps.length ≤ 40) : (proofB ps).length ≤ 100000 := by
  have := encs_len ps hp
  simp only [proofB, List.length_append, be_length, List.length_cons, List.length_nil]
  omega
theorem same_self7 (l : List Nat) : sameB l l = true := by simp [sameB]
/-- Slices of bytes that come in. -/
structure PcJ (w : World) (xo : Option Addr) (hs : List (List Nat)) : Prop where
  len : hs.length < 9223372036854775808
  el : ∀ (j : Nat) p, hs[j]? = some p → ∃ g o ho hc, xo = some ⟨g, o, none⟩ ∧ w.cell? ⟨g, o + j, none⟩ = some (.slice ho p.length hc) ∧ Src w (.slice ho p.length hc) p ∧ p.length ≤ hc ∧ p.length < 9223372036854775808
theorem OwU.fr2 {w w' : World} {base : Nat} {x : Value} {ps : List (List Nat)} {us : List Value} {S : Nat → Prop} (h : OwU w base x ps us) (hf : Fr S w w') (hS : ∀ k, (x.ownBlock = some k ∨ ∃ (j : Nat) (u : Value), us[j]? = some u ∧ u.ownBlock = some k) → ¬ S k) : OwU w' base x ps us :=
  ⟨h.len, ownsRow_of_block h.row (fun k hk => hf.block k (h.row.lt k hk).2 (hS k (.inl hk))), fun j u p hu hp => ownsRow_of_block (h.el j u p hu hp) (fun k hk => hf.block k (h.ult hu hk).2 (hS k (.inr ⟨j, u, hu, hk⟩))), h.ne, h.ap⟩
/-- A list of hashes in its box, laid between lo and hi. -/
structure KB (W : World) (bp lo hi : Nat) (x : Value) (ps : List (List Nat)) (us : List Value) : Prop where
  hb : W.heap[bp]? = some (.cells #[x] 40)
  u : OwU W lo x ps us
  lt : ∀ k, (x.ownBlock = some k ∨ ∃ (j : Nat) (u : Value), us[j]? = some u ∧ u.ownBlock = some k) → lo ≤ k ∧ k < hi
theorem KB.fr {W W' : World} {bp lo hi : Nat} {x : Value} {ps : List (List Nat)} {us : List Value} {S : Nat → Prop} (h : KB W bp lo hi x ps us) (hf : Fr S W W') (hbp : ¬ S bp) (hS : ∀ k, lo ≤ k → k < hi → ¬ S k) : KB W' bp lo hi x ps us := by
  have hbl : bp < W.heap.size := by
    rcases Nat.lt_or_ge bp W.heap.size with hx | hx
    · exact hx
    · have := h.hb; rw [Array.getElem?_eq_none hx] at this; cases this
  exact ⟨(hf.block bp hbl hbp).trans h.hb, h.u.fr2 hf (fun k hk => hS k (h.lt k hk).1 (h.lt k hk).2), h.lt⟩
theorem KB.fr0 {W W' : World} {bp lo hi : Nat} {x : Value} {ps : List (List Nat)} {us : List Value} (h : KB W bp lo hi x ps us) (hf : Fr (fun _ => False) W W') : KB W' bp lo hi x ps us := h.fr hf (fun h => h) (fun _ _ _ h => h)
theorem KB.mk1 {W : World} {bp lo : Nat} {x : Value} {ps : List (List Nat)} {us : List Value} (hb : W.heap[bp]? = some (.cells #[x] 40)) (u : OwU W lo x ps us) : KB W bp lo W.heap.size x ps us :=
  ⟨hb, u, fun k hk => hk.elim (fun h => u.row.lt k h) (fun ⟨_, _, h1, h2⟩ => u.ult h1 h2)⟩
end Go.Proofs.YtcpbmphknonflaaGreatDoor

namespace Go.Proofs.YtcpbmphknonflaaGreatDoor
open Go.RowKit

/-- A row of bytes of one's own, whatever it holds. -/
def OwnI (w0 w : World) (base : Nat) (ao : Option Addr) (c n : Nat) : Prop := Fr (fun k => ao.map (·.block) = some k) w0 w ∧ ∃ xs, w.ownsRow base 5 1 (.slice ao n c) n xs ∧ ∀ j, j < n → ∃ z, xs[j]? = some (.int .u8 z)
theorem cellsI {n : Nat} (l : List Nat) (h : l.length = n) : ∀ j, j < n → ∃ z, (cellsOf l)[j]? = some (.int .u8 z) := fun j hj => ⟨_, by simp [cellsOf, B, show j < l.length by omega]; rfl⟩
theorem OwnI.at_ {w0 w : World} {base c n : Nat} {ao : Option Addr} (h : OwnI w0 w base ao c n) (j : Nat) (hj : j < n) : ∃ g z, ao = some ⟨g, 0, none⟩ ∧ w.cell? ⟨g, j, none⟩ = some (.int .u8 z) ∧ w.frozen? ⟨g, j, none⟩ = false := by
  obtain ⟨_, xs, hx, hz⟩ := h
  obtain ⟨z, e⟩ := hz j hj
  rcases hx.2 with ⟨_, e0⟩ | ⟨g', c', cur, e1, _, e3, _⟩
  · omega
  · simp only [Value.slice.injEq] at e1
    obtain ⟨rfl, -, rfl⟩ := e1
    exact ⟨g', z, rfl, (hx.cellAt j (by omega)).trans e, by simp [World.frozen?, e3]⟩
theorem OwnI.step {w0 w : World} {base g c n : Nat} (h : OwnI w0 w base (some ⟨g, 0, none⟩) c n) (j : Nat) (z : Int) : OwnI w0 (w.setCell ⟨g, j, none⟩ (.int .u8 z)) base (some ⟨g, 0, none⟩) c n := by
  obtain ⟨hf, xs, hx, hz⟩ := h
  have hl : xs.length = n := by simpa using hx.1
  refine ⟨hf.setCell (p := ⟨g, j, none⟩) (.inl rfl) _, xs.set j (.int .u8 z), (hx.stored j _).1, fun i hi => ?_⟩
  by_cases hij : j = i
  · subst hij
    exact ⟨z, by simp [hl, hi]⟩
  · obtain ⟨z', e⟩ := hz i hi
    exact ⟨z', by rw [List.getElem?_set_ne hij]; exact e⟩
theorem ownb7 {ao : Option Addr} {n c k : Nat} (h : (Value.slice ao n c).ownBlock = some k) : ao.map (·.block) = some k := by
  cases ao with
  | none => cases h
  | some a => simpa [Value.ownBlock] using h
theorem bown7 {ao : Option Addr} {n c k : Nat} (h : ao.map (·.block) = some k) : (Value.slice ao n c).ownBlock = some k := by
  cases ao with
  | none => cases h
  | some a => simpa [Value.ownBlock] using h
/-- What stays through WireKept's loops: the proof, its first bytes, the copy kept, the second proof read. -/
structure KZ (w W : World) (bp n0 n3 n5 n6 n7 n8 : Nat) (ps : List (List Nat)) (us uy : List Value) (pv av kv yv : Value) (PB : List Nat) : Prop where
  f : Fr (fun _ => False) w W
  p : KB W bp (bp + 1) n0 pv ps us
  a : W.ownsRow n0 5 1 av PB.length (cellsOf PB)
  al : ∀ k, av.ownBlock = some k → k < n3
  k : W.ownsRow n5 5 1 kv PB.length (cellsOf PB)
  kl : ∀ k, kv.ownBlock = some k → k < n6
  y : KB W n8 (n7 + 1) n8 yv ps uy
  o : w.heap.size ≤ bp ∧ bp < n0 ∧ n0 ≤ n3 ∧ n3 ≤ n5 ∧ n5 ≤ n6 ∧ n6 ≤ n7 ∧ n7 < n8 ∧ n8 < W.heap.size
theorem KZ.fr {w W W' : World} {bp n0 n3 n5 n6 n7 n8 : Nat} {ps : List (List Nat)} {us uy : List Value} {pv av kv yv : Value} {PB : List Nat} {S : Nat → Prop} (h : KZ w W bp n0 n3 n5 n6 n7 n8 ps us uy pv av kv yv PB) (hf : Fr S W W') (hS : ∀ k, S k → (n3 ≤ k ∧ k < n5) ∨ (n6 ≤ k ∧ k ≤ n7) ∨ n8 < k) : KZ w W' bp n0 n3 n5 n6 n7 n8 ps us uy pv av kv yv PB := by
  obtain ⟨o1, o2, o3, o4, o5, o6, o7, o8⟩ := h.o
  have hs := hf.size
  refine ⟨h.f.trans hf (fun i hi hs => ?_), h.p.fr hf (fun hs => ?_) (fun k h1 h2 hs => ?_), ownsRow_of_block h.a (fun g hg => hf.block g (h.a.lt g hg).2 (fun hs => ?_)), h.al, ownsRow_of_block h.k (fun g hg => hf.block g (h.k.lt g hg).2 (fun hs => ?_)), h.kl, h.y.fr hf (fun hs => ?_) (fun k h1 h2 hs => ?_), o1, o2, o3, o4, o5, o6, o7, by omega⟩
  · have := hS _ hs; omega
  · have := hS _ hs; omega
  · have := hS _ hs; omega
  · have := hS _ hs; have := h.al g hg; omega
  · have := hS _ hs; have := h.kl g hg; have := (h.k.lt g hg).1; omega
  · have := hS _ hs; omega
  · have := hS _ hs; omega
theorem KB.at_ {W : World} {bp lo hi : Nat} {x : Value} {ps : List (List Nat)} {us : List Value} (h : KB W bp lo hi x ps us) (j : Nat) (hj : j < ps.length) : ∃ gx c uo uc, x = .slice (some ⟨gx, 0, none⟩) ps.length c ∧ us[j]? = some (.slice uo (ps[j]).length uc) ∧ W.cell? ⟨gx, j, none⟩ = some (.slice uo (ps[j]).length uc) ∧ W.ownsRow lo 5 1 (.slice uo (ps[j]).length uc) (ps[j]).length (cellsOf ps[j]) := h.u.at_ j hj
theorem KB.set77 {W : World} {bp lo hi : Nat} {x : Value} {ps : List (List Nat)} {us : List Value} (h : KB W bp lo hi x ps us) (hbp : hi ≤ bp) (j g n c k : Nat) (p : List Nat) (hu : us[j]? = some (.slice (some ⟨g, 0, none⟩) n c)) (hp : ps[j]? = some p) : KB (W.setCell ⟨g, k, none⟩ (.int .u8 77)) bp lo hi x (ps.set j (p.set k 77)) us := by
  have hg := h.lt g (.inr ⟨j, _, hu, rfl⟩)
  refine ⟨?_, h.u.set77 j g n c k p hu hp, h.lt⟩
  rw [Below.heap_setCell _ _ _ _ (show bp ≠ g by omega)]
  exact h.hb
/-- All lengths alike. -/
def Like (ps qs : List (List Nat)) : Prop := qs.map List.length = ps.map List.length
theorem Like.len {ps qs : List (List Nat)} (h : Like ps qs) : qs.length = ps.length := by simpa using congrArg List.length h
theorem Like.at_ {ps qs : List (List Nat)} (h : Like ps qs) (j : Nat) (h1 : j < ps.length) (h2 : j < qs.length) : (qs[j]).length = (ps[j]).length := by
  have := congrArg (fun l => l[j]?) h
  simpa [h1, h2] using this
theorem Like.set {ps qs : List (List Nat)} (h : Like ps qs) (j : Nat) (p q : List Nat) (hp : qs[j]? = some p) (hq : q.length = p.length) : Like ps (qs.set j q) := by
  unfold Like at *
  rw [← h]
  apply List.ext_getElem?
  intro i
  simp only [List.getElem?_map]
  by_cases e : j = i
  · subst e
    rw [List.getElem?_set_self (List.getElem?_eq_some_iff.1 hp).1, hp]
    simp [hq]
  · rw [List.getElem?_set_ne e]
end Go.Proofs.YtcpbmphknonflaaGreatDoor

namespace Go.Proofs.YtcpbmphknonflaaGreatDoor
open Go.RowKit

/-- A hash of a list that is being grown: it lies where it lay, or anew. -/
def HA (lo N : Nat) (W : World) (u : Value) (p : List Nat) (hv : Value) (m : Nat) : Prop :=
  ∃ ho hc xs, hv = .slice ho m hc ∧ W.ownsRow lo 5 1 (.slice ho m hc) m xs ∧ p.length ≤ m ∧ ((u = .slice ho p.length hc ∧ xs.take p.length = cellsOf p) ∨ ∀ k, (Value.slice ho m hc).ownBlock = some k → N ≤ k)
theorem HA.start {lo N : Nat} {W : World} {uo : Option Addr} {uc : Nat} {p : List Nat} (h : W.ownsRow lo 5 1 (.slice uo p.length uc) p.length (cellsOf p)) : HA lo N W (.slice uo p.length uc) p (.slice uo p.length uc) p.length :=
  ⟨uo, uc, _, rfl, h, Nat.le_refl _, .inl ⟨rfl, by rw [List.take_of_length_le (by rw [cellsOf_length]; exact Nat.le_refl _)]⟩⟩
theorem ob7 {g n c k : Nat} (e : (Value.slice (some ⟨g, 0, none⟩) n c).ownBlock = some k) : k = g := by cases e; rfl
theorem ha_step {W : World} {bx lo hi N I m : Nat} {x u hv : Value} {qs : List (List Nat)} {ux : List Value} {p : List Nat} (hK : KB W bx lo hi x qs ux) (hu : ux[I]? = some u) (hp : qs[I]? = some p) (hA : HA lo N W u p hv m) (hm : m ≤ 1000) (ho : hi ≤ bx ∧ bx < N ∧ lo ≤ N ∧ N ≤ W.heap.size) :
    ∃ g c' w', (Builtin.append_ #[23, 23] 23 #[hv, .slice (some ⟨W.heap.size, 0, none⟩) 1 1]).run Tryz.prog (W.alloc (.cells #[.int .u8 66] 5)) = .ok (.slice (some ⟨g, 0, none⟩) (m + 1) c') w' ∧ KB w' bx lo hi x qs ux ∧ HA lo N w' u p (.slice (some ⟨g, 0, none⟩) (m + 1) c') (m + 1) ∧ Fr (fun k => (lo ≤ k ∧ k < hi) ∨ N ≤ k) W w' := by
  obtain ⟨hb, hc, xs, rfl, hown, hpm, hcase⟩ := hA
  obtain ⟨o1, o2, o3, o4⟩ := ho
  obtain ⟨g, c', w', hr, hown', hf, hin⟩ := app66 W lo m hc hb xs hown hm (by omega)
  have hxl : xs.length = m := by simpa using hown.1
  have htk : (xs ++ [Value.int .u8 66]).take p.length = xs.take p.length := List.take_append_of_le_length (by omega)
  have hbl : bx < W.heap.size := by omega
  rcases hin with ⟨rfl, rfl⟩ | ⟨hgn, hf0⟩
  · rcases hcase with ⟨rfl, hxs⟩ | hN
    · have hul := hK.lt g (.inr ⟨I, _, hu, rfl⟩)
      have hf2 : Fr (fun k => (Value.slice (some ⟨g, 0, none⟩) p.length c').ownBlock = some k) W w' := hf
      have hnew : w'.ownsRow lo 5 1 (.slice (some ⟨g, 0, none⟩) p.length c') p.length (cellsOf p) := by
        have := own_pre7 hown' (n := p.length) (by omega)
        rwa [htk, hxs] at this
      refine ⟨g, c', w', hr, ⟨(hf.block bx hbl (fun e => by have := ob7 e; omega)).trans hK.hb, hK.u.upd0 I _ p hu hp hf2 hnew, hK.lt⟩, ⟨_, _, _, rfl, hown', by omega, .inl ⟨rfl, by rw [htk]; exact hxs⟩⟩, hf.mono (fun k _ e => by rw [ob7 e]; exact .inl hul)⟩
    · have hg := hN g rfl
      refine ⟨g, c', w', hr, hK.fr hf (fun e => by have := ob7 e; omega) (fun k h1 h2 e => ?_), ⟨_, _, _, rfl, hown', by omega, .inr (fun k hk => by rw [ob7 hk]; exact hg)⟩, hf.mono (fun k _ e => by rw [ob7 e]; exact .inr hg)⟩
      have := ob7 e
      omega
  · exact ⟨g, c', w', hr, hK.fr0 hf0, ⟨_, _, _, rfl, hown', by omega, .inr (fun k hk => by have := ob7 hk; omega)⟩, hf0.mono (fun _ _ h => h.elim)⟩
theorem KB.drewN {W : World} {bp lo hi : Nat} {x : Value} {ps : List (List Nat)} {us : List Value} (h : KB W bp lo hi x ps us) (n : Nat) : KB (W.drewN n) bp lo hi x ps us := h.fr0 ((Fr.refl _ _).drewN n)
/-- A byte of a list of hashes that are all 77. -/
theorem KB.at77 {W : World} {bp lo hi : Nat} {x : Value} {qs : List (List Nat)} {us : List Value} (h : KB W bp lo hi x qs us) (j k : Nat) (hj : j < qs.length) (hk : k < (qs[j]).length) (h7 : ∀ v ∈ qs[j], v = 77) : ∃ gx c gu uc, x = .slice (some ⟨gx, 0, none⟩) qs.length c ∧ W.cell? ⟨gx, j, none⟩ = some (.slice (some ⟨gu, 0, none⟩) (qs[j]).length uc) ∧ W.cell? ⟨gu, k, none⟩ = some (.int .u8 77) := by
  obtain ⟨gx, c, uo, uc, e, hu, hc, ho⟩ := h.at_ j hj
  rcases ho.2 with ⟨_, h0⟩ | ⟨gu, c2, cur, e2, _⟩
  · omega
  · simp only [Value.slice.injEq, true_and] at e2
    obtain ⟨rfl, rfl⟩ := e2
    refine ⟨gx, c, gu, uc, e, hc, ?_⟩
    rw [ho.cellAt k (by omega)]
    simp [cellsOf, B, hk, h7 (qs[j])[k] (List.getElem_mem hk)]
theorem all77 {p : List Nat} {n : Nat} (h : ∀ j, j < n → p[j]? = some 77) (hn : p.length = n) : ∀ v ∈ p, v = 77 := fun v hv => by
  obtain ⟨j, hj, rfl⟩ := List.mem_iff_getElem.1 hv
  have := h j (by omega)
  rw [List.getElem?_eq_getElem hj] at this
  exact Option.some.inj this
end Go.Proofs.YtcpbmphknonflaaGreatDoor

namespace Go.Proofs.YtcpbmphknonflaaGreatDoor
open Go.RowKit

theorem take_len32 (h : List Nat) : h.take (h.take 32).length = h.take 32 := by
  rw [List.length_take]
  rcases Nat.le_total 32 h.length with e | e
  · rw [Nat.min_eq_left e]
  · rw [Nat.min_eq_right e, List.take_length, List.take_of_length_le e]
set_option maxRecDepth 1000000 in
set_option maxHeartbeats 8000000 in
/-- WireKept. -/
theorem wkept_small (hs : List (List Nat)) (sig : List Nat) (xo yo : Option Addr) (xc yc : Nat) (E : Nat → Addr) (w : World) (hg : G6 w E) (hw : 9 ≤ w.heap.size) (hx : PcJ w xo hs) (hy : SlI w (.slice yo sig.length yc) sig) (hyc : sig.length ≤ yc) (hq : hs.length ≤ 40) :
    Calls Tryz.prog 8 #[.slice xo hs.length xc, .slice yo sig.length yc] w fun e w' => e = .returned (.bool true) ∧ Fr (fun _ => False) w w' := by
  have hlh := hx.len
  have HQ0 := hide hq
  clear hq
  have hls := hy.len
  have HG := hide (And.intro hg (And.intro hx (And.intro hy trivial)))
  clear hg hx hy
  go_enter Tryz.func8, Tryz.ntmps8
  go_wp2_with fail
  refine (awake7 E w (unhide HG).1 hw).mono ?_
  rintro e w1 ⟨rfl, hf1⟩
  have H1 := hide hf1
  clear hf1
  go_wp2_with fail
  go_loopw [6, 7, 8] (fun iv _ _ wr => ∃ (k : Nat) (ao : Option Addr) (cap : Nat), k ≤ 40 ∧ k ≤ hs.length ∧ iv = .int .i64 (k : Nat) ∧ wr.heap[w1.heap.size]? = some (.cells #[.slice ao (pk (hs.take k)).length cap] 40) ∧ OwP wr (w1.heap.size + 1) (.slice ao (pk (hs.take k)).length cap) (pk (hs.take k)) (fun _ => False) ∧ Fr (fun _ => False) w1 wr) (fun iv _ _ _ => 40 - (intOf iv).toNat)
  case atStart => exact ⟨0, none, 0, by decide, Nat.zero_le _, rfl, heap_alloc_new _ _, OwP.nil _ _ _, box1 _ _⟩
  case round =>
    obtain ⟨k, ao, cap, hk40, hkl, rfl, hb, hO, hf⟩ := hrel
    have hpl : (pk (hs.take k)).length ≤ 40 := Nat.le_trans (pk_len _) (by rw [List.length_take]; omega)
    by_cases hlt : k < hs.length ∧ k < 40
    · obtain ⟨h1, h2⟩ := hlt
      obtain ⟨h, hhk⟩ : ∃ h, hs[k]? = some h := ⟨_, List.getElem?_eq_getElem h1⟩
      obtain ⟨g, o, ho, hc, hxo, hcell, hSl, hcc, hhl⟩ := (unhide HG).2.1.el k h hhk
      have hcr : wr.cell? ⟨g, o + k, none⟩ = some (.slice ho h.length hc) := (((unhide H1).trans hf (fun _ _ h => h)).cell (p := ⟨g, o + k, none⟩) (lt_of_cell hcell) (fun h => h)).trans hcell
      have hsr : Src wr (.slice ho h.length hc) h := hSl.fr ((unhide H1).trans hf (fun _ _ h => h)) (fun _ _ _ _ _ h => h)
      subst hxo
      by_cases h0 : h.length = 0
      · have ep : pk (hs.take (k + 1)) = pk (hs.take k) := by rw [pk_succ hs k h hhk]; simp [pk1, h0]
        rw [h0] at hcr
        have HK := hide (And.intro hb (And.intro hO hf))
        clear hb hO hf hsr hSl hcell hcc
        have HH := hide (And.intro hhk ep)
        clear hhk ep h0 hhl
        go_wp2_with fail
        exact ⟨⟨k + 1, ao, cap, by omega, by omega, by go_num, by rw [(unhide HH).2]; exact (unhide HK).1, by rw [(unhide HH).2]; exact (unhide HK).2.1, (unhide HK).2.2⟩, by simp [intOf]; omega⟩
      · have ep : pk (hs.take (k + 1)) = pk (hs.take k) ++ [h.take 32] := by rw [pk_succ hs k h hhk]; simp [pk1, h0]
        generalize hps : pk (hs.take k) = ps at *
        have hx32 : ∃ n, n = (h.take 32).length ∧ Src wr (.slice ho n hc) (h.take 32) ∧ n ≤ 32 ∧ 0 < n := ⟨_, rfl, by
          have := hsr.take7 ((h.take 32).length) (by rw [List.length_take]; omega)
          rwa [take_len32] at this, by rw [List.length_take]; omega, by rw [List.length_take]; omega⟩
        obtain ⟨n, hn, hsn, hn32, hn0⟩ := hx32
        obtain ⟨a, c, w2, ao', cap', w3, hr2, hd2, hr3, hd3, he3, hO3, hb3, hf3⟩ := kstep wr w1.heap.size ao cap ps hO hb _ _ hsn (by omega) (by omega)
        rw [← hn] at hr2 hr3
        have hfA : Fr (fun _ => False) w1 (w3.setCell ⟨w1.heap.size, 0, none⟩ (.slice ao' (ps.length + 1) cap')) := hf.trans hf3 (fun i hi h => by omega)
        have hda : (w2.alloc (.cells #[.slice a n c] 23)).cell? ⟨w1.heap.size, 0, none⟩ = some (.slice ao ps.length cap) := ((box1 w2 _).cell (p := ⟨w1.heap.size, 0, none⟩) (lt_of_cell hd2) (fun h => h)).trans hd2
        have HR2 := hide hr2
        have HR3 := hide hr3
        have hc0 : wr.cell? ⟨w1.heap.size, 0, none⟩ = some (.slice ao ps.length cap) := blk_cell hb _ rfl
        have HK := hide (And.intro hO3 (And.intro hb3 (And.intro hfA ep)))
        clear hr2 hr3 hO3 hb3 hf3 hfA ep hb hO hf hsr hSl hcell hhk hps hsn
        have hcn : n ≤ hc := by have : n ≤ h.length := by rw [hn, List.length_take]; omega
                                omega
        by_cases h32 : 32 < h.length
        · obtain rfl : n = 32 := by rw [hn, List.length_take]; omega
          clear hn
          go_wp2_with fail
          go_region_law (first | (refine step_app rfl (.tmp 55) (.tmp 56) 23 23 rfl _ _ _ (by first | rfl | simp [Act.eval, Act.put]) (by first | rfl | simp [Act.eval, Act.put]) (unhide HR2) ?_; clear HR2) | (refine step_app rfl (.tmp 54) (.tmp 58) 38 38 rfl _ _ _ (by first | rfl | simp [Act.eval, Act.put]) (by first | rfl | simp [Act.eval, Act.put]) (unhide HR3) ?_))
          all_goals
            go_wp2_with fail
            exact ⟨⟨k + 1, ao', cap', by omega, by omega, by go_num, by rw [(unhide HK).2.2.2, List.length_append]; exact (unhide HK).2.1, by rw [(unhide HK).2.2.2, List.length_append]; exact (unhide HK).1, (unhide HK).2.2.1⟩, by simp [intOf]; omega⟩
        · obtain rfl : n = h.length := by rw [hn, List.length_take]; omega
          clear hn
          go_wp2_with fail
          go_region_law (first | (refine step_app rfl (.tmp 55) (.tmp 56) 23 23 rfl _ _ _ (by first | rfl | simp [Act.eval, Act.put]) (by first | rfl | simp [Act.eval, Act.put]) (unhide HR2) ?_; clear HR2) | (refine step_app rfl (.tmp 54) (.tmp 58) 38 38 rfl _ _ _ (by first | rfl | simp [Act.eval, Act.put]) (by first | rfl | simp [Act.eval, Act.put]) (unhide HR3) ?_))
          all_goals
            go_wp2_with fail
            exact ⟨⟨k + 1, ao', cap', by omega, by omega, by go_num, by rw [(unhide HK).2.2.2, List.length_append]; exact (unhide HK).2.1, by rw [(unhide HK).2.2.2, List.length_append]; exact (unhide HK).1, (unhide HK).2.2.1⟩, by simp [intOf]; omega⟩
    · rename World => wp
      have hpo := pk_ok (hs.take k)
      generalize pk (hs.take k) = ps at *
      have hc0 : wp.cell? ⟨w1.heap.size, 0, none⟩ = some (.slice ao ps.length cap) := blk_cell hb _ rfl
      obtain ⟨us, hU⟩ := hO.u
      have hKB := KB.mk1 hb hU
      have hfw : Fr (fun _ => False) w wp := (unhide H1).trans hf (fun _ _ h => h)
      have hbl : w1.heap.size < wp.heap.size := by simpa using lt_of_cell hc0
      have hPC := hU.pci (by omega) (fun p hp => by have := hpo p hp; omega)
      have hW1 := proofW_ok ps hpo (by omega)
      have hR1 := proofR_ok ps hpo (by omega)
      have hlB : (proofB ps).length ≤ 100000 := proofB_len ps hpo hpl
      have HK := hide (And.intro hKB (And.intro hfw (And.intro hPC (And.intro hW1 (And.intro hR1 hpo)))))
      clear hb hO hf hpo hU hKB hfw hPC hW1 hR1
      have hcond : (¬ k < hs.length) ∨ (k < hs.length ∧ ¬ ((k : Int) < 40)) := by omega
      clear hlt
      rcases hcond with hlt1 | ⟨hlt1, hlt2⟩
      rotate_left
      · exact absurd (unhide HQ0) (by omega)
      all_goals
        go_wp2_with fail
        refine (putProof ps ao cap E wp ((unhide HG).1.fr (unhide HK).2.1 (fun _ h => h.elim)) (Nat.le_trans hw (unhide HK).2.1.size) (unhide HK).2.2.1).mono ?_
        rintro e w3 ⟨va, err, rfl, hown3, hE3, hf3⟩
        rw [(unhide HK).2.2.2.1.1] at hE3
        rw [(unhide HK).2.2.2.1.2] at hown3
        obtain ⟨aO, aC, rfl⟩ := own_form hown3
        obtain rfl : err = .nilIface := by
          rcases hE3 with ⟨_, h⟩ | ⟨h, _⟩
          · exact h
          · exact absurd h (by decide)
        have hc3 : w3.cell? ⟨w1.heap.size, 0, none⟩ = some (.slice ao ps.length cap) := (hf3.cell (p := ⟨w1.heap.size, 0, none⟩) hbl (fun h => h)).trans hc0
        have H3 := hide (And.intro hown3 hf3)
        clear hown3 hE3 hf3 hc0
        go_wp2_with fail
        refine (putProof ps ao cap E w3 ((unhide HG).1.fr ((unhide HK).2.1.trans (unhide H3).2 (fun _ _ h => h)) (fun _ h => h.elim)) (Nat.le_trans hw (Nat.le_trans (unhide HK).2.1.size (unhide H3).2.size)) ((unhide HK).2.2.1.fr0 (unhide H3).2)).mono ?_
        rintro e w4 ⟨vb, err, rfl, hown4, hE4, hf4⟩
        rw [(unhide HK).2.2.2.1.1] at hE4
        rw [(unhide HK).2.2.2.1.2] at hown4
        obtain ⟨bO, bC, rfl⟩ := own_form hown4
        obtain rfl : err = .nilIface := by
          rcases hE4 with ⟨_, h⟩ | ⟨h, _⟩
          · exact h
          · exact absurd h (by decide)
        have hf04 : Fr (fun _ => False) wp w4 := (unhide H3).2.trans hf4 (fun _ _ h => h)
        have ha4 : w4.ownsRow wp.heap.size 5 1 (.slice aO (proofB ps).length aC) (proofB ps).length (cellsOf (proofB ps)) := ownsRow_of_block (unhide H3).1 (fun g hg => hf4.block g ((unhide H3).1.lt g hg).2 (fun h => h))
        have hBA : ∀ k, (Value.slice aO (proofB ps).length aC).ownBlock = some k → wp.heap.size ≤ k ∧ k < w3.heap.size := fun k hk => (unhide H3).1.lt k hk
        have H4 := hide (And.intro hown4 (And.intro ha4 (And.intro hf04 (And.intro hBA (And.intro (unhide H3).2.size hf4.size)))))
        clear hown4 hE4 hf4 hf04 ha4 hBA H3 hc3
        go_wp2_with fail
        refine (same_any _ _ (proofB ps) (proofB ps) w4 (own_src (unhide H4).2.1) (own_src (unhide H4).1) (by omega)).mono ?_
        rintro e w5 ⟨rfl, n1, rfl⟩
        rw [same_self7]
        obtain ⟨w5, hw5⟩ : ∃ W, W = w4.drewN n1 := ⟨_, rfl⟩
        have hf45 : Fr (fun _ => False) w4 w5 := by rw [hw5]; exact (Fr.refl _ _).drewN n1
        rw [← hw5]
        clear hw5
        have hb5 : w5.ownsRow w3.heap.size 5 1 (.slice bO (proofB ps).length bC) (proofB ps).length (cellsOf (proofB ps)) := ownsRow_of_block (unhide H4).1 (fun g hg => hf45.block g ((unhide H4).1.lt g hg).2 (fun h => h))
        obtain ⟨kO, kC, w6, hr6, hown6, hf6⟩ := app_nil7 w5 _ (proofB ps) (own_src hb5) (by omega)
        have hf46 : Fr (fun _ => False) w4 w6 := hf45.trans hf6 (fun _ _ h => h)
        have hb6 : w6.ownsRow w3.heap.size 5 1 (.slice bO (proofB ps).length bC) (proofB ps).length (cellsOf (proofB ps)) := ownsRow_of_block hb5 (fun g hg => hf6.block g (hb5.lt g hg).2 (fun h => h))
        have ha6 : w6.ownsRow wp.heap.size 5 1 (.slice aO (proofB ps).length aC) (proofB ps).length (cellsOf (proofB ps)) := ownsRow_of_block (unhide H4).2.1 (fun g hg => hf46.block g ((unhide H4).2.1.lt g hg).2 (fun h => h))
        have hfr6 : Fr (fun _ => False) wp w6 := (unhide H4).2.2.1.trans hf46 (fun _ _ h => h)
        have hbb : ∀ k, (Value.slice bO (proofB ps).length bC).ownBlock = some k → w3.heap.size ≤ k ∧ k < w4.heap.size := fun k hk => (unhide H4).1.lt k hk
        have HR6 := hide hr6
        have H6 := hide (And.intro hb6 (And.intro ha6 (And.intro hown6 (And.intro hfr6 (And.intro hbb (And.intro (unhide H4).2.2.2.1 (And.intro (unhide H4).2.2.2.2.1 (And.intro (unhide H4).2.2.2.2.2 (And.intro hf45.size hf6.size)))))))))
        clear hr6 hown6 hf6 hf46 hb6 ha6 hfr6 hbb hb5 hf45 H4
        go_wp2_with (at_builtin; refine wpList_app rfl _ _ 23 23 rfl _ _ _ rfl rfl (unhide HR6) ?_)
        clear HR6
        have hg6 := (unhide HG).1.fr ((unhide HK).2.1.trans (unhide H6).2.2.2.1 (fun _ _ h => h)) (fun _ h => h.elim)
        refine (getProof _ (proofB ps) E w6 hg6 (Nat.le_trans hw (Nat.le_trans (unhide HK).2.1.size (unhide H6).2.2.2.1.size)) (own_src (unhide H6).1) (by omega)).mono ?_
        rintro e w7 ⟨vs7, err, rfl, hE7, hz7, hr7, hf7⟩
        obtain ⟨x7, rfl, hO7⟩ := hr7 (unhide HK).2.2.2.2.1.1
        rw [(unhide HK).2.2.2.2.1.2] at hO7
        obtain rfl : err = .nilIface := by
          rcases hE7 with ⟨_, h⟩ | ⟨h, _⟩
          · exact h
          · rw [(unhide HK).2.2.2.2.1.1] at h; exact absurd h (by decide)
        obtain ⟨xO, xC, rfl⟩ := hO7.form
        have H7 := hide (And.intro hO7 hf7)
        clear hO7 hf7 hz7 hr7 hE7 hg6
        go_wp2_with fail
        have hbx7 := box1 w7 (.cells #[.slice xO ps.length xC] 40)
        have hf67 := (unhide H7).2.trans hbx7 (fun _ _ h => h)
        have hb7 : (w7.alloc (.cells #[.slice xO ps.length xC] 40)).ownsRow w3.heap.size 5 1 (.slice bO (proofB ps).length bC) (proofB ps).length (cellsOf (proofB ps)) := ownsRow_of_block (unhide H6).1 (fun g hg => hf67.block g ((unhide H6).1.lt g hg).2 (fun h => h))
        have hg7 := (unhide HG).1.fr (((unhide HK).2.1.trans (unhide H6).2.2.2.1 (fun _ _ h => h)).trans hf67 (fun _ _ h => h)) (fun _ h => h.elim)
        refine (getProof _ (proofB ps) E _ hg7 (Nat.le_trans hw (Nat.le_trans (unhide HK).2.1.size (Nat.le_trans (unhide H6).2.2.2.1.size hf67.size))) (own_src hb7) (by omega)).mono ?_
        rintro e w8 ⟨vs8, err, rfl, hE8, hz8, hr8, hf8⟩
        obtain ⟨y8, rfl, hO8⟩ := hr8 (unhide HK).2.2.2.2.1.1
        rw [(unhide HK).2.2.2.2.1.2] at hO8
        obtain rfl : err = .nilIface := by
          rcases hE8 with ⟨_, h⟩ | ⟨h, _⟩
          · exact h
          · rw [(unhide HK).2.2.2.2.1.1] at h; exact absurd h (by decide)
        obtain ⟨yO, yC, rfl⟩ := hO8.form
        obtain ⟨uy, hUy⟩ := hO8.u
        obtain ⟨ux, hUx⟩ := (unhide H7).1.u
        have hs7 : (w7.alloc (.cells #[.slice xO ps.length xC] 40)).heap.size = w7.heap.size + 1 := by simp
        rw [hs7] at hUy
        obtain ⟨W, hW⟩ : ∃ W, W = w8.alloc (.cells #[.slice yO ps.length yC] 40) := ⟨_, rfl⟩
        have hbx8 : Fr (fun _ => False) w8 W := by rw [hW]; exact box1 _ _
        have hfx : Fr (fun _ => False) w7 W := (hbx7.trans hf8 (fun _ _ h => h)).trans hbx8 (fun _ _ h => h)
        have hf6W : Fr (fun _ => False) w6 W := (unhide H7).2.trans hfx (fun _ _ h => h)
        have hX : KB W w7.heap.size w6.heap.size w7.heap.size (.slice xO ps.length xC) ps ux := by
          have hk : KB (w7.alloc (.cells #[.slice xO ps.length xC] 40)) w7.heap.size w6.heap.size w7.heap.size (.slice xO ps.length xC) ps ux := ⟨heap_alloc_new _ _, hUx.fr2 hbx7 (fun _ _ h => h), fun k hk => hk.elim (fun h => hUx.row.lt k h) (fun ⟨_, _, h1, h2⟩ => hUx.ult h1 h2)⟩
          exact hk.fr0 (hf8.trans hbx8 (fun _ _ h => h))
        have hY : KB W w8.heap.size (w7.heap.size + 1) w8.heap.size (.slice yO ps.length yC) ps uy := ⟨by rw [hW]; exact heap_alloc_new _ _, hUy.fr2 hbx8 (fun _ _ h => h), fun k hk => hk.elim (fun h => hUy.row.lt k h) (fun ⟨_, _, h1, h2⟩ => hUy.ult h1 h2)⟩
        obtain ⟨g1, g2, g3, g4, g5, g6, g7, g8, g9, g10⟩ := unhide H6
        have hwrW : Fr (fun _ => False) wp W := g4.trans hf6W (fun _ _ h => h)
        have hbW : W.ownsRow w3.heap.size 5 1 (.slice bO (proofB ps).length bC) (proofB ps).length (cellsOf (proofB ps)) := ownsRow_of_block g1 (fun g hg => hf6W.block g (g1.lt g hg).2 (fun h => h))
        have hZ : KZ w W w1.heap.size wp.heap.size w3.heap.size w5.heap.size w6.heap.size w7.heap.size w8.heap.size ps us uy (.slice ao ps.length cap) (.slice aO (proofB ps).length aC) (.slice kO (proofB ps).length kC) (.slice yO ps.length yC) (proofB ps) := ⟨(unhide HK).2.1.trans hwrW (fun _ _ h => h), (unhide HK).1.fr0 hwrW, ownsRow_of_block g2 (fun g hg => hf6W.block g (g2.lt g hg).2 (fun h => h)), fun k hk => (g6 k hk).2, ownsRow_of_block g3 (fun g hg => hf6W.block g (g3.lt g hg).2 (fun h => h)), fun k hk => (g3.lt k hk).2, hY, by
          have h1 := (unhide H1).size
          have h2 := hf8.size
          have h3 := (unhide H7).2.size
          have h4 : W.heap.size = w8.heap.size + 1 := by rw [hW]; simp
          rw [hs7] at h2
          refine ⟨h1, hbl, g7, by omega, by omega, by omega, by omega, by omega⟩⟩
        have hbB : ∀ k, bO.map (·.block) = some k → w3.heap.size ≤ k ∧ k < w5.heap.size := fun k hk => by have := g5 k (bown7 hk); omega
        have hcx : W.cell? ⟨w7.heap.size, 0, none⟩ = some (.slice xO ps.length xC) := blk_cell hX.hb _ rfl
        have hcy : W.cell? ⟨w8.heap.size, 0, none⟩ = some (.slice yO ps.length yC) := blk_cell hY.hb _ rfl
        have hcp : W.cell? ⟨w1.heap.size, 0, none⟩ = some (.slice ao ps.length cap) := blk_cell hZ.p.hb _ rfl
        have HZ := hide (And.intro hZ (And.intro hX (And.intro hbW hbB)))
        have hpoH := hide (unhide HK).2.2.2.2.2
        rw [hW] at hcx hcy hcp
        have HW := hide hW
        clear hbx7 hf67 hb7 hg7 hE8 hz8 hr8 hf8 hO8 hUy hUx hs7 hW hbx8 hfx hf6W hX hY g1 g2 g3 g4 g5 g6 g7 g8 g9 g10 hwrW hbW hZ hbB H7 H6 HK
        go_wp2_with fail
        rw [← unhide HW] at hcx hcy hcp ⊢
        clear HW
        go_loopw [16] (fun iv wr => ∃ K : Nat, K ≤ (proofB ps).length ∧ iv = .int .i64 K ∧ OwnI W wr w3.heap.size bO bC (proofB ps).length) (fun iv _ => (proofB ps).length - (intOf iv).toNat)
        case atStart => exact ⟨0, Nat.zero_le _, rfl, Fr.refl _ _, _, (unhide HZ).2.2.1, cellsI _ rfl⟩
        case round =>
          obtain ⟨K, hK, rfl, hinc⟩ := hrel
          have HI := hide hinc
          clear hinc
          by_cases hltb : K < (proofB ps).length
          · obtain ⟨gb, zb, rfl, hcb, hzb⟩ := (unhide HI).at_ K hltb
            go_wp2
            go_roundw
            case rel => exact ⟨K + 1, by omega, by go_num, (unhide HI).step K _⟩
            case measure => simp [intOf]; omega
          · rename World => W2
            have hSb : ∀ k, bO.map (·.block) = some k → (w3.heap.size ≤ k ∧ k < w5.heap.size) ∨ (w6.heap.size ≤ k ∧ k ≤ w7.heap.size) ∨ w8.heap.size < k := fun k hk => .inl ((unhide HZ).2.2.2 k hk)
            have hZ2 := (unhide HZ).1.fr (unhide HI).1 hSb
            have hX2 := (unhide HZ).2.1.fr (unhide HI).1 (fun h => by have := (unhide HZ).2.2.2 _ h; have := (unhide HZ).1.o; omega) (fun k h1 h2 h => by have := (unhide HZ).2.2.2 _ h; have := (unhide HZ).1.o; omega)
            have HZ2 := hide (And.intro hZ2 hX2)
            have hcx2 : W2.cell? ⟨w7.heap.size, 0, none⟩ = some (.slice xO ps.length xC) := blk_cell hX2.hb _ rfl
            clear hZ2 hX2 hSb HI HZ hcx hcy hcp
            go_wp2_with fail
            go_loopw [17, 18] (fun iv _ wr => ∃ (I : Nat) (qs : List (List Nat)), I ≤ ps.length ∧ iv = .int .i64 (I : Nat) ∧ KB wr w7.heap.size w6.heap.size w7.heap.size (.slice xO ps.length xC) qs ux ∧ Like ps qs ∧ (∀ (j : Nat) p, j < I → qs[j]? = some p → ∀ v ∈ p, v = 77) ∧ KZ w wr w1.heap.size wp.heap.size w3.heap.size w5.heap.size w6.heap.size w7.heap.size w8.heap.size ps us uy (.slice ao ps.length cap) (.slice aO (proofB ps).length aC) (.slice kO (proofB ps).length kC) (.slice yO ps.length yC) (proofB ps)) (fun iv _ _ => ps.length - (intOf iv).toNat)
            case atStart => exact ⟨0, ps, Nat.zero_le _, rfl, (unhide HZ2).2, rfl, fun j p h => by omega, (unhide HZ2).1⟩
            case round =>
              obtain ⟨I, qs, hI, rfl, hX, hLk, h77, hZ⟩ := hrel
              have hcx : wr.cell? ⟨w7.heap.size, 0, none⟩ = some (.slice xO ps.length xC) := blk_cell hX.hb _ rfl
              by_cases hltI : I < ps.length
              · have HQ := hide (And.intro hX (And.intro hLk (And.intro h77 hZ)))
                clear hX hLk h77 hZ
                rename World => W3
                go_wp2_with fail
                go_loopw [18] (fun kv wr => ∃ (K : Nat) (qs : List (List Nat)), K ≤ (ps[I]).length ∧ kv = .int .i64 (K : Nat) ∧ KB wr w7.heap.size w6.heap.size w7.heap.size (.slice xO ps.length xC) qs ux ∧ Like ps qs ∧ (∀ (j : Nat) p, j < I → qs[j]? = some p → ∀ v ∈ p, v = 77) ∧ (∀ p, qs[I]? = some p → ∀ j, j < K → p[j]? = some 77) ∧ KZ w wr w1.heap.size wp.heap.size w3.heap.size w5.heap.size w6.heap.size w7.heap.size w8.heap.size ps us uy (.slice ao ps.length cap) (.slice aO (proofB ps).length aC) (.slice kO (proofB ps).length kC) (.slice yO ps.length yC) (proofB ps)) (fun kv _ => (ps[I]).length - (intOf kv).toNat)
                case atStart => exact ⟨0, qs, Nat.zero_le _, rfl, (unhide HQ).1, (unhide HQ).2.1, (unhide HQ).2.2.1, fun p _ j hj => by omega, (unhide HQ).2.2.2⟩
                case round =>
                  obtain ⟨K, q2, hK, rfl, hX, hLk, h77, hK7, hZ⟩ := hrel
                  have hcx : wr.cell? ⟨w7.heap.size, 0, none⟩ = some (.slice xO ps.length xC) := blk_cell hX.hb _ rfl
                  have hl2 := hLk.len
                  have hI2 : I < q2.length := by omega
                  obtain ⟨gx, cx, uo, uc, ex, hux, hcu, hou⟩ := hX.at_ I hI2
                  have hlu := hLk.at_ I hltI hI2
                  rw [hlu] at hux hcu hou
                  simp only [Value.slice.injEq] at ex
                  obtain ⟨rfl, -, rfl⟩ := ex
                  by_cases hltK : K < (ps[I]).length
                  · obtain ⟨gu, zu, rfl, hcb, hzb⟩ := OwnI.at_ (w0 := wr) (w := wr) (base := w6.heap.size) (ao := uo) (c := uc) (n := (ps[I]).length) ⟨Fr.refl _ _, _, hou, cellsI _ hlu⟩ K hltK
                    have hqI := List.getElem?_eq_getElem hI2
                    have hX' := hX.set77 (Nat.le_refl _) I gu _ uc K q2[I] hux hqI
                    have hgu := hX.lt gu (.inr ⟨I, _, hux, rfl⟩)
                    have hZ' := hZ.fr ((Fr.refl (fun k => k = gu) wr).setCell (p := ⟨gu, K, none⟩) (.inl rfl) (.int .u8 77)) (fun k hk => .inr (.inl (by have e : k = gu := hk; omega)))
                    have hLk' : Like ps (q2.set I (q2[I].set K 77)) := hLk.set I _ _ hqI (by simp)
                    have h77' : ∀ (j : Nat) p, j < I → (q2.set I (q2[I].set K 77))[j]? = some p → ∀ v ∈ p, v = 77 := fun j p hj hp => h77 j p hj (by rw [List.getElem?_set_ne (by omega)] at hp; exact hp)
                    have hK7' : ∀ p, (q2.set I (q2[I].set K 77))[I]? = some p → ∀ j, j < K + 1 → p[j]? = some 77 := fun p hp j hj => by
                      rw [List.getElem?_set_self hI2] at hp
                      cases hp
                      by_cases e : K = j
                      · subst e
                        rw [List.getElem?_set_self (by omega)]
                      · rw [List.getElem?_set_ne e]
                        exact hK7 _ hqI j (by omega)
                    have HN := hide (And.intro hX' (And.intro hLk' (And.intro h77' (And.intro hK7' hZ'))))
                    clear hX hLk h77 hK7 hZ hX' hLk' h77' hK7' hZ' hou hqI hgu hl2
                    have hNI : (ps[I]).length ≤ 32 := ((unhide hpoH) _ (List.getElem_mem hltI)).2
                    generalize (ps[I]).length = NI at *
                    go_wp2
                    go_roundw
                    case rel => exact ⟨K + 1, _, by omega, by go_num, (unhide HN).1, (unhide HN).2.1, (unhide HN).2.2.1, (unhide HN).2.2.2.1, (unhide HN).2.2.2.2⟩
                    case measure => simp [intOf]; omega
                  · have hKI : K = (ps[I]).length := by omega
                    have h77' : ∀ (j : Nat) p, j < I + 1 → q2[j]? = some p → ∀ v ∈ p, v = 77 := fun j p hj hp => by
                      by_cases e : j = I
                      · subst e
                        have e2 : p = q2[j] := by rw [List.getElem?_eq_getElem hI2] at hp; exact (Option.some.inj hp).symm
                        exact all77 (n := K) (fun i hi => hK7 p hp i hi) (by rw [e2, hlu, hKI])
                      · exact h77 j p (by omega) hp
                    have HN := hide (And.intro hX (And.intro hLk (And.intro h77' hZ)))
                    clear hX hLk h77 hK7 hZ h77' hou hlu hKI
                    have hNI : (ps[I]).length ≤ 32 := ((unhide hpoH) _ (List.getElem_mem hltI)).2
                    generalize (ps[I]).length = NI at *
                    go_wp2_with fail
                    exact ⟨⟨I + 1, q2, by omega, by go_num, (unhide HN).1, (unhide HN).2.1, (unhide HN).2.2.1, (unhide HN).2.2.2⟩, by simp [intOf]; omega⟩
              · rename World => W4
                have hIe : I = ps.length := by omega
                subst hIe
                have HQ := hide (And.intro hX (And.intro hLk (And.intro h77 hZ)))
                clear hX hLk h77 hZ HZ2 hcx2
                go_wp2_with fail
                go_loopw [19, 20, 21] (fun iv _ _ wr => ∃ (I : Nat), I ≤ ps.length ∧ iv = .int .i64 (I : Nat) ∧ KB wr w7.heap.size w6.heap.size w7.heap.size (.slice xO ps.length xC) qs ux ∧ KZ w wr w1.heap.size wp.heap.size w3.heap.size w5.heap.size w6.heap.size w7.heap.size w8.heap.size ps us uy (.slice ao ps.length cap) (.slice aO (proofB ps).length aC) (.slice kO (proofB ps).length kC) (.slice yO ps.length yC) (proofB ps)) (fun iv _ _ _ => ps.length - (intOf iv).toNat)
                case atStart => exact ⟨0, Nat.zero_le _, rfl, (unhide HQ).1, (unhide HQ).2.2.2⟩
                case round =>
                  obtain ⟨I2, hI2, rfl, hX, hZ⟩ := hrel
                  have hcx : wr.cell? ⟨w7.heap.size, 0, none⟩ = some (.slice xO ps.length xC) := blk_cell hX.hb _ rfl
                  by_cases hltI : I2 < ps.length
                  · have hlq := (unhide HQ).2.1.len
                    have hIq : I2 < qs.length := by omega
                    obtain ⟨gx, cx, uo, uc, ex, hux, hcu, hou⟩ := hX.at_ I2 hIq
                    have hlu := (unhide HQ).2.1.at_ I2 hltI hIq
                    simp only [Value.slice.injEq] at ex
                    obtain ⟨rfl, -, rfl⟩ := ex
                    have hNI : (ps[I2]).length ≤ 32 := ((unhide hpoH) _ (List.getElem_mem hltI)).2
                    have hqI := List.getElem?_eq_getElem hIq
                    obtain ⟨p, hp⟩ : ∃ p, p = qs[I2] := ⟨_, rfl⟩
                    rw [← hp] at hux hcu hou hqI hlu
                    have hpl2 : p.length ≤ 32 := by omega
                    rename World => W5
                    have HS := hide (And.intro hX (And.intro hZ (And.intro hou (And.intro hux hqI))))
                    clear hX hZ hou hux hqI hlu hp
                    go_wp2_with fail
                    go_loopw [20, 21] (fun hv kv wr => ∃ (K : Nat), K ≤ 9 ∧ kv = .int .i64 (K : Nat) ∧ HA w6.heap.size (w8.heap.size + 1) wr (.slice uo p.length uc) p hv (p.length + K) ∧ KB wr w7.heap.size w6.heap.size w7.heap.size (.slice (some ⟨gx, 0, none⟩) ps.length xC) qs ux ∧ KZ w wr w1.heap.size wp.heap.size w3.heap.size w5.heap.size w6.heap.size w7.heap.size w8.heap.size ps us uy (.slice ao ps.length cap) (.slice aO (proofB ps).length aC) (.slice kO (proofB ps).length kC) (.slice yO ps.length yC) (proofB ps)) (fun _ kv _ => 9 - (intOf kv).toNat)
                    case atStart => exact ⟨0, by decide, rfl, HA.start (unhide HS).2.2.1, (unhide HS).1, (unhide HS).2.1⟩
                    case round =>
                      obtain ⟨K, hK, rfl, hHA, hX, hZ⟩ := hrel
                      by_cases hlt9 : K < 9
                      · obtain ⟨g6, c6, w6', hr6, hX6, hHA6, hf6⟩ := ha_step hX (unhide HS).2.2.2.1 (unhide HS).2.2.2.2 hHA (by omega) (by have := hZ.o; omega)
                        have hZ6 := hZ.fr hf6 (fun k hk => by have := hZ.o; omega)
                        obtain ⟨ho, hc, xs, rfl, _⟩ := hHA
                        have HR6 := hide hr6
                        have HN := hide (And.intro hHA6 (And.intro hX6 hZ6))
                        clear hr6 hX6 hHA6 hf6 hZ6 hX hZ
                        go_wp2_with (at_builtin; refine wpList_app rfl _ _ 23 23 rfl _ _ _ rfl rfl (unhide HR6) ?_)
                        go_roundw
                        case rel => exact ⟨K + 1, by omega, by go_num, (unhide HN).1, (unhide HN).2.1, (unhide HN).2.2⟩
                        case measure => simp [intOf]; omega
                      · have HN := hide (And.intro hX hZ)
                        obtain ⟨ho, hc, xs, rfl, _⟩ := hHA
                        clear hX hZ
                        go_wp2_with fail
                        exact ⟨⟨I2 + 1, by omega, by go_num, (unhide HN).1, (unhide HN).2⟩, by simp [intOf]; omega⟩
                  · rename World => W6
                    have HE := hide (And.intro hX (And.intro hZ (And.intro (unhide HQ).2.1 (unhide HQ).2.2.1)))
                    clear hX hZ HQ
                    go_wp2_with fail
                    go_loopw [22, 23] (fun iv _ wr => ∃ (I : Nat), I ≤ ps.length ∧ iv = .int .i64 (I : Nat) ∧ Fr (fun _ => False) W6 wr) (fun iv _ _ => ps.length - (intOf iv).toNat)
                    case atStart => exact ⟨0, Nat.zero_le _, rfl, Fr.refl _ _⟩
                    case round =>
                      obtain ⟨I3, hI3, rfl, hf3⟩ := hrel
                      rename World => W7
                      have hcx3 : W7.cell? ⟨w7.heap.size, 0, none⟩ = some (.slice xO ps.length xC) := blk_cell ((unhide HE).1.fr0 hf3).hb _ rfl
                      by_cases hlt3 : I3 < ps.length
                      · have hlq := (unhide HE).2.2.1.len
                        have hIq : I3 < qs.length := by omega
                        have hlu := (unhide HE).2.2.1.at_ I3 hlt3 hIq
                        have h7 := (unhide HE).2.2.2 I3 qs[I3] hlt3 (List.getElem?_eq_getElem hIq)
                        obtain ⟨gx, cx, uo, uc, ex, hux, hcu, hou⟩ := ((unhide HE).1.fr0 hf3).at_ I3 hIq
                        rw [hlu] at hcu
                        simp only [Value.slice.injEq] at ex
                        obtain ⟨rfl, -, rfl⟩ := ex
                        have hNI : (ps[I3]).length ≤ 32 := ((unhide hpoH) _ (List.getElem_mem hlt3)).2
                        have hAt : ∀ K, K < (ps[I3]).length → ∃ gu, uo = some ⟨gu, 0, none⟩ ∧ W7.cell? ⟨gu, K, none⟩ = some (.int .u8 77) := fun K hK => by
                          rcases hou.2 with ⟨_, h0⟩ | ⟨gu, c2, cur, e2, _⟩
                          · omega
                          · simp only [Value.slice.injEq, true_and] at e2
                            obtain ⟨rfl, rfl⟩ := e2
                            refine ⟨gu, rfl, ?_⟩
                            rw [hou.cellAt K (by omega)]
                            have hK2 : K < (qs[I3]).length := by omega
                            simp [cellsOf, B, hK2, h7 (qs[I3])[K] (List.getElem_mem hK2)]
                        have HAt := hide hAt
                        obtain ⟨gy, cy, yu, yuc, ey, _, hcyu, hoy⟩ := ((unhide HE).2.1.y.fr0 hf3).at_ I3 hlt3
                        obtain ⟨gp, cp, pu, puc, ep, _, hcpu, hop⟩ := ((unhide HE).2.1.p.fr0 hf3).at_ I3 hlt3
                        have hcy3 : W7.cell? ⟨w8.heap.size, 0, none⟩ = some (.slice yO ps.length yC) := blk_cell ((unhide HE).2.1.y.fr0 hf3).hb _ rfl
                        have hcp3 : W7.cell? ⟨w1.heap.size, 0, none⟩ = some (.slice ao ps.length cap) := blk_cell ((unhide HE).2.1.p.fr0 hf3).hb _ rfl
                        simp only [Value.slice.injEq] at ey ep
                        obtain ⟨rfl, -, rfl⟩ := ey
                        obtain ⟨rfl, -, rfl⟩ := ep
                        have hsy := own_src hoy
                        have hsp := own_src hop
                        obtain ⟨L, hL⟩ : ∃ L, L = ps[I3] := ⟨_, rfl⟩
                        rw [← hL] at hcu hcyu hcpu hsy hsp HAt hNI
                        have HS := hide (And.intro hsy (And.intro hsp hf3))
                        clear hou hoy hop hAt h7 hlu hux hf3 hL hsy hsp
                        go_wp2_with fail
                        go_loopw [23] (fun kv wr => ∃ (K : Nat), K ≤ L.length ∧ kv = .int .i64 (K : Nat) ∧ wr = W7) (fun kv _ => L.length - (intOf kv).toNat)
                        case atStart => exact ⟨0, Nat.zero_le _, rfl, rfl⟩
                        case round =>
                          obtain ⟨K, hK, rfl, rfl⟩ := hrel
                          by_cases hltK : K < L.length
                          · obtain ⟨gu, rfl, hc77⟩ := (unhide HAt) K hltK
                            go_wp2
                            go_roundw
                            case rel => exact ⟨K + 1, by omega, by go_num, by first | rfl | trivial⟩
                            case measure => simp [intOf]; omega
                          · go_wp2_with fail
                            go_region_held3 (fun w' => w'.cell? ⟨w8.heap.size, 0, none⟩ = some (.slice (some ⟨gy, 0, none⟩) ps.length yC) ∧ w'.cell? ⟨gy, I3, none⟩ = some (.slice yu L.length yuc) ∧ w'.cell? ⟨w1.heap.size, 0, none⟩ = some (.slice (some ⟨gp, 0, none⟩) ps.length cap) ∧ w'.cell? ⟨gp, I3, none⟩ = some (.slice pu L.length puc))
                              (first | exact ⟨hcy3, hcyu, hcp3, hcpu⟩ | assumption | (simp only [World.cell?_drew, World.cell?_drewN]; exact ⟨hcy3, hcyu, hcp3, hcpu⟩))
                              (first | (go_at_call 13; refine (same_any _ _ L L _ ((unhide HS).1.fr ((Fr.refl _ _).drew) (fun _ _ _ _ _ h => h)) ((unhide HS).2.1.fr ((Fr.refl _ _).drew) (fun _ _ _ _ _ h => h)) (by omega)).mono ?_; rintro e wS ⟨rfl, nS, rfl⟩; rw [same_self7]))
                            all_goals
                              go_wp2_with fail
                              exact ⟨⟨I3 + 1, by omega, by go_num, by first | exact ((unhide HS).2.2.drew).drewN _ | exact (unhide HS).2.2.drewN _⟩, by simp [intOf]; omega⟩
                      · have hZ7 := (unhide HE).2.1.fr hf3 (fun _ h => h.elim)
                        have HZ7 := hide hZ7
                        clear hZ7 hf3 HE
                        go_wp2_with fail
                        refine (same_any _ _ (proofB ps) (proofB ps) W7 (own_src (unhide HZ7).a) (own_src (unhide HZ7).k) (by omega)).mono ?_
                        rintro e wS ⟨rfl, nS, rfl⟩
                        rw [same_self7]
                        have hf8 : Fr (fun _ => False) w (W7.drewN nS) := (unhide HZ7).f.drewN nS
                        obtain ⟨W8, hW8⟩ : ∃ W, W = W7.drewN nS := ⟨_, rfl⟩
                        rw [← hW8] at hf8 ⊢
                        clear hW8 HZ7 hcx3
                        have hy8 := (unhide HG).2.2.1.fr0 hf8
                        have hg8 := (unhide HG).1.fr hf8 (fun _ h => h.elim)
                        have hsz8 := Nat.le_trans hw hf8.size
                        have hs32 : ∃ (n : Nat) (S : List Nat), S.length = n ∧ n ≤ 32768 ∧ SlI W8 (.slice yo n yc) S ∧ (n = sig.length ∨ (n = 32768 ∧ 32768 < sig.length)) := by
                          by_cases hb : 32768 < sig.length
                          · exact ⟨32768, sig.take 32768, by rw [List.length_take]; omega, by decide, ⟨hy8.src.take7 32768 (by omega), fun g o m c e => hy8.lt g o _ _ (by cases e; rfl), by rw [List.length_take]; omega⟩, .inr ⟨rfl, hb⟩⟩
                          · exact ⟨sig.length, sig, rfl, by omega, hy8, .inl rfl⟩
                        obtain ⟨SN, Sg, hSl, hSN, hSI, hSc⟩ := hs32
                        have H8 := hide (And.intro hf8 (And.intro hSI (And.intro hg8 (And.intro hsz8 hSl))))
                        clear hf8 hSI hg8 hsz8 hy8 hSl
                        rcases hSc with rfl | ⟨rfl, hbig⟩
                        all_goals
                          go_wp2_with fail
                          have hbA : ∀ o, Fr (fun _ => False) W8 ((W8.alloc (.cells #[.int .u8 1] 5)).alloc o) := fun o => box2 W8 _ o
                          have hW := signedW_ok Sg (by have := (unhide H8).2.2.2.2; omega)
                          have hR := signedR_ok Sg (by have := (unhide H8).2.2.2.2; omega)
                          refine (putSigned 1 2 [1] Sg (.slice (some ⟨W8.heap.size, 0, none⟩) 1 1) _ E _ ((unhide H8).2.2.1.fr (hbA _) (fun _ h => h.elim)) (Nat.le_trans (unhide H8).2.2.2.1 (hbA _).size) ((lit_sl W8 [1] #[.int .u8 1] 5 rfl (by decide)).fr0 (box1 _ _)) ((unhide H8).2.1.fr0 (hbA _)) (by decide) (by decide)).mono ?_
                          rintro e w9 ⟨vc, err, rfl, hown9, hE9, hf9⟩
                          rw [hW.1] at hE9
                          rw [hW.2] at hown9
                          obtain ⟨cO, cC, rfl⟩ := own_form hown9
                          obtain rfl : err = .nilIface := by
                            rcases hE9 with ⟨_, h⟩ | ⟨h, _⟩
                            · exact h
                            · exact absurd h (by decide)
                          have hf09 : Fr (fun _ => False) W8 w9 := (hbA _).trans hf9 (fun _ _ h => h)
                          have hlS : (signedB Sg).length ≤ 100000 := by
                            have := (unhide H8).2.2.2.2
                            simp only [signedB, enc1, List.length_append, be_length, List.length_cons, List.length_nil]
                            omega
                          have hown9' := own_mono hown9 (hbA _).size
                          have H9 := hide (And.intro hown9' (And.intro hf09 (And.intro hR hE9)))
                          clear hown9 hE9 hf9 hf09 hbA hW hR hown9'
                          go_wp2_with fail
                          refine (getSigned _ (signedB Sg) E w9 ((unhide H8).2.2.1.fr (unhide H9).2.1 (fun _ h => h.elim)) (Nat.le_trans (unhide H8).2.2.2.1 (unhide H9).2.1.size) (own_src (unhide H9).1) (by omega)).mono ?_
                          rintro e w10 ⟨vs10, err, rfl, hE10, hz10, hr10, hf10⟩
                          obtain ⟨zy, zz, rfl, hzy, hzz⟩ := hr10 (unhide H9).2.2.1.1
                          rw [(unhide H9).2.2.1.2.1] at hzy
                          rw [(unhide H9).2.2.1.2.2] at hzz
                          obtain rfl : err = .nilIface := by
                            rcases hE10 with ⟨_, h⟩ | ⟨h, _⟩
                            · exact h
                            · rw [(unhide H9).2.2.1.1] at h; exact absurd h (by decide)
                          obtain ⟨zyo, zyc, rfl⟩ := own_form hzy
                          obtain ⟨zzo, zzc, rfl⟩ := own_form hzz
                          generalize (signedR (signedB Sg)).2.1.1 = zs1
                          generalize (signedR (signedB Sg)).2.2.1 = zs2
                          have hc10 : w10.ownsRow W8.heap.size 5 1 (.slice cO (signedB Sg).length cC) (signedB Sg).length (cellsOf (signedB Sg)) := ownsRow_of_block (unhide H9).1 (fun g hg => hf10.block g ((unhide H9).1.lt g hg).2 (fun h => h))
                          have hcl : ∀ k, cO.map (·.block) = some k → W8.heap.size ≤ k ∧ k < w9.heap.size := fun k hk => (unhide H9).1.lt k (bown7 hk)
                          have H10 := hide (And.intro hc10 (And.intro hzy (And.intro hzz (And.intro hcl (And.intro ((unhide H9).2.1.trans hf10 (fun _ _ h => h)) hf10.size)))))
                          clear hE10 hz10 hr10 hf10 hzy hzz hc10 hcl H9
                          go_wp2_with fail
                          obtain ⟨W11, hW11⟩ : ∃ W, W = w10.alloc (.cells #[.int .u32 (zs1 : Nat), .slice zyo 1 zyc, .int .u32 (zs2 : Nat), .slice zzo Sg.length zzc] 37) := ⟨_, rfl⟩
                          have hb11 : W11.heap[w10.heap.size]? = some (.cells #[.int .u32 (zs1 : Nat), .slice zyo 1 zyc, .int .u32 (zs2 : Nat), .slice zzo Sg.length zzc] 37) := by rw [hW11]; exact heap_alloc_new _ _
                          have hf11 : Fr (fun _ => False) w10 W11 := by rw [hW11]; exact box1 _ _
                          have hc11 : W11.ownsRow W8.heap.size 5 1 (.slice cO (signedB Sg).length cC) (signedB Sg).length (cellsOf (signedB Sg)) := ownsRow_of_block (unhide H10).1 (fun g hg => hf11.block g ((unhide H10).1.lt g hg).2 (fun h => h))
                          have H11 := hide (And.intro hc11 (And.intro hb11 hf11))
                          rw [← hW11]
                          clear hc11 hb11 hf11 hW11
                          go_loopw [28] (fun iv wr => ∃ K : Nat, K ≤ (signedB Sg).length ∧ iv = .int .i64 K ∧ OwnI W11 wr W8.heap.size cO cC (signedB Sg).length) (fun iv _ => (signedB Sg).length - (intOf iv).toNat)
                          case atStart => exact ⟨0, Nat.zero_le _, rfl, Fr.refl _ _, _, (unhide H11).1, cellsI _ rfl⟩
                          case round =>
                            obtain ⟨K, hK, rfl, hinc⟩ := hrel
                            have HI := hide hinc
                            clear hinc
                            by_cases hltb : K < (signedB Sg).length
                            · obtain ⟨gb, zb, rfl, hcb, hzb⟩ := (unhide HI).at_ K hltb
                              go_wp2
                              go_roundw
                              case rel => exact ⟨K + 1, by omega, by go_num, (unhide HI).step K _⟩
                              case measure => simp [intOf]; omega
                            · rename World => W12
                              have hnc : ∀ k, w9.heap.size ≤ k → ¬ cO.map (·.block) = some k := fun k h1 h2 => by have := (unhide H10).2.2.2.1 k h2; omega
                              have hs10 : w9.heap.size ≤ w10.heap.size := (unhide H10).2.2.2.2.2
                              have hbl10 : w10.heap.size < W11.heap.size := lt_of_cell (p := ⟨w10.heap.size, 0, none⟩) (blk_cell (unhide H11).2.1 _ rfl)
                              have hb12 : W12.heap[w10.heap.size]? = _ := ((unhide HI).1.block w10.heap.size hbl10 (hnc _ hs10)).trans (unhide H11).2.1
                              have hz1 : W12.cell? ⟨w10.heap.size, 1, none⟩ = some (.slice zyo 1 zyc) := blk_cell hb12 _ rfl
                              have hz3 : W12.cell? ⟨w10.heap.size, 3, none⟩ = some (.slice zzo Sg.length zzc) := blk_cell hb12 _ rfl
                              have hf811 : Fr (fun _ => False) W8 W11 := (unhide H10).2.2.2.2.1.trans (unhide H11).2.2 (fun _ _ h => h)
                              have hw12 : Fr (fun _ => False) w W12 := ((unhide H8).1.trans hf811 (fun _ _ h => h)).trans (unhide HI).1 (fun i hi h => by have h1 := (unhide H10).2.2.2.1 i h; have h2 := (unhide H8).1.size; omega)
                              have hrow : ∀ (ao : Option Addr) (n c : Nat) (l : List Nat), w10.ownsRow w9.heap.size 5 1 (.slice ao n c) n (cellsOf l) → Src W12 (.slice ao n c) l := fun ao n c l ho => by
                                have h1 : W12.ownsRow w9.heap.size 5 1 (.slice ao n c) n (cellsOf l) := ownsRow_of_block ho (fun g hg => ((unhide HI).1.block g (Nat.lt_of_lt_of_le (ho.lt g hg).2 (unhide H11).2.2.size) (hnc g (ho.lt g hg).1)).trans ((unhide H11).2.2.block g (ho.lt g hg).2 (fun h => h)))
                                have h2 : n = l.length := by have := h1.1; simpa [cellsOf] using this.symm
                                subst h2
                                exact own_src h1
                              have hsy := hrow _ _ _ _ (unhide H10).2.1
                              have hsz := hrow _ _ _ _ (unhide H10).2.2.1
                              have hss : Src W12 (.slice yo _ yc) Sg := ((unhide H8).2.1.src.fr hf811 (fun _ _ _ _ _ h => h)).fr (unhide HI).1 (fun g o m c e h => by have h1 := (unhide H10).2.2.2.1 g h; have h2 := (unhide H8).2.1.lt g o m c e; omega)
                              have HS := hide (And.intro hsy (And.intro hsz (And.intro hss hw12)))
                              clear hb12 hsy hsz hss hw12 hrow hf811 hnc HI
                              go_wp2_with fail
                              refine (same_any _ _ Sg Sg W12 (unhide HS).2.1 (unhide HS).2.2.1 (by have := (unhide H8).2.2.2.2; omega)).mono ?_
                              rintro e wS ⟨rfl, nS, rfl⟩
                              rw [same_self7]
                              have hfd : Fr (fun _ => False) W12 (W12.drewN nS) := (Fr.refl _ _).drewN nS
                              have hz1d : (W12.drewN nS).cell? ⟨w10.heap.size, 1, none⟩ = some (.slice zyo 1 zyc) := (hfd.cell (p := ⟨w10.heap.size, 1, none⟩) (lt_of_cell hz1) (fun h => h)).trans hz1
                              go_wp2_with fail
                              refine (same_any _ _ [1] [1] _ ((unhide HS).1.fr (hfd.alloc _) (fun _ _ _ _ _ h => h)) (lit_sl (W12.drewN nS) [1] #[.int .u8 1] 5 rfl (by decide)).src (by decide)).mono ?_
                              rintro e wT ⟨rfl, nT, rfl⟩
                              rw [same_self7]
                              have HFN := hide (((unhide HS).2.2.2.trans (hfd.alloc (.cells #[.int .u8 1] 5)) (fun _ _ h => h)).drewN nT)
                              clear hfd hz1d
                              go_wp2_with fail
                              go_ret
                              exact ⟨rfl, unhide HFN⟩
end Go.Proofs.YtcpbmphknonflaaGreatDoor

namespace Go.Proofs.YtcpbmphknonflaaGreatDoor
open Go.RowKit

theorem take_len32b (h : List Nat) : h.take (h.take 32).length = h.take 32 := by
  rw [List.length_take]
  rcases Nat.le_total 32 h.length with e | e
  · rw [Nat.min_eq_left e]
  · rw [Nat.min_eq_right e, List.take_length, List.take_of_length_le e]
set_option maxRecDepth 1000000 in
set_option maxHeartbeats 8000000 in
/-- WireKept. -/
theorem wkept_big (hs : List (List Nat)) (sig : List Nat) (xo yo : Option Addr) (xc yc : Nat) (E : Nat → Addr) (w : World) (hg : G6 w E) (hw : 9 ≤ w.heap.size) (hx : PcJ w xo hs) (hy : SlI w (.slice yo sig.length yc) sig) (hyc : sig.length ≤ yc) (hq : 40 < hs.length) :
    Calls Tryz.prog 8 #[.slice xo hs.length xc, .slice yo sig.length yc] w fun e w' => e = .returned (.bool true) ∧ Fr (fun _ => False) w w' := by
  have hlh := hx.len
  have HQ0 := hide hq
  clear hq
  have hls := hy.len
  have HG := hide (And.intro hg (And.intro hx (And.intro hy trivial)))
  clear hg hx hy
  go_enter Tryz.func8, Tryz.ntmps8
  go_wp2_with fail
  refine (awake7 E w (unhide HG).1 hw).mono ?_
  rintro e w1 ⟨rfl, hf1⟩
  have H1 := hide hf1
  clear hf1
  go_wp2_with fail
  go_loopw [6, 7, 8] (fun iv _ _ wr => ∃ (k : Nat) (ao : Option Addr) (cap : Nat), k ≤ 40 ∧ k ≤ hs.length ∧ iv = .int .i64 (k : Nat) ∧ wr.heap[w1.heap.size]? = some (.cells #[.slice ao (pk (hs.take k)).length cap] 40) ∧ OwP wr (w1.heap.size + 1) (.slice ao (pk (hs.take k)).length cap) (pk (hs.take k)) (fun _ => False) ∧ Fr (fun _ => False) w1 wr) (fun iv _ _ _ => 40 - (intOf iv).toNat)
  case atStart => exact ⟨0, none, 0, by decide, Nat.zero_le _, rfl, heap_alloc_new _ _, OwP.nil _ _ _, box1 _ _⟩
  case round =>
    obtain ⟨k, ao, cap, hk40, hkl, rfl, hb, hO, hf⟩ := hrel
    have hpl : (pk (hs.take k)).length ≤ 40 := Nat.le_trans (pk_len _) (by rw [List.length_take]; omega)
    by_cases hlt : k < hs.length ∧ k < 40
    · obtain ⟨h1, h2⟩ := hlt
      obtain ⟨h, hhk⟩ : ∃ h, hs[k]? = some h := ⟨_, List.getElem?_eq_getElem h1⟩
      obtain ⟨g, o, ho, hc, hxo, hcell, hSl, hcc, hhl⟩ := (unhide HG).2.1.el k h hhk
      have hcr : wr.cell? ⟨g, o + k, none⟩ = some (.slice ho h.length hc) := (((unhide H1).trans hf (fun _ _ h => h)).cell (p := ⟨g, o + k, none⟩) (lt_of_cell hcell) (fun h => h)).trans hcell
      have hsr : Src wr (.slice ho h.length hc) h := hSl.fr ((unhide H1).trans hf (fun _ _ h => h)) (fun _ _ _ _ _ h => h)
      subst hxo
      by_cases h0 : h.length = 0
      · have ep : pk (hs.take (k + 1)) = pk (hs.take k) := by rw [pk_succ hs k h hhk]; simp [pk1, h0]
        rw [h0] at hcr
        have HK := hide (And.intro hb (And.intro hO hf))
        clear hb hO hf hsr hSl hcell hcc
        have HH := hide (And.intro hhk ep)
        clear hhk ep h0 hhl
        go_wp2_with fail
        exact ⟨⟨k + 1, ao, cap, by omega, by omega, by go_num, by rw [(unhide HH).2]; exact (unhide HK).1, by rw [(unhide HH).2]; exact (unhide HK).2.1, (unhide HK).2.2⟩, by simp [intOf]; omega⟩
      · have ep : pk (hs.take (k + 1)) = pk (hs.take k) ++ [h.take 32] := by rw [pk_succ hs k h hhk]; simp [pk1, h0]
        generalize hps : pk (hs.take k) = ps at *
        have hx32 : ∃ n, n = (h.take 32).length ∧ Src wr (.slice ho n hc) (h.take 32) ∧ n ≤ 32 ∧ 0 < n := ⟨_, rfl, by
          have := hsr.take7 ((h.take 32).length) (by rw [List.length_take]; omega)
          rwa [take_len32b] at this, by rw [List.length_take]; omega, by rw [List.length_take]; omega⟩
        obtain ⟨n, hn, hsn, hn32, hn0⟩ := hx32
        obtain ⟨a, c, w2, ao', cap', w3, hr2, hd2, hr3, hd3, he3, hO3, hb3, hf3⟩ := kstep wr w1.heap.size ao cap ps hO hb _ _ hsn (by omega) (by omega)
        rw [← hn] at hr2 hr3
        have hfA : Fr (fun _ => False) w1 (w3.setCell ⟨w1.heap.size, 0, none⟩ (.slice ao' (ps.length + 1) cap')) := hf.trans hf3 (fun i hi h => by omega)
        have hda : (w2.alloc (.cells #[.slice a n c] 23)).cell? ⟨w1.heap.size, 0, none⟩ = some (.slice ao ps.length cap) := ((box1 w2 _).cell (p := ⟨w1.heap.size, 0, none⟩) (lt_of_cell hd2) (fun h => h)).trans hd2
        have HR2 := hide hr2
        have HR3 := hide hr3
        have hc0 : wr.cell? ⟨w1.heap.size, 0, none⟩ = some (.slice ao ps.length cap) := blk_cell hb _ rfl
        have HK := hide (And.intro hO3 (And.intro hb3 (And.intro hfA ep)))
        clear hr2 hr3 hO3 hb3 hf3 hfA ep hb hO hf hsr hSl hcell hhk hps hsn
        have hcn : n ≤ hc := by have : n ≤ h.length := by rw [hn, List.length_take]; omega
                                omega
        by_cases h32 : 32 < h.length
        · obtain rfl : n = 32 := by rw [hn, List.length_take]; omega
          clear hn
          go_wp2_with fail
          go_region_law (first | (refine step_app rfl (.tmp 55) (.tmp 56) 23 23 rfl _ _ _ (by first | rfl | simp [Act.eval, Act.put]) (by first | rfl | simp [Act.eval, Act.put]) (unhide HR2) ?_; clear HR2) | (refine step_app rfl (.tmp 54) (.tmp 58) 38 38 rfl _ _ _ (by first | rfl | simp [Act.eval, Act.put]) (by first | rfl | simp [Act.eval, Act.put]) (unhide HR3) ?_))
          all_goals
            go_wp2_with fail
            exact ⟨⟨k + 1, ao', cap', by omega, by omega, by go_num, by rw [(unhide HK).2.2.2, List.length_append]; exact (unhide HK).2.1, by rw [(unhide HK).2.2.2, List.length_append]; exact (unhide HK).1, (unhide HK).2.2.1⟩, by simp [intOf]; omega⟩
        · obtain rfl : n = h.length := by rw [hn, List.length_take]; omega
          clear hn
          go_wp2_with fail
          go_region_law (first | (refine step_app rfl (.tmp 55) (.tmp 56) 23 23 rfl _ _ _ (by first | rfl | simp [Act.eval, Act.put]) (by first | rfl | simp [Act.eval, Act.put]) (unhide HR2) ?_; clear HR2) | (refine step_app rfl (.tmp 54) (.tmp 58) 38 38 rfl _ _ _ (by first | rfl | simp [Act.eval, Act.put]) (by first | rfl | simp [Act.eval, Act.put]) (unhide HR3) ?_))
          all_goals
            go_wp2_with fail
            exact ⟨⟨k + 1, ao', cap', by omega, by omega, by go_num, by rw [(unhide HK).2.2.2, List.length_append]; exact (unhide HK).2.1, by rw [(unhide HK).2.2.2, List.length_append]; exact (unhide HK).1, (unhide HK).2.2.1⟩, by simp [intOf]; omega⟩
    · rename World => wp
      have hpo := pk_ok (hs.take k)
      generalize pk (hs.take k) = ps at *
      have hc0 : wp.cell? ⟨w1.heap.size, 0, none⟩ = some (.slice ao ps.length cap) := blk_cell hb _ rfl
      obtain ⟨us, hU⟩ := hO.u
      have hKB := KB.mk1 hb hU
      have hfw : Fr (fun _ => False) w wp := (unhide H1).trans hf (fun _ _ h => h)
      have hbl : w1.heap.size < wp.heap.size := by simpa using lt_of_cell hc0
      have hPC := hU.pci (by omega) (fun p hp => by have := hpo p hp; omega)
      have hW1 := proofW_ok ps hpo (by omega)
      have hR1 := proofR_ok ps hpo (by omega)
      have hlB : (proofB ps).length ≤ 100000 := proofB_len ps hpo hpl
      have HK := hide (And.intro hKB (And.intro hfw (And.intro hPC (And.intro hW1 (And.intro hR1 hpo)))))
      clear hb hO hf hpo hU hKB hfw hPC hW1 hR1
      have hcond : (¬ k < hs.length) ∨ (k < hs.length ∧ ¬ ((k : Int) < 40)) := by omega
      clear hlt
      rcases hcond with hlt1 | ⟨hlt1, hlt2⟩
      · exact absurd (unhide HQ0) (by omega)
      all_goals
        go_wp2_with fail
        refine (putProof ps ao cap E wp ((unhide HG).1.fr (unhide HK).2.1 (fun _ h => h.elim)) (Nat.le_trans hw (unhide HK).2.1.size) (unhide HK).2.2.1).mono ?_
        rintro e w3 ⟨va, err, rfl, hown3, hE3, hf3⟩
        rw [(unhide HK).2.2.2.1.1] at hE3
        rw [(unhide HK).2.2.2.1.2] at hown3
        obtain ⟨aO, aC, rfl⟩ := own_form hown3
        obtain rfl : err = .nilIface := by
          rcases hE3 with ⟨_, h⟩ | ⟨h, _⟩
          · exact h
          · exact absurd h (by decide)
        have hc3 : w3.cell? ⟨w1.heap.size, 0, none⟩ = some (.slice ao ps.length cap) := (hf3.cell (p := ⟨w1.heap.size, 0, none⟩) hbl (fun h => h)).trans hc0
        have H3 := hide (And.intro hown3 hf3)
        clear hown3 hE3 hf3 hc0
        go_wp2_with fail
        refine (putProof ps ao cap E w3 ((unhide HG).1.fr ((unhide HK).2.1.trans (unhide H3).2 (fun _ _ h => h)) (fun _ h => h.elim)) (Nat.le_trans hw (Nat.le_trans (unhide HK).2.1.size (unhide H3).2.size)) ((unhide HK).2.2.1.fr0 (unhide H3).2)).mono ?_
        rintro e w4 ⟨vb, err, rfl, hown4, hE4, hf4⟩
        rw [(unhide HK).2.2.2.1.1] at hE4
        rw [(unhide HK).2.2.2.1.2] at hown4
        obtain ⟨bO, bC, rfl⟩ := own_form hown4
        obtain rfl : err = .nilIface := by
          rcases hE4 with ⟨_, h⟩ | ⟨h, _⟩
          · exact h
          · exact absurd h (by decide)
        have hf04 : Fr (fun _ => False) wp w4 := (unhide H3).2.trans hf4 (fun _ _ h => h)
        have ha4 : w4.ownsRow wp.heap.size 5 1 (.slice aO (proofB ps).length aC) (proofB ps).length (cellsOf (proofB ps)) := ownsRow_of_block (unhide H3).1 (fun g hg => hf4.block g ((unhide H3).1.lt g hg).2 (fun h => h))
        have hBA : ∀ k, (Value.slice aO (proofB ps).length aC).ownBlock = some k → wp.heap.size ≤ k ∧ k < w3.heap.size := fun k hk => (unhide H3).1.lt k hk
        have H4 := hide (And.intro hown4 (And.intro ha4 (And.intro hf04 (And.intro hBA (And.intro (unhide H3).2.size hf4.size)))))
        clear hown4 hE4 hf4 hf04 ha4 hBA H3 hc3
        go_wp2_with fail
        refine (same_any _ _ (proofB ps) (proofB ps) w4 (own_src (unhide H4).2.1) (own_src (unhide H4).1) (by omega)).mono ?_
        rintro e w5 ⟨rfl, n1, rfl⟩
        rw [same_self7]
        obtain ⟨w5, hw5⟩ : ∃ W, W = w4.drewN n1 := ⟨_, rfl⟩
        have hf45 : Fr (fun _ => False) w4 w5 := by rw [hw5]; exact (Fr.refl _ _).drewN n1
        rw [← hw5]
        clear hw5
        have hb5 : w5.ownsRow w3.heap.size 5 1 (.slice bO (proofB ps).length bC) (proofB ps).length (cellsOf (proofB ps)) := ownsRow_of_block (unhide H4).1 (fun g hg => hf45.block g ((unhide H4).1.lt g hg).2 (fun h => h))
        obtain ⟨kO, kC, w6, hr6, hown6, hf6⟩ := app_nil7 w5 _ (proofB ps) (own_src hb5) (by omega)
        have hf46 : Fr (fun _ => False) w4 w6 := hf45.trans hf6 (fun _ _ h => h)
        have hb6 : w6.ownsRow w3.heap.size 5 1 (.slice bO (proofB ps).length bC) (proofB ps).length (cellsOf (proofB ps)) := ownsRow_of_block hb5 (fun g hg => hf6.block g (hb5.lt g hg).2 (fun h => h))
        have ha6 : w6.ownsRow wp.heap.size 5 1 (.slice aO (proofB ps).length aC) (proofB ps).length (cellsOf (proofB ps)) := ownsRow_of_block (unhide H4).2.1 (fun g hg => hf46.block g ((unhide H4).2.1.lt g hg).2 (fun h => h))
        have hfr6 : Fr (fun _ => False) wp w6 := (unhide H4).2.2.1.trans hf46 (fun _ _ h => h)
        have hbb : ∀ k, (Value.slice bO (proofB ps).length bC).ownBlock = some k → w3.heap.size ≤ k ∧ k < w4.heap.size := fun k hk => (unhide H4).1.lt k hk
        have HR6 := hide hr6
        have H6 := hide (And.intro hb6 (And.intro ha6 (And.intro hown6 (And.intro hfr6 (And.intro hbb (And.intro (unhide H4).2.2.2.1 (And.intro (unhide H4).2.2.2.2.1 (And.intro (unhide H4).2.2.2.2.2 (And.intro hf45.size hf6.size)))))))))
        clear hr6 hown6 hf6 hf46 hb6 ha6 hfr6 hbb hb5 hf45 H4
        go_wp2_with (at_builtin; refine wpList_app rfl _ _ 23 23 rfl _ _ _ rfl rfl (unhide HR6) ?_)
        clear HR6
        have hg6 := (unhide HG).1.fr ((unhide HK).2.1.trans (unhide H6).2.2.2.1 (fun _ _ h => h)) (fun _ h => h.elim)
        refine (getProof _ (proofB ps) E w6 hg6 (Nat.le_trans hw (Nat.le_trans (unhide HK).2.1.size (unhide H6).2.2.2.1.size)) (own_src (unhide H6).1) (by omega)).mono ?_
        rintro e w7 ⟨vs7, err, rfl, hE7, hz7, hr7, hf7⟩
        obtain ⟨x7, rfl, hO7⟩ := hr7 (unhide HK).2.2.2.2.1.1
        rw [(unhide HK).2.2.2.2.1.2] at hO7
        obtain rfl : err = .nilIface := by
          rcases hE7 with ⟨_, h⟩ | ⟨h, _⟩
          · exact h
          · rw [(unhide HK).2.2.2.2.1.1] at h; exact absurd h (by decide)
        obtain ⟨xO, xC, rfl⟩ := hO7.form
        have H7 := hide (And.intro hO7 hf7)
        clear hO7 hf7 hz7 hr7 hE7 hg6
        go_wp2_with fail
        have hbx7 := box1 w7 (.cells #[.slice xO ps.length xC] 40)
        have hf67 := (unhide H7).2.trans hbx7 (fun _ _ h => h)
        have hb7 : (w7.alloc (.cells #[.slice xO ps.length xC] 40)).ownsRow w3.heap.size 5 1 (.slice bO (proofB ps).length bC) (proofB ps).length (cellsOf (proofB ps)) := ownsRow_of_block (unhide H6).1 (fun g hg => hf67.block g ((unhide H6).1.lt g hg).2 (fun h => h))
        have hg7 := (unhide HG).1.fr (((unhide HK).2.1.trans (unhide H6).2.2.2.1 (fun _ _ h => h)).trans hf67 (fun _ _ h => h)) (fun _ h => h.elim)
        refine (getProof _ (proofB ps) E _ hg7 (Nat.le_trans hw (Nat.le_trans (unhide HK).2.1.size (Nat.le_trans (unhide H6).2.2.2.1.size hf67.size))) (own_src hb7) (by omega)).mono ?_
        rintro e w8 ⟨vs8, err, rfl, hE8, hz8, hr8, hf8⟩
        obtain ⟨y8, rfl, hO8⟩ := hr8 (unhide HK).2.2.2.2.1.1
        rw [(unhide HK).2.2.2.2.1.2] at hO8
        obtain rfl : err = .nilIface := by
          rcases hE8 with ⟨_, h⟩ | ⟨h, _⟩
          · exact h
          · rw [(unhide HK).2.2.2.2.1.1] at h; exact absurd h (by decide)
        obtain ⟨yO, yC, rfl⟩ := hO8.form
        obtain ⟨uy, hUy⟩ := hO8.u
        obtain ⟨ux, hUx⟩ := (unhide H7).1.u
        have hs7 : (w7.alloc (.cells #[.slice xO ps.length xC] 40)).heap.size = w7.heap.size + 1 := by simp
        rw [hs7] at hUy
        obtain ⟨W, hW⟩ : ∃ W, W = w8.alloc (.cells #[.slice yO ps.length yC] 40) := ⟨_, rfl⟩
        have hbx8 : Fr (fun _ => False) w8 W := by rw [hW]; exact box1 _ _
        have hfx : Fr (fun _ => False) w7 W := (hbx7.trans hf8 (fun _ _ h => h)).trans hbx8 (fun _ _ h => h)
        have hf6W : Fr (fun _ => False) w6 W := (unhide H7).2.trans hfx (fun _ _ h => h)
        have hX : KB W w7.heap.size w6.heap.size w7.heap.size (.slice xO ps.length xC) ps ux := by
          have hk : KB (w7.alloc (.cells #[.slice xO ps.length xC] 40)) w7.heap.size w6.heap.size w7.heap.size (.slice xO ps.length xC) ps ux := ⟨heap_alloc_new _ _, hUx.fr2 hbx7 (fun _ _ h => h), fun k hk => hk.elim (fun h => hUx.row.lt k h) (fun ⟨_, _, h1, h2⟩ => hUx.ult h1 h2)⟩
          exact hk.fr0 (hf8.trans hbx8 (fun _ _ h => h))
        have hY : KB W w8.heap.size (w7.heap.size + 1) w8.heap.size (.slice yO ps.length yC) ps uy := ⟨by rw [hW]; exact heap_alloc_new _ _, hUy.fr2 hbx8 (fun _ _ h => h), fun k hk => hk.elim (fun h => hUy.row.lt k h) (fun ⟨_, _, h1, h2⟩ => hUy.ult h1 h2)⟩
        obtain ⟨g1, g2, g3, g4, g5, g6, g7, g8, g9, g10⟩ := unhide H6
        have hwrW : Fr (fun _ => False) wp W := g4.trans hf6W (fun _ _ h => h)
        have hbW : W.ownsRow w3.heap.size 5 1 (.slice bO (proofB ps).length bC) (proofB ps).length (cellsOf (proofB ps)) := ownsRow_of_block g1 (fun g hg => hf6W.block g (g1.lt g hg).2 (fun h => h))
        have hZ : KZ w W w1.heap.size wp.heap.size w3.heap.size w5.heap.size w6.heap.size w7.heap.size w8.heap.size ps us uy (.slice ao ps.length cap) (.slice aO (proofB ps).length aC) (.slice kO (proofB ps).length kC) (.slice yO ps.length yC) (proofB ps) := ⟨(unhide HK).2.1.trans hwrW (fun _ _ h => h), (unhide HK).1.fr0 hwrW, ownsRow_of_block g2 (fun g hg => hf6W.block g (g2.lt g hg).2 (fun h => h)), fun k hk => (g6 k hk).2, ownsRow_of_block g3 (fun g hg => hf6W.block g (g3.lt g hg).2 (fun h => h)), fun k hk => (g3.lt k hk).2, hY, by
          have h1 := (unhide H1).size
          have h2 := hf8.size
          have h3 := (unhide H7).2.size
          have h4 : W.heap.size = w8.heap.size + 1 := by rw [hW]; simp
          rw [hs7] at h2
          refine ⟨h1, hbl, g7, by omega, by omega, by omega, by omega, by omega⟩⟩
        have hbB : ∀ k, bO.map (·.block) = some k → w3.heap.size ≤ k ∧ k < w5.heap.size := fun k hk => by have := g5 k (bown7 hk); omega
        have hcx : W.cell? ⟨w7.heap.size, 0, none⟩ = some (.slice xO ps.length xC) := blk_cell hX.hb _ rfl
        have hcy : W.cell? ⟨w8.heap.size, 0, none⟩ = some (.slice yO ps.length yC) := blk_cell hY.hb _ rfl
        have hcp : W.cell? ⟨w1.heap.size, 0, none⟩ = some (.slice ao ps.length cap) := blk_cell hZ.p.hb _ rfl
        have HZ := hide (And.intro hZ (And.intro hX (And.intro hbW hbB)))
        have hpoH := hide (unhide HK).2.2.2.2.2
        rw [hW] at hcx hcy hcp
        have HW := hide hW
        clear hbx7 hf67 hb7 hg7 hE8 hz8 hr8 hf8 hO8 hUy hUx hs7 hW hbx8 hfx hf6W hX hY g1 g2 g3 g4 g5 g6 g7 g8 g9 g10 hwrW hbW hZ hbB H7 H6 HK
        go_wp2_with fail
        rw [← unhide HW] at hcx hcy hcp ⊢
        clear HW
        go_loopw [16] (fun iv wr => ∃ K : Nat, K ≤ (proofB ps).length ∧ iv = .int .i64 K ∧ OwnI W wr w3.heap.size bO bC (proofB ps).length) (fun iv _ => (proofB ps).length - (intOf iv).toNat)
        case atStart => exact ⟨0, Nat.zero_le _, rfl, Fr.refl _ _, _, (unhide HZ).2.2.1, cellsI _ rfl⟩
        case round =>
          obtain ⟨K, hK, rfl, hinc⟩ := hrel
          have HI := hide hinc
          clear hinc
          by_cases hltb : K < (proofB ps).length
          · obtain ⟨gb, zb, rfl, hcb, hzb⟩ := (unhide HI).at_ K hltb
            go_wp2
            go_roundw
            case rel => exact ⟨K + 1, by omega, by go_num, (unhide HI).step K _⟩
            case measure => simp [intOf]; omega
          · rename World => W2
            have hSb : ∀ k, bO.map (·.block) = some k → (w3.heap.size ≤ k ∧ k < w5.heap.size) ∨ (w6.heap.size ≤ k ∧ k ≤ w7.heap.size) ∨ w8.heap.size < k := fun k hk => .inl ((unhide HZ).2.2.2 k hk)
            have hZ2 := (unhide HZ).1.fr (unhide HI).1 hSb
            have hX2 := (unhide HZ).2.1.fr (unhide HI).1 (fun h => by have := (unhide HZ).2.2.2 _ h; have := (unhide HZ).1.o; omega) (fun k h1 h2 h => by have := (unhide HZ).2.2.2 _ h; have := (unhide HZ).1.o; omega)
            have HZ2 := hide (And.intro hZ2 hX2)
            have hcx2 : W2.cell? ⟨w7.heap.size, 0, none⟩ = some (.slice xO ps.length xC) := blk_cell hX2.hb _ rfl
            clear hZ2 hX2 hSb HI HZ hcx hcy hcp
            go_wp2_with fail
            go_loopw [17, 18] (fun iv _ wr => ∃ (I : Nat) (qs : List (List Nat)), I ≤ ps.length ∧ iv = .int .i64 (I : Nat) ∧ KB wr w7.heap.size w6.heap.size w7.heap.size (.slice xO ps.length xC) qs ux ∧ Like ps qs ∧ (∀ (j : Nat) p, j < I → qs[j]? = some p → ∀ v ∈ p, v = 77) ∧ KZ w wr w1.heap.size wp.heap.size w3.heap.size w5.heap.size w6.heap.size w7.heap.size w8.heap.size ps us uy (.slice ao ps.length cap) (.slice aO (proofB ps).length aC) (.slice kO (proofB ps).length kC) (.slice yO ps.length yC) (proofB ps)) (fun iv _ _ => ps.length - (intOf iv).toNat)
            case atStart => exact ⟨0, ps, Nat.zero_le _, rfl, (unhide HZ2).2, rfl, fun j p h => by omega, (unhide HZ2).1⟩
            case round =>
              obtain ⟨I, qs, hI, rfl, hX, hLk, h77, hZ⟩ := hrel
              have hcx : wr.cell? ⟨w7.heap.size, 0, none⟩ = some (.slice xO ps.length xC) := blk_cell hX.hb _ rfl
              by_cases hltI : I < ps.length
              · have HQ := hide (And.intro hX (And.intro hLk (And.intro h77 hZ)))
                clear hX hLk h77 hZ
                rename World => W3
                go_wp2_with fail
                go_loopw [18] (fun kv wr => ∃ (K : Nat) (qs : List (List Nat)), K ≤ (ps[I]).length ∧ kv = .int .i64 (K : Nat) ∧ KB wr w7.heap.size w6.heap.size w7.heap.size (.slice xO ps.length xC) qs ux ∧ Like ps qs ∧ (∀ (j : Nat) p, j < I → qs[j]? = some p → ∀ v ∈ p, v = 77) ∧ (∀ p, qs[I]? = some p → ∀ j, j < K → p[j]? = some 77) ∧ KZ w wr w1.heap.size wp.heap.size w3.heap.size w5.heap.size w6.heap.size w7.heap.size w8.heap.size ps us uy (.slice ao ps.length cap) (.slice aO (proofB ps).length aC) (.slice kO (proofB ps).length kC) (.slice yO ps.length yC) (proofB ps)) (fun kv _ => (ps[I]).length - (intOf kv).toNat)
                case atStart => exact ⟨0, qs, Nat.zero_le _, rfl, (unhide HQ).1, (unhide HQ).2.1, (unhide HQ).2.2.1, fun p _ j hj => by omega, (unhide HQ).2.2.2⟩
                case round =>
                  obtain ⟨K, q2, hK, rfl, hX, hLk, h77, hK7, hZ⟩ := hrel
                  have hcx : wr.cell? ⟨w7.heap.size, 0, none⟩ = some (.slice xO ps.length xC) := blk_cell hX.hb _ rfl
                  have hl2 := hLk.len
                  have hI2 : I < q2.length := by omega
                  obtain ⟨gx, cx, uo, uc, ex, hux, hcu, hou⟩ := hX.at_ I hI2
                  have hlu := hLk.at_ I hltI hI2
                  rw [hlu] at hux hcu hou
                  simp only [Value.slice.injEq] at ex
                  obtain ⟨rfl, -, rfl⟩ := ex
                  by_cases hltK : K < (ps[I]).length
                  · obtain ⟨gu, zu, rfl, hcb, hzb⟩ := OwnI.at_ (w0 := wr) (w := wr) (base := w6.heap.size) (ao := uo) (c := uc) (n := (ps[I]).length) ⟨Fr.refl _ _, _, hou, cellsI _ hlu⟩ K hltK
                    have hqI := List.getElem?_eq_getElem hI2
                    have hX' := hX.set77 (Nat.le_refl _) I gu _ uc K q2[I] hux hqI
                    have hgu := hX.lt gu (.inr ⟨I, _, hux, rfl⟩)
                    have hZ' := hZ.fr ((Fr.refl (fun k => k = gu) wr).setCell (p := ⟨gu, K, none⟩) (.inl rfl) (.int .u8 77)) (fun k hk => .inr (.inl (by have e : k = gu := hk; omega)))
                    have hLk' : Like ps (q2.set I (q2[I].set K 77)) := hLk.set I _ _ hqI (by simp)
                    have h77' : ∀ (j : Nat) p, j < I → (q2.set I (q2[I].set K 77))[j]? = some p → ∀ v ∈ p, v = 77 := fun j p hj hp => h77 j p hj (by rw [List.getElem?_set_ne (by omega)] at hp; exact hp)
                    have hK7' : ∀ p, (q2.set I (q2[I].set K 77))[I]? = some p → ∀ j, j < K + 1 → p[j]? = some 77 := fun p hp j hj => by
                      rw [List.getElem?_set_self hI2] at hp
                      cases hp
                      by_cases e : K = j
                      · subst e
                        rw [List.getElem?_set_self (by omega)]
                      · rw [List.getElem?_set_ne e]
                        exact hK7 _ hqI j (by omega)
                    have HN := hide (And.intro hX' (And.intro hLk' (And.intro h77' (And.intro hK7' hZ'))))
                    clear hX hLk h77 hK7 hZ hX' hLk' h77' hK7' hZ' hou hqI hgu hl2
                    have hNI : (ps[I]).length ≤ 32 := ((unhide hpoH) _ (List.getElem_mem hltI)).2
                    generalize (ps[I]).length = NI at *
                    go_wp2
                    go_roundw
                    case rel => exact ⟨K + 1, _, by omega, by go_num, (unhide HN).1, (unhide HN).2.1, (unhide HN).2.2.1, (unhide HN).2.2.2.1, (unhide HN).2.2.2.2⟩
                    case measure => simp [intOf]; omega
                  · have hKI : K = (ps[I]).length := by omega
                    have h77' : ∀ (j : Nat) p, j < I + 1 → q2[j]? = some p → ∀ v ∈ p, v = 77 := fun j p hj hp => by
                      by_cases e : j = I
                      · subst e
                        have e2 : p = q2[j] := by rw [List.getElem?_eq_getElem hI2] at hp; exact (Option.some.inj hp).symm
                        exact all77 (n := K) (fun i hi => hK7 p hp i hi) (by rw [e2, hlu, hKI])
                      · exact h77 j p (by omega) hp
                    have HN := hide (And.intro hX (And.intro hLk (And.intro h77' hZ)))
                    clear hX hLk h77 hK7 hZ h77' hou hlu hKI
                    have hNI : (ps[I]).length ≤ 32 := ((unhide hpoH) _ (List.getElem_mem hltI)).2
                    generalize (ps[I]).length = NI at *
                    go_wp2_with fail
                    exact ⟨⟨I + 1, q2, by omega, by go_num, (unhide HN).1, (unhide HN).2.1, (unhide HN).2.2.1, (unhide HN).2.2.2⟩, by simp [intOf]; omega⟩
              · rename World => W4
                have hIe : I = ps.length := by omega
                subst hIe
                have HQ := hide (And.intro hX (And.intro hLk (And.intro h77 hZ)))
                clear hX hLk h77 hZ HZ2 hcx2
                go_wp2_with fail
                go_loopw [19, 20, 21] (fun iv _ _ wr => ∃ (I : Nat), I ≤ ps.length ∧ iv = .int .i64 (I : Nat) ∧ KB wr w7.heap.size w6.heap.size w7.heap.size (.slice xO ps.length xC) qs ux ∧ KZ w wr w1.heap.size wp.heap.size w3.heap.size w5.heap.size w6.heap.size w7.heap.size w8.heap.size ps us uy (.slice ao ps.length cap) (.slice aO (proofB ps).length aC) (.slice kO (proofB ps).length kC) (.slice yO ps.length yC) (proofB ps)) (fun iv _ _ _ => ps.length - (intOf iv).toNat)
                case atStart => exact ⟨0, Nat.zero_le _, rfl, (unhide HQ).1, (unhide HQ).2.2.2⟩
                case round =>
                  obtain ⟨I2, hI2, rfl, hX, hZ⟩ := hrel
                  have hcx : wr.cell? ⟨w7.heap.size, 0, none⟩ = some (.slice xO ps.length xC) := blk_cell hX.hb _ rfl
                  by_cases hltI : I2 < ps.length
                  · have hlq := (unhide HQ).2.1.len
                    have hIq : I2 < qs.length := by omega
                    obtain ⟨gx, cx, uo, uc, ex, hux, hcu, hou⟩ := hX.at_ I2 hIq
                    have hlu := (unhide HQ).2.1.at_ I2 hltI hIq
                    simp only [Value.slice.injEq] at ex
                    obtain ⟨rfl, -, rfl⟩ := ex
                    have hNI : (ps[I2]).length ≤ 32 := ((unhide hpoH) _ (List.getElem_mem hltI)).2
                    have hqI := List.getElem?_eq_getElem hIq
                    obtain ⟨p, hp⟩ : ∃ p, p = qs[I2] := ⟨_, rfl⟩
                    rw [← hp] at hux hcu hou hqI hlu
                    have hpl2 : p.length ≤ 32 := by omega
                    rename World => W5
                    have HS := hide (And.intro hX (And.intro hZ (And.intro hou (And.intro hux hqI))))
                    clear hX hZ hou hux hqI hlu hp
                    go_wp2_with fail
                    go_loopw [20, 21] (fun hv kv wr => ∃ (K : Nat), K ≤ 9 ∧ kv = .int .i64 (K : Nat) ∧ HA w6.heap.size (w8.heap.size + 1) wr (.slice uo p.length uc) p hv (p.length + K) ∧ KB wr w7.heap.size w6.heap.size w7.heap.size (.slice (some ⟨gx, 0, none⟩) ps.length xC) qs ux ∧ KZ w wr w1.heap.size wp.heap.size w3.heap.size w5.heap.size w6.heap.size w7.heap.size w8.heap.size ps us uy (.slice ao ps.length cap) (.slice aO (proofB ps).length aC) (.slice kO (proofB ps).length kC) (.slice yO ps.length yC) (proofB ps)) (fun _ kv _ => 9 - (intOf kv).toNat)
                    case atStart => exact ⟨0, by decide, rfl, HA.start (unhide HS).2.2.1, (unhide HS).1, (unhide HS).2.1⟩
                    case round =>
                      obtain ⟨K, hK, rfl, hHA, hX, hZ⟩ := hrel
                      by_cases hlt9 : K < 9
                      · obtain ⟨g6, c6, w6', hr6, hX6, hHA6, hf6⟩ := ha_step hX (unhide HS).2.2.2.1 (unhide HS).2.2.2.2 hHA (by omega) (by have := hZ.o; omega)
                        have hZ6 := hZ.fr hf6 (fun k hk => by have := hZ.o; omega)
                        obtain ⟨ho, hc, xs, rfl, _⟩ := hHA
                        have HR6 := hide hr6
                        have HN := hide (And.intro hHA6 (And.intro hX6 hZ6))
                        clear hr6 hX6 hHA6 hf6 hZ6 hX hZ
                        go_wp2_with (at_builtin; refine wpList_app rfl _ _ 23 23 rfl _ _ _ rfl rfl (unhide HR6) ?_)
                        go_roundw
                        case rel => exact ⟨K + 1, by omega, by go_num, (unhide HN).1, (unhide HN).2.1, (unhide HN).2.2⟩
                        case measure => simp [intOf]; omega
                      · have HN := hide (And.intro hX hZ)
                        obtain ⟨ho, hc, xs, rfl, _⟩ := hHA
                        clear hX hZ
                        go_wp2_with fail
                        exact ⟨⟨I2 + 1, by omega, by go_num, (unhide HN).1, (unhide HN).2⟩, by simp [intOf]; omega⟩
                  · rename World => W6
                    have HE := hide (And.intro hX (And.intro hZ (And.intro (unhide HQ).2.1 (unhide HQ).2.2.1)))
                    clear hX hZ HQ
                    go_wp2_with fail
                    go_loopw [22, 23] (fun iv _ wr => ∃ (I : Nat), I ≤ ps.length ∧ iv = .int .i64 (I : Nat) ∧ Fr (fun _ => False) W6 wr) (fun iv _ _ => ps.length - (intOf iv).toNat)
                    case atStart => exact ⟨0, Nat.zero_le _, rfl, Fr.refl _ _⟩
                    case round =>
                      obtain ⟨I3, hI3, rfl, hf3⟩ := hrel
                      rename World => W7
                      have hcx3 : W7.cell? ⟨w7.heap.size, 0, none⟩ = some (.slice xO ps.length xC) := blk_cell ((unhide HE).1.fr0 hf3).hb _ rfl
                      by_cases hlt3 : I3 < ps.length
                      · have hlq := (unhide HE).2.2.1.len
                        have hIq : I3 < qs.length := by omega
                        have hlu := (unhide HE).2.2.1.at_ I3 hlt3 hIq
                        have h7 := (unhide HE).2.2.2 I3 qs[I3] hlt3 (List.getElem?_eq_getElem hIq)
                        obtain ⟨gx, cx, uo, uc, ex, hux, hcu, hou⟩ := ((unhide HE).1.fr0 hf3).at_ I3 hIq
                        rw [hlu] at hcu
                        simp only [Value.slice.injEq] at ex
                        obtain ⟨rfl, -, rfl⟩ := ex
                        have hNI : (ps[I3]).length ≤ 32 := ((unhide hpoH) _ (List.getElem_mem hlt3)).2
                        have hAt : ∀ K, K < (ps[I3]).length → ∃ gu, uo = some ⟨gu, 0, none⟩ ∧ W7.cell? ⟨gu, K, none⟩ = some (.int .u8 77) := fun K hK => by
                          rcases hou.2 with ⟨_, h0⟩ | ⟨gu, c2, cur, e2, _⟩
                          · omega
                          · simp only [Value.slice.injEq, true_and] at e2
                            obtain ⟨rfl, rfl⟩ := e2
                            refine ⟨gu, rfl, ?_⟩
                            rw [hou.cellAt K (by omega)]
                            have hK2 : K < (qs[I3]).length := by omega
                            simp [cellsOf, B, hK2, h7 (qs[I3])[K] (List.getElem_mem hK2)]
                        have HAt := hide hAt
                        obtain ⟨gy, cy, yu, yuc, ey, _, hcyu, hoy⟩ := ((unhide HE).2.1.y.fr0 hf3).at_ I3 hlt3
                        obtain ⟨gp, cp, pu, puc, ep, _, hcpu, hop⟩ := ((unhide HE).2.1.p.fr0 hf3).at_ I3 hlt3
                        have hcy3 : W7.cell? ⟨w8.heap.size, 0, none⟩ = some (.slice yO ps.length yC) := blk_cell ((unhide HE).2.1.y.fr0 hf3).hb _ rfl
                        have hcp3 : W7.cell? ⟨w1.heap.size, 0, none⟩ = some (.slice ao ps.length cap) := blk_cell ((unhide HE).2.1.p.fr0 hf3).hb _ rfl
                        simp only [Value.slice.injEq] at ey ep
                        obtain ⟨rfl, -, rfl⟩ := ey
                        obtain ⟨rfl, -, rfl⟩ := ep
                        have hsy := own_src hoy
                        have hsp := own_src hop
                        obtain ⟨L, hL⟩ : ∃ L, L = ps[I3] := ⟨_, rfl⟩
                        rw [← hL] at hcu hcyu hcpu hsy hsp HAt hNI
                        have HS := hide (And.intro hsy (And.intro hsp hf3))
                        clear hou hoy hop hAt h7 hlu hux hf3 hL hsy hsp
                        go_wp2_with fail
                        go_loopw [23] (fun kv wr => ∃ (K : Nat), K ≤ L.length ∧ kv = .int .i64 (K : Nat) ∧ wr = W7) (fun kv _ => L.length - (intOf kv).toNat)
                        case atStart => exact ⟨0, Nat.zero_le _, rfl, rfl⟩
                        case round =>
                          obtain ⟨K, hK, rfl, rfl⟩ := hrel
                          by_cases hltK : K < L.length
                          · obtain ⟨gu, rfl, hc77⟩ := (unhide HAt) K hltK
                            go_wp2
                            go_roundw
                            case rel => exact ⟨K + 1, by omega, by go_num, by first | rfl | trivial⟩
                            case measure => simp [intOf]; omega
                          · go_wp2_with fail
                            go_region_held3 (fun w' => w'.cell? ⟨w8.heap.size, 0, none⟩ = some (.slice (some ⟨gy, 0, none⟩) ps.length yC) ∧ w'.cell? ⟨gy, I3, none⟩ = some (.slice yu L.length yuc) ∧ w'.cell? ⟨w1.heap.size, 0, none⟩ = some (.slice (some ⟨gp, 0, none⟩) ps.length cap) ∧ w'.cell? ⟨gp, I3, none⟩ = some (.slice pu L.length puc))
                              (first | exact ⟨hcy3, hcyu, hcp3, hcpu⟩ | assumption | (simp only [World.cell?_drew, World.cell?_drewN]; exact ⟨hcy3, hcyu, hcp3, hcpu⟩))
                              (first | (go_at_call 13; refine (same_any _ _ L L _ ((unhide HS).1.fr ((Fr.refl _ _).drew) (fun _ _ _ _ _ h => h)) ((unhide HS).2.1.fr ((Fr.refl _ _).drew) (fun _ _ _ _ _ h => h)) (by omega)).mono ?_; rintro e wS ⟨rfl, nS, rfl⟩; rw [same_self7]))
                            all_goals
                              go_wp2_with fail
                              exact ⟨⟨I3 + 1, by omega, by go_num, by first | exact ((unhide HS).2.2.drew).drewN _ | exact (unhide HS).2.2.drewN _⟩, by simp [intOf]; omega⟩
                      · have hZ7 := (unhide HE).2.1.fr hf3 (fun _ h => h.elim)
                        have HZ7 := hide hZ7
                        clear hZ7 hf3 HE
                        go_wp2_with fail
                        refine (same_any _ _ (proofB ps) (proofB ps) W7 (own_src (unhide HZ7).a) (own_src (unhide HZ7).k) (by omega)).mono ?_
                        rintro e wS ⟨rfl, nS, rfl⟩
                        rw [same_self7]
                        have hf8 : Fr (fun _ => False) w (W7.drewN nS) := (unhide HZ7).f.drewN nS
                        obtain ⟨W8, hW8⟩ : ∃ W, W = W7.drewN nS := ⟨_, rfl⟩
                        rw [← hW8] at hf8 ⊢
                        clear hW8 HZ7 hcx3
                        have hy8 := (unhide HG).2.2.1.fr0 hf8
                        have hg8 := (unhide HG).1.fr hf8 (fun _ h => h.elim)
                        have hsz8 := Nat.le_trans hw hf8.size
                        have hs32 : ∃ (n : Nat) (S : List Nat), S.length = n ∧ n ≤ 32768 ∧ SlI W8 (.slice yo n yc) S ∧ (n = sig.length ∨ (n = 32768 ∧ 32768 < sig.length)) := by
                          by_cases hb : 32768 < sig.length
                          · exact ⟨32768, sig.take 32768, by rw [List.length_take]; omega, by decide, ⟨hy8.src.take7 32768 (by omega), fun g o m c e => hy8.lt g o _ _ (by cases e; rfl), by rw [List.length_take]; omega⟩, .inr ⟨rfl, hb⟩⟩
                          · exact ⟨sig.length, sig, rfl, by omega, hy8, .inl rfl⟩
                        obtain ⟨SN, Sg, hSl, hSN, hSI, hSc⟩ := hs32
                        have H8 := hide (And.intro hf8 (And.intro hSI (And.intro hg8 (And.intro hsz8 hSl))))
                        clear hf8 hSI hg8 hsz8 hy8 hSl
                        rcases hSc with rfl | ⟨rfl, hbig⟩
                        all_goals
                          go_wp2_with fail
                          have hbA : ∀ o, Fr (fun _ => False) W8 ((W8.alloc (.cells #[.int .u8 1] 5)).alloc o) := fun o => box2 W8 _ o
                          have hW := signedW_ok Sg (by have := (unhide H8).2.2.2.2; omega)
                          have hR := signedR_ok Sg (by have := (unhide H8).2.2.2.2; omega)
                          refine (putSigned 1 2 [1] Sg (.slice (some ⟨W8.heap.size, 0, none⟩) 1 1) _ E _ ((unhide H8).2.2.1.fr (hbA _) (fun _ h => h.elim)) (Nat.le_trans (unhide H8).2.2.2.1 (hbA _).size) ((lit_sl W8 [1] #[.int .u8 1] 5 rfl (by decide)).fr0 (box1 _ _)) ((unhide H8).2.1.fr0 (hbA _)) (by decide) (by decide)).mono ?_
                          rintro e w9 ⟨vc, err, rfl, hown9, hE9, hf9⟩
                          rw [hW.1] at hE9
                          rw [hW.2] at hown9
                          obtain ⟨cO, cC, rfl⟩ := own_form hown9
                          obtain rfl : err = .nilIface := by
                            rcases hE9 with ⟨_, h⟩ | ⟨h, _⟩
                            · exact h
                            · exact absurd h (by decide)
                          have hf09 : Fr (fun _ => False) W8 w9 := (hbA _).trans hf9 (fun _ _ h => h)
                          have hlS : (signedB Sg).length ≤ 100000 := by
                            have := (unhide H8).2.2.2.2
                            simp only [signedB, enc1, List.length_append, be_length, List.length_cons, List.length_nil]
                            omega
                          have hown9' := own_mono hown9 (hbA _).size
                          have H9 := hide (And.intro hown9' (And.intro hf09 (And.intro hR hE9)))
                          clear hown9 hE9 hf9 hf09 hbA hW hR hown9'
                          go_wp2_with fail
                          refine (getSigned _ (signedB Sg) E w9 ((unhide H8).2.2.1.fr (unhide H9).2.1 (fun _ h => h.elim)) (Nat.le_trans (unhide H8).2.2.2.1 (unhide H9).2.1.size) (own_src (unhide H9).1) (by omega)).mono ?_
                          rintro e w10 ⟨vs10, err, rfl, hE10, hz10, hr10, hf10⟩
                          obtain ⟨zy, zz, rfl, hzy, hzz⟩ := hr10 (unhide H9).2.2.1.1
                          rw [(unhide H9).2.2.1.2.1] at hzy
                          rw [(unhide H9).2.2.1.2.2] at hzz
                          obtain rfl : err = .nilIface := by
                            rcases hE10 with ⟨_, h⟩ | ⟨h, _⟩
                            · exact h
                            · rw [(unhide H9).2.2.1.1] at h; exact absurd h (by decide)
                          obtain ⟨zyo, zyc, rfl⟩ := own_form hzy
                          obtain ⟨zzo, zzc, rfl⟩ := own_form hzz
                          generalize (signedR (signedB Sg)).2.1.1 = zs1
                          generalize (signedR (signedB Sg)).2.2.1 = zs2
                          have hc10 : w10.ownsRow W8.heap.size 5 1 (.slice cO (signedB Sg).length cC) (signedB Sg).length (cellsOf (signedB Sg)) := ownsRow_of_block (unhide H9).1 (fun g hg => hf10.block g ((unhide H9).1.lt g hg).2 (fun h => h))
                          have hcl : ∀ k, cO.map (·.block) = some k → W8.heap.size ≤ k ∧ k < w9.heap.size := fun k hk => (unhide H9).1.lt k (bown7 hk)
                          have H10 := hide (And.intro hc10 (And.intro hzy (And.intro hzz (And.intro hcl (And.intro ((unhide H9).2.1.trans hf10 (fun _ _ h => h)) hf10.size)))))
                          clear hE10 hz10 hr10 hf10 hzy hzz hc10 hcl H9
                          go_wp2_with fail
                          obtain ⟨W11, hW11⟩ : ∃ W, W = w10.alloc (.cells #[.int .u32 (zs1 : Nat), .slice zyo 1 zyc, .int .u32 (zs2 : Nat), .slice zzo Sg.length zzc] 37) := ⟨_, rfl⟩
                          have hb11 : W11.heap[w10.heap.size]? = some (.cells #[.int .u32 (zs1 : Nat), .slice zyo 1 zyc, .int .u32 (zs2 : Nat), .slice zzo Sg.length zzc] 37) := by rw [hW11]; exact heap_alloc_new _ _
                          have hf11 : Fr (fun _ => False) w10 W11 := by rw [hW11]; exact box1 _ _
                          have hc11 : W11.ownsRow W8.heap.size 5 1 (.slice cO (signedB Sg).length cC) (signedB Sg).length (cellsOf (signedB Sg)) := ownsRow_of_block (unhide H10).1 (fun g hg => hf11.block g ((unhide H10).1.lt g hg).2 (fun h => h))
                          have H11 := hide (And.intro hc11 (And.intro hb11 hf11))
                          rw [← hW11]
                          clear hc11 hb11 hf11 hW11
                          go_loopw [28] (fun iv wr => ∃ K : Nat, K ≤ (signedB Sg).length ∧ iv = .int .i64 K ∧ OwnI W11 wr W8.heap.size cO cC (signedB Sg).length) (fun iv _ => (signedB Sg).length - (intOf iv).toNat)
                          case atStart => exact ⟨0, Nat.zero_le _, rfl, Fr.refl _ _, _, (unhide H11).1, cellsI _ rfl⟩
                          case round =>
                            obtain ⟨K, hK, rfl, hinc⟩ := hrel
                            have HI := hide hinc
                            clear hinc
                            by_cases hltb : K < (signedB Sg).length
                            · obtain ⟨gb, zb, rfl, hcb, hzb⟩ := (unhide HI).at_ K hltb
                              go_wp2
                              go_roundw
                              case rel => exact ⟨K + 1, by omega, by go_num, (unhide HI).step K _⟩
                              case measure => simp [intOf]; omega
                            · rename World => W12
                              have hnc : ∀ k, w9.heap.size ≤ k → ¬ cO.map (·.block) = some k := fun k h1 h2 => by have := (unhide H10).2.2.2.1 k h2; omega
                              have hs10 : w9.heap.size ≤ w10.heap.size := (unhide H10).2.2.2.2.2
                              have hbl10 : w10.heap.size < W11.heap.size := lt_of_cell (p := ⟨w10.heap.size, 0, none⟩) (blk_cell (unhide H11).2.1 _ rfl)
                              have hb12 : W12.heap[w10.heap.size]? = _ := ((unhide HI).1.block w10.heap.size hbl10 (hnc _ hs10)).trans (unhide H11).2.1
                              have hz1 : W12.cell? ⟨w10.heap.size, 1, none⟩ = some (.slice zyo 1 zyc) := blk_cell hb12 _ rfl
                              have hz3 : W12.cell? ⟨w10.heap.size, 3, none⟩ = some (.slice zzo Sg.length zzc) := blk_cell hb12 _ rfl
                              have hf811 : Fr (fun _ => False) W8 W11 := (unhide H10).2.2.2.2.1.trans (unhide H11).2.2 (fun _ _ h => h)
                              have hw12 : Fr (fun _ => False) w W12 := ((unhide H8).1.trans hf811 (fun _ _ h => h)).trans (unhide HI).1 (fun i hi h => by have h1 := (unhide H10).2.2.2.1 i h; have h2 := (unhide H8).1.size; omega)
                              have hrow : ∀ (ao : Option Addr) (n c : Nat) (l : List Nat), w10.ownsRow w9.heap.size 5 1 (.slice ao n c) n (cellsOf l) → Src W12 (.slice ao n c) l := fun ao n c l ho => by
                                have h1 : W12.ownsRow w9.heap.size 5 1 (.slice ao n c) n (cellsOf l) := ownsRow_of_block ho (fun g hg => ((unhide HI).1.block g (Nat.lt_of_lt_of_le (ho.lt g hg).2 (unhide H11).2.2.size) (hnc g (ho.lt g hg).1)).trans ((unhide H11).2.2.block g (ho.lt g hg).2 (fun h => h)))
                                have h2 : n = l.length := by have := h1.1; simpa [cellsOf] using this.symm
                                subst h2
                                exact own_src h1
                              have hsy := hrow _ _ _ _ (unhide H10).2.1
                              have hsz := hrow _ _ _ _ (unhide H10).2.2.1
                              have hss : Src W12 (.slice yo _ yc) Sg := ((unhide H8).2.1.src.fr hf811 (fun _ _ _ _ _ h => h)).fr (unhide HI).1 (fun g o m c e h => by have h1 := (unhide H10).2.2.2.1 g h; have h2 := (unhide H8).2.1.lt g o m c e; omega)
                              have HS := hide (And.intro hsy (And.intro hsz (And.intro hss hw12)))
                              clear hb12 hsy hsz hss hw12 hrow hf811 hnc HI
                              go_wp2_with fail
                              refine (same_any _ _ Sg Sg W12 (unhide HS).2.1 (unhide HS).2.2.1 (by have := (unhide H8).2.2.2.2; omega)).mono ?_
                              rintro e wS ⟨rfl, nS, rfl⟩
                              rw [same_self7]
                              have hfd : Fr (fun _ => False) W12 (W12.drewN nS) := (Fr.refl _ _).drewN nS
                              have hz1d : (W12.drewN nS).cell? ⟨w10.heap.size, 1, none⟩ = some (.slice zyo 1 zyc) := (hfd.cell (p := ⟨w10.heap.size, 1, none⟩) (lt_of_cell hz1) (fun h => h)).trans hz1
                              go_wp2_with fail
                              refine (same_any _ _ [1] [1] _ ((unhide HS).1.fr (hfd.alloc _) (fun _ _ _ _ _ h => h)) (lit_sl (W12.drewN nS) [1] #[.int .u8 1] 5 rfl (by decide)).src (by decide)).mono ?_
                              rintro e wT ⟨rfl, nT, rfl⟩
                              rw [same_self7]
                              have HFN := hide (((unhide HS).2.2.2.trans (hfd.alloc (.cells #[.int .u8 1] 5)) (fun _ _ h => h)).drewN nT)
                              clear hfd hz1d
                              go_wp2_with fail
                              go_ret
                              exact ⟨rfl, unhide HFN⟩
end Go.Proofs.YtcpbmphknonflaaGreatDoor

namespace Go.Proofs.YtcpbmphknonflaaGreatDoor
open Go.RowKit

/-- WireKept. -/
theorem wkept_any (hs : List (List Nat)) (sig : List Nat) (xo yo : Option Addr) (xc yc : Nat) (E : Nat → Addr) (w : World) (hg : G6 w E) (hw : 9 ≤ w.heap.size) (hx : PcJ w xo hs) (hy : SlI w (.slice yo sig.length yc) sig) (hyc : sig.length ≤ yc) :
    Calls Tryz.prog 8 #[.slice xo hs.length xc, .slice yo sig.length yc] w fun e w' => e = .returned (.bool true) ∧ Fr (fun _ => False) w w' := by
  rcases Nat.lt_or_ge 40 hs.length with h | h
  · exact wkept_big hs sig xo yo xc yc E w hg hw hx hy hyc h
  · exact wkept_small hs sig xo yo xc yc E w hg hw hx hy hyc h
end Go.Proofs.YtcpbmphknonflaaGreatDoor

namespace Go.Proofs.YtcpbmphknonflaaGreatDoor
open Go.ChangeShapes Go.WideShapes Go.ChangeAt Go.RowKit
set_option maxRecDepth 100000

theorem heap_ok {W : World} (h : W.ShapedOpen Tryz.prog) : 9 ≤ W.heap.size := by
  obtain ⟨cs, hc, _⟩ := h.1 8 #[.bool false] 4 (by decide +kernel) (by kernel_rfl)
  rcases Nat.lt_or_ge 8 W.heap.size with hx | hx
  · exact hx
  · rw [Array.getElem?_eq_none hx] at hc; cases hc

theorem Fr.low {w w' : World} (h : Fr (fun _ => False) w w') : Below w.heap.size w w' := ⟨h.os, h.tape, h.output, h.size, fun k hk => h.block k hk (fun x => x)⟩

theorem gl_of_seven {W : World} {r : List (String × DataW Unit)} {n1 n2 n3 n4 : String} (hL : laidMet Tryz.prog ((n1, Rows.laid_almoner_api_ErrShort) :: (n2, Rows.laid_almoner_api_ErrLong) :: (n3, Rows.laid_almoner_api_ErrTrailing) :: (n4, Rows.laid_almoner_api_ErrRange) :: r) W)
    (g1 : Tryz.prog.globalNamed n1 = some 0) (g2 : Tryz.prog.globalNamed n2 = some 3) (g3 : Tryz.prog.globalNamed n3 = some 1) (g4 : Tryz.prog.globalNamed n4 = some 4) : ∃ E er, Gl W E ∧ Rg W er := by
  obtain ⟨a1, h1⟩ := sentinel_cell hL (.head _) g1 (by kernel_rfl)
  obtain ⟨a2, h2⟩ := sentinel_cell hL (.tail _ (.head _)) g2 (by kernel_rfl)
  obtain ⟨a3, h3⟩ := sentinel_cell hL (.tail _ (.tail _ (.head _))) g3 (by kernel_rfl)
  obtain ⟨a4, h4⟩ := sentinel_cell hL (.tail _ (.tail _ (.tail _ (.head _)))) g4 (by kernel_rfl)
  exact ⟨fun n => if n = 1 then a1 else if n = 2 then a2 else a3, a4, ⟨h1, h2, h3⟩, h4⟩

/-- A world for a witness: the settled one, each listed variable holding an error of its text. -/
noncomputable def errLow : Nat := (World.holding Tryz.prog default ⟨#[], #[], []⟩).heap.size
noncomputable def errWorld (os : Os) : World :=
  let w0 := World.holding Tryz.prog os ⟨#[.cells #[.string ⟨#[116, 111, 111, 32, 102, 101, 119, 32, 98, 121, 116, 101, 115]⟩] 360, .cells #[.string ⟨#[116, 111, 111, 32, 108, 111, 110, 103]⟩] 360, .cells #[.string ⟨#[98, 121, 116, 101, 115, 32, 98, 101, 104, 105, 110, 100, 32, 116, 104, 101, 32, 101, 110, 100]⟩] 360, .cells #[.string ⟨#[97, 32, 110, 117, 109, 98, 101, 114, 32, 116, 104, 97, 116, 32, 109, 97, 121, 32, 110, 111, 116, 32, 98, 101]⟩] 360, .cells #[.string ⟨#[110, 111, 32, 115, 117, 99, 104, 32, 107, 105, 110, 100]⟩] 360, .cells #[.string ⟨#[110, 111, 116, 32, 105, 110, 32, 111, 114, 100, 101, 114]⟩] 360, .cells #[.string ⟨#[111, 119, 110]⟩] 360], #[], []⟩
  { w0 with heap := (((((((w0.heap.modify 0 fun
      | .cells _ t frozen => .cells #[.iface 340 (.pointer (some ⟨errLow + 0, 0, none⟩))] t frozen
      | o => o).modify 3 fun
      | .cells _ t frozen => .cells #[.iface 340 (.pointer (some ⟨errLow + 1, 0, none⟩))] t frozen
      | o => o).modify 1 fun
      | .cells _ t frozen => .cells #[.iface 340 (.pointer (some ⟨errLow + 2, 0, none⟩))] t frozen
      | o => o).modify 4 fun
      | .cells _ t frozen => .cells #[.iface 340 (.pointer (some ⟨errLow + 3, 0, none⟩))] t frozen
      | o => o).modify 5 fun
      | .cells _ t frozen => .cells #[.iface 340 (.pointer (some ⟨errLow + 4, 0, none⟩))] t frozen
      | o => o).modify 6 fun
      | .cells _ t frozen => .cells #[.iface 340 (.pointer (some ⟨errLow + 5, 0, none⟩))] t frozen
      | o => o).modify 7 fun
      | .cells _ t frozen => .cells #[.iface 340 (.pointer (some ⟨errLow + 6, 0, none⟩))] t frozen
      | o => o) }
end Go.Proofs.YtcpbmphknonflaaGreatDoor

namespace Go.Proofs.YtcpbmphknonflaaGreatDoor
open Go.ChangeShapes Go.WideShapes Go.ChangeAt Go.RowKit Go.Deep
set_option maxRecDepth 100000

theorem Tryz.cellsB : Tryz.prog.cellsOf 23 = 1 := by kernel_rfl
theorem bulk_pos {H : Type} (d : DataW H) : 1 ≤ Rows.uptoBulk d := by
  unfold Rows.uptoBulk
  split <;> omega
theorem bulk_len {H : Type} : ∀ l : List (DataW H), l.length ≤ Rows.uptoBulkAll l
  | [] => Nat.zero_le _
  | d :: r => by
    have h1 := bulk_pos d
    have h2 := bulk_len r
    simp only [Rows.uptoBulkAll, List.length_cons]
    omega
theorem bulk_in {H : Type} : ∀ (l : List (DataW H)) (d : DataW H), d ∈ l → Rows.uptoBulk d ≤ Rows.uptoBulkAll l
  | [], d, h => by cases h
  | x :: r, d, h => by
    simp only [Rows.uptoBulkAll]
    rcases List.mem_cons.1 h with rfl | h
    · omega
    · have := bulk_in r d h
      omega
/-- A slice of bytes that is read. -/
theorem src_of_trod {H : Type} {enc : TypeId × Value → H} {W : World} {fuel : Nat} {v : Value} {d : DataW H} {p : List MemPlace} (hf : DataW.trod enc Tryz.prog W 0 (fun _ => true) true fuel 23 [v] = some (d, p)) :
    ∃ l : List Nat, Src W v l ∧ (∀ u ∈ l, u < 256) ∧ (∀ ao n c, v = .slice ao n c → n ≤ c) ∧ (l = [] ∨ ∀ g o n c, v = .slice (some ⟨g, o, none⟩) n c → g < W.heap.size) ∧ l.length ≤ Rows.uptoBulk d := by
  rcases open_ints Tryz.underlying23 Tryz.underlying5 Tryz.cellsU8 hf with ⟨hcs, hx⟩ | ⟨a, len, cap, zs, hcs, _, hl, hm, hz, hx, hcell, hwz⟩
  · simp only [List.cons.injEq, and_true] at hcs
    subst hcs
    exact ⟨[], .inl ⟨rfl, rfl⟩, (fun _ h => by cases h), fun _ _ _ e => by cases e; exact Nat.le_refl _, .inl rfl, Nat.zero_le _⟩
  · simp only [List.cons.injEq, and_true] at hcs
    subst hcs
    simp only [Prod.mk.injEq] at hx
    obtain ⟨rfl, -⟩ := hx
    simp only [if_true] at hz
    have hlen : ((zs.take len).map Int.toNat).length = len := by simp; omega
    have hbulk : len ≤ Rows.uptoBulk (DataW.slice (lits .u8 (zs.take len)) (lits .u8 (zs.drop len)) : DataW H) := by
      have h1 := bulk_len (lits .u8 (zs.take len) : List (DataW H))
      have h2 : (lits .u8 (zs.take len) : List (DataW H)).length = len := by simp [lits]; omega
      simp only [Rows.uptoBulk]
      omega
    by_cases h0 : len = 0
    · subst h0
      exact ⟨[], .inr (.inr ⟨a, cap, rfl, rfl⟩), (fun _ h => by cases h), fun _ _ _ e => by cases e; exact Nat.zero_le _, .inl rfl, Nat.zero_le _⟩
    · obtain ⟨b, off, rfl, hc⟩ := ints_at hcell (show 0 < zs.length by omega)
      have hw : ∀ j, j < zs.length → 0 ≤ zs.getD j 0 ∧ zs.getD j 0 < 256 := fun j hj => by
        have := bounds_u8 (hwz (zs.getD j 0) (by simp [List.getD, hj]))
        omega
      refine ⟨(zs.take len).map Int.toNat, .inr (.inl ⟨b, off, cap, by rw [hlen], fun j v hv => ?_⟩), fun u hu => ?_, fun _ _ _ e => by cases e; omega, .inr fun g o n c e => ?_, by rw [hlen]; exact hbulk⟩
      · have hj : j < len := by
          have := (List.getElem?_eq_some_iff.1 hv).1
          simp [cellsOf] at this; omega
        rw [hc j (by omega)]
        have hw := hw j (by omega)
        rw [← hv]
        simp [cellsOf, B, hj, show j < zs.length by omega] at hw ⊢
        omega
      · obtain ⟨z, hz1, rfl⟩ := List.mem_map.1 hu
        obtain ⟨j, hj, rfl⟩ := List.getElem_of_mem (List.mem_of_mem_take hz1)
        have := hw j hj
        rw [List.getD, List.getElem?_eq_getElem hj, Option.getD_some] at this
        omega
      · simp only [Value.slice.injEq, Option.some.injEq, Addr.mk.injEq] at e
        have := lt_of_cell (hc 0 (by omega))
        rw [← e.1.1]
        exact this
/-- A slice of slices of bytes. -/
structure Pcs (w : World) (x : Value) (vs : List Value) (ps : List (List Nat)) : Prop where
  len : vs.length = ps.length
  at_ : (x = .slice none 0 0 ∧ vs = []) ∨ (∃ a c, x = .slice (some a) 0 c ∧ vs = []) ∨ ∃ g o c, x = .slice (some ⟨g, o, none⟩) vs.length c ∧ g < w.heap.size ∧ ∀ j v, vs[j]? = some v → w.cell? ⟨g, o + j, none⟩ = some v
  src : ∀ (j : Nat) v p, vs[j]? = some v → ps[j]? = some p → Src w v p ∧ (∀ g n c, v = .slice g n c → n ≤ c) ∧ (p = [] ∨ ∀ g o n c, v = .slice (some ⟨g, o, none⟩) n c → g < w.heap.size)
  byt : ∀ p ∈ ps, ∀ u ∈ p, u < 256
/-- A slice of slices of bytes that came in. -/
theorem pcs_of_form {H : Type} {enc : TypeId × Value → H} {W : World} {v : Value} {d : DataW H} {p : List MemPlace} (hform : ∃ a len cap, v = .slice a len cap) (h : DataW.Trod enc Tryz.prog W 0 (fun _ => true) true 38 v d p) :
    ∃ vs ps, Pcs W v vs ps ∧ (∀ q ∈ ps, q.length ≤ Rows.uptoBulk d) ∧ ps.length ≤ Rows.uptoBulk d := by
  obtain ⟨a0, len0, cap0, rfl⟩ := hform
  obtain ⟨fuel, hf⟩ := h
  rcases open_slice1 Tryz.underlying38 Tryz.cellsB hf with ⟨hcs, hx⟩ | ⟨a, len, cap, m, n, V, D, Pl, hcs, _, hl, hm, hmm, hx, hel⟩
  · simp [Value.cells] at hcs
    obtain ⟨rfl, rfl, rfl⟩ := hcs
    exact ⟨[], [], ⟨rfl, .inl ⟨rfl, rfl⟩, (fun _ _ _ h => by simp at h), (fun _ h => by cases h)⟩, (fun _ h => by cases h), Nat.zero_le _⟩
  · simp [Value.cells] at hcs
    obtain ⟨rfl, rfl, rfl⟩ := hcs
    simp only [Prod.mk.injEq] at hx
    obtain ⟨rfl, -⟩ := hx
    simp only [if_true] at hmm
    subst hmm
    have hp : ∀ i, ∃ l : List Nat, i < m → (Src W (V i) l ∧ (∀ u ∈ l, u < 256) ∧ (∀ ao n c, V i = .slice ao n c → n ≤ c) ∧ (l = [] ∨ ∀ g o n c, V i = .slice (some ⟨g, o, none⟩) n c → g < W.heap.size) ∧ l.length ≤ Rows.uptoBulk (D i)) := fun i => by
      by_cases hi : i < m
      · obtain ⟨l, hh⟩ := src_of_trod (hel i hi).2
        exact ⟨l, fun _ => hh⟩
      · exact ⟨[], fun h => absurd h hi⟩
    obtain ⟨L, hL⟩ : ∃ L : Nat → List Nat, ∀ i, i < m → (Src W (V i) (L i) ∧ (∀ u ∈ L i, u < 256) ∧ (∀ ao n c, V i = .slice ao n c → n ≤ c) ∧ (L i = [] ∨ ∀ g o n c, V i = .slice (some ⟨g, o, none⟩) n c → g < W.heap.size) ∧ (L i).length ≤ Rows.uptoBulk (D i)) := ⟨fun i => Classical.choose (hp i), fun i => Classical.choose_spec (hp i)⟩
    have hd : Rows.uptoBulkAll ((List.range len0).map D) ≤ Rows.uptoBulk (DataW.slice ((List.range len0).map D) ((List.range (m - len0)).map fun j => D (len0 + j)) : DataW H) := by
      simp only [Rows.uptoBulk]; omega
    refine ⟨(List.range len0).map V, (List.range len0).map L, ⟨by simp, ?_, fun j v q hv hq => ?_, fun q hq => ?_⟩, fun q hq => ?_, ?_⟩
    · by_cases h0 : len0 = 0
      · subst h0
        exact .inr (.inl ⟨a, m, rfl, rfl⟩)
      · have hc0 := (hel 0 (by omega)).1
        obtain ⟨g, o, sp⟩ := a
        have hsp : sp = none := by simpa [Addr.add] using World.cell?_spot hc0
        subst hsp
        have ad : ∀ i, (⟨g, o, none⟩ : Addr).add i = ⟨g, o + i, none⟩ := fun i => by unfold Addr.add; split <;> simp_all
        refine .inr (.inr ⟨g, o, m, by simp, lt_of_cell (by rw [ad] at hc0; exact hc0), fun j v hv => ?_⟩)
        have hj : j < len0 := by
          have := (List.getElem?_eq_some_iff.1 hv).1
          simpa using this
        rw [← ad, (hel j (by omega)).1, ← hv]
        simp [hj]
    · have hj : j < len0 := by
        have := (List.getElem?_eq_some_iff.1 hv).1
        simpa using this
      simp [hj] at hv hq
      subst hv hq
      have := hL j (by omega)
      exact ⟨this.1, this.2.2.1, this.2.2.2.1⟩
    · obtain ⟨i, hi, rfl⟩ := List.mem_map.1 hq
      exact (hL i (by have := List.mem_range.1 hi; omega)).2.1
    · obtain ⟨i, hi, rfl⟩ := List.mem_map.1 hq
      have h1 := (hL i (by have := List.mem_range.1 hi; omega)).2.2.2.2
      have h2 := bulk_in ((List.range len0).map D) (D i) (List.mem_map.2 ⟨i, hi, rfl⟩)
      omega
    · have := bulk_len ((List.range len0).map D)
      simp at this ⊢
      omega
/-- Slices of bytes that come in, as a walk takes them. -/
theorem pcj_of_reading {H : Type} {enc : TypeId × Value → H} {W : World} {base : Nat} {v : Value} {d : DataW H} {p : List MemPlace} (hval : Value.okWide Tryz.prog W .any base 38 v) (h : DataW.Trod enc Tryz.prog W 0 (fun _ => true) true 38 v d p) (hk : Rows.uptoBulk d ≤ 1048576) :
    ∃ xo xc hs, v = .slice xo (hs : List (List Nat)).length xc ∧ PcJ W xo hs := by
  obtain ⟨vs, ps, hP, hq, hl⟩ := pcs_of_form (okWide_slice Tryz.underlying38 hval) h
  have hlen : vs.length = ps.length := hP.len
  have hel : ∀ xo, (∀ (j : Nat) u, vs[j]? = some u → ∃ g o, xo = some ⟨g, o, none⟩ ∧ W.cell? ⟨g, o + j, none⟩ = some u) → PcJ W xo ps := fun xo hc => by
    refine ⟨by omega, fun j q hj => ?_⟩
    have hjl : j < ps.length := (List.getElem?_eq_some_iff.1 hj).1
    have hv := List.getElem?_eq_getElem (show j < vs.length by omega)
    obtain ⟨h1, h2, _⟩ := hP.src j _ q hv hj
    obtain ⟨ho, hc2, e⟩ := h1.form
    obtain ⟨g, o, hxo, hcell⟩ := hc j _ hv
    rw [e] at hcell h1
    exact ⟨g, o, ho, hc2, hxo, hcell, h1, h2 _ _ _ e, by have := hq q (List.mem_of_getElem? hj); omega⟩
  rcases hP.at_ with ⟨rfl, hv0⟩ | ⟨a, c, rfl, hv0⟩ | ⟨g, o, c, rfl, _, hc⟩
  · subst hv0
    have hp0 : ps = [] := List.eq_nil_of_length_eq_zero (by simpa using hlen.symm)
    exact ⟨none, 0, [], rfl, ⟨by decide, fun j q hj => by simp at hj⟩⟩
  · subst hv0
    exact ⟨some a, c, [], rfl, ⟨by decide, fun j q hj => by simp at hj⟩⟩
  · exact ⟨some ⟨g, o, none⟩, c, ps, by rw [hlen], hel _ (fun j u hu => ⟨g, o, rfl, hc j u hu⟩)⟩
/-- Bytes that come in. -/
theorem sli_of_reading {H : Type} {enc : TypeId × Value → H} {W : World} {base : Nat} {v : Value} {d : DataW H} {p : List MemPlace} (hval : Value.okWide Tryz.prog W .any base 23 v) (h : DataW.Trod enc Tryz.prog W 0 (fun _ => true) true 23 v d p) (hk : Rows.uptoBulk d ≤ 1048576) :
    ∃ yo yc sig, v = .slice yo (sig : List Nat).length yc ∧ SlI W (.slice yo sig.length yc) sig ∧ sig.length ≤ yc := by
  obtain ⟨a0, len, cap, rfl⟩ := okWide_slice Tryz.underlying23 hval
  obtain ⟨fuel, hf⟩ := h
  obtain ⟨l, h1, _, h3, h4, h5⟩ := src_of_trod (by simpa [Value.cells] using hf)
  obtain ⟨yo, yc, e⟩ := h1.form
  refine ⟨yo, yc, l, e, ?_, h3 _ _ _ e⟩
  rw [← e]
  refine ⟨h1, fun g o m c e2 => ?_, by omega⟩
  simp only [Value.slice.injEq] at e2
  obtain ⟨rfl, -, -⟩ := e2
  have hh : Cell.ok Tryz.prog W .any base 23 (.slice (some ⟨g, o, none⟩) len cap) := by
    unfold Value.okWide Cell.okWide at hval
    simpa [Tryz.underlying23] using hval
  unfold Cell.ok at hh
  simp only [Tryz.underlying23] at hh
  obtain ⟨_, _, _, _, row, cells, hs, _⟩ := hh
  rcases Nat.lt_or_ge g W.heap.size with hx | hx
  · exact hx
  · simp [World.shape?, Array.getElem?_eq_none hx] at hs
/-- The six errors out of what the row lays. -/
theorem g6_of_six {W : World} {n1 n2 n3 n4 n5 n6 : String} (hL : laidMet Tryz.prog [(n1, Rows.laid_almoner_api_ErrShort), (n2, Rows.laid_almoner_api_ErrLong), (n3, Rows.laid_almoner_api_ErrTrailing), (n4, Rows.laid_almoner_api_ErrRange), (n5, Rows.laid_almoner_api_ErrKind), (n6, Rows.laid_almoner_api_ErrOrder)] W)
    (k1 : Tryz.prog.globalNamed n1 = some 0) (k2 : Tryz.prog.globalNamed n2 = some 3) (k3 : Tryz.prog.globalNamed n3 = some 1) (k4 : Tryz.prog.globalNamed n4 = some 4) (k5 : Tryz.prog.globalNamed n5 = some 5) (k6 : Tryz.prog.globalNamed n6 = some 6) : ∃ E, G6 W E := by
  obtain ⟨a1, h1⟩ := sentinel_cell hL (.head _) k1 (by kernel_rfl)
  obtain ⟨a2, h2⟩ := sentinel_cell hL (.tail _ (.head _)) k2 (by kernel_rfl)
  obtain ⟨a3, h3⟩ := sentinel_cell hL (.tail _ (.tail _ (.head _))) k3 (by kernel_rfl)
  obtain ⟨a4, h4⟩ := sentinel_cell hL (.tail _ (.tail _ (.tail _ (.head _)))) k4 (by kernel_rfl)
  obtain ⟨a5, h5⟩ := sentinel_cell hL (.tail _ (.tail _ (.tail _ (.tail _ (.head _))))) k5 (by kernel_rfl)
  obtain ⟨a6, h6⟩ := sentinel_cell hL (.tail _ (.tail _ (.tail _ (.tail _ (.tail _ (.head _)))))) k6 (by kernel_rfl)
  exact ⟨fun n => if n = 1 then a1 else if n = 2 then a2 else if n = 3 then a3 else if n = 4 then a4 else if n = 5 then a5 else a6, ⟨h1, h2, h3⟩, h4, h5, h6⟩
end Go.Proofs.YtcpbmphknonflaaGreatDoor

namespace Go.Proofs.YtcpbmphknonflaaGreatDoor
open Go.ChangeShapes Go.WideShapes Go.ChangeAt Go.RowKit
set_option maxRecDepth 100000

theorem wkept_contract (H : Type) (enc : TypeId × Value → H) (W : World) (base : Nat) (args : Array Value) (ds gs : List (DataW H)) (before : List MemPlace)
    (hval : ∀ (j : Nat) t v, Tryz.f8.params[j]? = some t → args[j]? = some v → Value.okWide Tryz.prog W .any base t v)
    (hW : DataW.Whole enc Tryz.prog Tryz.f8.params.toList Rows.wireKeptSpec.vars false W args.toList ds gs before) (hk : Rows.uptoSmall H (ds ++ gs) = true) (hL : laidMetH Tryz.prog Rows.wireKeptUptoRow.laid W) (hsh : W.ShapedOpen Tryz.prog) :
    Calls Tryz.prog 8 args W fun e W' => ∃ v, e = .returned v ∧ Rows.wireKeptSpec.post enc Tryz.prog Tryz.f8 false true false false W args v W' := by
  have hW' := hW
  obtain ⟨p, q, hA0, hV, rfl, hfz, hnd⟩ := hW
  have hA : DataW.TrodAll enc Tryz.prog W 0 (fun _ => true) true Tryz.f8.params.toList args.toList ds p := hA0
  rw [Tryz.params8] at hA hval
  obtain ⟨v0, vs0, d0, ds0, p0, q0, hargs, rfl, rfl, h0, r0⟩ := trodAll_cons hA
  obtain ⟨v1, vs1, d1, ds1, p1, q1, rfl, rfl, rfl, h1, r1⟩ := trodAll_cons r0
  obtain ⟨rfl, rfl, rfl⟩ := trodAll_nil r1
  obtain rfl : args = #[v0, v1] := by cases args; simp_all
  obtain ⟨rfl, rfl⟩ := trodVars_none hV
  have hbulk : Rows.uptoBulk d0 + (Rows.uptoBulk d1 + 0) ≤ 1048576 := by
    have h := of_decide_eq_true hk
    simpa only [List.append_nil, Rows.uptoBulkAll] using h
  obtain ⟨xo, xc, hs, rfl, hP⟩ := pcj_of_reading (hval 0 38 v0 rfl rfl) h0 (by omega)
  obtain ⟨yo, yc, sig, rfl, hS, hyc⟩ := sli_of_reading (hval 1 23 v1 rfl rfl) h1 (by omega)
  obtain ⟨E, hg⟩ := g6_of_six (show laidMet Tryz.prog [("almoner/api.ErrShort", Rows.laid_almoner_api_ErrShort), ("almoner/api.ErrLong", Rows.laid_almoner_api_ErrLong), ("almoner/api.ErrTrailing", Rows.laid_almoner_api_ErrTrailing), ("almoner/api.ErrRange", Rows.laid_almoner_api_ErrRange), ("almoner/api.ErrKind", Rows.laid_almoner_api_ErrKind), ("almoner/api.ErrOrder", Rows.laid_almoner_api_ErrOrder)] W from hL) (by kernel_rfl) (by kernel_rfl) (by kernel_rfl) (by kernel_rfl) (by kernel_rfl) (by kernel_rfl)
  refine (wkept_any hs sig xo yo xc yc E W hg (heap_ok hsh) hP hS hyc).mono fun e W' ⟨he, hf⟩ => ?_
  subst he
  have hlt : ∀ x ∈ p0 ++ (p1 ++ []), x.block < W.heap.size := fun x hx => hW'.lt x (by simpa using hx)
  have hb := hf.low
  refine ⟨_, rfl, _, _, _, [], p0 ++ (p1 ++ []), [], hW', ?_, ?_, ?_, hb.frame _, fun h => by cases h⟩
  · exact trodAll_cons_mk (shut_bool Tryz.underlying4 true) trodAll_mk0
  · exact trodAll_cons_mk (Below.trod (by kernel_rfl) (by kernel_rfl) (by decide +kernel) h0 hb (fun x hx => hlt x (by simp [hx]))) (trodAll_cons_mk (Below.trod (by kernel_rfl) (by kernel_rfl) (by decide +kernel) h1 hb (fun x hx => hlt x (by simp [hx]))) trodAll_mk0)
  · rfl

theorem wkept_laid_met (os : Os) : laidMet Tryz.prog Rows.wireKeptUptoRow.laid ((errWorld os).forCall (fun _ _ => 0) ⟨#[], #[.slice none 0 0, .slice none 0 0], []⟩).memory :=
  laidMet_of_run' 8 (by kernel_rfl) (by kernel_rfl)
theorem wkept_reads (os : Os) {H : Type} (enc : TypeId × Value → H) : ∃ places, DataW.whole enc Tryz.prog ((errWorld os).forCall (fun _ _ => 0) ⟨#[], #[.slice none 0 0, .slice none 0 0], []⟩).memory Tryz.f8.params.toList Rows.wireKeptSpec.vars false #[Value.slice none 0 0, .slice none 0 0].toList 8 = some ([.nil, .nil], [], places) :=
  ⟨[], by kernel_rfl⟩

theorem wkept_lifted (os : Os) (started : os.Started) (H : Type) (enc : TypeId × Value → H) (F : Stop.Interp) :
    ReturnsInHanded {} Tryz.checked os 8 .any ((Rows.OpenSpec.upto Rows.wireKeptSpec).preRow enc Tryz.prog Tryz.f8 Rows.wireKeptUptoRow.domain false Rows.wireKeptUptoRow.laid) (((Rows.OpenSpec.upto Rows.wireKeptSpec).at F).post enc Tryz.prog Tryz.f8 false true false false) := by
  obtain ⟨places, hx⟩ := wkept_reads os enc
  refine returnsInHanded_of_row (C := Tryz.checked) (s := Rows.OpenSpec.upto Rows.wireKeptSpec) Tryz.ownKnob started (by kernel_rfl) Tryz.func8
    (witness_row_atRef (enc := enc) (C := Tryz.checked) false (errWorld os) #[.slice none 0 0, .slice none 0 0] rfl (by kernel_rfl) (by kernel_rfl) (by kernel_rfl)
      (OpenSpec.preRow_of_cond 8 hx (by kernel_rfl) (fun k hk => by cases hk; kernel_rfl) (by kernel_rfl) (wkept_laid_met os))) ?_
  intro W base args ds gs before hval hW _ hcond _ hL hsh _
  exact wkept_contract H enc W base args ds gs before hval hW (hcond _ rfl) hL hsh

theorem wkept_said : Rows.WireKeptUptoSaid :=
  OpenClaim.holds_of_cond 8 Tryz.f8 rfl rfl rfl rfl rfl rfl rfl ⟨rfl, rfl, rfl, rfl, rfl⟩ rfl rfl rfl rfl rfl (by kernel_rfl) Tryz.func8 (by kernel_rfl)
    (of_decide_eq_true (by kernel_rfl)) (by unfold Func.isWrapper; first | (rw [if_pos (by decide +kernel)]; kernel_rfl) | (rw [if_neg (by decide +kernel)]; exact ⟨rfl, rfl⟩))
    (fun os started H enc _ F => by rw [OpenClaim.pre_eq_preRow]; exact wkept_lifted os started H enc F)

theorem wkept_plain (f : FuncId) (fn : Func) (hf : Tryz.pinned.checked.prog.funcNamed Rows.wireKeptUptoRow.func = some f) (hfn : Tryz.pinned.checked.prog.funcs[f]? = some fn) :
    true = Tryz.pinned.checked.prog.looks [] ∧ ∀ (j : Nat) t, fn.params[j]? = some t → Tryz.pinned.checked.prog.wantsStandIn t = false := by
  obtain rfl : f = 8 := Option.some.inj ((show Tryz.prog.funcNamed Rows.wireKeptUptoRow.func = some 8 by kernel_rfl).symm.trans hf) |>.symm
  obtain rfl : fn = Tryz.f8 := (Option.some.inj (Tryz.func8.symm.trans hfn)).symm
  refine ⟨by kernel_rfl, fun j t ht => ?_⟩
  rw [Tryz.params8] at ht
  have hm := Array.mem_of_getElem? ht
  simp at hm
  rcases hm with rfl | rfl
  · exact (show Tryz.prog.wantsStandIn 38 = false by kernel_rfl)
  · exact (show Tryz.prog.wantsStandIn 23 = false by kernel_rfl)

/-- THE SECOND FORM's CARD. -/
theorem wkept_card : Rows.WireKeptUptoCardSaid :=
  Claim7.holds_tied_plain_at .later [] _ _ _ _ wkept_said (fun _ h => by cases h) (by kernel_rfl) (fun _ h => by cases h) wireKeptUpto_row_tie rfl ⟨rfl, rfl⟩ (by kernel_rfl) rfl wkept_plain (by kernel_rfl)
#print axioms wkept_card
end Go.Proofs.YtcpbmphknonflaaGreatDoor

