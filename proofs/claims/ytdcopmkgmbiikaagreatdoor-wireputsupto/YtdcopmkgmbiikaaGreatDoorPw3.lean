import Derived.Test.YtdcopmkgmbiikaaGreatDoorPw2
import Derived.Test.YtdcopmkgmbiikaaGreatDoorPw1
import Derived.Deep.Slices
import Derived.Deep.DeepHandedRow
import Derived.Deep.DeepWitnessRowRef
import Derived.Test.YtdcopmkgmbiikaaGreatDoorKAwk
import Derived.Deep.RegionHeld3
namespace Go.Proofs.YtdcopmkgmbiikaaGreatDoor
open Go.RowKit
set_option maxRecDepth 100000 in
theorem PutHead_go (v0 v1 : Value) (w : World) (Q : Ending → World → Prop) (h : Calls Tryz.prog 47 #[.agg #[v0, v1]] (w.alloc (.cells #[v0, v1] 25)) fun e w' => (∃ v err, e = .returned (.tuple #[v, err])) ∧ Q e w') : Calls Tryz.prog 21 #[.agg #[v0, v1]] w fun e w' => (∃ v err, e = .returned (.tuple #[v, err])) ∧ Q e w' := by
 have H := hid h
 clear h
 go_enter Tryz.func21, Tryz.ntmps21
 go_wp2_with fail
 refine (uh H).mono ?_
 rintro e w' ⟨⟨v, err, rfl⟩, hr⟩
 have HR := hid hr
 clear hr
 go_wp2_with fail
 go_ret2
 exact ⟨⟨v, err, rfl⟩, uh HR⟩
set_option maxRecDepth 100000 in
theorem PutSigned_go (v0 v1 v2 v3 : Value) (w : World) (Q : Ending → World → Prop) (h : Calls Tryz.prog 75 #[.agg #[v0, v1, v2, v3]] (w.alloc (.cells #[v0, v1, v2, v3] 37)) fun e w' => (∃ v err, e = .returned (.tuple #[v, err])) ∧ Q e w') : Calls Tryz.prog 32 #[.agg #[v0, v1, v2, v3]] w fun e w' => (∃ v err, e = .returned (.tuple #[v, err])) ∧ Q e w' := by
 have H := hid h
 clear h
 go_enter Tryz.func32, Tryz.ntmps32
 go_wp2_with fail
 refine (uh H).mono ?_
 rintro e w' ⟨⟨v, err, rfl⟩, hr⟩
 have HR := hid hr
 clear hr
 go_wp2_with fail
 go_ret2
 exact ⟨⟨v, err, rfl⟩, uh HR⟩
set_option maxRecDepth 100000 in
theorem PutProof_go (v0 : Value) (w : World) (Q : Ending → World → Prop) (h : Calls Tryz.prog 76 #[.agg #[v0]] (w.alloc (.cells #[v0] 40)) fun e w' => (∃ v err, e = .returned (.tuple #[v, err])) ∧ Q e w') : Calls Tryz.prog 33 #[.agg #[v0]] w fun e w' => (∃ v err, e = .returned (.tuple #[v, err])) ∧ Q e w' := by
 have H := hid h
 clear h
 go_enter Tryz.func33, Tryz.ntmps33
 go_wp2_with fail
 refine (uh H).mono ?_
 rintro e w' ⟨⟨v, err, rfl⟩, hr⟩
 have HR := hid hr
 clear hr
 go_wp2_with fail
 go_ret2
 exact ⟨⟨v, err, rfl⟩, uh HR⟩
set_option maxRecDepth 100000 in
theorem PutRequest_go (v0 v1 v2 v3 v4 v5 v6 v7 v8 v9 : Value) (w : World) (Q : Ending → World → Prop) (h : Calls Tryz.prog 29 #[.agg #[v0, v1, v2, v3, v4, v5, v6, v7, v8, v9]] (w.alloc (.cells #[v0, v1, v2, v3, v4, v5, v6, v7, v8, v9] 30)) fun e w' => (∃ v err, e = .returned (.tuple #[v, err])) ∧ Q e w') : Calls Tryz.prog 13 #[.agg #[v0, v1, v2, v3, v4, v5, v6, v7, v8, v9]] w fun e w' => (∃ v err, e = .returned (.tuple #[v, err])) ∧ Q e w' := by
 have H := hid h
 clear h
 go_enter Tryz.func13, Tryz.ntmps13
 go_wp2_with fail
 refine (uh H).mono ?_
 rintro e w' ⟨⟨v, err, rfl⟩, hr⟩
 have HR := hid hr
 clear hr
 go_wp2_with fail
 go_ret2
 exact ⟨⟨v, err, rfl⟩, uh HR⟩
set_option maxRecDepth 100000 in
theorem PutAnswer_go (v0 v1 v2 v3 v4 v5 v6 : Value) (w : World) (Q : Ending → World → Prop) (h : Calls Tryz.prog 30 #[.agg #[v0, v1, v2, v3, v4, v5, v6]] (w.alloc (.cells #[v0, v1, v2, v3, v4, v5, v6] 33)) fun e w' => (∃ v err, e = .returned (.tuple #[v, err])) ∧ Q e w') : Calls Tryz.prog 14 #[.agg #[v0, v1, v2, v3, v4, v5, v6]] w fun e w' => (∃ v err, e = .returned (.tuple #[v, err])) ∧ Q e w' := by
 have H := hid h
 clear h
 go_enter Tryz.func14, Tryz.ntmps14
 go_wp2_with fail
 refine (uh H).mono ?_
 rintro e w' ⟨⟨v, err, rfl⟩, hr⟩
 have HR := hid hr
 clear hr
 go_wp2_with fail
 go_ret2
 exact ⟨⟨v, err, rfl⟩, uh HR⟩
set_option maxRecDepth 100000 in
theorem PutEvent_go (v0 v1 v2 v3 v4 v5 v6 v7 v8 v9 v10 v11 v12 : Value) (w : World) (Q : Ending → World → Prop) (h : Calls Tryz.prog 74 #[.agg #[v0, v1, v2, v3, v4, v5, v6, v7, v8, v9, v10, v11, v12]] (w.alloc (.cells #[v0, v1, v2, v3, v4, v5, v6, v7, v8, v9, v10, v11, v12] 35)) fun e w' => (∃ v err, e = .returned (.tuple #[v, err])) ∧ Q e w') : Calls Tryz.prog 31 #[.agg #[v0, v1, v2, v3, v4, v5, v6, v7, v8, v9, v10, v11, v12]] w fun e w' => (∃ v err, e = .returned (.tuple #[v, err])) ∧ Q e w' := by
 have H := hid h
 clear h
 go_enter Tryz.func31, Tryz.ntmps31
 go_wp2_with fail
 refine (uh H).mono ?_
 rintro e w' ⟨⟨v, err, rfl⟩, hr⟩
 have HR := hid hr
 clear hr
 go_wp2_with fail
 go_ret2
 exact ⟨⟨v, err, rfl⟩, uh HR⟩
def CS.wq : CS → Wq
 | .wr s => s
 | .rd _ => ⟨ByteArray.empty, [], none⟩
def CS.rq : CS → Q
 | .wr _ => ⟨ByteArray.empty, [], 0, 0, none⟩
 | .rd q => q
def cw0 : CS := .wr ⟨ByteArray.empty, [], none⟩
def cr0 (l : List Nat) : CS := .rd ⟨ByteArray.empty, l, 0, 0, none⟩
theorem cw0_room (n : Nat) (h : n ≤ 1000000) : cw0.room n := by simp only [cw0, CS.room, CS.len, List.length_nil]; omega
theorem room_len {s : Wq} {n : Nat} (h : (CS.wr s).room n) : s.l.length ≤ 140737488355328 := by simp only [CS.room, CS.len] at h; omega
structure SlI (w : World) (x : Value) (l : List Nat) : Prop where
 src : Src w x l
 lt : ∀ g o m c, x = .slice (some ⟨g, o, none⟩) m c → g < w.heap.size
 len : l.length < 9223372036854775808
theorem SlI.bvg {w w1 : World} {x : Value} {l : List Nat} {F : Nat → Prop} (h : SlI w x l) (hf : Fr (fun _ => False) w w1) (hF : ∀ k, F k → w.heap.size ≤ k) (g : Nat) (hg : w.heap.size ≤ g) : BVg w1 x l F g :=
 ⟨⟨h.src.fr hf (fun _ _ _ _ _ h => h), fun k o m c e => ⟨Nat.lt_of_lt_of_le (h.lt k o m c e) hf.size, fun hx => by have := hF k hx; have := h.lt k o m c e; omega⟩⟩, fun k o m c e => by have := h.lt k o m c e; omega, h.len⟩
def headW (size : Nat) (root : List Nat) : Wq := ((cw0.pForm 4).pHead (size, root)).1.wq
def headR (l : List Nat) : CS × Nat × List Nat := ((cr0 l).pForm 4).pHead (0, [])
def signedW (v : (Nat × List Nat) × Nat × List Nat) : Wq := ((cw0.pForm 5).pSigned v).1.wq
def proofW (ps : List (List Nat)) : Wq := ((cw0.pForm 6).pProof ps).1.wq
theorem SlI.fr0 {w w1 : World} {x : Value} {l : List Nat} (h : SlI w x l) (hf : Fr (fun _ => False) w w1) : SlI w1 x l :=
 ⟨h.src.fr hf (fun _ _ _ _ _ h => h), fun k o m c e => Nat.lt_of_lt_of_le (h.lt k o m c e) hf.size, h.len⟩
def PutRes (w w' : World) (e : Ending) (s : Wq) (E : Nat → Addr) : Prop := ∃ v err, e = .returned (.tuple #[v, err]) ∧ w'.ownsRow w.heap.size 5 1 v s.out.length (cellsOf s.out) ∧ ErrV w' err (ftV s.f) E ∧ Fr (fun _ => False) w w'
theorem PutRes.box {w w' : World} {e : Ending} {s : Wq} {E : Nat → Addr} {vs : Array Value} {t : TypeId} (h : PutRes (w.alloc (.cells vs t)) w' e s E) : (∃ v err, e = .returned (.tuple #[v, err])) ∧ PutRes w w' e s E := by
 obtain ⟨v, err, rfl, h1, h2, h3⟩ := h
 have hb := box1 w (.cells vs t)
 exact ⟨⟨v, err, rfl⟩, v, err, rfl, ownsRow_base h1 hb.size, h2, hb.trans h3 (fun _ _ h => h)⟩
theorem putHead (size : Nat) (root : List Nat) (x : Value) (E : Nat → Addr) (w : World) (hg : G6 w E) (hw : 9 ≤ w.heap.size) (hx : SlI w x root) (hsz : size < 4294967296) :
  Calls Tryz.prog 21 #[.agg #[.int .u32 (size : Nat), x]] w fun e w' => PutRes w w' e (headW size root) E := by
 have hr : (CS.wr (headW size root)).room 0 := CS.pHead_room (n := 0) (CS.pForm_room (cw0_room 3 (by decide)) 4) (size, root)
 obtain ⟨wb, hwb⟩ : ∃ wb, w.alloc (.cells #[.int .u32 (size : Nat), x] 25) = wb := ⟨_, rfl⟩
 have hbx : Fr (fun _ => False) w wb := by rw [← hwb]; exact box1 _ _
 have hx' := hx.fr0 hbx
 have hp := put_Head #[.int .u32 (size : Nat), x] (headW size root) E wb (hg.fr hbx (fun _ h => h.elim)) (by have := hbx.size; omega) (fun w1 cb b F hC hcs hL hF hf => by
  refine (whole_Head cw0 size root x cb b wb.heap.size F E w1 hC (hcs 0 _ rfl) (hcs 1 _ rfl) (hx'.bvg hf (fun k hk => by have := hF k hk; omega) _ (Nat.le_refl _)) hL hsz (cw0_room 3 (by decide))).mono ?_
  rintro e w' ⟨rfl, F', hC', _, x', _, _, hs⟩
  exact ⟨rfl, F', hC', hs.mono (fun k j _ h => h.1)⟩) (room_len hr)
 refine (PutHead_go _ _ w (fun e w' => PutRes w w' e (headW size root) E) ?_).mono (fun e w' h => h.2)
 rw [hwb]
 exact hp.mono (fun e w' h => by rw [← hwb] at h; exact PutRes.box h)
theorem putSigned (size key : Nat) (root sig : List Nat) (x y : Value) (E : Nat → Addr) (w : World) (hg : G6 w E) (hw : 9 ≤ w.heap.size) (hx : SlI w x root) (hy : SlI w y sig) (hsz : size < 4294967296) (hkey : key < 4294967296) :
  Calls Tryz.prog 32 #[.agg #[.int .u32 (size : Nat), x, .int .u32 (key : Nat), y]] w fun e w' => PutRes w w' e (signedW ((size, root), key, sig)) E := by
 have hr : (CS.wr (signedW ((size, root), key, sig))).room 0 := CS.pByt_room (n := 0) (CS.pU32_room (n := 1) (CS.pHead_room (n := 2) (CS.pForm_room (cw0_room 5 (by decide)) 5) (size, root)) _ _ _) _ _ _ _ (fun e => by have := szN_fit [] 0 32768 (fun v : List Nat => v.length) sig e; show sig.length ≤ 32768; omega)
 obtain ⟨wb, hwb⟩ : ∃ wb, w.alloc (.cells #[.int .u32 (size : Nat), x, .int .u32 (key : Nat), y] 37) = wb := ⟨_, rfl⟩
 have hbx : Fr (fun _ => False) w wb := by rw [← hwb]; exact box1 _ _
 have hx' := hx.fr0 hbx
 have hy' := hy.fr0 hbx
 have hp := put_Signed #[.int .u32 (size : Nat), x, .int .u32 (key : Nat), y] (signedW ((size, root), key, sig)) E wb (hg.fr hbx (fun _ h => h.elim)) (by have := hbx.size; omega) (fun w1 cb b F hC hcs hL hF hf => by
  refine (whole_Signed cw0 size key root sig x y cb b wb.heap.size F E w1 hC (hcs 0 _ rfl) (hcs 1 _ rfl) (hcs 2 _ rfl) (hcs 3 _ rfl) (hx'.bvg hf (fun k hk => by have := hF k hk; omega) _ (Nat.le_refl _)) (hy'.bvg hf (fun k hk => by have := hF k hk; omega) _ (Nat.le_refl _)) hL hsz hkey (cw0_room 5 (by decide))).mono ?_
  rintro e w' ⟨rfl, F', hC', _, _, x', y', _, _, _, _, hs⟩
  exact ⟨rfl, F', hC', hs.mono (fun k j _ h => h.1)⟩) (room_len hr)
 refine (PutSigned_go _ _ _ _ w (fun e w' => PutRes w w' e (signedW ((size, root), key, sig)) E) ?_).mono (fun e w' h => h.2)
 rw [hwb]
 exact hp.mono (fun e w' h => by rw [← hwb] at h; exact PutRes.box h)
theorem loopW_wr (ps : List (List Nat)) : ∀ (s : Wq), ∃ s', loopW (fun c v => c.pHash n_hash v) (.wr s) ps = .wr s' := by
 induction ps with
 | nil => intro s; exact ⟨s, rfl⟩
 | cons p ps ih => intro s; exact ih _
theorem loopW_room (ps : List (List Nat)) : ∀ {c : CS} {n : Nat}, c.room (n + ps.length) → (loopW (fun c v => c.pHash n_hash v) c ps).room n := by
 induction ps with
 | nil => intro c n h; exact h
 | cons p ps ih => intro c n h; exact ih (CS.pHash_room (n := n + ps.length) (by simpa [Nat.add_assoc] using h) _ _)
theorem proofW_eq (ps : List (List Nat)) : ((cw0.pForm 6).pProof ps).1 = .wr (proofW ps) := by
 obtain ⟨s, hs⟩ : ∃ s, ((cw0.pForm 6).pProof ps).1 = .wr s := loopW_wr _ _
 unfold proofW
 rw [hs]
 rfl
structure PcI (w : World) (xo : Option Addr) (xc : Nat) (ps : List (List Nat)) : Prop where
 cap : ps.length ≤ xc
 len : ps.length < 9223372036854775808
 el : ∀ (j : Nat) p, ps[j]? = some p → ∃ g o x, xo = some ⟨g, o, none⟩ ∧ w.cell? ⟨g, o + j, none⟩ = some x ∧ SlI w x p
theorem PcI.fr0 {w w1 : World} {xo : Option Addr} {xc : Nat} {ps : List (List Nat)} (h : PcI w xo xc ps) (hf : Fr (fun _ => False) w w1) : PcI w1 xo xc ps := by
 refine ⟨h.cap, h.len, fun j p hp => ?_⟩
 obtain ⟨g, o, x, h1, h2, h3⟩ := h.el j p hp
 exact ⟨g, o, x, h1, (hf.cell (p := ⟨g, o + j, none⟩) (ltC h2) (fun h => h)).trans h2, h3.fr0 hf⟩
end Go.Proofs.YtdcopmkgmbiikaaGreatDoor
namespace Go.Proofs.YtdcopmkgmbiikaaGreatDoor
open Go.ChangeShapes Go.WideShapes Go.ChangeAt Go.RowKit Go.Deep
set_option maxRecDepth 100000
set_option maxRecDepth 100000
theorem bulk_pos {H : Type} (d : DataW H) : 1 ≤ Rows.uptoBulk d := by
 unfold Rows.uptoBulk
 split <;> omega
theorem bulk_len {H : Type} : ∀ l : List (DataW H), l.length ≤ Rows.uptoBulkAll l
 | [] => Nat.zero_le _
 | d :: r => by
  have h1 := bulk_pos d
  have h2 := bulk_len r
  simp only [Rows.uptoBulkAll, List.length_cons]
  omega
theorem bulk_in {H : Type} : ∀ (l : List (DataW H)) (d : DataW H), d ∈ l → Rows.uptoBulk d ≤ Rows.uptoBulkAll l
 | [], d, h => by cases h
 | x :: r, d, h => by
  simp only [Rows.uptoBulkAll]
  rcases List.mem_cons.1 h with rfl | h
  ·omega
  ·have := bulk_in r d h
   omega
theorem src_of_trod {H : Type} {enc : TypeId × Value → H} {W : World} {fuel : Nat} {v : Value} {d : DataW H} {p : List MemPlace} (hf : DataW.trod enc Tryz.prog W 0 (fun _ => true) true fuel 23 [v] = some (d, p)) :
  ∃ l : List Nat, Src W v l ∧ (∀ u ∈ l, u < 256) ∧ (∀ ao n c, v = .slice ao n c → n ≤ c) ∧ (l = [] ∨ ∀ g o n c, v = .slice (some ⟨g, o, none⟩) n c → g < W.heap.size) ∧ l.length ≤ Rows.uptoBulk d := by
 rcases open_ints Tryz.underlying23 Tryz.underlying5 Tryz.cellsU8 hf with ⟨hcs, hx⟩ | ⟨a, len, cap, zs, hcs, _, hl, hm, hz, hx, hcell, hwz⟩
 ·simp only [List.cons.injEq, and_true] at hcs
  subst hcs
  exact ⟨[], .inl ⟨rfl, rfl⟩, (fun _ h => by cases h), fun _ _ _ e => by cases e; exact Nat.le_refl _, .inl rfl, Nat.zero_le _⟩
 ·simp only [List.cons.injEq, and_true] at hcs
  subst hcs
  simp only [Prod.mk.injEq] at hx
  obtain ⟨rfl, -⟩ := hx
  simp only [if_true] at hz
  have hlen : ((zs.take len).map Int.toNat).length = len := by simp; omega
  have hbulk : len ≤ Rows.uptoBulk (DataW.slice (lits .u8 (zs.take len)) (lits .u8 (zs.drop len)) : DataW H) := by
   have h1 := bulk_len (lits .u8 (zs.take len) : List (DataW H))
   have h2 : (lits .u8 (zs.take len) : List (DataW H)).length = len := by simp [lits]; omega
   simp only [Rows.uptoBulk]
   omega
  by_cases h0 : len = 0
  ·subst h0
   exact ⟨[], .inr (.inr ⟨a, cap, rfl, rfl⟩), (fun _ h => by cases h), fun _ _ _ e => by cases e; exact Nat.zero_le _, .inl rfl, Nat.zero_le _⟩
  ·obtain ⟨b, off, rfl, hc⟩ := ints_at hcell (show 0 < zs.length by omega)
   have hw : ∀ j, j < zs.length → 0 ≤ zs.getD j 0 ∧ zs.getD j 0 < 256 := fun j hj => by
    have := bounds_u8 (hwz (zs.getD j 0) (by simp [List.getD, hj]))
    omega
   refine ⟨(zs.take len).map Int.toNat, .inr (.inl ⟨b, off, cap, by rw [hlen], fun j v hv => ?_⟩), fun u hu => ?_, fun _ _ _ e => by cases e; omega, .inr fun g o n c e => ?_, by rw [hlen]; exact hbulk⟩
   ·have hj : j < len := by
     have := (List.getElem?_eq_some_iff.1 hv).1
     simp [cellsOf] at this; omega
    rw [hc j (by omega)]
    have hw := hw j (by omega)
    rw [← hv]
    simp [cellsOf, B, hj, show j < zs.length by omega] at hw ⊢
    omega
   ·obtain ⟨z, hz1, rfl⟩ := List.mem_map.1 hu
    obtain ⟨j, hj, rfl⟩ := List.getElem_of_mem (List.mem_of_mem_take hz1)
    have := hw j hj
    rw [List.getD, List.getElem?_eq_getElem hj, Option.getD_some] at this
    omega
   ·simp only [Value.slice.injEq, Option.some.injEq, Addr.mk.injEq] at e
    have := ltC (hc 0 (by omega))
    rw [← e.1.1]
    exact this
end Go.Proofs.YtdcopmkgmbiikaaGreatDoor
namespace Go.Proofs.YtdcopmkgmbiikaaGreatDoor
open Go.RowKit
theorem Src.nilV {w : World} {x : Value} (h : Src w x []) (w' : World) : Src w' x [] := by
  rcases h with h | ⟨g, o, c, hx, _⟩ | h
  · exact .inl h
  · exact .inr (.inl ⟨g, o, c, hx, fun j v hv => by simp [cellsOf] at hv⟩)
  · exact .inr (.inr h)
theorem failN_posV (s : Wq) (n : Nat) (hn : n ≠ 0) : (s.failN n).f ≠ none := by
  unfold Wq.failN
  split
  · rename_i h
    rcases h with h | h
    · exact absurd h hn
    · exact h
  · simp
structure BW (w : World) (x : Value) (l : List Nat) (F : Nat → Prop) : Prop where
  src : Src w x l
  at_ : l = [] ∨ ∀ g o m c, x = .slice (some ⟨g, o, none⟩) m c → g < w.heap.size ∧ ¬ F g
theorem BW.stp {w w' : World} {x : Value} {l : List Nat} {F F' : Nat → Prop} {P : Nat → Nat → Prop} (h : BW w x l F) (hs : Stp w w' F F' P) (hP : ∀ g i, g < w.heap.size → ¬ P g i) : BW w' x l F' := by
  rcases h.at_ with rfl | hat
  · exact ⟨h.src.nilV w', .inl rfl⟩
  · have := (show BV w x l F from ⟨h.src, hat⟩).stp hs (fun g o m c e i => hP g i (hat g o m c e).1)
    exact ⟨this.src, .inr this.at_⟩
theorem BW.fr0 {w w' : World} {x : Value} {l : List Nat} {F : Nat → Prop} (h : BW w x l F) (hf : Fr (fun _ => False) w w') : BW w' x l F := h.stp (Stp.of_fr hf F (fun _ _ => False)) (fun _ _ _ h => h)
set_option maxRecDepth 100000 in
theorem wBytes_qE (s : Wq) (x : Value) (m : Int) (b : Nat) (F : Nat → Prop) (E : Nat → Addr) (w : World) (h : W w b F (s.wst E)) (hsrc : Src w x []) (hn : s.f ≠ none) :
    Calls Tryz.prog 189 #[.pointer (some ⟨b, 0, none⟩), x, .int .i64 m] w fun e w' => e = .returned (.tuple #[]) ∧ ∃ F', W w' b F' ((s.lim ([] : List Nat).length m (be 4 ([] : List Nat).length ++ [])).wst E) ∧ Ch w w' F F' := by
  have hmf := mf
  rw [Wq.lim_given hn]
  obtain ⟨xo, xc, rfl⟩ := hsrc.form
  have HN := hid (Wq.wst_some (E := E) hn)
  clear hn hsrc
  go_enter Tryz.func189, Tryz.ntmps189
  go_wp2_with fail
  refine (att_given (w := w) h (uh HN) (box3 _ _ _ _)).mono ?_
  rintro e w' ⟨rfl, hr⟩
  go_wp2_with fail
  go_end0
  exact ⟨rfl, hr⟩
set_option maxRecDepth 100000 in
theorem lay_bytE (s : Wq) (x : Value) (m : Int) (p : Addr) (b : Nat) (F : Nat → Prop) (E : Nat → Addr) (w : World) (hp : w.cell? p = some x) (hsrc : Src w x []) (h : W w b F (s.wst E)) (hn : s.f ≠ none) :
    Calls Tryz.prog 169 #[.pointer (some ⟨b, 0, none⟩), .iface 265 (.pointer (some p)), .int .i64 m] w fun e w' => e = .returned (.tuple #[]) ∧ ∃ F', W w' b F' ((s.lim ([] : List Nat).length m (be 4 ([] : List Nat).length ++ [])).wst E) ∧ Ch w w' F F' := by
  have H := hid (wBytes_qE s x m b F E w h hsrc hn)
  clear h hn
  obtain ⟨xo, xc, rfl⟩ := hsrc.form
  clear hsrc
  have t0 := Tryz.th_byt
  have t4 := Tryz.tm_4
  have t8 := Tryz.tm_8
  have t11 := Tryz.tm_11
  have t13 := Tryz.tm_13
  go_enter Tryz.func169, Tryz.ntmps169
  go_wp2_with fail
  refine (uh H).mono ?_
  rintro e w' ⟨rfl, hr⟩
  have HR := hid hr
  clear hr
  go_wp2_with fail
  go_end0
  exact ⟨rfl, uh HR⟩
set_option maxRecDepth 100000 in
theorem part_byt_wE (s : Wq) (nm : ByteArray) (rs : List (List Nat → Nat)) (x : Value) (m : Int) (cb b g i : Nat) (F K : Nat → Prop) (E : Nat → Addr) (rx : Value) (w : World) (h : Cd w cb b F (.wr s) E) (hp : w.cell? ⟨g, i, none⟩ = some x) (hsrc : Src w x []) (hgF : ¬ F g) (hR : Rus enByt w K rx E rs) (hK : ∀ k, K k → ¬ F k) (hn : rs.length < 9223372036854775808) (hfb : fb rs ([] : List Nat) ≠ 0) :
    Calls Tryz.prog 160 #[.pointer (some ⟨cb, 0, none⟩), .string nm, .pointer (some ⟨g, i, none⟩), .int .i64 m, rx] w fun e w' => e = .returned (.tuple #[]) ∧ ∃ F', Cd w' cb b F' (.wr (((s.named nm).failN (fb rs ([] : List Nat))).lim ([] : List Nat).length m (be 4 ([] : List Nat).length ++ []))) E ∧ Ch w w' F F' := by
  have hc0 : w.cell? ⟨cb, 0, none⟩ = some (.pointer (some ⟨b, 0, none⟩)) := h.c0
  have H := hid (And.intro h (And.intro hR hK))
  have HL := hid (And.intro hfb hsrc)
  clear h hR hK hfb
  obtain ⟨yo, yc, rfl⟩ := hsrc.form
  clear hsrc
  obtain ⟨xo, xc, rfl⟩ := (uh H).2.1.form
  go_enter Tryz.func160, Tryz.ntmps160
  go_wp2_with fail
  refine (wName_q s nm b F E w (uh H).1.st).mono ?_
  rintro e w1 ⟨rfl, hW1, hch1⟩
  have hP1 : PS cb b g i (.slice yo ([] : List Nat).length yc) w1 := PS.fr ⟨hc0, hp⟩ hch1.fr (uh H).1.nf hgF
  have hc1 := hP1.1
  have hp1 := hP1.2
  have hR1 := (uh H).2.1.fr hch1.fr (uh H).2.2
  have hS1 : Src w1 (.slice yo ([] : List Nat).length yc) [] := (uh HL).2.nilV w1
  have hS0 : Fr (fun _ => False) w1 w1 := Fr.refl _ _
  have H1 := hid (And.intro hW1 (And.intro hch1 (And.intro hR1 (And.intro hP1 hS1))))
  clear hW1 hch1 hR1 hP1 hS1
  go_wp2_with fail
  go_region_held3 (fun w' => PS cb b g i (.slice yo ([] : List Nat).length yc) w') (first | assumption | exact ⟨hc1, hp1⟩ | (refine ⟨?_, ?_⟩ <;> (simp only [World.cell?_drew, World.cell?_drewN] at *; assumption))) (first
    | (go_at_call 180; refine (fbw_byt K _ _ E rs [] cb b g i w1 _ (by first | assumption | exact Fr.drew (by assumption)) (uh H1).2.2.1 (uh H1).2.2.2.2 (uh H1).2.2.2.1 hn).mono ?_; rintro e w2 ⟨rfl, hS2, hP2⟩)
    | (go_at_call 167; refine (fail_S _ _ cb b g i _ F E w1 _ (by first | assumption | exact Fr.drew (by assumption)) (uh H1).1 (uh H1).2.2.2.1 (uh H).1.nf hgF).mono ?_; rintro e w3 ⟨rfl, hS3, hP3⟩))
  have hc3 := hP3.1
  have hp3 := hP3.2
  obtain ⟨F3, hW3, hch3⟩ := hS3
  have hok3 : ((s.named nm).failN (fb rs ([] : List Nat))).ok := Wq.failN_ok (Wq.named_ok (show s.ok from (uh H).1.fok) nm) ((uh H).2.1.le [])
  have hC3 := ((uh H).1.wr_step (uh H1).1 (uh H1).2.1 (show s.ok from (uh H).1.fok)).wr_step hW3 hch3 hok3
  have hch13 := (uh H1).2.1.trans hch3
  have hLL := lay_bytE ((s.named nm).failN (fb rs ([] : List Nat))) _ m ⟨g, i, none⟩ b F3 E w3 hp3 ((uh HL).2.nilV w3) hW3 (failN_posV _ _ (uh HL).1)
  have HX := hid (And.intro hLL (And.intro hC3 hch3))
  clear hLL hC3 hch3 hW3 hP3 hP2 hS2 hch13
  go_wp2_with fail
  refine (uh HX).1.mono ?_
  rintro e w4 ⟨rfl, F4, hW4, hch4⟩
  have HY := hid (And.intro hW4 hch4)
  clear hW4 hch4
  go_wp2_with fail
  first | go_end0 | ((try simp only [Exit.inBlock, Exit.then]); refine bodyPost_ret (results_none rfl _ _ _) rfl ?_)
  exact ⟨rfl, F4, (uh HX).2.1.wr_step (uh HY).1 (uh HY).2 (Wq.lim_ok hok3 _ _ _), ((uh H1).2.1.trans (uh HX).2.2).trans (uh HY).2⟩
set_option maxRecDepth 100000 in
theorem run_bytE (s : Wq) (nm : ByteArray) (lo hi : Int) (rs : List ((List Nat) → Nat)) (x : Value) (cb b g i : Nat) (F : Nat → Prop) (E : Nat → Addr) (rx : Value) (w : World) (h : Cd w cb b F (.wr s) E) (hp : w.cell? ⟨g, i, none⟩ = some x) (hsrc : Src w x []) (hL : Loc w cb F g i) (hlo : szN lo hi 0 ≠ 0) (hR : RuC enByt w F g rx E rs) (hn : rs.length < 1000) :
    Calls Tryz.prog 141 #[.pointer (some ⟨cb, 0, none⟩), .string nm, .pointer (some ⟨g, i, none⟩), .int .i64 lo, .int .i64 hi, rx] w fun e w' => e = .returned (.tuple #[]) ∧ ∃ F', Cd w' cb b F' ((CS.wr s).pByt nm hi ((fun v => szN lo hi v.length) :: rs) []).1 E ∧ Stp w w' F F' (fun k j => k = g ∧ j = i) := by
  obtain ⟨K, hRu, hKa⟩ := hR.ex
  have hgo : ∀ (w1 : World) (fv : Value) (K0 : Nat → Prop), FnR enByt w1 K0 fv E (fun v => szN lo hi v.length) → Fr (fun _ => False) w w1 → Knew w K0 → ∀ xo xc, rx = .slice xo rs.length xc → ∃ ao cp w2, (Builtin.append_ #[291, 291] 291 #[.slice (some ⟨w1.heap.size, 0, none⟩) 1 1, .slice xo rs.length xc]).run Tryz.prog (w1.alloc (.cells #[fv] 294)) = .ok (.slice ao (rs.length + 1) cp) w2 ∧
      Calls Tryz.prog 160 #[.pointer (some ⟨cb, 0, none⟩), .string nm, .pointer (some ⟨g, i, none⟩), .int .i64 hi, .slice ao (rs.length + 1) cp] w2 fun e w' => e = .returned (.tuple #[]) ∧ ∃ F', Cd w' cb b F' ((CS.wr s).pByt nm hi ((fun v => szN lo hi v.length) :: rs) []).1 E ∧ Stp w w' F F' (fun k j => k = g ∧ j = i) := by
    intro w1 fv K0 hF hf1 hK0 xo xc e
    subst e
    obtain ⟨ao, cp, w2, hr, hf2, hRu2⟩ := rus_cons_byt w1 K0 K fv E _ rs xo xc hF (hRu.fr hf1 (fun _ _ h => h)) hn
    have hf := hf1.trans hf2 (fun _ _ h => h)
    refine ⟨ao, cp, w2, hr, ?_⟩
    have hfb : fb ((fun v : List Nat => szN lo hi v.length) :: rs) [] ≠ 0 := by
      show (if szN lo hi 0 = 0 then fb rs [] else szN lo hi 0) ≠ 0
      rw [if_neg hlo]
      exact hlo
    have hKF : ∀ k, (K0 k ∨ K k ∨ (w1.heap.size ≤ k ∧ k < w2.heap.size)) → ¬ F k := fun k hk => by
      rcases hk with hk | hk | hk
      · exact (knew_apart h hL hK0 k hk).1
      · exact (hKa k hk).1
      · have h1 := hf1.size
        exact fun hx => by have := h.lt k hx; omega
    refine (part_byt_wE s nm ((fun v => szN lo hi v.length) :: rs) x hi cb b g i F _ E _ w2 (h.fr0 hf) ((hf.cell (p := ⟨g, i, none⟩) hL.lt (fun h => h)).trans hp) (hsrc.nilV w2) (hL.fr0 hf).nF hRu2 (fun k hk => hKF k hk) (by simp; omega) hfb).mono ?_
    rintro e w' ⟨rfl, F', hC, hch⟩
    exact ⟨rfl, F', hC, (Stp.of_fr hf F _).trans (Stp.of_ch hch _) (fun _ _ _ h => h)⟩
  have HG := hid hgo
  have HS := hid (sized_byt lo hi E w h.g7)
  obtain ⟨xo, xc, rfl⟩ := hRu.form
  clear hgo h hp hL hR hRu hKa hsrc hlo
  go_enter Tryz.func141, Tryz.ntmps141
  go_wp2_with fail
  refine (uh HS).mono ?_
  rintro e w1 ⟨fv, rfl, K0, hF, hf1, hK0⟩
  obtain ⟨ao, cp, w2, hr, hcall⟩ := (uh HG) w1 fv K0 hF hf1 hK0 xo xc rfl
  obtain ⟨Fc, caps, rfl, _⟩ := hF.ex
  have HR := hid hr
  have HC := hid hcall
  clear hF hf1 hK0 hr hcall
  have hsf := st_func
  go_wp2_with (at_builtin; refine wpList_app rfl _ _ 291 291 rfl _ _ _ rfl rfl (uh HR) ?_)
  refine (uh HC).mono ?_
  rintro e w' ⟨rfl, hr⟩
  have HX := hid hr
  clear hr
  go_wp2_with fail
  go_end0
  exact ⟨rfl, uh HX⟩
set_option maxRecDepth 100000 in
theorem hash_V (s : Wq) (nm : ByteArray) (x : Value) (v : List Nat) (cb b g i : Nat) (F : Nat → Prop) (E : Nat → Addr) (w : World) (h : Cd w cb b F (.wr s) E) (hp : w.cell? ⟨g, i, none⟩ = some x) (hB : BW w x v F) (hL : Loc w cb F g i) (hv : v.length < 9223372036854775808) (hroom : (CS.wr s).room 1) :
    Calls Tryz.prog 140 #[.pointer (some ⟨cb, 0, none⟩), .string nm, .pointer (some ⟨g, i, none⟩)] w fun e w' => e = .returned (.tuple #[]) ∧ ∃ F', Cd w' cb b F' ((CS.wr s).pHash nm v).1 E ∧ Stp w w' F F' (fun k j => k = g ∧ j = i) := by
  rcases hB.at_ with rfl | hat
  · have H := hid (run_bytE s nm 1 32 [] x cb b g i F E (.slice none 0 0) w h hp hB.src hL (by decide) (RuC.nil _ w F g E) (by decide))
    clear h hp hB hL
    go_enter Tryz.func140, Tryz.ntmps140
    go_wp2_with fail
    refine (uh H).mono ?_
    rintro e w' ⟨rfl, hr⟩
    have HR := hid hr
    clear hr
    go_wp2_with fail
    go_end0
    exact ⟨rfl, uh HR⟩
  · refine (hash_any (.wr s) nm x v cb b g i F E w h hp ⟨hB.src, hat⟩ hL hv hroom).mono ?_
    rintro e w' ⟨rfl, F', x', hC, _, _, _, hs⟩
    exact ⟨rfl, F', hC, hs⟩
set_option maxRecDepth 100000 in
theorem proof1_V (s : Wq) (x : Value) (v : List Nat) (cb b g i : Nat) (p : Addr) (F : Nat → Prop) (E : Nat → Addr) (w : World) (h : Cd w cb b F (.wr s) E) (hc : w.cell? p = some (.pointer (some ⟨cb, 0, none⟩))) (hp : w.cell? ⟨g, i, none⟩ = some x) (hB : BW w x v F) (hL : Loc w cb F g i) (hv : v.length < 9223372036854775808) (hroom : (CS.wr s).room 1) :
    Calls Tryz.prog 143 #[.pointer (some ⟨g, i, none⟩), .pointer (some p)] w fun e w' => e = .returned (.tuple #[]) ∧ ∃ F', Cd w' cb b F' ((CS.wr s).pHash n_hash v).1 E ∧ Stp w w' F F' (fun k j => k = g ∧ j = i) := by
  have H := hid (hash_V s n_hash x v cb b g i F E w h hp hB hL hv hroom)
  clear h hp hB hL
  go_enter Tryz.func143, Tryz.ntmps143
  go_wp2_with fail
  refine (uh H).mono ?_
  rintro e w' ⟨rfl, hr⟩
  have HR := hid hr
  clear hr
  go_wp2_with fail
  go_end0
  exact ⟨rfl, uh HR⟩
structure PcK (w : World) (xo : Option Addr) (xc : Nat) (ps : List (List Nat)) (F : Nat → Prop) : Prop where
  cap : ps.length ≤ xc
  el : ∀ (j : Nat) p, ps[j]? = some p → ∃ g o x, xo = some ⟨g, o, none⟩ ∧ ¬ F g ∧ w.cell? ⟨g, o + j, none⟩ = some x ∧ BW w x p F ∧ p.length < 9223372036854775808
theorem PcK.stp {w w' : World} {xo : Option Addr} {xc : Nat} {ps : List (List Nat)} {F F' : Nat → Prop} {P : Nat → Nat → Prop} (h : PcK w xo xc ps F) (hs : Stp w w' F F' P) (hP : ∀ k j, k < w.heap.size → ¬ P k j) : PcK w' xo xc ps F' := by
  refine ⟨h.cap, fun j p hp => ?_⟩
  obtain ⟨g, o, x, h1, h2, h3, h4, h5⟩ := h.el j p hp
  have hlt := ltC h3
  exact ⟨g, o, x, h1, hs.nF hlt h2, (hs.oth g (o + j) hlt h2 (hP g _ hlt)).trans h3, h4.stp hs hP, h5⟩
set_option maxRecDepth 100000 in
theorem list_byt_wV (s : Wq) (nm : ByteArray) (m : Nat) (cb b g i kb : Nat) (F : Nat → Prop) (E : Nat → Addr) (xo : Option Addr) (xc : Nat) (ps : List (List Nat)) (w : World) (h : Cd w cb b F (.wr s) E) (hn : ps.length < 9223372036854775808) (hm : m ≤ 4096) (hp : w.cell? ⟨g, i, none⟩ = some (.slice xo ps.length xc)) (hL : Loc w cb F g i) (hps : PcK w xo xc ps F) (hkb : w.cell? ⟨kb, 0, none⟩ = some (.pointer (some ⟨cb, 0, none⟩))) (hkF : ¬ F kb) (hroom : (CS.wr s).room 5000) :
    Calls Tryz.prog 142 #[.pointer (some ⟨cb, 0, none⟩), .string nm, .pointer (some ⟨g, i, none⟩), .int .i64 (m : Nat), .func (.func 143) #[] #[.pointer (some ⟨kb, 0, none⟩)], .slice none 0 0] w fun e w' => e = .returned (.tuple #[]) ∧ ∃ F', Cd w' cb b F' (loopW (fun c v => c.pHash n_hash v) ((CS.wr s).pInt nm m (lrs m []) ps.length).1 (ps.take (min ps.length m))) E ∧ Stp w w' F F' (fun _ _ => False) := by
  have k2 := h.g7.k2
  have hl2 := ltC k2
  have hsf := st_func
  have hent : ∀ (x : Value) (W : World), (callFunc 143 (#[x] ++ #[.pointer (some ⟨kb, 0, none⟩)])).run Tryz.prog W = .ok (.enter 143 (#[x] ++ #[.pointer (some ⟨kb, 0, none⟩)])) W := fun _ W => enters Tryz.func143 rfl rfl _ W
  obtain ⟨n, hnl⟩ : ∃ n, n = ps.length := ⟨_, rfl⟩
  rw [← hnl] at hn hp ⊢
  have HNL := hid hnl
  clear hnl
  have hhead := list_head (.wr s) nm n m [] cb b F E (.slice none 0 0) w h (by omega) (by omega) ⟨_, Rus.nil _ w E, fun _ h => h.elim⟩ (by decide) (by simp only [CS.room] at *; omega) 3
  obtain ⟨c1, hc1⟩ : ∃ c1, c1 = ((CS.wr s).pInt nm m (lrs m []) n).1 := ⟨_, rfl⟩
  have hn1 : ((CS.wr s).pInt nm m (lrs m []) n).2 = n := rfl
  have hroom1 : c1.room 4999 := by rw [hc1]; exact CS.pInt_room hroom _ _ _ _
  have hw1 : ∃ s, c1 = .wr s := ⟨_, hc1⟩
  rw [← hc1, hn1] at hhead
  rw [← hc1]
  clear hc1 hn1
  have HG := hid hhead
  clear hhead
  obtain ⟨N, hN⟩ : ∃ N, N = min n m := ⟨_, rfl⟩
  rw [← hN]
  have hNn : N ≤ n := by omega
  have hNm : N ≤ 4096 := by omega
  have HM := hid hN
  clear hN
  have HW := hid (within_int 0 m 2 E (w.alloc (.cells #[.int .i64 n] 3)) (by decide))
  have H := hid (And.intro h (And.intro hL (And.intro hps (And.intro hkF (And.intro hroom1 hw1)))))
  have hlp := hL.lt
  have hlk := ltC hkb
  clear h hL hps hroom hroom1 hw1
  go_enter Tryz.func142, Tryz.ntmps142
  go_wp2_with fail
  refine (uh HW).mono ?_
  rintro e w1 ⟨fv, rfl, K0, hF, hf1, hK0⟩
  obtain ⟨ao, cp, w2, hr, hcall⟩ := (uh HG) w1 fv K0 hF hf1 hK0 none 0 rfl
  obtain ⟨Fc, caps, rfl, _⟩ := hF.ex
  have HR := hid hr
  have HC := hid hcall
  clear hF hf1 hK0 hr hcall
  go_wp2_with (at_builtin; refine wpList_app rfl _ _ 278 278 rfl _ _ _ rfl rfl (uh HR) ?_)
  refine (uh HC).mono ?_
  rintro e w3 ⟨rfl, F3, hC3, hn3, hlt3, hnF3, hs3⟩
  have H3 := hid (And.intro hC3 hs3)
  clear hC3 hs3 hlt3 hnF3
  by_cases hnm : n ≤ m
  all_goals
    go_wp2_with fail
    go_loopw [32] (fun iv wr => ∃ (k : Nat) (Fk : Nat → Prop), k ≤ N ∧ iv = .int .i64 (k : Nat) ∧ Cd wr cb b Fk (loopW (fun c v => c.pHash n_hash v) c1 (ps.take k)) E ∧ (∃ s', loopW (fun c v => c.pHash n_hash v) c1 (ps.take k) = .wr s') ∧ (loopW (fun c v => c.pHash n_hash v) c1 (ps.take k)).room (4999 - k) ∧ Stp w wr F Fk (fun _ _ => False)) (fun iv _ => N - (intOf iv).toNat)
    case atStart => exact ⟨0, F3, Nat.zero_le _, rfl, (uh H3).1, (uh H).2.2.2.2.2, (uh H).2.2.2.2.1, (uh H3).2⟩
    case round =>
      obtain ⟨k, Fk, hk, rfl, hCk, ⟨sk, hsk⟩, hrk, hsk2⟩ := hrel
      by_cases hlt : k < N
      · have hlt' : (k : Int) < (n : Int) := by omega
        have hltm : (k : Int) < (m : Int) := by have := uh HM; omega
        obtain ⟨p, hpk⟩ : ∃ p, ps[k]? = some p := ⟨ps[k]'(by have := uh HNL; omega), List.getElem?_eq_getElem (by have := uh HNL; omega)⟩
        have hPk := (uh H).2.2.1.stp hsk2 (fun _ _ _ h => h)
        obtain ⟨eg, eo, ex, rfl, hegF, hex, hBx, hplen⟩ := hPk.el k p hpk
        obtain ⟨yo, yc, rfl⟩ := hBx.src.form
        have hpr : wr.cell? ⟨g, i, none⟩ = some (.slice (some ⟨eg, eo, none⟩) n xc) := (hsk2.oth g i hlp (uh H).2.1.nF (fun h => h)).trans hp
        have hkr : wr.cell? ⟨kb, 0, none⟩ = some (.pointer (some ⟨cb, 0, none⟩)) := (hsk2.oth kb 0 hlk (uh H).2.2.2.1 (fun h => h)).trans hkb
        rw [hsk] at hCk hrk
        have h0r : wr.cell? ⟨cb, 0, none⟩ = some (.pointer (some ⟨b, 0, none⟩)) := hCk.c0
        have h1r : wr.cell? ⟨cb, 1, none⟩ = some (.pointer none) := hCk.c1
        have hlg := ltC hpr
        have hlkr := ltC hkr
        have hlcr := ltC h0r
        have hler := ltC hex
        have HK := hid (And.intro hCk (And.intro hrk (And.intro hsk2 (And.intro hBx (And.intro hplen (And.intro hpk hsk))))))
        clear hCk hrk hsk2 hBx hplen hpk hsk hPk
        have hcapk : k ≤ xc := by have := (uh H).2.2.1.cap; have := uh HNL; omega
        go_wp2_with fail
        have hbx := box1 wr (.cells #[.slice yo p.length yc] 23)
        refine (proof1_V sk (.slice yo p.length yc) p cb b wr.heap.size 0 ⟨kb, 0, none⟩ Fk E _ ((uh HK).1.fr0 hbx) ((hbx.cell hlkr (fun h => h)).trans hkr) (by simp) ((uh HK).2.2.2.1.fr0 hbx) ((uh HK).1.box _ _ 0) (uh HK).2.2.2.2.1 (by have := (uh HK).2.1; simp only [CS.room] at *; omega)).mono ?_
        rintro e w4 ⟨rfl, F4, hC4, hs4⟩
        have hs5 : Stp w w4 F F4 (fun _ _ => False) := ((uh HK).2.2.1.trans (Stp.of_fr hbx Fk (fun _ _ => False)) (fun _ _ _ h => h)).trans hs4 (fun k j hk h => by have := (uh HK).2.2.1.size; omega)
        have h1w : w4.cell? ⟨cb, 1, none⟩ = some (.pointer none) := hC4.c1
        have hlc4 := ltC h1w
        have H4 := hid (And.intro hC4 hs5)
        clear hC4 hs4 hs5 hbx
        go_wp2_with fail
        have es := loopW_succ (fun c v => c.pHash n_hash v) c1 ps k p (uh HK).2.2.2.2.2.1
        rw [(uh HK).2.2.2.2.2.2] at es
        refine ⟨⟨k + 1, F4, by omega, by go_num, ?_, ?_, ?_, (uh H4).2⟩, by simp [intOf]; omega⟩
        · rw [es]; exact (uh H4).1
        · rw [es]; exact ⟨_, rfl⟩
        · rw [es]; exact CS.pHash_room (by have := (uh HK).2.1; simp only [CS.room] at *; omega) _ _
      · have hkN : k = N := by omega
        have HK := hid (And.intro hCk hsk2)
        clear hCk hsk hrk hsk2
        first
          | (have hlt' : ¬ (k : Int) < (n : Int) := by have := uh HM; omega
             go_wp2_with fail)
          | (have hlt' : ¬ (k : Int) < (m : Int) := by have := uh HM; omega
             go_wp2_with fail)
        go_end0
        rw [hkN] at HK
        exact ⟨rfl, Fk, (uh HK).1, (uh HK).2⟩
set_option maxRecDepth 100000 in
theorem proof_wV (s : Wq) (ps : List (List Nat)) (xo : Option Addr) (xc : Nat) (cb b g o : Nat) (F : Nat → Prop) (E : Nat → Addr) (w : World) (h : Cd w cb b F (.wr s) E) (hp : w.cell? ⟨g, o, none⟩ = some (.slice xo ps.length xc)) (hL : Loc w cb F g o) (hps : PcK w xo xc ps F) (hn : ps.length < 9223372036854775808) (hroom : (CS.wr s).room 5000) :
    Calls Tryz.prog 113 #[.pointer (some ⟨cb, 0, none⟩), .pointer (some ⟨g, o, none⟩)] w fun e w' => e = .returned (.tuple #[]) ∧ ∃ F', Cd w' cb b F' ((CS.wr s).pProof ps).1 E ∧ Stp w w' F F' (fun _ _ => False) := by
  have hmf := mf
  have hlp := hL.lt
  have hbx := box1 w (.cells #[.pointer (some ⟨cb, 0, none⟩)] 138)
  have hng : ¬ F w.heap.size := fun hx => by have := h.lt _ hx; omega
  have HH : Hid (∀ wx, Fr (fun _ => False) (w.alloc (.cells #[.pointer (some ⟨cb, 0, none⟩)] 138)) wx → Calls Tryz.prog 142 #[.pointer (some ⟨cb, 0, none⟩), .string n_hashes, .pointer (some ⟨g, o, none⟩), .int .i64 4096, .func (.func 143) #[] #[.pointer (some ⟨w.heap.size, 0, none⟩)], .slice none 0 0] wx fun e w' => e = .returned (.tuple #[]) ∧ (∃ F', Cd w' cb b F' ((CS.wr s).pProof ps).1 E ∧ Stp w w' F F' (fun _ _ => False)) ∧ w'.cell? ⟨w.heap.size, 0, none⟩ = some (.pointer (some ⟨cb, 0, none⟩))) := by
    intro wx hfx
    have hf := hbx.trans hfx (fun _ _ h => h)
    have hcx : wx.cell? ⟨w.heap.size, 0, none⟩ = some (.pointer (some ⟨cb, 0, none⟩)) := (hfx.cell (p := ⟨w.heap.size, 0, none⟩) (by simp) (fun h => h)).trans (by simp)
    refine (list_byt_wV s n_hashes 4096 cb b g o w.heap.size F E xo xc ps wx (h.fr0 hf) hn (by decide) ((hf.cell (p := ⟨g, o, none⟩) hlp (fun h => h)).trans hp) (hL.fr0 hf) (hps.stp (Stp.of_fr hf F (fun _ _ => False)) (fun _ _ _ h => h)) hcx hng hroom).mono ?_
    rintro e w1 ⟨rfl, F1, hC1, hs1⟩
    exact ⟨rfl, ⟨F1, hC1, (Stp.of_fr hf F (fun _ _ => False)).trans hs1 (fun _ _ _ h => h)⟩, (hs1.oth w.heap.size 0 (ltC hcx) hng (fun h => h)).trans hcx⟩
  have hS0 : Fr (fun _ => False) (w.alloc (.cells #[.pointer (some ⟨cb, 0, none⟩)] 138)) (w.alloc (.cells #[.pointer (some ⟨cb, 0, none⟩)] 138)) := Fr.refl _ _
  have hcb : (w.alloc (.cells #[.pointer (some ⟨cb, 0, none⟩)] 138)).cell? ⟨w.heap.size, 0, none⟩ = some (.pointer (some ⟨cb, 0, none⟩)) := by simp
  clear h hL hps hbx hng
  go_enter Tryz.func113, Tryz.ntmps113
  go_wp2_with fail
  go_region_held3 (fun w' => w'.cell? ⟨w.heap.size, 0, none⟩ = some (.pointer (some ⟨cb, 0, none⟩))) (first | assumption | (simp only [World.cell?_drew, World.cell?_drewN]; assumption)) (first
    | (go_at_call 142; refine ((uh HH) _ (by first | assumption | exact Fr.drew (by assumption))).mono ?_; rintro e w1 ⟨rfl, h1, hc1⟩))
  have H1 := hid h1
  clear h1
  go_wp2_with fail
  go_end0
  exact ⟨rfl, uh H1⟩
set_option maxRecDepth 100000 in
theorem whole_Proof_wV (s : Wq) (ps : List (List Nat)) (xo : Option Addr) (xc : Nat) (cb b g : Nat) (F : Nat → Prop) (E : Nat → Addr) (w : World) (h : Cd w cb b F (.wr s) E) (hp : w.cell? ⟨g, 0, none⟩ = some (.slice xo ps.length xc)) (hL : Loc w cb F g 0) (hps : PcK w xo xc ps F) (hn : ps.length < 9223372036854775808) (hroom : (CS.wr s).room 5001) :
    Calls Tryz.prog 68 #[.pointer (some ⟨cb, 0, none⟩), .iface 215 (.pointer (some ⟨g, 0, none⟩))] w fun e w' => e = .returned (.tuple #[]) ∧ ∃ F', Cd w' cb b F' (((CS.wr s).pForm 6).pProof ps).1 E ∧ Stp w w' F F' (fun _ _ => False) := by
  have t0 := Tryz.wh_Proof
  have t1 := Tryz.wm_Proof_Request
  have t2 := Tryz.wm_Proof_Answer
  have t3 := Tryz.wm_Proof_Event
  have t4 := Tryz.wm_Proof_Head
  have t5 := Tryz.wm_Proof_Signed
  have HF := hid (form_any (.wr s) 6 cb b F E w h (by decide) (by simp only [CS.room] at *; omega))
  have hgl := hL.lt
  have hgF := hL.nF
  have H := hid (And.intro hps hL)
  clear h hps hL
  go_enter Tryz.func68, Tryz.ntmps68
  go_wp2_with fail
  refine (uh HF).mono ?_
  rintro e w1 ⟨rfl, F1, hC1, hs1⟩
  have HH := hid (proof_wV _ ps xo xc cb b g 0 F1 E w1 hC1 ((hs1.oth g 0 hgl hgF (fun h => h)).trans hp) ((uh H).2.stp hs1) ((uh H).1.stp hs1 (fun _ _ _ h => h)) hn (CS.pForm_room hroom 6))
  have H1 := hid hs1
  clear hC1 hs1
  go_wp2_with fail
  refine (uh HH).mono ?_
  rintro e w2 ⟨rfl, F2, hC2, hs2⟩
  have H2 := hid (And.intro hC2 ((uh H1).trans hs2 (fun _ _ _ h => h)))
  clear hC2 hs2
  go_wp2_with fail
  go_end0
  exact ⟨rfl, F2, (uh H2).1, (uh H2).2⟩
structure PcL (w : World) (xo : Option Addr) (xc : Nat) (ps : List (List Nat)) : Prop where
  cap : ps.length ≤ xc
  len : ps.length < 9223372036854775808
  el : ∀ (j : Nat) p, ps[j]? = some p → ∃ g o x, xo = some ⟨g, o, none⟩ ∧ w.cell? ⟨g, o + j, none⟩ = some x ∧ Src w x p ∧ (p = [] ∨ ∀ g o m c, x = .slice (some ⟨g, o, none⟩) m c → g < w.heap.size) ∧ p.length < 9223372036854775808
theorem src_frV {w w1 : World} {x : Value} {p : List Nat} (h : Src w x p) (hf : Fr (fun _ => False) w w1) : Src w1 x p := h.fr hf (fun _ _ _ _ _ h => h)
theorem PcL.pck {w w1 : World} {xo : Option Addr} {xc : Nat} {ps : List (List Nat)} {F : Nat → Prop} (h : PcL w xo xc ps) (hf : Fr (fun _ => False) w w1) (hF : ∀ k, F k → w.heap.size ≤ k) : PcK w1 xo xc ps F := by
  refine ⟨h.cap, fun j p hp => ?_⟩
  obtain ⟨g, o, x, h1, h2, h3, h4, h5⟩ := h.el j p hp
  have hlt := ltC h2
  refine ⟨g, o, x, h1, fun hx => by have := hF g hx; simp only at hlt; omega, (hf.cell (p := ⟨g, o + j, none⟩) hlt (fun h => h)).trans h2, ⟨src_frV h3 hf, ?_⟩, h5⟩
  rcases h4 with h4 | h4
  · exact .inl h4
  · exact .inr fun k o m c e => ⟨Nat.lt_of_lt_of_le (h4 k o m c e) hf.size, fun hx => by have := hF k hx; have := h4 k o m c e; omega⟩
theorem PcL.fr0 {w w1 : World} {xo : Option Addr} {xc : Nat} {ps : List (List Nat)} (h : PcL w xo xc ps) (hf : Fr (fun _ => False) w w1) : PcL w1 xo xc ps := by
  refine ⟨h.cap, h.len, fun j p hp => ?_⟩
  obtain ⟨g, o, x, h1, h2, h3, h4, h5⟩ := h.el j p hp
  exact ⟨g, o, x, h1, (hf.cell (p := ⟨g, o + j, none⟩) (ltC h2) (fun h => h)).trans h2, src_frV h3 hf, h4.imp id (fun h4 g o m c e => Nat.lt_of_lt_of_le (h4 g o m c e) hf.size), h5⟩
theorem putProofV (ps : List (List Nat)) (xo : Option Addr) (xc : Nat) (E : Nat → Addr) (w : World) (hg : G6 w E) (hw : 9 ≤ w.heap.size) (hx : PcL w xo xc ps) :
    Calls Tryz.prog 33 #[.agg #[.slice xo ps.length xc]] w fun e w' => PutRes w w' e (proofW ps) E := by
  have hr : (CS.wr (proofW ps)).room 0 := by
    rw [← proofW_eq]
    refine loopW_room (ps.take (min ps.length 4096)) (n := 0) ?_
    have h2 := CS.pInt_room (n := 4096) (CS.pForm_room (n := 4097) (cw0_room 4098 (by decide)) 6) n_hashes (4096 : Nat) (lrs (4096 : Nat) []) ps.length
    have h3 : (ps.take (min ps.length 4096)).length ≤ 4096 := by rw [List.length_take]; omega
    exact Nat.le_trans (Nat.add_le_add_left (Nat.mul_le_mul_left 40000 (by omega)) _) h2
  obtain ⟨wb, hwb⟩ : ∃ wb, w.alloc (.cells #[.slice xo ps.length xc] 40) = wb := ⟨_, rfl⟩
  have hbx : Fr (fun _ => False) w wb := by rw [← hwb]; exact box1 _ _
  have hx' := hx.fr0 hbx
  have hp := put_Proof #[.slice xo ps.length xc] (proofW ps) E wb (hg.fr hbx (fun _ h => h.elim)) (by have := hbx.size; omega) (fun w1 cb b F hC hcs hL hF hf => by
    refine (whole_Proof_wV _ ps xo xc cb b wb.heap.size F E w1 hC (hcs 0 _ rfl) (hL 0) (hx'.pck hf (fun k hk => by have := hF k hk; omega)) hx.len (cw0_room 5001 (by decide))).mono ?_
    rintro e w' ⟨rfl, F', hC', hs⟩
    exact ⟨rfl, F', by rw [← proofW_eq]; exact hC', hs.mono (fun k j _ h => h.elim)⟩) (room_len hr)
  refine (PutProof_go _ w (fun e w' => PutRes w w' e (proofW ps) E) ?_).mono (fun e w' h => h.2)
  rw [hwb]
  exact hp.mono (fun e w' h => by rw [← hwb] at h; exact PutRes.box h)
variable {L : List Nat}
theorem Q.go_num {q : Q} {k : Int} {m : Int} (hk : k = 1 ∨ k = 4 ∨ k = 5 ∨ k = 7) (h : (q.go k m).1.f = none) : q.f = none ∧ (q.go k m).1.all = q.all ∧ (q.go k m).1.place = q.place + wid k ∧ q.place + wid k ≤ q.all.length ∧ (q.go k m).2.1 = q.num (wid k) ∧ (k = 5 → quantB (q.num 4) = true) ∧ (k = 7 → (q.num 4 : Int) ≤ m) := by
 have k10 : ¬ k = 10 := by omega
 have k9 : ¬ k = 9 := by omega
 have k6 : k ≠ 6 := by omega
 unfold Q.go Q.step at h ⊢
 simp only [k10, k9, if_false, k6, ne_eq, not_false_iff, if_true, false_or] at h ⊢
 by_cases h0 : q.f = none
 ·simp only [h0, not_true, if_false] at h ⊢
  by_cases h1 : q.all.length < wid k + q.place
  ·simp [h1, Q.fail] at h
  ·simp only [h1, if_false] at h ⊢
   by_cases h2 : k = 5 ∧ quantB (q.num 4) = false
   ·simp [h2, Q.fail] at h
   ·simp only [h2, if_false] at h ⊢
    by_cases h3 : k = 7 ∧ m < (q.num 4 : Int)
    ·simp [h3, Q.fail] at h
    ·simp only [h3, if_false]
     refine ⟨trivial, trivial, trivial, by omega, trivial, fun e => ?_, fun e => by omega⟩
     cases hq : quantB (q.num 4)
     ·exact absurd ⟨e, hq⟩ h2
     ·rfl
 ·simp [h0] at h
theorem Q.failN_f {q : Q} {n : Nat} (h : (q.failN n).f = none) : n = 0 ∧ q.f = none := by
 unfold Q.failN at h
 split at h
 ·rename_i hx
  rcases hx with hx | hx
  ·exact ⟨hx, h⟩
  ·exact absurd h hx
 ·cases h
structure Q.J (q : Q) (s : Wq) (L : List Nat) : Prop where
 a : q.all = L
 f : s.f = none
 n : norm s.l = norm (q.all.take q.place)
 le : q.place ≤ q.all.length
def CS.again (c d : CS) (L : List Nat) : Prop := ∃ q s, c = .rd q ∧ d = .wr s ∧ (q.f = none → q.J s L) ∧ ∀ x, q.f = some x → x.2.2 ≠ 0
def CS.pId (c : CS) (v : Nat × Nat) : CS × Nat × Nat := (((c.pU32 n_client [] v.1).1.pU32 n_number [] v.2).1, (c.pU32 n_client [] v.1).2, ((c.pU32 n_client [] v.1).1.pU32 n_number [] v.2).2)
theorem CS.pId_room {c : CS} {n : Nat} (h : c.room (n + 2)) (v : Nat × Nat) : (c.pId v).1.room n := CS.pU32_room (CS.pU32_room h _ _ _) _ _ _
set_option maxRecDepth 100000 in
theorem id_any (c : CS) (v : Nat × Nat) (cb b g o : Nat) (F : Nat → Prop) (E : Nat → Addr) (w : World) (h : Cd w cb b F c E) (hp0 : w.cell? ⟨g, o, none⟩ = some (.int .u32 (v.1 : Nat))) (hp1 : w.cell? ⟨g, o + 1, none⟩ = some (.int .u32 (v.2 : Nat))) (hL : ∀ i, Loc w cb F g i) (h1 : v.1 < 4294967296) (h2 : v.2 < 4294967296) (hroom : c.room 2) :
  Calls Tryz.prog 129 #[.pointer (some ⟨cb, 0, none⟩), .pointer (some ⟨g, o, none⟩)] w fun e w' => e = .returned (.tuple #[]) ∧ ∃ F', Cd w' cb b F' (c.pId v).1 E ∧ w'.cell? ⟨g, o, none⟩ = some (.int .u32 ((c.pId v).2.1 : Nat)) ∧ w'.cell? ⟨g, o + 1, none⟩ = some (.int .u32 ((c.pId v).2.2 : Nat)) ∧ Stp w w' F F' (cellsAt g o 2) := by
 have HN := hid (number_u32 c n_client [] v.1 cb b g o F E (.slice none 0 0) w h hp0 (hL o) h1 (RuC.nil _ w F g E) (by simp only [CS.room] at *; omega))
 have hgl := (hL o).lt
 have hgF := (hL o).nF
 have H := hid hL
 clear h hL
 go_enter Tryz.func129, Tryz.ntmps129
 go_wp2_with fail
 refine (uh HN).mono ?_
 rintro e w1 ⟨rfl, F1, hC1, hc1, hs1⟩
 have HM := hid (number_u32 (c.pU32 n_client [] v.1).1 n_number [] v.2 cb b g (o + 1) F1 E (.slice none 0 0) w1 hC1 ((hs1.oth g (o + 1) hgl hgF (fun h => by omega)).trans hp1) (((uh H) (o + 1)).stp hs1) h2 (RuC.nil _ w1 F1 g E) (CS.pU32_room hroom _ _ _))
 have H1 := hid (And.intro hs1 hc1)
 clear hC1 hs1 hc1
 go_wp2_with fail
 refine (uh HM).mono ?_
 rintro e w2 ⟨rfl, F2, hC2, hc2, hs2⟩
 have H2 := hid (And.intro hC2 (And.intro ((hs2.oth g o (Nat.lt_of_lt_of_le hgl (uh H1).1.size) ((uh H1).1.nF hgl hgF) (fun h => by omega)).trans (uh H1).2) (And.intro hc2 (((uh H1).1.mono (P' := cellsAt g o 2) (fun k j _ h => ⟨h.1, by omega, by omega⟩)).trans hs2 (fun k j _ h => ⟨h.1, by omega, by omega⟩)))))
 clear hC2 hc2 hs2
 go_wp2_with fail
 go_end0
 exact ⟨rfl, F2, (uh H2).1, (uh H2).2.1, (uh H2).2.2.1, (uh H2).2.2.2⟩
theorem num1_u8 {c : CS} {nm : ByteArray} {r : Nat → Nat} {v cb b g o : Nat} {F : Nat → Prop} {E : Nat → Addr} {w w1 : World} {fv : Value} {K0 : Nat → Prop} (T : TypeId) (h : Cd w cb b F c E) (hp : w.cell? ⟨g, o, none⟩ = some (.int .u8 (v : Nat))) (hL : Loc w cb F g o) (hv : v < 256) (hF : FnR enU8 w1 K0 fv E r) (hf : Fr (fun _ => False) w w1) (hK : Knew w K0) (hroom : c.room 1) :
  Calls Tryz.prog 127 #[.pointer (some ⟨cb, 0, none⟩), .string nm, .pointer (some ⟨g, o, none⟩), .slice (some ⟨w1.heap.size, 0, none⟩) 1 1] (w1.alloc (.cells #[fv] T)) fun e w' => e = .returned (.tuple #[]) ∧ ∃ F', Cd w' cb b F' (c.pU8 nm [r] v).1 E ∧ w'.cell? ⟨g, o, none⟩ = some (.int .u8 ((c.pU8 nm [r] v).2 : Nat)) ∧ Stp w w' F F' (fun k j => k = g ∧ j = o) := by
 have hf2 := hf.trans (box1 w1 (.cells #[fv] T)) (fun _ _ h => h)
 refine (number_u8 c nm [r] v cb b g o F E _ _ (h.fr0 hf2) ((hf2.cell (p := ⟨g, o, none⟩) hL.lt (fun h => h)).trans hp) (hL.fr0 hf2) hv (ruc_one T h hL hF hf hK) hroom).mono ?_
 rintro e w' ⟨rfl, F', hC, hc, hs⟩
 exact ⟨rfl, F', hC, hc, (Stp.of_fr hf2 F _).trans hs (fun _ _ _ h => h)⟩
theorem num1_u32 {c : CS} {nm : ByteArray} {r : Nat → Nat} {v cb b g o : Nat} {F : Nat → Prop} {E : Nat → Addr} {w w1 : World} {fv : Value} {K0 : Nat → Prop} (T : TypeId) (h : Cd w cb b F c E) (hp : w.cell? ⟨g, o, none⟩ = some (.int .u32 (v : Nat))) (hL : Loc w cb F g o) (hv : v < 4294967296) (hF : FnR enU32 w1 K0 fv E r) (hf : Fr (fun _ => False) w w1) (hK : Knew w K0) (hroom : c.room 1) :
  Calls Tryz.prog 130 #[.pointer (some ⟨cb, 0, none⟩), .string nm, .pointer (some ⟨g, o, none⟩), .slice (some ⟨w1.heap.size, 0, none⟩) 1 1] (w1.alloc (.cells #[fv] T)) fun e w' => e = .returned (.tuple #[]) ∧ ∃ F', Cd w' cb b F' (c.pU32 nm [r] v).1 E ∧ w'.cell? ⟨g, o, none⟩ = some (.int .u32 ((c.pU32 nm [r] v).2 : Nat)) ∧ Stp w w' F F' (fun k j => k = g ∧ j = o) := by
 have hf2 := hf.trans (box1 w1 (.cells #[fv] T)) (fun _ _ h => h)
 refine (number_u32 c nm [r] v cb b g o F E _ _ (h.fr0 hf2) ((hf2.cell (p := ⟨g, o, none⟩) hL.lt (fun h => h)).trans hp) (hL.fr0 hf2) hv (ruc_one T h hL hF hf hK) hroom).mono ?_
 rintro e w' ⟨rfl, F', hC, hc, hs⟩
 exact ⟨rfl, F', hC, hc, (Stp.of_fr hf2 F _).trans hs (fun _ _ _ h => h)⟩
def CS.pCode (c : CS) (v : Nat) : CS × Nat := c.pU8 n_code [wiN 0 10 5] v
set_option maxRecDepth 100000 in
theorem code_any (c : CS) (v cb b g o : Nat) (F : Nat → Prop) (E : Nat → Addr) (w : World) (h : Cd w cb b F c E) (hp : w.cell? ⟨g, o, none⟩ = some (.int .u8 (v : Nat))) (hL : Loc w cb F g o) (hv : v < 256) (hroom : c.room 1) :
  Calls Tryz.prog 137 #[.pointer (some ⟨cb, 0, none⟩), .pointer (some ⟨g, o, none⟩)] w fun e w' => e = .returned (.tuple #[]) ∧ ∃ F', Cd w' cb b F' (c.pCode v).1 E ∧ w'.cell? ⟨g, o, none⟩ = some (.int .u8 ((c.pCode v).2 : Nat)) ∧ Stp w w' F F' (fun k j => k = g ∧ j = o) := by
 have k5 := h.g7.k5
 have hl5 := ltC k5
 have hsf := st_func
 have HW := hid (within_u8 0 10 5 E w (by decide))
 have HX := hid (And.intro h (And.intro hp hL))
 clear h hp hL
 go_enter Tryz.func137, Tryz.ntmps137
 go_wp2_with fail
 refine (uh HW).mono ?_
 rintro e w1 ⟨fv, rfl, K0, hF, hf, hK⟩
 have HN := hid (num1_u8 (nm := n_code) (241) (uh HX).1 (uh HX).2.1 (uh HX).2.2 hv hF hf hK hroom)
 obtain ⟨Fc, caps, rfl, _⟩ := hF.ex
 clear hF hf hK
 go_wp2_with fail
 refine (uh HN).mono ?_
 rintro e w' ⟨rfl, hr⟩
 have HR := hid hr
 clear hr
 go_wp2_with fail
 go_end0
 exact ⟨rfl, uh HR⟩
def lims (op : Nat) : Nat × Nat × Nat × Nat × Int × Int × Nat :=
 if op = 1 then (0, 0, 4294967295, 4294967295, 32, 0, 2) else if op = 2 then (4294967295, 4294967295, 0, 0, 32, 0, 3) else if op = 3 ∨ op = 4 then (4294967295, 4294967295, 0, 0, 0, 0, 0)
 else if op = 5 then (4294967295, 0, 0, 0, 0, 0, 0) else if op = 6 then (4294967295, 1, 0, 0, 0, 0, 0) else if op = 7 then (4294967295, 0, 0, 0, 0, 64, 0) else (0, 0, 0, 0, 0, 0, 0)
def limA (op : Nat) : Array Value := #[.int .u32 ((lims op).1 : Nat), .int .u32 ((lims op).2.1 : Nat), .int .u32 ((lims op).2.2.1 : Nat), .int .u32 ((lims op).2.2.2.1 : Nat), .int .i64 (lims op).2.2.2.2.1, .int .i64 (lims op).2.2.2.2.2.1, .int .u8 ((lims op).2.2.2.2.2.2 : Nat)]
set_option maxRecDepth 100000 in
theorem limitsOf_1 (w : World) : Calls Tryz.prog 131 #[.int .u8 1] w fun e w' => e = .returned (.agg (limA 1)) ∧ Fr (fun _ => False) w w' := by
 go_enter Tryz.func131, Tryz.ntmps131
 go_wp2_with fail
 exact bodyPost_ret (v := .agg (limA 1)) (by simp [results, Tryz.results131, go_sem, limA, lims]) rfl ⟨rfl, by first | exact box1 _ _ | exact (box1 _ _).setCell (.inr (Nat.le_refl _)) _⟩
set_option maxRecDepth 100000 in
theorem limitsOf_2 (w : World) : Calls Tryz.prog 131 #[.int .u8 2] w fun e w' => e = .returned (.agg (limA 2)) ∧ Fr (fun _ => False) w w' := by
 go_enter Tryz.func131, Tryz.ntmps131
 go_wp2_with fail
 exact bodyPost_ret (v := .agg (limA 2)) (by simp [results, Tryz.results131, go_sem, limA, lims]) rfl ⟨rfl, by first | exact box1 _ _ | exact (box1 _ _).setCell (.inr (Nat.le_refl _)) _⟩
set_option maxRecDepth 100000 in
theorem limitsOf_3 (w : World) : Calls Tryz.prog 131 #[.int .u8 3] w fun e w' => e = .returned (.agg (limA 3)) ∧ Fr (fun _ => False) w w' := by
 go_enter Tryz.func131, Tryz.ntmps131
 go_wp2_with fail
 exact bodyPost_ret (v := .agg (limA 3)) (by simp [results, Tryz.results131, go_sem, limA, lims]) rfl ⟨rfl, by first | exact box1 _ _ | exact (box1 _ _).setCell (.inr (Nat.le_refl _)) _⟩
set_option maxRecDepth 100000 in
theorem limitsOf_4 (w : World) : Calls Tryz.prog 131 #[.int .u8 4] w fun e w' => e = .returned (.agg (limA 4)) ∧ Fr (fun _ => False) w w' := by
 go_enter Tryz.func131, Tryz.ntmps131
 go_wp2_with fail
 exact bodyPost_ret (v := .agg (limA 4)) (by simp [results, Tryz.results131, go_sem, limA, lims]) rfl ⟨rfl, by first | exact box1 _ _ | exact (box1 _ _).setCell (.inr (Nat.le_refl _)) _⟩
set_option maxRecDepth 100000 in
theorem limitsOf_5 (w : World) : Calls Tryz.prog 131 #[.int .u8 5] w fun e w' => e = .returned (.agg (limA 5)) ∧ Fr (fun _ => False) w w' := by
 go_enter Tryz.func131, Tryz.ntmps131
 go_wp2_with fail
 exact bodyPost_ret (v := .agg (limA 5)) (by simp [results, Tryz.results131, go_sem, limA, lims]) rfl ⟨rfl, by first | exact box1 _ _ | exact (box1 _ _).setCell (.inr (Nat.le_refl _)) _⟩
set_option maxRecDepth 100000 in
theorem limitsOf_6 (w : World) : Calls Tryz.prog 131 #[.int .u8 6] w fun e w' => e = .returned (.agg (limA 6)) ∧ Fr (fun _ => False) w w' := by
 go_enter Tryz.func131, Tryz.ntmps131
 go_wp2_with fail
 exact bodyPost_ret (v := .agg (limA 6)) (by simp [results, Tryz.results131, go_sem, limA, lims]) rfl ⟨rfl, by first | exact box1 _ _ | exact (box1 _ _).setCell (.inr (Nat.le_refl _)) _⟩
set_option maxRecDepth 100000 in
theorem limitsOf_7 (w : World) : Calls Tryz.prog 131 #[.int .u8 7] w fun e w' => e = .returned (.agg (limA 7)) ∧ Fr (fun _ => False) w w' := by
 go_enter Tryz.func131, Tryz.ntmps131
 go_wp2_with fail
 exact bodyPost_ret (v := .agg (limA 7)) (by simp [results, Tryz.results131, go_sem, limA, lims]) rfl ⟨rfl, by first | exact box1 _ _ | exact (box1 _ _).setCell (.inr (Nat.le_refl _)) _⟩
set_option maxRecDepth 100000 in
theorem limitsOf_no (op : Nat) (w : World) (h : op = 0 ∨ 7 < op) : Calls Tryz.prog 131 #[.int .u8 (op : Nat)] w fun e w' => e = .returned (.agg (limA op)) ∧ Fr (fun _ => False) w w' := by
 have h1 : ((op : Int) == 1) = false := by simp; omega
 have k1 : ¬ op = 1 := by omega
 have h2 : ((op : Int) == 2) = false := by simp; omega
 have k2 : ¬ op = 2 := by omega
 have h3 : ((op : Int) == 3) = false := by simp; omega
 have k3 : ¬ op = 3 := by omega
 have h4 : ((op : Int) == 4) = false := by simp; omega
 have k4 : ¬ op = 4 := by omega
 have h5 : ((op : Int) == 5) = false := by simp; omega
 have k5 : ¬ op = 5 := by omega
 have h6 : ((op : Int) == 6) = false := by simp; omega
 have k6 : ¬ op = 6 := by omega
 have h7 : ((op : Int) == 7) = false := by simp; omega
 have k7 : ¬ op = 7 := by omega
 go_enter Tryz.func131, Tryz.ntmps131
 go_wp2_with fail
 exact bodyPost_ret (v := .agg (limA op)) (by simp [results, Tryz.results131, go_sem, limA, lims, k1, k2, k3, k4, k5, k6, k7]) rfl ⟨rfl, by first | exact box1 _ _ | exact (box1 _ _).setCell (.inr (Nat.le_refl _)) _⟩
theorem limitsOf_any (op : Nat) (w : World) : Calls Tryz.prog 131 #[.int .u8 (op : Nat)] w fun e w' => e = .returned (.agg (limA op)) ∧ Fr (fun _ => False) w w' := by
 by_cases h : op = 0 ∨ 7 < op
 ·exact limitsOf_no op w h
 ·rcases (by omega : op = 1 ∨ op = 2 ∨ op = 3 ∨ op = 4 ∨ op = 5 ∨ op = 6 ∨ op = 7) with rfl | rfl | rfl | rfl | rfl | rfl | rfl
  ·exact limitsOf_1 w
  ·exact limitsOf_2 w
  ·exact limitsOf_3 w
  ·exact limitsOf_4 w
  ·exact limitsOf_5 w
  ·exact limitsOf_6 w
  ·exact limitsOf_7 w
structure Fld where
 name : ByteArray
 kind : Nat
 text : ByteArray
 value : Nat
 unit : Nat
def Fld.vs (f : Fld) : List Value := [.string f.name, .int .u8 (f.kind : Nat), .string f.text, .float .f32 f.value, .int .u8 (f.unit : Nat)]
structure Fld.ok (f : Fld) : Prop where
 name : f.name.size < 9223372036854775808
 kind : f.kind < 256
 text : f.text.size < 9223372036854775808
 value : f.value < 4294967296
 unit : f.unit < 256
def Fld.beside (f : Fld) : Bool := decide ((f.kind ≠ 1 ∧ f.text.toList ≠ []) ∨ (f.kind ≠ 2 ∧ (f.value ≠ 0 ∨ f.unit ≠ 0)))
theorem f32bits (v : Nat) (w : World) : (callFunc 119 #[.float .f32 v]).run Tryz.prog w = .ok (.value (.int .u32 v)) w := by kernel_rfl
set_option maxRecDepth 100000 in
theorem fieldBeside_any (f : Fld) (w : World) (h : f.ok) : Calls Tryz.prog 174 #[.agg #[.string f.name, .int .u8 (f.kind : Nat), .string f.text, .float .f32 f.value, .int .u8 (f.unit : Nat)]] w fun e w' => e = .returned (.bool f.beside) ∧ Fr (fun _ => False) w w' := by
 obtain ⟨nm, kd, tx, vl, un⟩ := f
 obtain ⟨h1, h2, h3, h4, h5⟩ := h
 simp only at *
 have hfb := f32bits
 rcases (by omega : kd = 1 ∨ kd = 2 ∨ (kd ≠ 1 ∧ kd ≠ 2)) with rfl | rfl | ⟨n1, n2⟩
 ·go_enter Tryz.func174, Tryz.ntmps174
  go_wp2_with fail
  all_goals
   go_ret
   refine ⟨?_, ?_⟩
   ·clear hfb
    by_cases hun : un = 0
    ·subst hun
     simp_all [Fld.beside]
    ·have hun' : ((un : Int) != 0) = true := by simp; omega
     simp_all [Fld.beside]
   ·first
     | exact box1 _ _
     | exact (box1 _ _).setCell (.inr (Nat.le_refl _)) _
     | exact ((box1 _ _).setCell (.inr (Nat.le_refl _)) _).setCell (.inr (Nat.le_refl _)) _
 ·go_enter Tryz.func174, Tryz.ntmps174
  go_wp2_with fail
  all_goals
   go_ret
   refine ⟨?_, ?_⟩
   ·clear hfb
    by_cases hun : un = 0
    ·subst hun
     simp_all [Fld.beside]
    ·have hun' : ((un : Int) != 0) = true := by simp; omega
     simp_all [Fld.beside]
   ·first
     | exact box1 _ _
     | exact (box1 _ _).setCell (.inr (Nat.le_refl _)) _
     | exact ((box1 _ _).setCell (.inr (Nat.le_refl _)) _).setCell (.inr (Nat.le_refl _)) _
 ·have m1 : ((kd : Int) == 1) = false := by simp; omega
  have m2 : ((kd : Int) == 2) = false := by simp; omega
  go_enter Tryz.func174, Tryz.ntmps174
  go_wp2_with fail
  all_goals
   go_ret
   refine ⟨?_, ?_⟩
   ·clear hfb
    by_cases hun : un = 0
    ·subst hun
     simp_all [Fld.beside]
    ·have hun' : ((un : Int) != 0) = true := by simp; omega
     simp_all [Fld.beside]
   ·first
     | exact box1 _ _
     | exact (box1 _ _).setCell (.inr (Nat.le_refl _)) _
     | exact ((box1 _ _).setCell (.inr (Nat.le_refl _)) _).setCell (.inr (Nat.le_refl _)) _
theorem nrm {α : Type} : (∀ (l : List α) (i : Nat) (h : i < l.toArray.size), l.toArray[i]'h = l[i]'(by simpa using h)) ∧ (∀ (a : α) (l : List α) (h : 0 < (a :: l).length), (a :: l)[0]'h = a) ∧ (∀ (a : α) (l : List α) (i : Nat) (h : i + 1 < (a :: l).length), (a :: l)[i + 1]'h = l[i]'(by simpa using h)) ∧ (∀ (l : List α) (i : Nat) (v : α), l.toArray.setIfInBounds i v = (l.set i v).toArray) ∧ (∀ (a b : α) (l : List α), (a :: l).set 0 b = b :: l) ∧ (∀ (a b : α) (l : List α) (i : Nat), (a :: l).set (i + 1) b = a :: l.set i b) :=
 ⟨fun _ _ _ => rfl, fun _ _ _ => rfl, fun _ _ _ _ => rfl, fun _ _ _ => List.setIfInBounds_toArray .., fun _ _ _ => rfl, fun _ _ _ _ => rfl⟩
theorem wtk {P : Program} {md : Region.Mode} {ops : Array Oper} {Q : Exit → Act → World → Prop} {S : World → Prop} {i : Nat} {oi : Oper} {v : Value} {fuel : Nat} {listed : Array Bool} {a : Act} {w : World} (hi : ops[i]? = some oi) (hy : YieldsIf P ops S oi v a) (hS : S w)
  (h : wpAnyH P md ops Q S fuel (listed.setIfInBounds i true) (a.put oi.dst v) w) (hs : Region.noSelect ops = true := by kernel_rfl) (hf : Region.free md ops listed i = true := by kernel_rfl) (hr : (Region.ready md ops listed).contains i = true := by kernel_rfl) (hQ : ∀ c a w, Q (.panic c) (a.put oi.dst v) w → Q (.panic c) a w := by exact fun _ _ _ h => h) : wpAnyH P md ops Q S (fuel + 1) listed a w := wpAnyH_take hi hs hf hr hQ hy hS h
theorem wtk2 {P : Program} {md : Region.Mode} {ops : Array Oper} {Q : Exit → Act → World → Prop} {S : World → Prop} {i : Nat} {oi : Oper} {v : Value} {fuel : Nat} {listed : Array Bool} {a : Act} {w : World} (hi : ops[i]? = some oi) (hS : S w)
  (h : wpAnyH P md ops Q S fuel (listed.setIfInBounds i true) (a.put oi.dst v) w) (hy : YieldsIf P ops S oi v a := by refine Or.inl ⟨by rfl, ?_⟩; intro w hSw; (try dsimp only at hSw); go_simp; (try with_reducible rfl)) (hs : Region.noSelect ops = true := by kernel_rfl) (hf : Region.free md ops listed i = true := by kernel_rfl) (hr : (Region.ready md ops listed).contains i = true := by kernel_rfl) (hQ : ∀ c a w, Q (.panic c) (a.put oi.dst v) w → Q (.panic c) a w := by exact fun _ _ _ h => h) : wpAnyH P md ops Q S (fuel + 1) listed a w := wpAnyH_take hi hs hf hr hQ hy hS h
section
variable {P : Program} {ops : Array Oper} {Q : Exit → Act → World → Prop} {md : Region.Mode} {S : World → Prop}
theorem Oper.wp_impQ {o : Oper} {a : Act} {w : World} {K : Act → World → Prop} {Q1 Q2 : Exit → Act → World → Prop} (hp : ∀ e a w, e ≠ Exit.normal → Q1 e a w → Q2 e a w) (hh : o.wp P a w K Q1) : o.wp P a w K Q2 := by
 have hl : LetsOut Q1 → LetsOut Q2 := fun ⟨a, w, h⟩ => ⟨a, w, hp _ _ _ (by intro h; cases h) h⟩
 unfold Oper.wp at *
 generalize (execOp a.eval o).run P w = r at *
 cases r with
 | ok n w' =>
  cases n <;> simp only [Oper.upon] at hh ⊢ <;>
   first
    | exact hh
    | exact Calls.mono hh (fun e w'' he => by cases e <;> first | exact he | exact hp _ _ _ (by intro h; cases h) he | exact hl he)
 | halt x w' => cases x <;> simp only [Oper.upon] at hh ⊢ <;> first | exact hh | exact hp _ _ _ (by intro h; cases h) hh
theorem wpOp_imp {Q1 Q2 : Exit → Act → World → Prop} (hp : ∀ e a w, e ≠ Exit.normal → Q1 e a w → Q2 e a w) {i : Nat} {K : Act → World → Prop} {a : Act} {w : World} (h : wpOp P ops Q1 i K a w) : wpOp P ops Q2 i K a w := by
 have hl : LetsOut Q1 → LetsOut Q2 := fun ⟨a, w, h⟩ => ⟨a, w, hp _ _ _ (by intro h; cases h) h⟩
 unfold wpOp at *
 split
 ·simpa [*] using h
 ·rename_i o ho
  simp only [ho] at h
  split
  ·rename_i hw
   simp only [hw, if_true] at h
   exact h.imp (Oper.wp_impQ hp) (fun ⟨h1, h2⟩ => ⟨h1, hl h2⟩)
  ·rename_i hw
   simp only [hw] at h
   exact h
def lastQ (P : Program) (om : Oper) (Q : Exit → Act → World → Prop) : Exit → Act → World → Prop
 | .normal, a, w => om.wp P a w (fun a' w' => Q .normal a' w') Q
 | e, a, w => Q e a w
def reachB (md : Region.Mode) (ops : Array Oper) : Nat → Nat → Nat → Bool
 | 0, _, _ => false
 | n + 1, i, j => match ops[i]? with
  | some o => o.after.any fun e => Region.binds md e && (e.on == j || reachB md ops n e.on j)
  | none => false
def covB (md : Region.Mode) (ops : Array Oper) (m : Nat) : Bool := (List.range ops.size).all fun j => j == m || reachB md ops 9 m j
def ordB (ops : Array Oper) : Bool := (List.range ops.size).all fun j => match ops[j]? with
 | some o => o.after.all fun e => decide (e.on < j)
 | none => true
theorem lastQ_imp {om : Oper} : ∀ (e : Exit) (a : Act) (w : World), e ≠ Exit.normal → lastQ P om Q e a w → Q e a w := fun e a w hn h => by
 cases e <;> first | exact absurd rfl hn | exact h
theorem getD_both {l : Array Bool} {j : Nat} (h : l.getD j true = false) : l.getD j false = false := by
 rcases Nat.lt_or_ge j l.size with hj | hj
 ·simp [hj] at h ⊢; exact h
 ·simp [Array.getElem?_eq_none hj] at h
def Shut2 (md : Region.Mode) (ops : Array Oper) (l : Array Bool) : Prop := ∀ j oj, ops[j]? = some oj → l.getD j false = true → ∀ e ∈ oj.after, Region.binds md e = true → l.getD e.on false = true
theorem Shut2.set {l : Array Bool} (h : Shut2 md ops l) {i : Nat} (hi : i ∈ Region.ready md ops l) : Shut2 md ops (l.setIfInBounds i true) := fun j oj hj hl e he hb => by
 by_cases hji : j = i
 ·subst hji
  obtain ⟨_, o, ho, h1⟩ := mem_ready.1 hi
  rw [hj] at ho
  cases ho
  exact getD_set_true (h1 e he hb)
 ·rw [getD_set_ne false (Ne.symm hji)] at hl
  exact getD_set_true (h j oj hj hl e he hb)
theorem reach_listed {l : Array Bool} (h : Shut2 md ops l) : ∀ (n i j : Nat) (o : Oper), ops[i]? = some o → (∀ e ∈ o.after, Region.binds md e = true → l.getD e.on false = true) → reachB md ops n i j = true → l.getD j false = true
 | 0, _, _, _, _, _, hr => by cases hr
 | n + 1, i, j, o, ho, hd, hr => by
  simp only [reachB, ho] at hr
  obtain ⟨e, he, hb⟩ := Array.any_eq_true'.1 hr
  simp only [Bool.and_eq_true, Bool.or_eq_true, beq_iff_eq] at hb
  have h6 := hd e he hb.1
  rcases hb.2 with h7 | h7
  ·rw [← h7]; exact h6
  ·cases ho2 : ops[e.on]? with
   | none =>
    cases n with
    | zero => cases h7
    | succ n => simp only [reachB, ho2] at h7; cases h7
   | some o2 => exact reach_listed h n e.on j o2 ho2 (fun e2 he2 hb2 => h e.on o2 ho2 h6 e2 he2 hb2) h7
theorem any_of_last {m : Nat} {om : Oper} (hm : ops[m]? = some om) (hgd : om.guard = none) (hcov : covB md ops m = true) (hord : ordB ops = true) :
  ∀ (fuel : Nat) (listed : Array Bool) (a : Act) (w : World), listed.size = ops.size → Shut2 md ops listed → listed.getD m true = false → wpAnyH P md ops (lastQ P om Q) S fuel (listed.setIfInBounds m true) a w → wpAny P md ops Q (fuel + 1) listed a w := by
 have hne : ∀ listed : Array Bool, listed.size = ops.size → listed.getD m true = false → Region.ready md ops listed ≠ [] := fun listed hsz hun h0 => by
  have hall : ∀ j, listed.getD j true = true := fun j => by
   induction j using Nat.strongRecOn with
   | _ j ih =>
    cases hj : listed.getD j true with
    | true => rfl
    | false =>
     have hjl : j < ops.size := by
      rcases Nat.lt_or_ge j listed.size with h | h
      ·omega
      ·simp [Array.getElem?_eq_none h] at hj
     have hr : j ∈ Region.ready md ops listed := mem_ready.2 ⟨hj, ops[j], Array.getElem?_eq_getElem hjl, fun e he _ => by
      have h1 := List.all_eq_true.1 hord j (List.mem_range.2 hjl)
      rw [Array.getElem?_eq_getElem hjl] at h1
      have h2 := of_decide_eq_true (Array.all_eq_true_iff_forall_mem.1 h1 e he)
      have h3 := ih e.on h2
      have h4 : e.on < listed.size := by omega
      simp [h4] at h3 ⊢
      exact h3⟩
     rw [h0] at hr
     cases hr
  rw [hall m] at hun
  cases hun
 have hend : ∀ listed : Array Bool, Shut2 md ops listed → m ∈ Region.ready md ops listed → Region.ready md ops (listed.setIfInBounds m true) = [] := fun listed hsh hr => by
  apply List.eq_nil_iff_forall_not_mem.2
  intro k hk
  obtain ⟨h1, ok, hok, _⟩ := mem_ready.1 hk
  obtain ⟨h3, om', hom', h4⟩ := mem_ready.1 hr
  rw [hm] at hom'
  cases hom'
  have hkl : k < ops.size := (Array.getElem?_eq_some_iff.1 hok).1
  by_cases hkm : k = m
  ·subst hkm
   rcases Nat.lt_or_ge k listed.size with h | h
   ·simp [h] at h1
   ·simp [Array.getElem?_eq_none h] at h3
  ·rw [getD_set_ne true (Ne.symm hkm)] at h1
   have h5 := List.all_eq_true.1 hcov k (List.mem_range.2 hkl)
   simp only [Bool.or_eq_true, beq_iff_eq, hkm, false_or] at h5
   have h8 := reach_listed hsh 9 m k om hm (fun e he hb => h4 e he hb) h5
   rw [getD_both h1] at h8
   cases h8
 have hop : ∀ (K : Act → World → Prop) (a : Act) (w : World), om.wp P a w K Q → wpOp P ops Q m K a w := fun K a w h => by
  unfold wpOp
  have hw : Region.wanted om (yielded ops a.tmps) = true := by simp [Region.wanted, hgd]
  simp only [hm, hw, if_true]
  exact .inl h
 intro fuel
 induction fuel with
 | zero =>
  intro listed a w hsz hsh hun H
  refine ⟨fun h0 => absurd h0 (hne listed hsz hun), fun j hj => ?_⟩
  by_cases hjm : j = m
  ·subst hjm
   exact hop _ a w (Oper.wp_mono (fun a' w' h => ⟨hend listed hsh hj, h⟩) H.2)
  ·have := ready_mono hj hjm
   rw [H.1] at this
   cases this
 | succ fuel ih =>
  intro listed a w hsz hsh hun H
  refine ⟨fun h0 => absurd h0 (hne listed hsz hun), fun j hj => ?_⟩
  by_cases hjm : j = m
  ·subst hjm
   exact hop _ a w (Oper.wp_mono (fun a' w' h => ⟨fun _ => h, by rw [hend listed hsh hj]; simp⟩) (H.1 (hend listed hsh hj)))
  ·refine wpOp_mono (fun a' w' h => ih (listed.setIfInBounds j true) a' w' (by simpa using hsz) (hsh.set hj) (by rw [getD_set_ne true hjm]; exact hun) ?_) (wpOp_imp lastQ_imp (H.2 j (ready_mono hj hjm)))
   rw [Array.setIfInBounds_comm _ _ hjm]
   exact h.2
theorem wp_region_last {id n m : Nat} {om : Oper} {a : Act} {w : World} (hP : P.follows .mixedOrders = true) (hn : ops.size = n + 1) (hm : ops[m]? = some om) (hgd : om.guard = none) (hcov : covB .any ops m = true) (hord : ordB ops = true) (hS : S w.drew)
  (h : S w.drew → wpAnyH P .any ops (lastQ P om Q) S n ((Array.replicate ops.size false).setIfInBounds m true) a w.drew) : (Code.region id ops true).wp P Q a w := by
 refine wp_region_any hP ?_
 rw [hn]
 have hml : m < ops.size := (Array.getElem?_eq_some_iff.1 hm).1
 have h1 := h hS
 rw [hn] at h1
 have hml2 : m < n + 1 := by omega
 exact any_of_last hm hgd hcov hord n (Array.replicate (n + 1) false) a w.drew (by simp [hn]) (fun j oj _ hl => by
  rcases Nat.lt_or_ge j (n + 1) with h3 | h3 <;> simp [h3] at hl) (by simp [hml2]) h1
end
end Go.Proofs.YtdcopmkgmbiikaaGreatDoor
