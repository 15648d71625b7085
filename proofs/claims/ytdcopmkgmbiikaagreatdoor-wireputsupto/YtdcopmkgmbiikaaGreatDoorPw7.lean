import Derived.Test.YtdcopmkgmbiikaaGreatDoorPw6
import Derived.Test.YtdcopmkgmbiikaaGreatDoorPw5
namespace Go.Proofs.YtdcopmkgmbiikaaGreatDoor
open Go.RowKit
set_option linter.unusedSimpArgs false
theorem Tryz.sizeIdP : (Tryz.prog.info? 27).map (·.size) = some 2 := by kernel_rfl
theorem wrapU {n : Nat} (h : n < 18446744073709551616) : IntKind.u64.wrap ((n : Nat) : Int) = (n : Int) := by rw [IntKind.wrap_u64]; omega
def verW (op ve : Nat) (u : Bool) : Nat := if op = 6 ∧ 1 < ve then 4 else (onlyD n_version ve u).wy
def rsnW (rs : ByteArray) (u : Bool) : Nat := if szN 0 64 rs.size = 0 then (if u = false ∧ rs.size ≠ 0 then 4 else 0) else szN 0 64 rs.size
def reqV (ac op re ve wa ow : Nat) (u1 u2 u3 : Bool) : List PV := [⟨⟨n_actor, 4, ac, [], 0⟩, .slice none 0 0⟩, ⟨⟨n_op, 1, op, [], wiN 1 7 5 op⟩, .slice none 0 0⟩, ⟨onlyD n_record re u1, .slice none 0 0⟩, ⟨⟨n_version, 4, ve, [], verW op ve u2⟩, .slice none 0 0⟩, ⟨onlyD n_ward wa u3, .slice none 0 0⟩, ⟨onlyD n_owner ow u3, .slice none 0 0⟩]
theorem reqV_x {ac op re ve wa ow : Nat} {u1 u2 u3 : Bool} : ∀ q ∈ reqV ac op re ve wa ow u1 u2 u3, q.x = .slice none 0 0 := fun q hq => by
 simp only [reqV, List.mem_cons, List.not_mem_nil, or_false] at hq
 rcases hq with rfl | rfl | rfl | rfl | rfl | rfl <;> rfl
theorem reqV_in {ac op re ve wa ow : Nat} {u1 u2 u3 : Bool} (W : World) : ∀ q ∈ reqV ac op re ve wa ow u1 u2 u3, q.In W := fun q hq => by
 simp only [reqV, List.mem_cons, List.not_mem_nil, or_false] at hq
 rcases hq with rfl | rfl | rfl | rfl | rfl | rfl <;> exact nil_in _ _ rfl
theorem idV_x {cl nu : Nat} : ∀ q ∈ idV cl nu, q.x = .slice none 0 0 := fun q hq => by
 simp only [idV, List.mem_cons, List.not_mem_nil, or_false] at hq
 rcases hq with rfl | rfl <;> rfl
theorem rs_size {t : ByteArray} : t.toList = [] ↔ t.size = 0 := by
 have e1 : t.toList.length = t.size := by
  rw [Lib.toList_data]
  rfl
 constructor
 ·intro h
  rw [← e1, h]
  rfl
 ·intro h
  exact List.length_eq_zero_iff.1 (e1.trans h)
set_option maxRecDepth 100000 in
set_option maxHeartbeats 4000000 in
theorem grequest_any (HFc : FieldsC) (v : RqM) (xo : Option Addr) (xc : Nat) (w : World) (hv : v.ok) (hx : FdI w (.slice xo v.fs.length xc) v.fs) (hs : ∀ f ∈ v.fs, f.name.size < 140737488355000 ∧ f.text.size < 140737488355000) (hl : v.fs.length ≤ 1048576) (hr : v.rs.size < 140737488355000) :
  Calls Tryz.prog 50 #[.agg (v.vals (.slice xo v.fs.length xc))] w fun e w' => ∃ y L, e = .returned y ∧ PL w' w.heap.size y L ∧ L.map PV.p = requestD v ∧ L.length ≤ 4 * v.fs.length + 10 ∧ Bl 0 w.heap.size L ∧ Fr (fun _ => False) w w' := by
 obtain ⟨cl, nu, ac, op, re, ve, wa, ow, fs, rs⟩ := v
 obtain ⟨h1, h2, h3, h4, h5, h6, h7, h8, h9⟩ := hv
 simp only at h1 h2 h3 h4 h5 h6 h7 h8 h9 hx hs hl hr
 unfold RqM.vals requestD
 simp only
 obtain ⟨u1, hu1⟩ : ∃ u, (us op).1 = u := ⟨_, rfl⟩
 obtain ⟨u2, hu2⟩ : ∃ u, (us op).2.1 = u := ⟨_, rfl⟩
 obtain ⟨u3, hu3⟩ : ∃ u, (us op).2.2.1 = u := ⟨_, rfl⟩
 obtain ⟨u4, hu4⟩ : ∃ u, (us op).2.2.2.1 = u := ⟨_, rfl⟩
 obtain ⟨u5, hu5⟩ : ∃ u, (us op).2.2.2.2 = u := ⟨_, rfl⟩
 have HU : Hid (usesL op = [.bool u1, .bool u2, .bool u3, .bool u4, .bool u5]) := hid (by rw [usesL_us, hu1, hu2, hu3, hu4, hu5])
 rw [hu1, hu2, hu3, hu4, hu5]
 clear hu1 hu2 hu3 hu4 hu5
 obtain ⟨RD, hRD⟩ : ∃ RD : List PT, idP cl nu ++ ([⟨n_actor, 4, ac, [], 0⟩, ⟨n_op, 1, op, [], wiN 1 7 5 op⟩, onlyD n_record re u1, ⟨n_version, 4, ve, [], if op = 6 ∧ 1 < ve then 4 else (onlyD n_version ve u2).wy⟩, onlyD n_ward wa u3, onlyD n_owner ow u3] ++ (fieldsD u4 (decide (op = 2)) fs ++ [⟨n_reason, 6, 0, bytesOf rs, if szN 0 64 rs.size = 0 then (if u5 = false ∧ rs.size ≠ 0 then 4 else 0) else szN 0 64 rs.size⟩])) = RD := ⟨_, rfl⟩
 rw [hRD]
 have HRD := hid hRD
 clear hRD
 have HX := hid (And.intro hx (And.intro hs (And.intro hl hr)))
 clear hx hs hl hr
 go_enter Tryz.func50, Tryz.ntmps50
 obtain ⟨W1, hW1⟩ : ∃ W1, w.alloc (.cells #[.int .u32 (cl : Nat), .int .u32 (nu : Nat), .int .u32 (ac : Nat), .int .u8 (op : Nat), .int .u32 (re : Nat), .int .u32 (ve : Nat), .int .u32 (wa : Nat), .int .u32 (ow : Nat), .slice xo fs.length xc, .string rs] 30) = W1 := ⟨_, rfl⟩
 have hf1 : Fr (fun _ => False) w W1 := by rw [← hW1]; exact box1 w _
 have hb1 : W1.heap[w.heap.size]? = some (.cells #[.int .u32 (cl : Nat), .int .u32 (nu : Nat), .int .u32 (ac : Nat), .int .u8 (op : Nat), .int .u32 (re : Nat), .int .u32 (ve : Nat), .int .u32 (wa : Nat), .int .u32 (ow : Nat), .slice xo fs.length xc, .string rs] 30) := by rw [← hW1]; exact heap_alloc_new w _
 have HB : Hid (∀ W', Fr (fun _ => False) W1 W' → ∀ (i : Nat) u, ([.int .u32 (cl : Nat), .int .u32 (nu : Nat), .int .u32 (ac : Nat), .int .u8 (op : Nat), .int .u32 (re : Nat), .int .u32 (ve : Nat), .int .u32 (wa : Nat), .int .u32 (ow : Nat), .slice xo fs.length xc, .string rs] : List Value)[i]? = some u → W'.cell? ⟨w.heap.size, i, none⟩ = some u) := hid (fun W' hf i u hu => by
  have hb := (hf.block _ (lt_of_block hb1) (fun h => h)).trans hb1
  exact cOB hb (by simpa using hu))
 have HF1 := hid hf1
 have HBL := hid hb1
 have HR0 : Hid (W1.rangeAt w.heap.size 0 [.int .u32 (cl : Nat), .int .u32 (nu : Nat)]) := hid (fun j u hu => by
  match j, hu with
  | 0, hu => exact cOB hb1 (by simpa using hu)
  | 1, hu => exact cOB hb1 (by simpa using hu))
 clear hb1 hf1
 go_wp2_with ((with_reducible refine wpList_at 9 ?_); refine wpList_load_mid rfl 27 (.tmp 8) rfl w.heap.size 0 rfl _ _ (uh HR0) Tryz.underlying27 rfl Tryz.sizeIdP ?_)
 clear hW1 HR0
 refine (gids_any cl nu h1 h2 _).mono ?_
 rintro e w2 ⟨y2, rfl, hP2, hf2⟩
 have c3 := (uh HB) w2 hf2 3 _ rfl
 have HP2 := hid (And.intro hP2 hf2)
 clear hP2 hf2
 go_wp2_with fail
 refine (guses_any op _).mono ?_
 rintro e w3 ⟨rfl, hf3⟩
 rw [uh HU]
 clear c3
 obtain ⟨W4, hst, hb4, hf4⟩ := st_all (P := Tryz.prog) (W := w3.alloc (.cells #[.bool false, .bool false, .bool false, .bool false, .bool false] 177)) (g := w3.heap.size) (t := 177) (ty := 177) [.bool false, .bool false, .bool false, .bool false, .bool false] [.bool u1, .bool u2, .bool u3, .bool u4, .bool u5] (heap_alloc_new w3 _) rfl Tryz.sizeUs (by simp [Value.oneCell'])
 have HST := hid hst
 have hfW4 : Fr (fun _ => False) w2 W4 := absorbP (hf3.alloc _) hf4 (fun i hi => by rw [hi]; exact hf3.size)
 have hlt3 : w3.heap.size < W4.heap.size := lt_of_block hb4
 have hW23 : w2.heap.size ≤ w3.heap.size := hf3.size
 have HB4 := hid (And.intro hb4 hfW4)
 have c3 := (uh HB) W4 ((uh HP2).2.trans hfW4 (fun _ _ h => h)) 3 _ rfl
 have hwo := wrapU (n := op) (by omega)
 clear hst hb4 hf4 hf3 hfW4
 go_upto_region 3 with ((with_reducible refine wpList_stN' ?_); refine wpList_stN rfl 177 (.tmp 4) (.tmp 13) rfl _ _ rfl rfl (uh HST) ?_)
 (try simp only [Act.put, nrm])
 clear HST
 go_cut [5] from 14 to 26 (fun s wx => ∃ b : Nat, s = .pointer (some ⟨b, 0, none⟩) ∧ W4.heap.size ≤ b ∧ wx.heap[b]? = some (.cells #[.string n_op, .int .i64 1, .int .u64 (op : Nat), .slice none 0 0, .int .i64 (wiN 1 7 5 op : Nat)] 110) ∧ Fr (fun _ => False) W4 wx)
 case first =>
  rcases (show (op : Int) < 1 ∨ (¬ (op : Int) < 1 ∧ ¬ (7 : Int) < (op : Int)) ∨ (¬ (op : Int) < 1 ∧ (7 : Int) < (op : Int)) by omega) with ho1 | ⟨ho1, ho2⟩ | ⟨ho1, ho2⟩
  ·have hd1 : decide ((op : Int) < 1) = true := decide_eq_true ho1
   have eu : (if true = true then (5 : Int) else 0) = ((wiN 1 7 5 op : Nat) : Int) := by show (5 : Int) = _; unfold wiN; rw [if_pos (by omega)]; rfl
   go_wp2_with fail
   refine (gwhyN n_op 1 (op : Nat) 0 5 _ none 0 0 true _ eu).mono ?_
   rintro e w5 ⟨rfl, hf5⟩
   obtain ⟨W6, hst, hb6, hf6, _⟩ := box_st (w := w5) [.string n_op, .int .i64 1, .int .u64 (op : Nat), .slice none 0 0, .int .i64 (wiN 1 7 5 op : Nat)] (Fr.refl _ _) rfl (by simp [Value.oneCell'])
   have HST := hid hst
   have HX6 := hid (And.intro hb6 (And.intro (hf5.trans hf6 (fun _ _ h => h)) hf5.size))
   clear hst hb6 hf6 hf5
   go_wp2_with ((with_reducible refine wpList_stN' ?_); refine wpList_stN rfl 110 (.tmp 5) (.tmp 26) rfl _ _ rfl rfl (uh HST) ?_)
   go_meet
   case rel => exact ⟨_, rfl, (uh HX6).2.2, (uh HX6).1, (uh HX6).2.1⟩
  ·have hd1 : decide ((op : Int) < 1) = false := decide_eq_false ho1
   have hd2 : decide ((7 : Int) < (op : Int)) = false := decide_eq_false ho2
   have eu : (if false = true then (5 : Int) else 0) = ((wiN 1 7 5 op : Nat) : Int) := by show (0 : Int) = _; unfold wiN; rw [if_neg (by omega)]; rfl
   go_wp2_with fail
   refine (gwhyN n_op 1 (op : Nat) 0 5 _ none 0 0 false _ eu).mono ?_
   rintro e w5 ⟨rfl, hf5⟩
   obtain ⟨W6, hst, hb6, hf6, _⟩ := box_st (w := w5) [.string n_op, .int .i64 1, .int .u64 (op : Nat), .slice none 0 0, .int .i64 (wiN 1 7 5 op : Nat)] (Fr.refl _ _) rfl (by simp [Value.oneCell'])
   have HST := hid hst
   have HX6 := hid (And.intro hb6 (And.intro (hf5.trans hf6 (fun _ _ h => h)) hf5.size))
   clear hst hb6 hf6 hf5
   go_wp2_with ((with_reducible refine wpList_stN' ?_); refine wpList_stN rfl 110 (.tmp 5) (.tmp 26) rfl _ _ rfl rfl (uh HST) ?_)
   go_meet
   case rel => exact ⟨_, rfl, (uh HX6).2.2, (uh HX6).1, (uh HX6).2.1⟩
  ·have hd1 : decide ((op : Int) < 1) = false := decide_eq_false ho1
   have hd2 : decide ((7 : Int) < (op : Int)) = true := decide_eq_true ho2
   have eu : (if true = true then (5 : Int) else 0) = ((wiN 1 7 5 op : Nat) : Int) := by show (5 : Int) = _; unfold wiN; rw [if_pos (by omega)]; rfl
   go_wp2_with fail
   refine (gwhyN n_op 1 (op : Nat) 0 5 _ none 0 0 true _ eu).mono ?_
   rintro e w5 ⟨rfl, hf5⟩
   obtain ⟨W6, hst, hb6, hf6, _⟩ := box_st (w := w5) [.string n_op, .int .i64 1, .int .u64 (op : Nat), .slice none 0 0, .int .i64 (wiN 1 7 5 op : Nat)] (Fr.refl _ _) rfl (by simp [Value.oneCell'])
   have HST := hid hst
   have HX6 := hid (And.intro hb6 (And.intro (hf5.trans hf6 (fun _ _ h => h)) hf5.size))
   clear hst hb6 hf6 hf5
   go_wp2_with ((with_reducible refine wpList_stN' ?_); refine wpList_stN rfl 110 (.tmp 5) (.tmp 26) rfl _ _ rfl rfl (uh HST) ?_)
   go_meet
   case rel => exact ⟨_, rfl, (uh HX6).2.2, (uh HX6).1, (uh HX6).2.1⟩
 case rest =>
  obtain ⟨b5, rfl, hb5s, hb5, hfc⟩ := hcut
  rename World => wc
  clear c3 hwo
  have hfcB : Fr (fun _ => False) W1 wc := ((uh HP2).2.trans (uh HB4).2 (fun _ _ h => h)).trans hfc (fun _ _ h => h)
  have hbU := (hfc.block _ hlt3 (fun h => h)).trans (uh HB4).1
  have hOW : ∀ g, y2.ownBlock = some g → W1.heap.size ≤ g ∧ g < w2.heap.size := (uh HP2).1.lt
  have hW3 : w2.heap.size ≤ w3.heap.size := hW23
  have hbR := (hfcB.block _ (lt_of_block (uh HBL)) (fun h => h)).trans (uh HBL)
  have HBc : Hid (∀ W', Fr (fun g => y2.ownBlock = some g) wc W' → (∀ (i : Nat) u, ([.int .u32 (cl : Nat), .int .u32 (nu : Nat), .int .u32 (ac : Nat), .int .u8 (op : Nat), .int .u32 (re : Nat), .int .u32 (ve : Nat), .int .u32 (wa : Nat), .int .u32 (ow : Nat), .slice xo fs.length xc, .string rs] : List Value)[i]? = some u → W'.cell? ⟨w.heap.size, i, none⟩ = some u) ∧ (∀ (i : Nat) u, ([.bool u1, .bool u2, .bool u3, .bool u4, .bool u5] : List Value)[i]? = some u → W'.cell? ⟨w3.heap.size, i, none⟩ = some u)) := hid (fun W' hf => ⟨fun i u hu => cOB ((hf.block _ (lt_of_block hbR) (fun h => by have := (hOW _ h).1; have := lt_of_block (uh HBL); omega)).trans hbR) (by simpa using hu), fun i u hu => cOB ((hf.block _ (lt_of_block hbU) (fun h => by have := (hOW _ h).2; omega)).trans hbU) (by simpa using hu)⟩)
  have HC := hid (And.intro hb5 (And.intro hfcB (And.intro (show w2.heap.size ≤ b5 from Nat.le_trans (uh HB4).2.size hb5s) (And.intro hOW (And.intro hfc (show w2.heap.size ≤ wc.heap.size from Nat.le_trans (uh HB4).2.size hfc.size))))))
  clear hb5 hfc hfcB hbU HB hb5s hOW hbR
  go_wp2_with fail
  have HS4 : Hid (∀ W', Fr (fun _ => False) wc W' → W'.cell? ⟨w.heap.size, 5, none⟩ = some (.int .u32 (ve : Nat)) ∧ W'.cell? ⟨w.heap.size, 3, none⟩ = some (.int .u8 (op : Nat)) ∧ W'.cell? ⟨w3.heap.size, 1, none⟩ = some (.bool u2)) := hid (fun W' hf => by
   have h := (uh HBc) W' (hf.mono (fun _ _ h => h.elim))
   exact ⟨h.1 5 _ rfl, h.1 3 _ rfl, h.2 1 _ rfl⟩)
  go_cut [6] from 27 to 40 (fun s wx => ∃ b : Nat, s = .pointer (some ⟨b, 0, none⟩) ∧ wc.heap.size ≤ b ∧ wx.heap[b]? = some (.cells #[.string n_version, .int .i64 4, .int .u64 (ve : Nat), .slice none 0 0, .int .i64 (verW op ve u2 : Nat)] 110) ∧ Fr (fun _ => False) wc wx)
  case first =>
   rcases (show ¬ op = 6 ∨ (op = 6 ∧ ¬ 1 < ve) ∨ (op = 6 ∧ 1 < ve) by omega) with ho | ⟨ho, hve⟩ | ⟨ho, hve⟩
   ·have hd6 : ((op : Int) == 6) = false := by simp; omega
    have ev : (if false = true then (4 : Int) else (((onlyD n_version ve u2).wy : Nat) : Int)) = ((verW op ve u2 : Nat) : Int) := by show (((onlyD n_version ve u2).wy : Nat) : Int) = _; unfold verW; rw [if_neg (fun h => ho h.1)]
    clear ho
    refine wp_region_held_drew (S := (fun W : World => W.cell? ⟨w.heap.size, 5, none⟩ = some (.int .u32 (ve : Nat)) ∧ W.cell? ⟨w.heap.size, 3, none⟩ = some (.int .u8 (op : Nat)) ∧ W.cell? ⟨w3.heap.size, 1, none⟩ = some (.bool u2))) (by kernel_rfl) ((uh HS4) _ (Fr.refl _ _).drew) (fun hHeld => ?_)
    refine wtk2 (i := 0) rfl hHeld ?_
    (try simp only [Act.put, nrm])
    refine wtk2 (i := 1) rfl hHeld ?_
    (try simp only [Act.put, nrm])
    refine wtk2 (i := 2) rfl hHeld ?_
    (try simp only [Act.put, nrm])
    refine wtk2 (i := 3) rfl hHeld ?_
    (try simp only [Act.put, nrm])
    refine wtk2 (i := 5) rfl hHeld ?_
    (try simp only [Act.put, nrm])
    refine wtk2 (i := 6) rfl hHeld ?_
    (try simp only [Act.put, nrm])
    refine wtk2 (i := 7) rfl hHeld ?_
    (try simp only [Act.put, nrm])
    refine wpAnyH_ready (rs := [4, 14]) (by kernel_rfl) (by simp) (AllReadyH.cons rfl (fun K hK => ?_) (AllReadyH.cons rfl (fun K hK => ?_) AllReadyH.nil))
    ·go_simp
     refine (gonlyN n_version ve (onlyD n_version ve u2).wy u2 h6 _ rfl).mono ?_
     rintro e w5 ⟨rfl, hf5⟩
     have hr5 : Fr (fun _ => False) _ w5 := (Fr.refl _ _).drew.trans hf5 (fun _ _ h => h)
     try dsimp only
     (try clear hHeld)
     refine hK.out _ _ ((uh HS4) _ hr5) (fun hHeld => ?_)
     clear hK K
     (try simp only [Act.put, nrm])
     refine wtk2 (i := 8) rfl hHeld ?_
     (try simp only [Act.put, nrm])
     refine wtk (i := 9) rfl (Or.inr ⟨rfl, rfl⟩) hHeld ?_
     (try simp only [Act.put, nrm])
     refine wtk (i := 10) rfl (Or.inr ⟨rfl, rfl⟩) hHeld ?_
     (try simp only [Act.put, nrm])
     refine wtk (i := 11) rfl (Or.inr ⟨rfl, rfl⟩) hHeld ?_
     (try simp only [Act.put, nrm])
     refine wtk2 (i := 12) rfl hHeld ?_
     (try simp only [Act.put, nrm])
     refine wpAnyH_ready (rs := [13, 14]) (by kernel_rfl) (by simp) (AllReadyH.cons rfl (fun K hK => ?_) (AllReadyH.cons rfl (fun K hK => ?_) AllReadyH.nil))
     ·go_simp
      refine (gwhyN n_version 4 (ve : Nat) (((onlyD n_version ve u2).wy : Nat) : Int) 4 _ none 0 0 false _ ev).mono ?_
      rintro e w6 ⟨rfl, hf6⟩
      have hr6 : Fr (fun _ => False) _ w6 := hr5.trans hf6 (fun _ _ h => h)
      try dsimp only
      (try clear hHeld)
      refine hK.out _ _ ((uh HS4) _ hr6) (fun hHeld => ?_)
      clear hK K
      (try simp only [Act.put, nrm])
      refine wpAnyH_ready (rs := [14]) (by kernel_rfl) (by simp) (AllReadyH.cons rfl (fun K hK => ?_) AllReadyH.nil)
      go_simp
      (try clear hHeld)
      refine hK.out _ _ ((uh HS4) _ (hr6.alloc _)) (fun hHeld => ?_)
      clear hK K
      (try simp only [Act.put, nrm])
      obtain ⟨W7, hst, hb7, hf7, hg7⟩ := box_st (w := w6) [.string n_version, .int .i64 4, .int .u64 (ve : Nat), .slice none 0 0, .int .i64 (verW op ve u2 : Nat)] (Fr.refl _ _) rfl (by simp [Value.oneCell'])
      have HST := hid hst
      have hr7 : Fr (fun _ => False) wc W7 := hr6.trans hf7 (fun _ _ h => h)
      have HX7 := hid (And.intro hb7 (And.intro hr7 (show wc.heap.size ≤ w6.heap.size from hr6.size)))
      refine wpAnyH_ready (rs := [15]) (by kernel_rfl) (by simp) (AllReadyH.cons rfl (fun K hK => ?_) AllReadyH.nil)
      refine step_stP rfl 110 (.tmp 6) (.tmp 40) rfl _ _ (by simp [Act.eval]) (by simp [Act.eval]) (uh HST) ?_
      (try clear hHeld)
      refine hK.out _ _ ((uh HS4) _ hr7) (fun hHeld => ?_)
      clear hK K
      (try simp only [Act.put, nrm])
      refine wpAnyH_done (by kernel_rfl) ?_ _
      clear hHeld
      clear hst hb7 hf7 hg7 hr7 hr5 hr6 hf5 hf6
      go_wp2_with fail
      go_meet
      case rel => exact ⟨_, rfl, (uh HX7).2.2, (uh HX7).1, (uh HX7).2.1⟩
     ·go_simp
      (try clear hHeld)
      refine hK.out _ _ ((uh HS4) _ (hr5.alloc _)) (fun hHeld => ?_)
      clear hK K
      (try simp only [Act.put, nrm])
      refine wpAnyH_ready (rs := [13]) (by kernel_rfl) (by simp) (AllReadyH.cons rfl (fun K hK => ?_) AllReadyH.nil)
      go_simp
      refine (gwhyN n_version 4 (ve : Nat) (((onlyD n_version ve u2).wy : Nat) : Int) 4 _ none 0 0 false _ ev).mono ?_
      rintro e w6 ⟨rfl, hf6⟩
      have hr6 : Fr (fun _ => False) _ w6 := (hr5.alloc _).trans hf6 (fun _ _ h => h)
      try dsimp only
      (try clear hHeld)
      refine hK.out _ _ ((uh HS4) _ hr6) (fun hHeld => ?_)
      clear hK K
      (try simp only [Act.put, nrm])
      obtain ⟨W7, hst, hb7, hf7, hg7⟩ := box_st (w := w5) [.string n_version, .int .i64 4, .int .u64 (ve : Nat), .slice none 0 0, .int .i64 (verW op ve u2 : Nat)] (hf6) rfl (by simp [Value.oneCell'])
      have HST := hid hst
      have hr7 : Fr (fun _ => False) wc W7 := hr5.trans hf7 (fun _ _ h => h)
      have HX7 := hid (And.intro hb7 (And.intro hr7 (show wc.heap.size ≤ w5.heap.size from hr5.size)))
      refine wpAnyH_ready (rs := [15]) (by kernel_rfl) (by simp) (AllReadyH.cons rfl (fun K hK => ?_) AllReadyH.nil)
      refine step_stP rfl 110 (.tmp 6) (.tmp 40) rfl _ _ (by simp [Act.eval]) (by simp [Act.eval]) (uh HST) ?_
      (try clear hHeld)
      refine hK.out _ _ ((uh HS4) _ hr7) (fun hHeld => ?_)
      clear hK K
      (try simp only [Act.put, nrm])
      refine wpAnyH_done (by kernel_rfl) ?_ _
      clear hHeld
      clear hst hb7 hf7 hg7 hr7 hr5 hr6 hf5 hf6
      go_wp2_with fail
      go_meet
      case rel => exact ⟨_, rfl, (uh HX7).2.2, (uh HX7).1, (uh HX7).2.1⟩
    ·go_simp
     (try clear hHeld)
     refine hK.out _ _ ((uh HS4) _ ((Fr.refl _ _).drew.alloc _)) (fun hHeld => ?_)
     clear hK K
     (try simp only [Act.put, nrm])
     refine wpAnyH_ready (rs := [4]) (by kernel_rfl) (by simp) (AllReadyH.cons rfl (fun K hK => ?_) AllReadyH.nil)
     go_simp
     refine (gonlyN n_version ve (onlyD n_version ve u2).wy u2 h6 _ rfl).mono ?_
     rintro e w5 ⟨rfl, hf5⟩
     have hr5 : Fr (fun _ => False) _ w5 := ((Fr.refl _ _).drew.alloc _).trans hf5 (fun _ _ h => h)
     try dsimp only
     (try clear hHeld)
     refine hK.out _ _ ((uh HS4) _ hr5) (fun hHeld => ?_)
     clear hK K
     (try simp only [Act.put, nrm])
     refine wtk2 (i := 8) rfl hHeld ?_
     (try simp only [Act.put, nrm])
     refine wtk (i := 9) rfl (Or.inr ⟨rfl, rfl⟩) hHeld ?_
     (try simp only [Act.put, nrm])
     refine wtk (i := 10) rfl (Or.inr ⟨rfl, rfl⟩) hHeld ?_
     (try simp only [Act.put, nrm])
     refine wtk (i := 11) rfl (Or.inr ⟨rfl, rfl⟩) hHeld ?_
     (try simp only [Act.put, nrm])
     refine wtk2 (i := 12) rfl hHeld ?_
     (try simp only [Act.put, nrm])
     refine wpAnyH_ready (rs := [13]) (by kernel_rfl) (by simp) (AllReadyH.cons rfl (fun K hK => ?_) AllReadyH.nil)
     go_simp
     refine (gwhyN n_version 4 (ve : Nat) (((onlyD n_version ve u2).wy : Nat) : Int) 4 _ none 0 0 false _ ev).mono ?_
     rintro e w6 ⟨rfl, hf6⟩
     have hr6 : Fr (fun _ => False) _ w6 := hr5.trans hf6 (fun _ _ h => h)
     try dsimp only
     (try clear hHeld)
     refine hK.out _ _ ((uh HS4) _ hr6) (fun hHeld => ?_)
     clear hK K
     (try simp only [Act.put, nrm])
     obtain ⟨W7, hst, hb7, hf7, hg7⟩ := box_st (w := wc.drew) [.string n_version, .int .i64 4, .int .u64 (ve : Nat), .slice none 0 0, .int .i64 (verW op ve u2 : Nat)] (hf5.trans hf6 (fun _ _ h => h)) rfl (by simp [Value.oneCell'])
     have HST := hid hst
     have hr7 : Fr (fun _ => False) wc W7 := (Fr.refl _ _).drew.trans hf7 (fun _ _ h => h)
     have HX7 := hid (And.intro hb7 (And.intro hr7 (show wc.heap.size ≤ wc.drew.heap.size from Nat.le_refl _)))
     refine wpAnyH_ready (rs := [15]) (by kernel_rfl) (by simp) (AllReadyH.cons rfl (fun K hK => ?_) AllReadyH.nil)
     refine step_stP rfl 110 (.tmp 6) (.tmp 40) rfl _ _ (by simp [Act.eval]) (by simp [Act.eval]) (uh HST) ?_
     (try clear hHeld)
     refine hK.out _ _ ((uh HS4) _ hr7) (fun hHeld => ?_)
     clear hK K
     (try simp only [Act.put, nrm])
     refine wpAnyH_done (by kernel_rfl) ?_ _
     clear hHeld
     clear hst hb7 hf7 hg7 hr7 hr5 hr6 hf5 hf6
     go_wp2_with fail
     go_meet
     case rel => exact ⟨_, rfl, (uh HX7).2.2, (uh HX7).1, (uh HX7).2.1⟩
   ·have hd6 : ((op : Int) == 6) = true := by simp; omega
    have hd7 : decide ((1 : Int) < (ve : Int)) = false := decide_eq_false (by omega)
    have ev : (if false = true then (4 : Int) else (((onlyD n_version ve u2).wy : Nat) : Int)) = ((verW op ve u2 : Nat) : Int) := by show (((onlyD n_version ve u2).wy : Nat) : Int) = _; unfold verW; rw [if_neg (fun h => hve h.2)]
    clear ho hve
    refine wp_region_held_drew (S := (fun W : World => W.cell? ⟨w.heap.size, 5, none⟩ = some (.int .u32 (ve : Nat)) ∧ W.cell? ⟨w.heap.size, 3, none⟩ = some (.int .u8 (op : Nat)) ∧ W.cell? ⟨w3.heap.size, 1, none⟩ = some (.bool u2))) (by kernel_rfl) ((uh HS4) _ (Fr.refl _ _).drew) (fun hHeld => ?_)
    refine wtk2 (i := 0) rfl hHeld ?_
    (try simp only [Act.put, nrm])
    refine wtk2 (i := 1) rfl hHeld ?_
    (try simp only [Act.put, nrm])
    refine wtk2 (i := 2) rfl hHeld ?_
    (try simp only [Act.put, nrm])
    refine wtk2 (i := 3) rfl hHeld ?_
    (try simp only [Act.put, nrm])
    refine wtk2 (i := 5) rfl hHeld ?_
    (try simp only [Act.put, nrm])
    refine wtk2 (i := 6) rfl hHeld ?_
    (try simp only [Act.put, nrm])
    refine wtk2 (i := 7) rfl hHeld ?_
    (try simp only [Act.put, nrm])
    refine wpAnyH_ready (rs := [4, 14]) (by kernel_rfl) (by simp) (AllReadyH.cons rfl (fun K hK => ?_) (AllReadyH.cons rfl (fun K hK => ?_) AllReadyH.nil))
    ·go_simp
     refine (gonlyN n_version ve (onlyD n_version ve u2).wy u2 h6 _ rfl).mono ?_
     rintro e w5 ⟨rfl, hf5⟩
     have hr5 : Fr (fun _ => False) _ w5 := (Fr.refl _ _).drew.trans hf5 (fun _ _ h => h)
     try dsimp only
     (try clear hHeld)
     refine hK.out _ _ ((uh HS4) _ hr5) (fun hHeld => ?_)
     clear hK K
     (try simp only [Act.put, nrm])
     refine wtk2 (i := 8) rfl hHeld ?_
     (try simp only [Act.put, nrm])
     refine wtk2 (i := 9) rfl hHeld ?_
     (try simp only [Act.put, nrm])
     refine wtk2 (i := 10) rfl hHeld ?_
     (try simp only [Act.put, nrm])
     refine wtk2 (i := 11) rfl hHeld ?_
     (try simp only [Act.put, nrm])
     refine wtk2 (i := 12) rfl hHeld ?_
     (try simp only [Act.put, nrm])
     refine wpAnyH_ready (rs := [13, 14]) (by kernel_rfl) (by simp) (AllReadyH.cons rfl (fun K hK => ?_) (AllReadyH.cons rfl (fun K hK => ?_) AllReadyH.nil))
     ·go_simp
      refine (gwhyN n_version 4 (ve : Nat) (((onlyD n_version ve u2).wy : Nat) : Int) 4 _ none 0 0 false _ ev).mono ?_
      rintro e w6 ⟨rfl, hf6⟩
      have hr6 : Fr (fun _ => False) _ w6 := hr5.trans hf6 (fun _ _ h => h)
      try dsimp only
      (try clear hHeld)
      refine hK.out _ _ ((uh HS4) _ hr6) (fun hHeld => ?_)
      clear hK K
      (try simp only [Act.put, nrm])
      refine wpAnyH_ready (rs := [14]) (by kernel_rfl) (by simp) (AllReadyH.cons rfl (fun K hK => ?_) AllReadyH.nil)
      go_simp
      (try clear hHeld)
      refine hK.out _ _ ((uh HS4) _ (hr6.alloc _)) (fun hHeld => ?_)
      clear hK K
      (try simp only [Act.put, nrm])
      obtain ⟨W7, hst, hb7, hf7, hg7⟩ := box_st (w := w6) [.string n_version, .int .i64 4, .int .u64 (ve : Nat), .slice none 0 0, .int .i64 (verW op ve u2 : Nat)] (Fr.refl _ _) rfl (by simp [Value.oneCell'])
      have HST := hid hst
      have hr7 : Fr (fun _ => False) wc W7 := hr6.trans hf7 (fun _ _ h => h)
      have HX7 := hid (And.intro hb7 (And.intro hr7 (show wc.heap.size ≤ w6.heap.size from hr6.size)))
      refine wpAnyH_ready (rs := [15]) (by kernel_rfl) (by simp) (AllReadyH.cons rfl (fun K hK => ?_) AllReadyH.nil)
      refine step_stP rfl 110 (.tmp 6) (.tmp 40) rfl _ _ (by simp [Act.eval]) (by simp [Act.eval]) (uh HST) ?_
      (try clear hHeld)
      refine hK.out _ _ ((uh HS4) _ hr7) (fun hHeld => ?_)
      clear hK K
      (try simp only [Act.put, nrm])
      refine wpAnyH_done (by kernel_rfl) ?_ _
      clear hHeld
      clear hst hb7 hf7 hg7 hr7 hr5 hr6 hf5 hf6
      go_wp2_with fail
      go_meet
      case rel => exact ⟨_, rfl, (uh HX7).2.2, (uh HX7).1, (uh HX7).2.1⟩
     ·go_simp
      (try clear hHeld)
      refine hK.out _ _ ((uh HS4) _ (hr5.alloc _)) (fun hHeld => ?_)
      clear hK K
      (try simp only [Act.put, nrm])
      refine wpAnyH_ready (rs := [13]) (by kernel_rfl) (by simp) (AllReadyH.cons rfl (fun K hK => ?_) AllReadyH.nil)
      go_simp
      refine (gwhyN n_version 4 (ve : Nat) (((onlyD n_version ve u2).wy : Nat) : Int) 4 _ none 0 0 false _ ev).mono ?_
      rintro e w6 ⟨rfl, hf6⟩
      have hr6 : Fr (fun _ => False) _ w6 := (hr5.alloc _).trans hf6 (fun _ _ h => h)
      try dsimp only
      (try clear hHeld)
      refine hK.out _ _ ((uh HS4) _ hr6) (fun hHeld => ?_)
      clear hK K
      (try simp only [Act.put, nrm])
      obtain ⟨W7, hst, hb7, hf7, hg7⟩ := box_st (w := w5) [.string n_version, .int .i64 4, .int .u64 (ve : Nat), .slice none 0 0, .int .i64 (verW op ve u2 : Nat)] (hf6) rfl (by simp [Value.oneCell'])
      have HST := hid hst
      have hr7 : Fr (fun _ => False) wc W7 := hr5.trans hf7 (fun _ _ h => h)
      have HX7 := hid (And.intro hb7 (And.intro hr7 (show wc.heap.size ≤ w5.heap.size from hr5.size)))
      refine wpAnyH_ready (rs := [15]) (by kernel_rfl) (by simp) (AllReadyH.cons rfl (fun K hK => ?_) AllReadyH.nil)
      refine step_stP rfl 110 (.tmp 6) (.tmp 40) rfl _ _ (by simp [Act.eval]) (by simp [Act.eval]) (uh HST) ?_
      (try clear hHeld)
      refine hK.out _ _ ((uh HS4) _ hr7) (fun hHeld => ?_)
      clear hK K
      (try simp only [Act.put, nrm])
      refine wpAnyH_done (by kernel_rfl) ?_ _
      clear hHeld
      clear hst hb7 hf7 hg7 hr7 hr5 hr6 hf5 hf6
      go_wp2_with fail
      go_meet
      case rel => exact ⟨_, rfl, (uh HX7).2.2, (uh HX7).1, (uh HX7).2.1⟩
    ·go_simp
     (try clear hHeld)
     refine hK.out _ _ ((uh HS4) _ ((Fr.refl _ _).drew.alloc _)) (fun hHeld => ?_)
     clear hK K
     (try simp only [Act.put, nrm])
     refine wpAnyH_ready (rs := [4]) (by kernel_rfl) (by simp) (AllReadyH.cons rfl (fun K hK => ?_) AllReadyH.nil)
     go_simp
     refine (gonlyN n_version ve (onlyD n_version ve u2).wy u2 h6 _ rfl).mono ?_
     rintro e w5 ⟨rfl, hf5⟩
     have hr5 : Fr (fun _ => False) _ w5 := ((Fr.refl _ _).drew.alloc _).trans hf5 (fun _ _ h => h)
     try dsimp only
     (try clear hHeld)
     refine hK.out _ _ ((uh HS4) _ hr5) (fun hHeld => ?_)
     clear hK K
     (try simp only [Act.put, nrm])
     refine wtk2 (i := 8) rfl hHeld ?_
     (try simp only [Act.put, nrm])
     refine wtk2 (i := 9) rfl hHeld ?_
     (try simp only [Act.put, nrm])
     refine wtk2 (i := 10) rfl hHeld ?_
     (try simp only [Act.put, nrm])
     refine wtk2 (i := 11) rfl hHeld ?_
     (try simp only [Act.put, nrm])
     refine wtk2 (i := 12) rfl hHeld ?_
     (try simp only [Act.put, nrm])
     refine wpAnyH_ready (rs := [13]) (by kernel_rfl) (by simp) (AllReadyH.cons rfl (fun K hK => ?_) AllReadyH.nil)
     go_simp
     refine (gwhyN n_version 4 (ve : Nat) (((onlyD n_version ve u2).wy : Nat) : Int) 4 _ none 0 0 false _ ev).mono ?_
     rintro e w6 ⟨rfl, hf6⟩
     have hr6 : Fr (fun _ => False) _ w6 := hr5.trans hf6 (fun _ _ h => h)
     try dsimp only
     (try clear hHeld)
     refine hK.out _ _ ((uh HS4) _ hr6) (fun hHeld => ?_)
     clear hK K
     (try simp only [Act.put, nrm])
     obtain ⟨W7, hst, hb7, hf7, hg7⟩ := box_st (w := wc.drew) [.string n_version, .int .i64 4, .int .u64 (ve : Nat), .slice none 0 0, .int .i64 (verW op ve u2 : Nat)] (hf5.trans hf6 (fun _ _ h => h)) rfl (by simp [Value.oneCell'])
     have HST := hid hst
     have hr7 : Fr (fun _ => False) wc W7 := (Fr.refl _ _).drew.trans hf7 (fun _ _ h => h)
     have HX7 := hid (And.intro hb7 (And.intro hr7 (show wc.heap.size ≤ wc.drew.heap.size from Nat.le_refl _)))
     refine wpAnyH_ready (rs := [15]) (by kernel_rfl) (by simp) (AllReadyH.cons rfl (fun K hK => ?_) AllReadyH.nil)
     refine step_stP rfl 110 (.tmp 6) (.tmp 40) rfl _ _ (by simp [Act.eval]) (by simp [Act.eval]) (uh HST) ?_
     (try clear hHeld)
     refine hK.out _ _ ((uh HS4) _ hr7) (fun hHeld => ?_)
     clear hK K
     (try simp only [Act.put, nrm])
     refine wpAnyH_done (by kernel_rfl) ?_ _
     clear hHeld
     clear hst hb7 hf7 hg7 hr7 hr5 hr6 hf5 hf6
     go_wp2_with fail
     go_meet
     case rel => exact ⟨_, rfl, (uh HX7).2.2, (uh HX7).1, (uh HX7).2.1⟩
   ·have hd6 : ((op : Int) == 6) = true := by simp; omega
    have hd7 : decide ((1 : Int) < (ve : Int)) = true := decide_eq_true (by omega)
    have ev : (if true = true then (4 : Int) else (((onlyD n_version ve u2).wy : Nat) : Int)) = ((verW op ve u2 : Nat) : Int) := by show (4 : Int) = _; unfold verW; rw [if_pos ⟨ho, hve⟩]; rfl
    clear ho hve
    refine wp_region_held_drew (S := (fun W : World => W.cell? ⟨w.heap.size, 5, none⟩ = some (.int .u32 (ve : Nat)) ∧ W.cell? ⟨w.heap.size, 3, none⟩ = some (.int .u8 (op : Nat)) ∧ W.cell? ⟨w3.heap.size, 1, none⟩ = some (.bool u2))) (by kernel_rfl) ((uh HS4) _ (Fr.refl _ _).drew) (fun hHeld => ?_)
    refine wtk2 (i := 0) rfl hHeld ?_
    (try simp only [Act.put, nrm])
    refine wtk2 (i := 1) rfl hHeld ?_
    (try simp only [Act.put, nrm])
    refine wtk2 (i := 2) rfl hHeld ?_
    (try simp only [Act.put, nrm])
    refine wtk2 (i := 3) rfl hHeld ?_
    (try simp only [Act.put, nrm])
    refine wtk2 (i := 5) rfl hHeld ?_
    (try simp only [Act.put, nrm])
    refine wtk2 (i := 6) rfl hHeld ?_
    (try simp only [Act.put, nrm])
    refine wtk2 (i := 7) rfl hHeld ?_
    (try simp only [Act.put, nrm])
    refine wpAnyH_ready (rs := [4, 14]) (by kernel_rfl) (by simp) (AllReadyH.cons rfl (fun K hK => ?_) (AllReadyH.cons rfl (fun K hK => ?_) AllReadyH.nil))
    ·go_simp
     refine (gonlyN n_version ve (onlyD n_version ve u2).wy u2 h6 _ rfl).mono ?_
     rintro e w5 ⟨rfl, hf5⟩
     have hr5 : Fr (fun _ => False) _ w5 := (Fr.refl _ _).drew.trans hf5 (fun _ _ h => h)
     try dsimp only
     (try clear hHeld)
     refine hK.out _ _ ((uh HS4) _ hr5) (fun hHeld => ?_)
     clear hK K
     (try simp only [Act.put, nrm])
     refine wtk2 (i := 8) rfl hHeld ?_
     (try simp only [Act.put, nrm])
     refine wtk2 (i := 9) rfl hHeld ?_
     (try simp only [Act.put, nrm])
     refine wtk2 (i := 10) rfl hHeld ?_
     (try simp only [Act.put, nrm])
     refine wtk2 (i := 11) rfl hHeld ?_
     (try simp only [Act.put, nrm])
     refine wtk2 (i := 12) rfl hHeld ?_
     (try simp only [Act.put, nrm])
     refine wpAnyH_ready (rs := [13, 14]) (by kernel_rfl) (by simp) (AllReadyH.cons rfl (fun K hK => ?_) (AllReadyH.cons rfl (fun K hK => ?_) AllReadyH.nil))
     ·go_simp
      refine (gwhyN n_version 4 (ve : Nat) (((onlyD n_version ve u2).wy : Nat) : Int) 4 _ none 0 0 true _ ev).mono ?_
      rintro e w6 ⟨rfl, hf6⟩
      have hr6 : Fr (fun _ => False) _ w6 := hr5.trans hf6 (fun _ _ h => h)
      try dsimp only
      (try clear hHeld)
      refine hK.out _ _ ((uh HS4) _ hr6) (fun hHeld => ?_)
      clear hK K
      (try simp only [Act.put, nrm])
      refine wpAnyH_ready (rs := [14]) (by kernel_rfl) (by simp) (AllReadyH.cons rfl (fun K hK => ?_) AllReadyH.nil)
      go_simp
      (try clear hHeld)
      refine hK.out _ _ ((uh HS4) _ (hr6.alloc _)) (fun hHeld => ?_)
      clear hK K
      (try simp only [Act.put, nrm])
      obtain ⟨W7, hst, hb7, hf7, hg7⟩ := box_st (w := w6) [.string n_version, .int .i64 4, .int .u64 (ve : Nat), .slice none 0 0, .int .i64 (verW op ve u2 : Nat)] (Fr.refl _ _) rfl (by simp [Value.oneCell'])
      have HST := hid hst
      have hr7 : Fr (fun _ => False) wc W7 := hr6.trans hf7 (fun _ _ h => h)
      have HX7 := hid (And.intro hb7 (And.intro hr7 (show wc.heap.size ≤ w6.heap.size from hr6.size)))
      refine wpAnyH_ready (rs := [15]) (by kernel_rfl) (by simp) (AllReadyH.cons rfl (fun K hK => ?_) AllReadyH.nil)
      refine step_stP rfl 110 (.tmp 6) (.tmp 40) rfl _ _ (by simp [Act.eval]) (by simp [Act.eval]) (uh HST) ?_
      (try clear hHeld)
      refine hK.out _ _ ((uh HS4) _ hr7) (fun hHeld => ?_)
      clear hK K
      (try simp only [Act.put, nrm])
      refine wpAnyH_done (by kernel_rfl) ?_ _
      clear hHeld
      clear hst hb7 hf7 hg7 hr7 hr5 hr6 hf5 hf6
      go_wp2_with fail
      go_meet
      case rel => exact ⟨_, rfl, (uh HX7).2.2, (uh HX7).1, (uh HX7).2.1⟩
     ·go_simp
      (try clear hHeld)
      refine hK.out _ _ ((uh HS4) _ (hr5.alloc _)) (fun hHeld => ?_)
      clear hK K
      (try simp only [Act.put, nrm])
      refine wpAnyH_ready (rs := [13]) (by kernel_rfl) (by simp) (AllReadyH.cons rfl (fun K hK => ?_) AllReadyH.nil)
      go_simp
      refine (gwhyN n_version 4 (ve : Nat) (((onlyD n_version ve u2).wy : Nat) : Int) 4 _ none 0 0 true _ ev).mono ?_
      rintro e w6 ⟨rfl, hf6⟩
      have hr6 : Fr (fun _ => False) _ w6 := (hr5.alloc _).trans hf6 (fun _ _ h => h)
      try dsimp only
      (try clear hHeld)
      refine hK.out _ _ ((uh HS4) _ hr6) (fun hHeld => ?_)
      clear hK K
      (try simp only [Act.put, nrm])
      obtain ⟨W7, hst, hb7, hf7, hg7⟩ := box_st (w := w5) [.string n_version, .int .i64 4, .int .u64 (ve : Nat), .slice none 0 0, .int .i64 (verW op ve u2 : Nat)] (hf6) rfl (by simp [Value.oneCell'])
      have HST := hid hst
      have hr7 : Fr (fun _ => False) wc W7 := hr5.trans hf7 (fun _ _ h => h)
      have HX7 := hid (And.intro hb7 (And.intro hr7 (show wc.heap.size ≤ w5.heap.size from hr5.size)))
      refine wpAnyH_ready (rs := [15]) (by kernel_rfl) (by simp) (AllReadyH.cons rfl (fun K hK => ?_) AllReadyH.nil)
      refine step_stP rfl 110 (.tmp 6) (.tmp 40) rfl _ _ (by simp [Act.eval]) (by simp [Act.eval]) (uh HST) ?_
      (try clear hHeld)
      refine hK.out _ _ ((uh HS4) _ hr7) (fun hHeld => ?_)
      clear hK K
      (try simp only [Act.put, nrm])
      refine wpAnyH_done (by kernel_rfl) ?_ _
      clear hHeld
      clear hst hb7 hf7 hg7 hr7 hr5 hr6 hf5 hf6
      go_wp2_with fail
      go_meet
      case rel => exact ⟨_, rfl, (uh HX7).2.2, (uh HX7).1, (uh HX7).2.1⟩
    ·go_simp
     (try clear hHeld)
     refine hK.out _ _ ((uh HS4) _ ((Fr.refl _ _).drew.alloc _)) (fun hHeld => ?_)
     clear hK K
     (try simp only [Act.put, nrm])
     refine wpAnyH_ready (rs := [4]) (by kernel_rfl) (by simp) (AllReadyH.cons rfl (fun K hK => ?_) AllReadyH.nil)
     go_simp
     refine (gonlyN n_version ve (onlyD n_version ve u2).wy u2 h6 _ rfl).mono ?_
     rintro e w5 ⟨rfl, hf5⟩
     have hr5 : Fr (fun _ => False) _ w5 := ((Fr.refl _ _).drew.alloc _).trans hf5 (fun _ _ h => h)
     try dsimp only
     (try clear hHeld)
     refine hK.out _ _ ((uh HS4) _ hr5) (fun hHeld => ?_)
     clear hK K
     (try simp only [Act.put, nrm])
     refine wtk2 (i := 8) rfl hHeld ?_
     (try simp only [Act.put, nrm])
     refine wtk2 (i := 9) rfl hHeld ?_
     (try simp only [Act.put, nrm])
     refine wtk2 (i := 10) rfl hHeld ?_
     (try simp only [Act.put, nrm])
     refine wtk2 (i := 11) rfl hHeld ?_
     (try simp only [Act.put, nrm])
     refine wtk2 (i := 12) rfl hHeld ?_
     (try simp only [Act.put, nrm])
     refine wpAnyH_ready (rs := [13]) (by kernel_rfl) (by simp) (AllReadyH.cons rfl (fun K hK => ?_) AllReadyH.nil)
     go_simp
     refine (gwhyN n_version 4 (ve : Nat) (((onlyD n_version ve u2).wy : Nat) : Int) 4 _ none 0 0 true _ ev).mono ?_
     rintro e w6 ⟨rfl, hf6⟩
     have hr6 : Fr (fun _ => False) _ w6 := hr5.trans hf6 (fun _ _ h => h)
     try dsimp only
     (try clear hHeld)
     refine hK.out _ _ ((uh HS4) _ hr6) (fun hHeld => ?_)
     clear hK K
     (try simp only [Act.put, nrm])
     obtain ⟨W7, hst, hb7, hf7, hg7⟩ := box_st (w := wc.drew) [.string n_version, .int .i64 4, .int .u64 (ve : Nat), .slice none 0 0, .int .i64 (verW op ve u2 : Nat)] (hf5.trans hf6 (fun _ _ h => h)) rfl (by simp [Value.oneCell'])
     have HST := hid hst
     have hr7 : Fr (fun _ => False) wc W7 := (Fr.refl _ _).drew.trans hf7 (fun _ _ h => h)
     have HX7 := hid (And.intro hb7 (And.intro hr7 (show wc.heap.size ≤ wc.drew.heap.size from Nat.le_refl _)))
     refine wpAnyH_ready (rs := [15]) (by kernel_rfl) (by simp) (AllReadyH.cons rfl (fun K hK => ?_) AllReadyH.nil)
     refine step_stP rfl 110 (.tmp 6) (.tmp 40) rfl _ _ (by simp [Act.eval]) (by simp [Act.eval]) (uh HST) ?_
     (try clear hHeld)
     refine hK.out _ _ ((uh HS4) _ hr7) (fun hHeld => ?_)
     clear hK K
     (try simp only [Act.put, nrm])
     refine wpAnyH_done (by kernel_rfl) ?_ _
     clear hHeld
     clear hst hb7 hf7 hg7 hr7 hr5 hr6 hf5 hf6
     go_wp2_with fail
     go_meet
     case rel => exact ⟨_, rfl, (uh HX7).2.2, (uh HX7).1, (uh HX7).2.1⟩
  case rest =>
   obtain ⟨b6, rfl, hb6s, hb6, hfd⟩ := hcut
   rename World => wd
   clear HS4
   have HS5 : Hid (∀ W', Fr (fun g => y2.ownBlock = some g) wd W' → W'.cell? ⟨w.heap.size, 2, none⟩ = some (.int .u32 (ac : Nat)) ∧ W'.cell? ⟨w.heap.size, 4, none⟩ = some (.int .u32 (re : Nat)) ∧ W'.cell? ⟨w.heap.size, 6, none⟩ = some (.int .u32 (wa : Nat)) ∧ W'.cell? ⟨w.heap.size, 7, none⟩ = some (.int .u32 (ow : Nat)) ∧ W'.cell? ⟨w3.heap.size, 0, none⟩ = some (.bool u1) ∧ W'.cell? ⟨w3.heap.size, 2, none⟩ = some (.bool u3) ∧ W'.rangeAt b5 0 [.string n_op, .int .i64 1, .int .u64 (op : Nat), .slice none 0 0, .int .i64 (wiN 1 7 5 op : Nat)] ∧ W'.rangeAt b6 0 [.string n_version, .int .i64 4, .int .u64 (ve : Nat), .slice none 0 0, .int .i64 (verW op ve u2 : Nat)]) := hid (fun W' hf => by
    have hg : Fr (fun g => y2.ownBlock = some g) wc W' := (hfd.mono (fun _ _ h => h.elim)).trans hf (fun _ _ h => h)
    have h := (uh HBc) W' hg
    exact ⟨h.1 2 _ rfl, h.1 4 _ rfl, h.1 6 _ rfl, h.1 7 _ rfl, h.2 0 _ rfl, h.2 2 _ rfl, rOB ((hg.block _ (lt_of_block (uh HC).1) (fun h => by have := ((uh HC).2.2.2.1 _ h).2; have := (uh HC).2.2.1; omega)).trans (uh HC).1), rOB ((hf.block _ (lt_of_block hb6) (fun h => by have := ((uh HC).2.2.2.1 _ h).2; have := (uh HC).2.2.2.2.2; omega)).trans hb6)⟩)
   have HS5' : Hid (∀ W', Fr (fun _ => False) wd W' → W'.cell? ⟨w.heap.size, 2, none⟩ = some (.int .u32 (ac : Nat)) ∧ W'.cell? ⟨w.heap.size, 4, none⟩ = some (.int .u32 (re : Nat)) ∧ W'.cell? ⟨w.heap.size, 6, none⟩ = some (.int .u32 (wa : Nat)) ∧ W'.cell? ⟨w.heap.size, 7, none⟩ = some (.int .u32 (ow : Nat)) ∧ W'.cell? ⟨w3.heap.size, 0, none⟩ = some (.bool u1) ∧ W'.cell? ⟨w3.heap.size, 2, none⟩ = some (.bool u3) ∧ W'.rangeAt b5 0 [.string n_op, .int .i64 1, .int .u64 (op : Nat), .slice none 0 0, .int .i64 (wiN 1 7 5 op : Nat)] ∧ W'.rangeAt b6 0 [.string n_version, .int .i64 4, .int .u64 (ve : Nat), .slice none 0 0, .int .i64 (verW op ve u2 : Nat)]) := hid (fun W' hf => (uh HS5) W' (hf.mono (fun _ _ h => h.elim)))
   have HD := hid (And.intro hfd ((uh HC).2.1.trans hfd (fun _ _ h => h)))
   clear hb6 hfd hb6s
   go_wp2_with fail
   refine wp_region_held_drew (S := (fun W : World => W.cell? ⟨w.heap.size, 2, none⟩ = some (.int .u32 (ac : Nat)) ∧ W.cell? ⟨w.heap.size, 4, none⟩ = some (.int .u32 (re : Nat)) ∧ W.cell? ⟨w.heap.size, 6, none⟩ = some (.int .u32 (wa : Nat)) ∧ W.cell? ⟨w.heap.size, 7, none⟩ = some (.int .u32 (ow : Nat)) ∧ W.cell? ⟨w3.heap.size, 0, none⟩ = some (.bool u1) ∧ W.cell? ⟨w3.heap.size, 2, none⟩ = some (.bool u3) ∧ W.rangeAt b5 0 [.string n_op, .int .i64 1, .int .u64 (op : Nat), .slice none 0 0, .int .i64 (wiN 1 7 5 op : Nat)] ∧ W.rangeAt b6 0 [.string n_version, .int .i64 4, .int .u64 (ve : Nat), .slice none 0 0, .int .i64 (verW op ve u2 : Nat)])) (by kernel_rfl) ((uh HS5') _ (Fr.refl _ _).drew) (fun hHeld => ?_)
   refine wtk2 (i := 0) rfl hHeld ?_
   (try simp only [Act.put, nrm])
   refine wtk2 (i := 1) rfl hHeld ?_
   (try simp only [Act.put, nrm])
   refine wtk2 (i := 2) rfl hHeld ?_
   (try simp only [Act.put, nrm])
   refine wtk (i := 4) rfl (yieldsIf_load_mid rfl 110 (.tmp 5) rfl b5 0 rfl _ _ (fun w h => h.2.2.2.2.2.2.1) Tryz.underlying110 rfl Tryz.sizePt) hHeld ?_
   (try simp only [Act.put, nrm])
   refine wtk2 (i := 5) rfl hHeld ?_
   (try simp only [Act.put, nrm])
   refine wtk2 (i := 6) rfl hHeld ?_
   (try simp only [Act.put, nrm])
   refine wtk2 (i := 7) rfl hHeld ?_
   (try simp only [Act.put, nrm])
   refine wtk2 (i := 8) rfl hHeld ?_
   (try simp only [Act.put, nrm])
   refine wtk (i := 10) rfl (yieldsIf_load_mid rfl 110 (.tmp 6) rfl b6 0 rfl _ _ (fun w h => h.2.2.2.2.2.2.2) Tryz.underlying110 rfl Tryz.sizePt) hHeld ?_
   (try simp only [Act.put, nrm])
   refine wtk2 (i := 11) rfl hHeld ?_
   (try simp only [Act.put, nrm])
   refine wtk2 (i := 12) rfl hHeld ?_
   (try simp only [Act.put, nrm])
   refine wtk2 (i := 13) rfl hHeld ?_
   (try simp only [Act.put, nrm])
   refine wtk2 (i := 14) rfl hHeld ?_
   (try simp only [Act.put, nrm])
   refine wtk2 (i := 16) rfl hHeld ?_
   (try simp only [Act.put, nrm])
   refine wtk2 (i := 17) rfl hHeld ?_
   (try simp only [Act.put, nrm])
   refine wtk2 (i := 18) rfl hHeld ?_
   (try simp only [Act.put, nrm])
   refine wtk2 (i := 19) rfl hHeld ?_
   (try simp only [Act.put, nrm])
   refine wpAnyH_ready (rs := [3]) (by kernel_rfl) (by simp) (AllReadyH.cons rfl (fun K hK => ?_) AllReadyH.nil)
   go_simp
   refine (gu32_any n_actor ac h3 _).mono ?_
   rintro e w5 ⟨rfl, hf5⟩
   have hr5 : Fr (fun _ => False) _ w5 := (Fr.refl _ _).drew.trans hf5 (fun _ _ h => h)
   try dsimp only
   (try clear hHeld)
   refine hK.out _ _ ((uh HS5') _ hr5) (fun hHeld => ?_)
   clear hK K
   (try simp only [Act.put, nrm])
   refine wpAnyH_ready (rs := [9]) (by kernel_rfl) (by simp) (AllReadyH.cons rfl (fun K hK => ?_) AllReadyH.nil)
   go_simp
   refine (gonlyN n_record re (onlyD n_record re u1).wy u1 h5 _ rfl).mono ?_
   rintro e w6 ⟨rfl, hf6⟩
   have hr6 : Fr (fun _ => False) _ w6 := hr5.trans hf6 (fun _ _ h => h)
   try dsimp only
   (try clear hHeld)
   refine hK.out _ _ ((uh HS5') _ hr6) (fun hHeld => ?_)
   clear hK K
   (try simp only [Act.put, nrm])
   refine wpAnyH_ready (rs := [15]) (by kernel_rfl) (by simp) (AllReadyH.cons rfl (fun K hK => ?_) AllReadyH.nil)
   go_simp
   refine (gonlyN n_ward wa (onlyD n_ward wa u3).wy u3 h7 _ rfl).mono ?_
   rintro e w7 ⟨rfl, hf7⟩
   have hr7 : Fr (fun _ => False) _ w7 := hr6.trans hf7 (fun _ _ h => h)
   try dsimp only
   (try clear hHeld)
   refine hK.out _ _ ((uh HS5') _ hr7) (fun hHeld => ?_)
   clear hK K
   (try simp only [Act.put, nrm])
   refine wpAnyH_ready (rs := [20]) (by kernel_rfl) (by simp) (AllReadyH.cons rfl (fun K hK => ?_) AllReadyH.nil)
   go_simp
   refine (gonlyN n_owner ow (onlyD n_owner ow u3).wy u3 h8 _ rfl).mono ?_
   rintro e w8 ⟨rfl, hf8⟩
   have hr8 : Fr (fun _ => False) _ w8 := hr7.trans hf8 (fun _ _ h => h)
   try dsimp only
   (try clear hHeld)
   refine hK.out _ _ ((uh HS5') _ hr8) (fun hHeld => ?_)
   clear hK K
   (try simp only [Act.put, nrm])
   have hP8 := (uh HP2).1.fr0 (((uh HB4).2.trans ((uh HC).2.2.2.2.1.trans (uh HD).1 (fun _ _ h => h)) (fun _ _ h => h)).trans hr8 (fun _ _ h => h))
   have hsz8 : W1.heap.size ≤ w8.heap.size := Nat.le_trans (uh HD).2.size hr8.size
   obtain ⟨ao, cap, w9, hr, hP9, hf9, hn9⟩ := hP8.add2 hsz8 (reqV ac op re ve wa ow u1 u2 u3) (reqV_in _) (Bl.far hP8 (Bl.nilx 0 w8.heap.size reqV_x) (Nat.zero_le _) (Nat.le_refl _)) (by simp [idV, reqV])
   have hr' : (Builtin.append_ #[74, 74] 74 #[y2, .slice (some ⟨w8.heap.size, 0, none⟩) 6 6]).run Tryz.prog (w8.alloc (.cells #[.string n_actor, .int .i64 4, .int .u64 (ac : Nat), .slice none 0 0, .int .i64 0, .string n_op, .int .i64 1, .int .u64 (op : Nat), .slice none 0 0, .int .i64 (wiN 1 7 5 op : Nat), .string n_record, .int .i64 4, .int .u64 (re : Nat), .slice none 0 0, .int .i64 ((onlyD n_record re u1).wy : Nat), .string n_version, .int .i64 4, .int .u64 (ve : Nat), .slice none 0 0, .int .i64 (verW op ve u2 : Nat), .string n_ward, .int .i64 4, .int .u64 (wa : Nat), .slice none 0 0, .int .i64 ((onlyD n_ward wa u3).wy : Nat), .string n_owner, .int .i64 4, .int .u64 (ow : Nat), .slice none 0 0, .int .i64 ((onlyD n_owner ow u3).wy : Nat)] 110)) = .ok (.slice ao 8 cap) w9 := hr
   have HR := hid hr'
   have hr9 : Fr (fun g => y2.ownBlock = some g) wd w9 := (hr8.mono (fun _ _ h => h.elim)).trans hf9 (fun _ _ h => h)
   have hw9 : Fr (fun _ => False) W1 w9 := absorbP ((uh HD).2.trans hr8 (fun _ _ h => h)) hf9 (fun i hi => ((uh HC).2.2.2.1 i hi).1)
   have HN9 : Hid (∀ g, (Value.slice ao 8 cap).ownBlock = some g → W1.heap.size ≤ g ∧ g ≠ w3.heap.size) := hid (fun g hg => ⟨(hP9.lt g hg).1, fun e => by
    rcases hn9 g hg with h | h
    ·have := ((uh HC).2.2.2.1 g h).2; omega
    ·have h2 := lt_of_block (uh HB4).1
     have h3 := (uh HC).2.2.2.2.1.size
     have h4 := (uh HD).1.size
     have h5 := hr8.size
     omega⟩)
   have h9 := (uh HBc) w9 (((uh HD).1.mono (fun _ _ h => h.elim)).trans hr9 (fun _ _ h => h))
   have HX9 := hid (And.intro hP9 (And.intro hw9 h9))
   clear hr hr' hf9 hn9 hP8 hsz8 hP9 hw9 h9
   refine wpAnyH_ready (rs := [21]) (by kernel_rfl) (by simp) (AllReadyH.cons rfl (fun K hK => ?_) AllReadyH.nil)
   go_simp
   (try clear hHeld)
   refine hK.out _ _ ((uh HS5') _ (hr8.alloc _)) (fun hHeld => ?_)
   clear hK K
   (try simp only [Act.put, nrm])
   refine wpAnyH_ready (rs := [22]) (by kernel_rfl) (by simp) (AllReadyH.cons rfl (fun K hK => ?_) AllReadyH.nil)
   refine step_app rfl (.tmp 41) (.tmp 62) 74 74 rfl _ _ _ (by simp [Act.eval]) (by simp [Act.eval]) (uh HR) ?_
   (try clear hHeld)
   refine hK.out _ _ ((uh HS5) _ hr9) (fun hHeld => ?_)
   clear hK K
   (try simp only [Act.put, nrm])
   refine wtk2 (i := 23) rfl hHeld ?_
   (try simp only [Act.put, nrm])
   refine wpAnyH_done (by kernel_rfl) ?_ _
   clear hHeld
   clear hr5 hr6 hr7 hr8 hr9 hf5 hf6 hf7 hf8 HS5 HS5' HR HBc
   have c3 := (uh HX9).2.2.1 3 _ rfl
   have c8 := (uh HX9).2.2.1 8 _ rfl
   have cu := (uh HX9).2.2.2 3 _ rfl
   go_wp2_with fail
   refine (HFc xo xc fs u4 ((op : Int) == 2) _ (((uh HX).1.fr0 (uh HF1)).fr0 (uh HX9).2.1) (uh HX).2.1 (uh HX).2.2.1).mono ?_
   rintro e w10 ⟨y7, L7, rfl, hP7, hm7, hl7, hb7, hf10⟩
   obtain ⟨ao7, cap7, rfl, hz7⟩ := hP7.formz
   obtain ⟨a11, c11, w11, hr, hP11, hf11, _⟩ := ((uh HX9).1.fr0 hf10).app (Nat.le_trans (uh HX9).2.1.size hf10.size) ao7 cap7 L7 hP7.cells (fun q hq => ⟨(hP7.el q hq).1, Bl.far (uh HX9).1 hb7 (Nat.zero_le _) (Nat.le_refl _) q hq⟩) (by have := (uh HX).2.2.1; simp [idV, reqV]; omega) hz7
   have hr' : (Builtin.append_ #[74, 74] 74 #[.slice ao 8 cap, .slice ao7 L7.length cap7]).run Tryz.prog w10 = .ok (.slice a11 _ c11) w11 := hr
   have HR := hid hr'
   have hw11 : Fr (fun _ => False) W1 w11 := absorbP ((uh HX9).2.1.trans hf10 (fun _ _ h => h)) hf11 (fun i hi => ((uh HN9) i hi).1)
   have hU9 : Fr (fun g => (Value.slice ao 8 cap).ownBlock = some g) w9 w11 := (hf10.mono (fun _ _ h => h.elim)).trans hf11 (fun _ _ h => h)
   have cu4 : w11.cell? ⟨w3.heap.size, 4, none⟩ = some (.bool u5) := (hU9.cell (p := ⟨w3.heap.size, 4, none⟩) (ltC ((uh HX9).2.2.2 4 _ rfl)) (fun h => ((uh HN9) _ h).2 rfl)).trans ((uh HX9).2.2.2 4 _ rfl)
   have c9 : w11.cell? ⟨w.heap.size, 9, none⟩ = some (.string rs) := cOB ((hw11.block _ (lt_of_block (uh HBL)) (fun h => h)).trans (uh HBL)) rfl
   have hb11 : Bl 0 w.heap.size (idV cl nu ++ reqV ac op re ve wa ow u1 u2 u3 ++ L7) := Bl.app (Bl.app (Bl.nilx _ _ idV_x) (Bl.nilx _ _ reqV_x)) (Bl.mono hb7 (Nat.le_refl _) (Nat.le_trans (uh HF1).size (uh HX9).2.1.size))
   have HP11 := hid (And.intro hP11 (And.intro hw11 (And.intro hb11 (And.intro hm7 (And.intro hl7 cu4)))))
   clear hr hr' hP11 hw11 hU9 hb11 hm7 hl7 hb7 hP7 hf10 hf11 hz7 c3 c8 cu cu4
   go_wp2_with ((with_reducible refine wpList_at 73 ?_); refine wpList_appY rfl (.tmp 64) (.tmp 72) 74 74 rfl _ _ _ rfl rfl (uh HR) ?_)
   clear HR
   refine (gtext_any n_reason rs 0 64 _ (uh HX).2.2.2).mono ?_
   rintro e w12 ⟨zo, zc, rfl, hs12, hz12, hf12⟩
   obtain ⟨W13, hst, hb13, hf13, _⟩ := box_st (w := w12) [.string n_reason, .int .i64 6, .int .u64 0, .slice zo rs.size zc, .int .i64 (szN 0 64 rs.size : Nat)] (Fr.refl _ _) rfl (by simp [Value.oneCell'])
   have HST := hid hst
   have hfm : Fr (fun _ => False) w11 W13 := hf12.trans hf13 (fun _ _ h => h)
   have c9 : W13.cell? ⟨w.heap.size, 9, none⟩ = some (.string rs) := (hfm.cell (p := ⟨w.heap.size, 9, none⟩) (ltC c9) (fun h => h)).trans c9
   have cu4 : W13.cell? ⟨w3.heap.size, 4, none⟩ = some (.bool u5) := (hfm.cell (p := ⟨w3.heap.size, 4, none⟩) (ltC (uh HP11).2.2.2.2.2) (fun h => h)).trans (uh HP11).2.2.2.2.2
   have c7 : W13.cell? ⟨w12.heap.size, 4, none⟩ = some (.int .i64 (szN 0 64 rs.size : Nat)) := cOB hb13 rfl
   have HR13 := hid (rOB hb13)
   have hs1112 : w11.heap.size ≤ w12.heap.size := hf12.size
   have hs1213 : w12.heap.size ≤ W13.heap.size := hf13.size
   have HX13 := hid (And.intro hb13 (And.intro hfm (And.intro (src_frV hs12 hf13) hz12)))
   clear hst hb13 hf13 hfm hs12 hz12 hf12
   go_upto_if 79 with ((with_reducible refine wpList_stN' ?_); refine wpList_stN rfl 110 (.tmp 7) (.tmp 76) rfl _ _ rfl rfl (uh HST) ?_)
   (try simp only [Act.put, nrm])
   clear HST
   go_cut [89] from 76 to 89 (fun _ wx => wx.heap[w12.heap.size]? = some (.cells #[.string n_reason, .int .i64 6, .int .u64 0, .slice zo rs.size zc, .int .i64 (rsnW rs u5 : Nat)] 110) ∧ Fr (fun _ => False) w11 wx ∧ W13.heap.size ≤ wx.heap.size ∧ Src wx (.slice zo rs.size zc) (bytesOf rs))
   case first =>
    by_cases hz : szN 0 64 rs.size = 0
    ·have hzb : (((szN 0 64 rs.size : Nat) : Int) == 0) = true := by simp [hz]
     have ez : ((szN 0 64 rs.size : Nat) : Int) = 0 := by rw [hz]; rfl
     rcases (show u5 = true ∨ (u5 = false ∧ rs.toList = []) ∨ (u5 = false ∧ ¬ rs.toList = []) by
      by_cases h : rs.toList = [] <;> cases u5 <;> simp [h]) with rfl | ⟨rfl, ht⟩ | ⟨rfl, ht⟩
     ·have er : (if false = true then (4 : Int) else 0) = ((rsnW rs true : Nat) : Int) := by
       show (0 : Int) = _
       unfold rsnW; rw [if_pos hz]; rw [if_neg (fun h => by cases h.1)]; rfl
      go_wp2_with ((with_reducible refine wpList_at 80 ?_); refine wpList_load_mid rfl 110 (.tmp 7) rfl w12.heap.size 0 rfl _ _ (uh HR13) Tryz.underlying110 rfl Tryz.sizePt ?_)
      refine (gwhyN n_reason 6 0 0 4 _ zo rs.size zc false _ er).mono ?_
      rintro e w14 ⟨rfl, hf14⟩
      obtain ⟨W15, hst, hb15, hf15⟩ := box_st2 [.string n_reason, .int .i64 6, .int .u64 0, .slice zo rs.size zc, .int .i64 (szN 0 64 rs.size : Nat)] [.string n_reason, .int .i64 6, .int .u64 0, .slice zo rs.size zc, .int .i64 (rsnW rs true : Nat)] ((hf14.block _ (lt_of_block (uh HX13).1) (fun h => h)).trans (uh HX13).1) rfl rfl (by simp [Value.oneCell'])
      have HST := hid hst
      have HX15 := hid (And.intro hb15 (And.intro (absorbP ((uh HX13).2.1.trans hf14 (fun _ _ h => h)) hf15 (fun i hi => by rw [hi]; exact hs1112)) (And.intro (Nat.le_trans hf14.size hf15.size) ((src_frV (uh HX13).2.2.1 hf14).fr hf15 (fun g o m c e => fun h => by
       simp only [Value.slice.injEq] at e
       have := ((uh HX13).2.2.2 g o e.1).2
       omega)))))
      clear hst hb15 hf15 hf14
      go_wp2_with ((with_reducible refine wpList_stN' ?_); refine wpList_stN rfl 110 (.tmp 7) (.tmp 89) rfl _ _ rfl rfl (uh HST) ?_)
      go_meet
      case rel => exact ⟨(uh HX15).1, (uh HX15).2.1, (uh HX15).2.2.1, (uh HX15).2.2.2⟩
     ·have hte := tE ht
      have hte2 := tE2 ht
      have er : (if false = true then (4 : Int) else 0) = ((rsnW rs false : Nat) : Int) := by
       show (0 : Int) = _
       unfold rsnW; rw [if_pos hz]; rw [if_neg (fun h => h.2 (rs_size.1 ht))]; rfl
      go_wp2_with ((with_reducible refine wpList_at 80 ?_); refine wpList_load_mid rfl 110 (.tmp 7) rfl w12.heap.size 0 rfl _ _ (uh HR13) Tryz.underlying110 rfl Tryz.sizePt ?_)
      refine (gwhyN n_reason 6 0 0 4 _ zo rs.size zc false _ er).mono ?_
      rintro e w14 ⟨rfl, hf14⟩
      obtain ⟨W15, hst, hb15, hf15⟩ := box_st2 [.string n_reason, .int .i64 6, .int .u64 0, .slice zo rs.size zc, .int .i64 (szN 0 64 rs.size : Nat)] [.string n_reason, .int .i64 6, .int .u64 0, .slice zo rs.size zc, .int .i64 (rsnW rs false : Nat)] ((hf14.block _ (lt_of_block (uh HX13).1) (fun h => h)).trans (uh HX13).1) rfl rfl (by simp [Value.oneCell'])
      have HST := hid hst
      have HX15 := hid (And.intro hb15 (And.intro (absorbP ((uh HX13).2.1.trans hf14 (fun _ _ h => h)) hf15 (fun i hi => by rw [hi]; exact hs1112)) (And.intro (Nat.le_trans hf14.size hf15.size) ((src_frV (uh HX13).2.2.1 hf14).fr hf15 (fun g o m c e => fun h => by
       simp only [Value.slice.injEq] at e
       have := ((uh HX13).2.2.2 g o e.1).2
       omega)))))
      clear hst hb15 hf15 hf14
      go_wp2_with ((with_reducible refine wpList_stN' ?_); refine wpList_stN rfl 110 (.tmp 7) (.tmp 89) rfl _ _ rfl rfl (uh HST) ?_)
      go_meet
      case rel => exact ⟨(uh HX15).1, (uh HX15).2.1, (uh HX15).2.2.1, (uh HX15).2.2.2⟩
     ·have hte := tN ht
      have hte2 := tN2 ht
      have er : (if true = true then (4 : Int) else 0) = ((rsnW rs false : Nat) : Int) := by
       show (4 : Int) = _
       unfold rsnW; rw [if_pos hz]; rw [if_pos ⟨rfl, fun h => ht (rs_size.2 h)⟩]; rfl
      go_wp2_with ((with_reducible refine wpList_at 80 ?_); refine wpList_load_mid rfl 110 (.tmp 7) rfl w12.heap.size 0 rfl _ _ (uh HR13) Tryz.underlying110 rfl Tryz.sizePt ?_)
      refine (gwhyN n_reason 6 0 0 4 _ zo rs.size zc true _ er).mono ?_
      rintro e w14 ⟨rfl, hf14⟩
      obtain ⟨W15, hst, hb15, hf15⟩ := box_st2 [.string n_reason, .int .i64 6, .int .u64 0, .slice zo rs.size zc, .int .i64 (szN 0 64 rs.size : Nat)] [.string n_reason, .int .i64 6, .int .u64 0, .slice zo rs.size zc, .int .i64 (rsnW rs false : Nat)] ((hf14.block _ (lt_of_block (uh HX13).1) (fun h => h)).trans (uh HX13).1) rfl rfl (by simp [Value.oneCell'])
      have HST := hid hst
      have HX15 := hid (And.intro hb15 (And.intro (absorbP ((uh HX13).2.1.trans hf14 (fun _ _ h => h)) hf15 (fun i hi => by rw [hi]; exact hs1112)) (And.intro (Nat.le_trans hf14.size hf15.size) ((src_frV (uh HX13).2.2.1 hf14).fr hf15 (fun g o m c e => fun h => by
       simp only [Value.slice.injEq] at e
       have := ((uh HX13).2.2.2 g o e.1).2
       omega)))))
      clear hst hb15 hf15 hf14
      go_wp2_with ((with_reducible refine wpList_stN' ?_); refine wpList_stN rfl 110 (.tmp 7) (.tmp 89) rfl _ _ rfl rfl (uh HST) ?_)
      go_meet
      case rel => exact ⟨(uh HX15).1, (uh HX15).2.1, (uh HX15).2.2.1, (uh HX15).2.2.2⟩
    ·have hzb : (((szN 0 64 rs.size : Nat) : Int) == 0) = false := by simp; omega
     have er : rsnW rs u5 = szN 0 64 rs.size := by unfold rsnW; rw [if_neg hz]
     go_wp2_with fail
     go_meet
     case rel => rw [er]; exact ⟨(uh HX13).1, (uh HX13).2.1, Nat.le_refl _, (uh HX13).2.2.1⟩
   case rest =>
    obtain ⟨hbe, hfe, hse2, hsrc⟩ := hcut
    rename World => we
    clear c9 cu4 c7 HR13
    have HRe := hid (rOB hbe)
    have hXin : ∀ q ∈ ([⟨⟨n_reason, 6, 0, bytesOf rs, rsnW rs u5⟩, .slice zo rs.size zc⟩] : List PV), q.In we := fun q hq => by
     obtain rfl := List.mem_singleton.1 hq
     exact ⟨hsrc, fun g o n c e => by
      simp only [Value.slice.injEq] at e
      exact Nat.lt_of_lt_of_le (Nat.lt_of_lt_of_le ((uh HX13).2.2.2 g o e.1).2 hs1213) hse2⟩
    have hXb : Bl 0 w11.heap.size ([⟨⟨n_reason, 6, 0, bytesOf rs, rsnW rs u5⟩, .slice zo rs.size zc⟩] : List PV) := fun q hq g o n c e => by
     obtain rfl := List.mem_singleton.1 hq
     simp only [Value.slice.injEq] at e
     exact .inr ((uh HX13).2.2.2 g o e.1).1
    obtain ⟨ao2, cap2, w16, hr, hP16, hf16⟩ := ((uh HP11).1.fr0 hfe).add (Nat.le_trans (uh HP11).2.1.size hfe.size) _ hXin (Bl.far (uh HP11).1 hXb (Nat.zero_le _) (Nat.le_refl _)) (by have := (uh HP11).2.2.2.2.1; have := (uh HX).2.2.1; simp [idV, reqV]; omega)
    obtain ⟨NL, hNL⟩ : ∃ NL, (idV cl nu ++ reqV ac op re ve wa ow u1 u2 u3 ++ L7).length + ([⟨⟨n_reason, 6, 0, bytesOf rs, rsnW rs u5⟩, .slice zo rs.size zc⟩] : List PV).length = NL := ⟨_, rfl⟩
    rw [hNL] at hr hP16
    clear hNL
    have HR := hid hr
    have hw16 : Fr (fun _ => False) w w16 := (uh HF1).trans (absorbP ((uh HP11).2.1.trans hfe (fun _ _ h => h)) hf16 (fun i hi => ((uh HP11).1.lt i hi).1)) (fun _ _ h => h)
    have hln : (idV cl nu ++ reqV ac op re ve wa ow u1 u2 u3 ++ L7 ++ [⟨⟨n_reason, 6, 0, bytesOf rs, rsnW rs u5⟩, .slice zo rs.size zc⟩] : List PV).length ≤ 4 * fs.length + 10 := by have := (uh HP11).2.2.2.2.1; simp [idV, reqV]; omega
    have hbl : Bl 0 w.heap.size (idV cl nu ++ reqV ac op re ve wa ow u1 u2 u3 ++ L7 ++ [⟨⟨n_reason, 6, 0, bytesOf rs, rsnW rs u5⟩, .slice zo rs.size zc⟩] : List PV) := Bl.app (uh HP11).2.2.1 (Bl.mono hXb (Nat.le_refl _) (Nat.le_trans (uh HF1).size (uh HP11).2.1.size))
    have e2 : ((op : Int) == 2) = decide (op = 2) := by rw [Bool.eq_iff_iff]; simp; omega
    have hmp : (idV cl nu ++ reqV ac op re ve wa ow u1 u2 u3 ++ L7 ++ [⟨⟨n_reason, 6, 0, bytesOf rs, rsnW rs u5⟩, .slice zo rs.size zc⟩] : List PV).map PV.p = RD := by
     rw [← uh HRD, List.map_append, List.map_append, List.map_append, (uh HP11).2.2.2.1, e2, List.append_assoc, List.append_assoc]
     rfl
    have HZ := hid (And.intro (hP16.base (base' := w.heap.size) (uh HF1).size) (And.intro hmp (And.intro hln (And.intro hbl hw16))))
    clear hr hP16 hf16 hw16 hln hbl e2 hmp hXin hXb hsrc hse2 hbe hfe
    go_wp2_with (first | ((with_reducible refine wpList_at 91 ?_); refine wpList_load_mid rfl 110 (.tmp 7) rfl w12.heap.size 0 rfl _ _ (uh HRe) Tryz.underlying110 rfl Tryz.sizePt ?_) | ((with_reducible refine wpList_at 93 ?_); refine wpList_appY rfl (.tmp 90) (.tmp 92) 74 74 rfl _ _ _ rfl rfl (uh HR) ?_))
    go_ret
    exact ⟨_, _, rfl, (uh HZ).1, (uh HZ).2.1, (uh HZ).2.2.1, (uh HZ).2.2.2.1, (uh HZ).2.2.2.2⟩
set_option linter.unusedSimpArgs false
theorem Tryz.sizeRqP : (Tryz.prog.info? 30).map (·.size) = some 10 := by kernel_rfl
theorem Bl.one {B lo : Nat} {p : PT} : Bl B lo [⟨p, .slice none 0 0⟩] := Bl.nilx _ _ (fun q hq => by obtain rfl := List.mem_singleton.1 hq; rfl)
set_option maxRecDepth 100000 in
set_option maxHeartbeats 4000000 in
theorem gevent_any (HFc : FieldsC) (v : EvM) (xo zo : Option Addr) (xc zc : Nat) (w : World) (hv : v.ok) (hx : FdI w (.slice xo v.rq.fs.length xc) v.rq.fs) (hs : ∀ f ∈ v.rq.fs, f.name.size < 140737488355000 ∧ f.text.size < 140737488355000) (hl : v.rq.fs.length ≤ 1048576) (hr : v.rq.rs.size < 140737488355000) (hd : SlI w (.slice zo v.dg.length zc) v.dg) :
  Calls Tryz.prog 52 #[.agg (v.vals (.slice xo v.rq.fs.length xc) (.slice zo v.dg.length zc))] w fun e w' => ∃ y L, e = .returned y ∧ PL w' w.heap.size y L ∧ L.map PV.p = eventD v ∧ L.length ≤ 4 * v.rq.fs.length + 13 ∧ (∀ B : Nat, (∀ g o n c, (Value.slice zo v.dg.length zc) = .slice (some ⟨g, o, none⟩) n c → g < B) → Bl B w.heap.size L) ∧ Fr (fun _ => False) w w' := by
 obtain ⟨pl, rq, co, dg⟩ := v
 obtain ⟨h1, h2, h3⟩ := hv
 simp only at h1 h2 h3 hx hs hl hr hd
 have HRq : Hid (∀ wx : World, FdI wx (.slice xo rq.fs.length xc) rq.fs → Calls Tryz.prog 50 #[.agg (rq.vals (.slice xo rq.fs.length xc))] wx fun e w' => ∃ y L, e = .returned y ∧ PL w' wx.heap.size y L ∧ L.map PV.p = requestD rq ∧ L.length ≤ 4 * rq.fs.length + 10 ∧ Bl 0 wx.heap.size L ∧ Fr (fun _ => False) wx w') := hid (fun wx h => grequest_any HFc rq xo xc wx h2 h hs hl hr)
 have hrq : rq.vals (.slice xo rq.fs.length xc) = #[.int .u32 (rq.cl : Nat), .int .u32 (rq.nu : Nat), .int .u32 (rq.ac : Nat), .int .u8 (rq.op : Nat), .int .u32 (rq.re : Nat), .int .u32 (rq.ve : Nat), .int .u32 (rq.wa : Nat), .int .u32 (rq.ow : Nat), .slice xo rq.fs.length xc, .string rq.rs] := rfl
 rw [hrq] at HRq
 unfold EvM.vals eventD
 simp only
 obtain ⟨RL, hRL⟩ : ∃ RL, requestD rq = RL := ⟨_, rfl⟩
 rw [hRL] at HRq ⊢
 clear hRL hrq h2
 obtain ⟨cl, nu, ac, op, re, ve, wa, ow, fs, rs⟩ := rq
 simp only at HRq hx hs hl hr ⊢
 have HX := hid (And.intro hx (And.intro hl hd))
 clear hx hs hl hr hd
 go_enter Tryz.func52, Tryz.ntmps52
 obtain ⟨W1, hW1⟩ : ∃ W1, w.alloc (.cells #[.int .u32 (pl : Nat), .int .u32 (cl : Nat), .int .u32 (nu : Nat), .int .u32 (ac : Nat), .int .u8 (op : Nat), .int .u32 (re : Nat), .int .u32 (ve : Nat), .int .u32 (wa : Nat), .int .u32 (ow : Nat), .slice xo fs.length xc, .string rs, .int .u8 (co : Nat), .slice zo dg.length zc] 35) = W1 := ⟨_, rfl⟩
 have hf1 : Fr (fun _ => False) w W1 := by rw [← hW1]; exact box1 w _
 have hb1 : W1.heap[w.heap.size]? = some (.cells #[.int .u32 (pl : Nat), .int .u32 (cl : Nat), .int .u32 (nu : Nat), .int .u32 (ac : Nat), .int .u8 (op : Nat), .int .u32 (re : Nat), .int .u32 (ve : Nat), .int .u32 (wa : Nat), .int .u32 (ow : Nat), .slice xo fs.length xc, .string rs, .int .u8 (co : Nat), .slice zo dg.length zc] 35) := by rw [← hW1]; exact heap_alloc_new w _
 have HB : Hid (∀ W', Fr (fun _ => False) W1 W' → ∀ (i : Nat) u, ([.int .u32 (pl : Nat), .int .u32 (cl : Nat), .int .u32 (nu : Nat), .int .u32 (ac : Nat), .int .u8 (op : Nat), .int .u32 (re : Nat), .int .u32 (ve : Nat), .int .u32 (wa : Nat), .int .u32 (ow : Nat), .slice xo fs.length xc, .string rs, .int .u8 (co : Nat), .slice zo dg.length zc] : List Value)[i]? = some u → W'.cell? ⟨w.heap.size, i, none⟩ = some u) := hid (fun W' hf i u hu => by
  have hb := (hf.block _ (lt_of_block hb1) (fun h => h)).trans hb1
  exact cOB hb (by simpa using hu))
 have HS1 : Hid (∀ W', Fr (fun _ => False) W1 W' → W'.cell? ⟨w.heap.size, 0, none⟩ = some (.int .u32 (pl : Nat)) ∧ W'.rangeAt w.heap.size 1 [.int .u32 (cl : Nat), .int .u32 (nu : Nat), .int .u32 (ac : Nat), .int .u8 (op : Nat), .int .u32 (re : Nat), .int .u32 (ve : Nat), .int .u32 (wa : Nat), .int .u32 (ow : Nat), .slice xo fs.length xc, .string rs]) := hid (fun W' hf => ⟨(uh HB) W' hf 0 _ rfl, fun j u hu => by
  have hj : j < 10 := (List.getElem?_eq_some_iff.1 hu).1
  refine (uh HB) W' hf (1 + j) u ?_
  rw [Nat.add_comm 1 j]
  exact (List.getElem?_append_left (l₁ := ([.int .u32 (cl : Nat), .int .u32 (nu : Nat), .int .u32 (ac : Nat), .int .u8 (op : Nat), .int .u32 (re : Nat), .int .u32 (ve : Nat), .int .u32 (wa : Nat), .int .u32 (ow : Nat), .slice xo fs.length xc, .string rs] : List Value)) (l₂ := [.int .u8 (co : Nat), .slice zo dg.length zc]) hj).trans hu⟩)
 have HS2 : Hid (∀ W', Fr (fun _ => False) W1 W' → W'.cell? ⟨w.heap.size, 11, none⟩ = some (.int .u8 (co : Nat)) ∧ W'.cell? ⟨w.heap.size, 12, none⟩ = some (.slice zo dg.length zc)) := hid (fun W' hf => ⟨(uh HB) W' hf 11 _ rfl, (uh HB) W' hf 12 _ rfl⟩)
 have hlt1 : w.heap.size < W1.heap.size := lt_of_block hb1
 have HF1 := hid hf1
 clear hb1 hf1 HB
 go_wp2_with fail
 clear hW1
 go_cut [3] from 4 to 11 (fun s wx => ∃ L3 : List PV, PL wx W1.heap.size s ([⟨⟨n_place, 4, pl, [], 0⟩, .slice none 0 0⟩] ++ L3) ∧ L3.map PV.p = RL ∧ L3.length ≤ 4 * fs.length + 10 ∧ Bl 0 W1.heap.size L3 ∧ Fr (fun _ => False) W1 wx)
 case first =>
  refine wp_region_held_drew (S := (fun W : World => W.cell? ⟨w.heap.size, 0, none⟩ = some (.int .u32 (pl : Nat)) ∧ W.rangeAt w.heap.size 1 [.int .u32 (cl : Nat), .int .u32 (nu : Nat), .int .u32 (ac : Nat), .int .u8 (op : Nat), .int .u32 (re : Nat), .int .u32 (ve : Nat), .int .u32 (wa : Nat), .int .u32 (ow : Nat), .slice xo fs.length xc, .string rs])) (by kernel_rfl) ((uh HS1) _ (Fr.refl _ _).drew) (fun hHeld => ?_)
  refine wtk2 (i := 0) rfl hHeld ?_
  (try simp only [Act.put, nrm])
  refine wtk2 (i := 1) rfl hHeld ?_
  (try simp only [Act.put, nrm])
  refine wtk2 (i := 4) rfl hHeld ?_
  (try simp only [Act.put, nrm])
  refine wtk (i := 5) rfl (yieldsIf_load_mid rfl 30 (.tmp 8) rfl w.heap.size 1 rfl _ _ (fun w h => h.2) Tryz.underlying30 rfl Tryz.sizeRqP) hHeld ?_
  (try simp only [Act.put, nrm])
  refine wpAnyH_ready (rs := [2]) (by kernel_rfl) (by simp) (AllReadyH.cons rfl (fun K hK => ?_) AllReadyH.nil)
  go_simp
  refine (gu32_any n_place pl h1 _).mono ?_
  rintro e w2 ⟨rfl, hf2⟩
  have hr2 : Fr (fun _ => False) _ w2 := (Fr.refl _ _).drew.trans hf2 (fun _ _ h => h)
  try dsimp only
  (try clear hHeld)
  refine hK.out _ _ ((uh HS1) _ hr2) (fun hHeld => ?_)
  clear hK K
  (try simp only [Act.put, nrm])
  have hX2 := (((uh HX).1.fr0 (uh HF1)).fr0 hr2)
  refine wpAnyH_ready (rs := [3, 6]) (by kernel_rfl) (by simp) (AllReadyH.cons rfl (fun K hK => ?_) (AllReadyH.cons rfl (fun K hK => ?_) AllReadyH.nil))
  ·go_simp
   refine hK.out _ _ ((uh HS1) _ (hr2.alloc _)) (fun hHeld => ?_)
   clear hK K
   (try simp only [Act.put, nrm])
   have hPl := PL.lit w2 W1.heap.size ([⟨⟨n_place, 4, pl, [], 0⟩, .slice none 0 0⟩] : List PV) hr2.size (fun q hq => by obtain rfl := List.mem_singleton.1 hq; exact nil_in _ _ rfl) (by simp)
   refine wpAnyH_ready (rs := [6]) (by kernel_rfl) (by simp) (AllReadyH.cons rfl (fun K hK => ?_) AllReadyH.nil)
   go_simp
   refine ((uh HRq) _ (hX2.fr0 (box1 w2 _))).mono ?_
   rintro e w3 ⟨y3, L3, rfl, hP3, hm3, hl3, hb3, hf3⟩
   have hr3 : Fr (fun _ => False) _ w3 := (hr2.alloc _).trans hf3 (fun _ _ h => h)
   try dsimp only
   (try clear hHeld)
   refine hK.out _ _ ((uh HS1) _ hr3) (fun hHeld => ?_)
   clear hK K
   (try simp only [Act.put, nrm])
   obtain ⟨ao3, cap3, rfl, hz3⟩ := hP3.formz
   have hPl3 := hPl.fr0 hf3
   have hb3' : Bl 0 W1.heap.size L3 := Bl.mono hb3 (Nat.le_refl _) (Nat.le_trans hr2.size (by simp))
   obtain ⟨ao4, cap4, w4, hrr, hP4, hf4, _⟩ := hPl3.app hr3.size ao3 cap3 L3 hP3.cells (fun q hq => ⟨(hP3.el q hq).1, Bl.far hPl hb3 (Nat.zero_le _) (Nat.le_refl _) q hq⟩) (by have := (uh HX).2.1; simp; omega) hz3
   have hr' : (Builtin.append_ #[74, 74] 74 #[.slice (some ⟨w2.heap.size, 0, none⟩) 1 1, .slice ao3 L3.length cap3]).run Tryz.prog w3 = .ok (.slice ao4 _ cap4) w4 := hrr
   have HR := hid hr'
   have hr4 : Fr (fun _ => False) W1 w4 := absorbP hr3 hf4 (fun i hi => (hPl.lt i hi).1)
   have HZ := hid (And.intro hP4 (And.intro hm3 (And.intro hl3 (And.intro hb3' hr4))))
   clear hrr hr' hP4 hm3 hl3 hb3 hb3' hf4 hf3 hP3 hPl hPl3 hz3
   refine wpAnyH_ready (rs := [7]) (by kernel_rfl) (by simp) (AllReadyH.cons rfl (fun K hK => ?_) AllReadyH.nil)
   refine step_app rfl (.tmp 7) (.tmp 10) 74 74 rfl _ _ _ (by simp [Act.eval]) (by simp [Act.eval]) (uh HR) ?_
   (try clear hHeld)
   refine hK.out _ _ ((uh HS1) _ hr4) (fun hHeld => ?_)
   clear hK K
   (try simp only [Act.put, nrm])
   refine wtk2 (i := 8) rfl hHeld ?_
   (try simp only [Act.put, nrm])
   refine wpAnyH_done (by kernel_rfl) ?_ _
   clear hHeld
   clear hr2 hr3 hr4 hf2 hX2 HR
   go_wp2_with fail
   go_meet
   case rel => exact ⟨L3, (uh HZ).1, (uh HZ).2.1, (uh HZ).2.2.1, (uh HZ).2.2.2.1, (uh HZ).2.2.2.2⟩
  ·go_simp
   refine ((uh HRq) _ hX2).mono ?_
   rintro e w3 ⟨y3, L3, rfl, hP3, hm3, hl3, hb3, hf3⟩
   have hr3 : Fr (fun _ => False) _ w3 := hr2.trans hf3 (fun _ _ h => h)
   try dsimp only
   refine hK.out _ _ ((uh HS1) _ hr3) (fun hHeld => ?_)
   clear hK K
   (try simp only [Act.put, nrm])
   obtain ⟨ao3, cap3, rfl, hz3⟩ := hP3.formz
   refine wpAnyH_ready (rs := [3]) (by kernel_rfl) (by simp) (AllReadyH.cons rfl (fun K hK => ?_) AllReadyH.nil)
   go_simp
   (try clear hHeld)
   refine hK.out _ _ ((uh HS1) _ (hr3.alloc _)) (fun hHeld => ?_)
   clear hK K
   (try simp only [Act.put, nrm])
   have hPl := PL.lit w3 W1.heap.size ([⟨⟨n_place, 4, pl, [], 0⟩, .slice none 0 0⟩] : List PV) hr3.size (fun q hq => by obtain rfl := List.mem_singleton.1 hq; exact nil_in _ _ rfl) (by simp)
   have hP3' := hP3.fr0 (box1 w3 (.cells (([⟨⟨n_place, 4, pl, [], 0⟩, .slice none 0 0⟩] : List PV).flatMap PV.cs).toArray 110))
   have hb3' : Bl 0 W1.heap.size L3 := Bl.mono hb3 (Nat.le_refl _) hr2.size
   obtain ⟨ao4, cap4, w4, hrr, hP4, hf4, _⟩ := hPl.app (Nat.le_trans hr3.size (by simp)) ao3 cap3 L3 hP3'.cells (fun q hq => ⟨(hP3'.el q hq).1, fun g o n c e h => by
    have h1 := (hP3.el q hq).1.lt g o n c e
    simp only [Value.ownBlock, Option.some.injEq] at h
    omega⟩) (by have := (uh HX).2.1; simp; omega) hz3
   have hr' : (Builtin.append_ #[74, 74] 74 #[.slice (some ⟨w3.heap.size, 0, none⟩) 1 1, .slice ao3 L3.length cap3]).run Tryz.prog (w3.alloc (.cells #[.string n_place, .int .i64 4, .int .u64 (pl : Nat), .slice none 0 0, .int .i64 0] 110)) = .ok (.slice ao4 _ cap4) w4 := hrr
   have HR := hid hr'
   have hr4 : Fr (fun _ => False) W1 w4 := absorbP (hr3.alloc _) hf4 (fun i hi => (hPl.lt i hi).1)
   have HZ := hid (And.intro hP4 (And.intro hm3 (And.intro hl3 (And.intro hb3' hr4))))
   clear hrr hr' hP4 hm3 hl3 hb3 hb3' hf4 hf3 hP3 hP3' hPl hz3
   refine wpAnyH_ready (rs := [7]) (by kernel_rfl) (by simp) (AllReadyH.cons rfl (fun K hK => ?_) AllReadyH.nil)
   refine step_app rfl (.tmp 7) (.tmp 10) 74 74 rfl _ _ _ (by simp [Act.eval]) (by simp [Act.eval]) (uh HR) ?_
   (try clear hHeld)
   refine hK.out _ _ ((uh HS1) _ hr4) (fun hHeld => ?_)
   clear hK K
   (try simp only [Act.put, nrm])
   refine wtk2 (i := 8) rfl hHeld ?_
   (try simp only [Act.put, nrm])
   refine wpAnyH_done (by kernel_rfl) ?_ _
   clear hHeld
   clear hr2 hr3 hr4 hf2 hX2 HR
   go_wp2_with fail
   go_meet
   case rel => exact ⟨L3, (uh HZ).1, (uh HZ).2.1, (uh HZ).2.2.1, (uh HZ).2.2.2.1, (uh HZ).2.2.2.2⟩
 case rest =>
  obtain ⟨L3, hP3, hm3, hl3, hb3, hfc⟩ := hcut
  rename World => wc
  clear HRq HS1
  go_wp2_with fail
  refine wp_region_held_drew (S := (fun W : World => W.cell? ⟨w.heap.size, 11, none⟩ = some (.int .u8 (co : Nat)) ∧ W.cell? ⟨w.heap.size, 12, none⟩ = some (.slice zo dg.length zc))) (by kernel_rfl) ((uh HS2) _ hfc.drew) (fun hHeld => ?_)
  refine wtk2 (i := 0) rfl hHeld ?_
  (try simp only [Act.put, nrm])
  refine wtk2 (i := 1) rfl hHeld ?_
  (try simp only [Act.put, nrm])
  refine wtk2 (i := 2) rfl hHeld ?_
  (try simp only [Act.put, nrm])
  refine wtk2 (i := 4) rfl hHeld ?_
  (try simp only [Act.put, nrm])
  refine wtk2 (i := 5) rfl hHeld ?_
  (try simp only [Act.put, nrm])
  refine wpAnyH_ready (rs := [3]) (by kernel_rfl) (by simp) (AllReadyH.cons rfl (fun K hK => ?_) AllReadyH.nil)
  go_simp
  refine (gcode_any co h3 _).mono ?_
  rintro e w5 ⟨rfl, hf5⟩
  have hr5 : Fr (fun _ => False) _ w5 := hfc.drew.trans hf5 (fun _ _ h => h)
  try dsimp only
  (try clear hHeld)
  refine hK.out _ _ ((uh HS2) _ hr5) (fun hHeld => ?_)
  clear hK K
  (try simp only [Act.put, nrm])
  refine wpAnyH_ready (rs := [6]) (by kernel_rfl) (by simp) (AllReadyH.cons rfl (fun K hK => ?_) AllReadyH.nil)
  go_simp
  refine (gbytes_any n_digest zo dg.length zc 1 32 _).mono ?_
  rintro e w6 ⟨rfl, hf6⟩
  have hr6 : Fr (fun _ => False) _ w6 := hr5.trans hf6 (fun _ _ h => h)
  try dsimp only
  (try clear hHeld)
  refine hK.out _ _ ((uh HS2) _ hr6) (fun hHeld => ?_)
  clear hK K
  (try simp only [Act.put, nrm])
  have hP6 := (hP3.fr0 (((Fr.refl _ _).drew).trans hf5 (fun _ _ h => h))).fr0 hf6
  have hd6 := (uh HX).2.2.fr0 ((uh HF1).trans hr6 (fun _ _ h => h))
  have hXin : ∀ q ∈ ([⟨⟨n_code, 1, co, [], wiN 0 10 5 co⟩, .slice none 0 0⟩, ⟨⟨n_digest, 6, 0, dg, szN 1 32 dg.length⟩, .slice zo dg.length zc⟩] : List PV), q.In w6 := fun q hq => by
   simp only [List.mem_cons, List.not_mem_nil, or_false] at hq
   rcases hq with rfl | rfl
   ·exact nil_in _ _ rfl
   ·exact ⟨hd6.src, fun g o n c e => hd6.lt g o _ c e⟩
  have hXb : ∀ B lo : Nat, (∀ g o n c, (Value.slice zo dg.length zc) = .slice (some ⟨g, o, none⟩) n c → g < B) → Bl B lo ([⟨⟨n_code, 1, co, [], wiN 0 10 5 co⟩, .slice none 0 0⟩, ⟨⟨n_digest, 6, 0, dg, szN 1 32 dg.length⟩, .slice zo dg.length zc⟩] : List PV) := fun B lo hB q hq g o n c e => by
   simp only [List.mem_cons, List.not_mem_nil, or_false] at hq
   rcases hq with rfl | rfl
   ·cases e
   ·exact .inl (hB g o _ c e)
  obtain ⟨ao7, cap7, w7, hrr, hP7, hf7⟩ := hP6.add hr6.size _ hXin (Bl.far hP6 (hXb w.heap.size w6.heap.size (fun g o n c e => (uh HX).2.2.lt g o n c e)) (Nat.le_of_lt hlt1) (Nat.le_refl _)) (by have := (uh HX).2.1; simp; omega)
  have hr' : (Builtin.append_ #[74, 74] 74 #[u3, .slice (some ⟨w6.heap.size, 0, none⟩) 2 2]).run Tryz.prog (w6.alloc (.cells #[.string n_code, .int .i64 1, .int .u64 (co : Nat), .slice none 0 0, .int .i64 (wiN 0 10 5 co : Nat), .string n_digest, .int .i64 6, .int .u64 0, .slice zo dg.length zc, .int .i64 (szN 1 32 dg.length : Nat)] 110)) = .ok (.slice ao7 _ cap7) w7 := hrr
  have HR := hid hr'
  have hr7 : Fr (fun _ => False) W1 w7 := absorbP hr6 hf7 (fun i hi => (hP6.lt i hi).1)
  have hmp : ([⟨⟨n_place, 4, pl, [], 0⟩, .slice none 0 0⟩] ++ L3 ++ [⟨⟨n_code, 1, co, [], wiN 0 10 5 co⟩, .slice none 0 0⟩, ⟨⟨n_digest, 6, 0, dg, szN 1 32 dg.length⟩, .slice zo dg.length zc⟩] : List PV).map PV.p = (⟨n_place, 4, pl, [], 0⟩ :: RL) ++ [⟨n_code, 1, co, [], wiN 0 10 5 co⟩, ⟨n_digest, 6, 0, dg, szN 1 32 dg.length⟩] := by
   rw [List.map_append, List.map_append, hm3]
   rfl
  have hln : ([⟨⟨n_place, 4, pl, [], 0⟩, .slice none 0 0⟩] ++ L3 ++ [⟨⟨n_code, 1, co, [], wiN 0 10 5 co⟩, .slice none 0 0⟩, ⟨⟨n_digest, 6, 0, dg, szN 1 32 dg.length⟩, .slice zo dg.length zc⟩] : List PV).length ≤ 4 * fs.length + 13 := by simp; omega
  have hbl : ∀ B : Nat, (∀ g o n c, (Value.slice zo dg.length zc) = .slice (some ⟨g, o, none⟩) n c → g < B) → Bl B w.heap.size ([⟨⟨n_place, 4, pl, [], 0⟩, .slice none 0 0⟩] ++ L3 ++ [⟨⟨n_code, 1, co, [], wiN 0 10 5 co⟩, .slice none 0 0⟩, ⟨⟨n_digest, 6, 0, dg, szN 1 32 dg.length⟩, .slice zo dg.length zc⟩] : List PV) := fun B hB => Bl.app (Bl.app Bl.one (Bl.mono hb3 (Nat.zero_le _) (Nat.le_of_lt hlt1))) (hXb B w.heap.size hB)
  have HZ := hid (And.intro (hP7.base (base' := w.heap.size) (Nat.le_of_lt hlt1)) (And.intro hmp (And.intro hln (And.intro hbl ((uh HF1).trans hr7 (fun _ _ h => h))))))
  clear hrr hr' hP7 hmp hln hbl hXin hXb hd6 hP6 hf7 hm3 hl3 hb3
  refine wpAnyH_ready (rs := [7]) (by kernel_rfl) (by simp) (AllReadyH.cons rfl (fun K hK => ?_) AllReadyH.nil)
  go_simp
  (try clear hHeld)
  refine hK.out _ _ ((uh HS2) _ (hr6.alloc _)) (fun hHeld => ?_)
  clear hK K
  (try simp only [Act.put, nrm])
  refine wpAnyH_ready (rs := [8]) (by kernel_rfl) (by simp) (AllReadyH.cons rfl (fun K hK => ?_) AllReadyH.nil)
  refine step_app rfl (.tmp 12) (.tmp 19) 74 74 rfl _ _ _ (by simp [Act.eval]) (by simp [Act.eval]) (uh HR) ?_
  (try clear hHeld)
  refine hK.out _ _ ((uh HS2) _ hr7) (fun hHeld => ?_)
  clear hK K
  (try simp only [Act.put, nrm])
  refine wtk2 (i := 9) rfl hHeld ?_
  (try simp only [Act.put, nrm])
  refine wpAnyH_done (by kernel_rfl) ?_ _
  clear hHeld
  clear hr5 hr6 hr7 hf5 hf6 HR HS2 hP3
  go_wp2_with fail
  go_ret
  exact ⟨_, _, rfl, (uh HZ).1, (uh HZ).2.1, (uh HZ).2.2.1, (uh HZ).2.2.2.1, (uh HZ).2.2.2.2⟩
set_option linter.unusedSimpArgs false
theorem Tryz.sizeSmP : (Tryz.prog.info? 161).map (·.size) = some 4 := by kernel_rfl
theorem lim4 {a b c d i : Nat} (h1 : a = b + 1 + 4 * i) (h2 : b ≤ 4 * c + 6) (h3 : c ≤ 1048576) (h4 : d ≤ 1048576) (h5 : i < d) : a + 4 ≤ 16777216 := by omega
theorem measI {n i : Nat} (e : wrap64 ((i : Int) + 1) = (i : Int) + 1) (h : i < n) : n - (intOf (.int .i64 (wrap64 ((i : Int) + 1)))).toNat < n - (intOf (.int .i64 (i : Nat))).toNat := by
 rw [e]
 simp only [intOf]
 omega
theorem hist_take (l : List SuM) (i : Nat) (h : i < l.length) : (l.take (i + 1)).flatMap summaryP = (l.take i).flatMap summaryP ++ summaryP l[i] := by
 rw [List.take_add_one, List.getElem?_eq_getElem h, List.flatMap_append]
 simp
set_option maxRecDepth 100000 in
set_option maxHeartbeats 4000000 in
theorem ganswer_any (HFc : FieldsC) (v : AnM) (xo yo : Option Addr) (xc yc : Nat) (w : World) (hv : v.ok) (hx : FdI w (.slice xo v.fs.length xc) v.fs) (hs : ∀ f ∈ v.fs, f.name.size < 140737488355000 ∧ f.text.size < 140737488355000) (hl : v.fs.length ≤ 1048576) (hy : SuI w (.slice yo v.hi.length yc) v.hi) (hh : v.hi.length ≤ 1048576) :
  Calls Tryz.prog 51 #[.agg (v.vals (.slice xo v.fs.length xc) (.slice yo v.hi.length yc))] w fun e w' => ∃ y L, e = .returned y ∧ PL w' w.heap.size y L ∧ L.map PV.p = answerD v ∧ L.length ≤ 4 * v.fs.length + 4 * v.hi.length + 7 ∧ Bl 0 w.heap.size L ∧ Fr (fun _ => False) w w' := by
 obtain ⟨cl, nu, co, re, ve, fs, hi⟩ := v
 obtain ⟨h1, h2, h3, h4, h5⟩ := hv
 simp only at h1 h2 h3 h4 h5 hx hs hl hy hh
 obtain ⟨⟨yo', yc', e, hV⟩, -⟩ := hy
 cases e
 unfold AnM.vals answerD
 simp only
 obtain ⟨RD, hRD⟩ : ∃ RD : List PT, (idP cl nu ++ [⟨n_code, 1, co, [], wiN 0 10 5 co⟩, ⟨n_record, 4, re, [], 0⟩, ⟨n_version, 4, ve, [], 0⟩]) ++ (fieldsD true false fs ++ histP hi) = RD := ⟨_, rfl⟩
 rw [hRD]
 have HRD := hid hRD
 clear hRD
 have HX := hid (And.intro hx (And.intro hs (And.intro hl (And.intro hV hh))))
 clear hx hs hl hV hh
 go_enter Tryz.func51, Tryz.ntmps51
 obtain ⟨W1, hW1⟩ : ∃ W1, w.alloc (.cells #[.int .u32 (cl : Nat), .int .u32 (nu : Nat), .int .u8 (co : Nat), .int .u32 (re : Nat), .int .u32 (ve : Nat), .slice xo fs.length xc, .slice yo hi.length yc] 33) = W1 := ⟨_, rfl⟩
 have hf1 : Fr (fun _ => False) w W1 := by rw [← hW1]; exact box1 w _
 have hb1 : W1.heap[w.heap.size]? = some (.cells #[.int .u32 (cl : Nat), .int .u32 (nu : Nat), .int .u8 (co : Nat), .int .u32 (re : Nat), .int .u32 (ve : Nat), .slice xo fs.length xc, .slice yo hi.length yc] 33) := by rw [← hW1]; exact heap_alloc_new w _
 have HB : Hid (∀ W', Fr (fun _ => False) W1 W' → ∀ (i : Nat) u, ([.int .u32 (cl : Nat), .int .u32 (nu : Nat), .int .u8 (co : Nat), .int .u32 (re : Nat), .int .u32 (ve : Nat), .slice xo fs.length xc, .slice yo hi.length yc] : List Value)[i]? = some u → W'.cell? ⟨w.heap.size, i, none⟩ = some u) := hid (fun W' hf i u hu => by
  have hb := (hf.block _ (lt_of_block hb1) (fun h => h)).trans hb1
  exact cOB hb (by simpa using hu))
 have HS1 : Hid (∀ W', Fr (fun _ => False) W1 W' → W'.cell? ⟨w.heap.size, 2, none⟩ = some (.int .u8 (co : Nat)) ∧ W'.cell? ⟨w.heap.size, 3, none⟩ = some (.int .u32 (re : Nat)) ∧ W'.cell? ⟨w.heap.size, 4, none⟩ = some (.int .u32 (ve : Nat)) ∧ W'.rangeAt w.heap.size 0 [.int .u32 (cl : Nat), .int .u32 (nu : Nat)]) := hid (fun W' hf => ⟨(uh HB) W' hf 2 _ rfl, (uh HB) W' hf 3 _ rfl, (uh HB) W' hf 4 _ rfl, fun j u hu => by
  match j, hu with
  | 0, hu => exact (uh HB) W' hf 0 u (by simpa using hu)
  | 1, hu => exact (uh HB) W' hf 1 u (by simpa using hu)⟩)
 have hlt1 : w.heap.size < W1.heap.size := lt_of_block hb1
 have HF1 := hid hf1
 clear hb1 hf1
 go_wp2_with fail
 clear hW1
 refine wp_region_held_drew (S := (fun W : World => W.cell? ⟨w.heap.size, 2, none⟩ = some (.int .u8 (co : Nat)) ∧ W.cell? ⟨w.heap.size, 3, none⟩ = some (.int .u32 (re : Nat)) ∧ W.cell? ⟨w.heap.size, 4, none⟩ = some (.int .u32 (ve : Nat)) ∧ W.rangeAt w.heap.size 0 [.int .u32 (cl : Nat), .int .u32 (nu : Nat)])) (by kernel_rfl) ((uh HS1) _ (Fr.refl _ _).drew) (fun hHeld => ?_)
 refine wtk2 (i := 0) rfl hHeld ?_
 (try simp only [Act.put, nrm])
 refine wtk (i := 1) rfl (yieldsIf_load_mid rfl 27 (.tmp 7) rfl w.heap.size 0 rfl _ _ (fun w h => h.2.2.2) Tryz.underlying27 rfl Tryz.sizeIdP) hHeld ?_
 (try simp only [Act.put, nrm])
 refine wtk2 (i := 3) rfl hHeld ?_
 (try simp only [Act.put, nrm])
 refine wtk2 (i := 4) rfl hHeld ?_
 (try simp only [Act.put, nrm])
 refine wtk2 (i := 6) rfl hHeld ?_
 (try simp only [Act.put, nrm])
 refine wtk2 (i := 7) rfl hHeld ?_
 (try simp only [Act.put, nrm])
 refine wtk2 (i := 9) rfl hHeld ?_
 (try simp only [Act.put, nrm])
 refine wtk2 (i := 10) rfl hHeld ?_
 (try simp only [Act.put, nrm])
 refine wpAnyH_ready (rs := [2]) (by kernel_rfl) (by simp) (AllReadyH.cons rfl (fun K hK => ?_) AllReadyH.nil)
 go_simp
 refine (gids_any cl nu h1 h2 _).mono ?_
 rintro e w2 ⟨y2, rfl, hP2, hf2⟩
 have hr2 : Fr (fun _ => False) _ w2 := (Fr.refl _ _).drew.trans hf2 (fun _ _ h => h)
 try dsimp only
 (try clear hHeld)
 refine hK.out _ _ ((uh HS1) _ hr2) (fun hHeld => ?_)
 clear hK K
 (try simp only [Act.put, nrm])
 refine wpAnyH_ready (rs := [5]) (by kernel_rfl) (by simp) (AllReadyH.cons rfl (fun K hK => ?_) AllReadyH.nil)
 go_simp
 refine (gcode_any co h3 _).mono ?_
 rintro e w3 ⟨rfl, hf3⟩
 have hr3 : Fr (fun _ => False) _ w3 := hr2.trans hf3 (fun _ _ h => h)
 try dsimp only
 (try clear hHeld)
 refine hK.out _ _ ((uh HS1) _ hr3) (fun hHeld => ?_)
 clear hK K
 (try simp only [Act.put, nrm])
 refine wpAnyH_ready (rs := [8]) (by kernel_rfl) (by simp) (AllReadyH.cons rfl (fun K hK => ?_) AllReadyH.nil)
 go_simp
 refine (gu32_any n_record re h4 _).mono ?_
 rintro e w4 ⟨rfl, hf4⟩
 have hr4 : Fr (fun _ => False) _ w4 := hr3.trans hf4 (fun _ _ h => h)
 try dsimp only
 (try clear hHeld)
 refine hK.out _ _ ((uh HS1) _ hr4) (fun hHeld => ?_)
 clear hK K
 (try simp only [Act.put, nrm])
 refine wpAnyH_ready (rs := [11]) (by kernel_rfl) (by simp) (AllReadyH.cons rfl (fun K hK => ?_) AllReadyH.nil)
 go_simp
 refine (gu32_any n_version ve h5 _).mono ?_
 rintro e w5 ⟨rfl, hf5⟩
 have hr5 : Fr (fun _ => False) _ w5 := hr4.trans hf5 (fun _ _ h => h)
 try dsimp only
 (try clear hHeld)
 refine hK.out _ _ ((uh HS1) _ hr5) (fun hHeld => ?_)
 clear hK K
 (try simp only [Act.put, nrm])
 have hP5 := ((hP2.fr0 hf3).fr0 hf4).fr0 hf5
 have hXx : ∀ q ∈ ([⟨⟨n_code, 1, co, [], wiN 0 10 5 co⟩, .slice none 0 0⟩, ⟨⟨n_record, 4, re, [], 0⟩, .slice none 0 0⟩, ⟨⟨n_version, 4, ve, [], 0⟩, .slice none 0 0⟩] : List PV), q.x = .slice none 0 0 := fun q hq => by
  simp only [List.mem_cons, List.not_mem_nil, or_false] at hq
  rcases hq with rfl | rfl | rfl <;> rfl
 have hXi : ∀ q ∈ ([⟨⟨n_code, 1, co, [], wiN 0 10 5 co⟩, .slice none 0 0⟩, ⟨⟨n_record, 4, re, [], 0⟩, .slice none 0 0⟩, ⟨⟨n_version, 4, ve, [], 0⟩, .slice none 0 0⟩] : List PV), q.In w5 := fun q hq => by
  simp only [List.mem_cons, List.not_mem_nil, or_false] at hq
  rcases hq with rfl | rfl | rfl <;> exact nil_in _ _ rfl
 obtain ⟨a6, c6, w6, hrr, hP6, hf6⟩ := hP5.add hr5.size _ hXi (Bl.far hP5 (Bl.nilx 0 w5.heap.size hXx) (Nat.zero_le _) (Nat.le_refl _)) (by simp [idV])
 have hr' : (Builtin.append_ #[74, 74] 74 #[y2, .slice (some ⟨w5.heap.size, 0, none⟩) 3 3]).run Tryz.prog (w5.alloc (.cells #[.string n_code, .int .i64 1, .int .u64 (co : Nat), .slice none 0 0, .int .i64 (wiN 0 10 5 co : Nat), .string n_record, .int .i64 4, .int .u64 (re : Nat), .slice none 0 0, .int .i64 0, .string n_version, .int .i64 4, .int .u64 (ve : Nat), .slice none 0 0, .int .i64 0] 110)) = .ok (.slice a6 _ c6) w6 := hrr
 have HR := hid hr'
 replace hP6 : PL w6 W1.heap.size (.slice a6 5 c6) (idV cl nu ++ ([⟨⟨n_code, 1, co, [], wiN 0 10 5 co⟩, .slice none 0 0⟩, ⟨⟨n_record, 4, re, [], 0⟩, .slice none 0 0⟩, ⟨⟨n_version, 4, ve, [], 0⟩, .slice none 0 0⟩] : List PV)) := hP6
 have hr6 : Fr (fun _ => False) W1 w6 := absorbP hr5 hf6 (fun i hi => (hP5.lt i hi).1)
 have hbl6 : Bl 0 W1.heap.size (idV cl nu ++ ([⟨⟨n_code, 1, co, [], wiN 0 10 5 co⟩, .slice none 0 0⟩, ⟨⟨n_record, 4, re, [], 0⟩, .slice none 0 0⟩, ⟨⟨n_version, 4, ve, [], 0⟩, .slice none 0 0⟩] : List PV)) := Bl.app (Bl.nilx _ _ idV_x) (Bl.nilx _ _ hXx)
 have HP6 := hid (And.intro hP6 (And.intro hr6 hbl6))
 clear hrr hr' hP6 hXx hXi hP5 hP2 hf6 hbl6
 refine wpAnyH_ready (rs := [12]) (by kernel_rfl) (by simp) (AllReadyH.cons rfl (fun K hK => ?_) AllReadyH.nil)
 go_simp
 (try clear hHeld)
 refine hK.out _ _ ((uh HS1) _ (hr5.alloc _)) (fun hHeld => ?_)
 clear hK K
 (try simp only [Act.put, nrm])
 refine wpAnyH_ready (rs := [13]) (by kernel_rfl) (by simp) (AllReadyH.cons rfl (fun K hK => ?_) AllReadyH.nil)
 refine step_app rfl (.tmp 9) (.tmp 19) 74 74 rfl _ _ _ (by simp [Act.eval]) (by simp [Act.eval]) (uh HR) ?_
 (try clear hHeld)
 refine hK.out _ _ ((uh HS1) _ hr6) (fun hHeld => ?_)
 clear hK K
 (try simp only [Act.put, nrm])
 refine wtk2 (i := 14) rfl hHeld ?_
 (try simp only [Act.put, nrm])
 refine wpAnyH_done (by kernel_rfl) ?_ _
 clear hHeld
 clear hr2 hr3 hr4 hr5 hr6 hf2 hf3 hf4 hf5 HR HS1
 have c5 := (uh HB) w6 (uh HP6).2.1 5 _ rfl
 go_wp2_with fail
 refine (HFc xo xc fs true false _ (((uh HX).1.fr0 (uh HF1)).fr0 (uh HP6).2.1) (uh HX).2.1 (uh HX).2.2.1).mono ?_
 rintro e w10 ⟨y7, L7, rfl, hP7, hm7, hl7, hb7, hf10⟩
 obtain ⟨ao7, cap7, rfl, hz7⟩ := hP7.formz
 obtain ⟨a11, c11, w11, hr, hP11, hf11, -⟩ := ((uh HP6).1.fr0 hf10).app (Nat.le_trans (uh HP6).2.1.size hf10.size) ao7 cap7 L7 hP7.cells (fun q hq => ⟨(hP7.el q hq).1, Bl.far (uh HP6).1 hb7 (Nat.zero_le _) (Nat.le_refl _) q hq⟩) (by have := (uh HX).2.2.1; simp [idV]; omega) hz7
 obtain ⟨N11, hN11⟩ : ∃ N11, (idV cl nu ++ ([⟨⟨n_code, 1, co, [], wiN 0 10 5 co⟩, .slice none 0 0⟩, ⟨⟨n_record, 4, re, [], 0⟩, .slice none 0 0⟩, ⟨⟨n_version, 4, ve, [], 0⟩, .slice none 0 0⟩] : List PV)).length + L7.length = N11 := ⟨_, rfl⟩
 rw [hN11] at hr hP11
 have hr' : (Builtin.append_ #[74, 74] 74 #[.slice a6 5 c6, .slice ao7 L7.length cap7]).run Tryz.prog w10 = .ok (.slice a11 N11 c11) w11 := hr
 have HR := hid hr'
 have hw11 : Fr (fun _ => False) W1 w11 := absorbP ((uh HP6).2.1.trans hf10 (fun _ _ h => h)) hf11 (fun i hi => ((uh HP6).1.lt i hi).1)
 have hb11 : Bl 0 W1.heap.size (idV cl nu ++ ([⟨⟨n_code, 1, co, [], wiN 0 10 5 co⟩, .slice none 0 0⟩, ⟨⟨n_record, 4, re, [], 0⟩, .slice none 0 0⟩, ⟨⟨n_version, 4, ve, [], 0⟩, .slice none 0 0⟩] : List PV) ++ L7) := Bl.app (uh HP6).2.2 (Bl.mono hb7 (Nat.le_refl _) (uh HP6).2.1.size)
 have hl11 : (idV cl nu ++ ([⟨⟨n_code, 1, co, [], wiN 0 10 5 co⟩, .slice none 0 0⟩, ⟨⟨n_record, 4, re, [], 0⟩, .slice none 0 0⟩, ⟨⟨n_version, 4, ve, [], 0⟩, .slice none 0 0⟩] : List PV) ++ L7).length ≤ 4 * fs.length + 6 := by simp [idV]; omega
 have hm11 : (idV cl nu ++ ([⟨⟨n_code, 1, co, [], wiN 0 10 5 co⟩, .slice none 0 0⟩, ⟨⟨n_record, 4, re, [], 0⟩, .slice none 0 0⟩, ⟨⟨n_version, 4, ve, [], 0⟩, .slice none 0 0⟩] : List PV) ++ L7).map PV.p = (idP cl nu ++ [⟨n_code, 1, co, [], wiN 0 10 5 co⟩, ⟨n_record, 4, re, [], 0⟩, ⟨n_version, 4, ve, [], 0⟩]) ++ fieldsD true false fs := by
  rw [List.map_append, hm7]
  rfl
 obtain ⟨LL, hLL⟩ : ∃ LL, (idV cl nu ++ ([⟨⟨n_code, 1, co, [], wiN 0 10 5 co⟩, .slice none 0 0⟩, ⟨⟨n_record, 4, re, [], 0⟩, .slice none 0 0⟩, ⟨⟨n_version, 4, ve, [], 0⟩, .slice none 0 0⟩] : List PV) ++ L7) = LL := ⟨_, rfl⟩
 rw [hLL] at hP11 hb11 hl11 hm11
 have HP11 := hid (And.intro hP11 (And.intro hw11 (And.intro hb11 (And.intro hl11 hm11))))
 clear hr hr' hP11 hw11 hb11 hl11 hm11 hm7 hl7 hb7 hP7 hf10 hf11 hz7 c5 hLL hN11
 have c6' := (uh HB) w11 (uh HP11).2.1 6 _ rfl
 go_wp2_with ((with_reducible refine wpList_at 25 ?_); refine wpList_appY rfl (.tmp 21) (.tmp 24) 74 74 rfl _ _ _ rfl rfl (uh HR) ?_)
 clear HR
 refine (gcount_any n_history hi.length 64 (by have := (uh HX).2.2.2.2; omega) _).mono ?_
 rintro e w12 ⟨rfl, hf12⟩
 have ew : (if (64 : Int) < (hi.length : Int) then (2 : Int) else 0) = ((wiI 0 64 2 (hi.length : Int) : Nat) : Int) := by
  unfold wiI
  by_cases h : (64 : Int) < (hi.length : Int)
  ·rw [if_pos h, if_pos (.inr h)]; rfl
  ·rw [if_neg h, if_neg (by omega)]; rfl
 rw [ew]
 clear ew
 obtain ⟨HW, hHW⟩ : ∃ HW, wiI 0 64 2 (hi.length : Int) = HW := ⟨_, rfl⟩
 rw [hHW]
 have HHW := hid hHW
 clear hHW
 have hXi : ∀ q ∈ ([⟨⟨n_history, 4, hi.length, [], HW⟩, .slice none 0 0⟩] : List PV), q.In w12 := fun q hq => by
  obtain rfl := List.mem_singleton.1 hq
  exact nil_in _ _ rfl
 obtain ⟨a13, c13, w13, hrr, hP13, hf13⟩ := ((uh HP11).1.fr0 hf12).add (Nat.le_trans (uh HP11).2.1.size hf12.size) _ hXi (Bl.far (uh HP11).1 (Bl.one (B := 0) (lo := w11.heap.size)) (Nat.zero_le _) (Nat.le_refl _)) (by have := (uh HP11).2.2.2.1; have := (uh HX).2.2.1; simp; omega)
 obtain ⟨N13, hN13⟩ : ∃ N13, LL.length + ([⟨⟨n_history, 4, hi.length, [], HW⟩, .slice none 0 0⟩] : List PV).length = N13 := ⟨_, rfl⟩
 rw [hN13] at hrr hP13
 have HR := hid hrr
 have hw13 : Fr (fun _ => False) W1 w13 := absorbP ((uh HP11).2.1.trans hf12 (fun _ _ h => h)) hf13 (fun i hi => ((uh HP11).1.lt i hi).1)
 have hb13 : Bl 0 W1.heap.size (LL ++ [⟨⟨n_history, 4, hi.length, [], HW⟩, .slice none 0 0⟩]) := Bl.app (uh HP11).2.2.1 Bl.one
 have hm13 : (LL ++ ([⟨⟨n_history, 4, hi.length, [], HW⟩, .slice none 0 0⟩] : List PV)).map PV.p = LL.map PV.p ++ [⟨n_history, 4, hi.length, [], HW⟩] := by rw [List.map_append]; rfl
 have hl13 : (LL ++ ([⟨⟨n_history, 4, hi.length, [], HW⟩, .slice none 0 0⟩] : List PV)).length = LL.length + 1 := by simp
 have HP13 := hid (And.intro hP13 (And.intro hw13 (And.intro hb13 (And.intro hm13 hl13))))
 clear hrr hP13 hf13 hw13 hb13 hm13 hl13 hXi hf12 c6' hN13
 go_wp2_with ((with_reducible refine wpList_at 32 ?_); refine wpList_appY rfl (.tmp 26) (.tmp 31) 74 74 rfl _ _ _ rfl rfl (uh HR) ?_)
 clear HR
 go_loopw [3, 4] (fun tv iv wr => ∃ (i : Nat) (L : List PV), i ≤ hi.length ∧ iv = .int .i64 (i : Nat) ∧ PL wr W1.heap.size tv L ∧ L.length = LL.length + 1 + 4 * i ∧ L.map PV.p = LL.map PV.p ++ (⟨n_history, 4, hi.length, [], HW⟩ :: (hi.take i).flatMap summaryP) ∧ Bl 0 W1.heap.size L ∧ Fr (fun _ => False) W1 wr) (fun _ iv _ => hi.length - (intOf iv).toNat)
 case atStart => exact ⟨0, _, Nat.zero_le _, rfl, (uh HP13).1, (uh HP13).2.2.2.2, (uh HP13).2.2.2.1, (uh HP13).2.2.1, (uh HP13).2.1⟩
 case round =>
  obtain ⟨i, L, hi', rfl, hP, hLl, hLm, hLb, hf⟩ := hrel
  rename World => wr
  clear HP13
  have c6' := (uh HB) wr hf 6 _ rfl
  have hw1 := wrapP i (by have := (uh HX).2.2.2.2; omega)
  by_cases hlt : i < hi.length
  ·obtain ⟨hok, g, o, rfl, -, k0, k1, k2, k3⟩ := (uh HX).2.2.2.1.el i _ (List.getElem?_eq_getElem hlt)
   obtain ⟨H0, hH0⟩ : ∃ H0, hi[i] = H0 := ⟨_, rfl⟩
   rw [hH0] at hok k0 k1 k2 k3
   have hgo : summaryP H0 = [⟨n_author, 4, H0.au, [], 0⟩, ⟨n_event, 4, H0.ev, [], 0⟩, ⟨n_many, 4, H0.fi, [], 0⟩, ⟨n_gone, 1, H0.gone, [], 0⟩] := rfl
   obtain ⟨G, hG⟩ : ∃ G, H0.gone = G := ⟨_, rfl⟩
   rw [hG] at hgo
   have hGv : G = if H0.re = true then 1 else 0 := hG.symm
   obtain ⟨au, ev, fi, rb⟩ := H0
   simp only at k0 k1 k2 k3 hgo hGv
   have hfw := (uh HF1).trans hf (fun _ _ h => h)
   have HRs := hid (show wr.rangeAt g (o + i * 4) [.int .u32 (au : Nat), .int .u32 (ev : Nat), .int .u32 (fi : Nat), .bool rb] from fun j v hv => by
    match j, hv with
    | 0, hv => rw [← show some _ = some v by simpa using hv]; exact (hfw.cell (p := ⟨g, o + i * 4, none⟩) (ltC k0) (fun h => h)).trans k0
    | 1, hv => rw [← show some _ = some v by simpa using hv]; exact (hfw.cell (p := ⟨g, o + i * 4 + 1, none⟩) (ltC k1) (fun h => h)).trans k1
    | 2, hv => rw [← show some _ = some v by simpa using hv]; exact (hfw.cell (p := ⟨g, o + i * 4 + 2, none⟩) (ltC k2) (fun h => h)).trans k2
    | 3, hv => rw [← show some _ = some v by simpa using hv]; exact (hfw.cell (p := ⟨g, o + i * 4 + 3, none⟩) (ltC k3) (fun h => h)).trans k3)
   obtain ⟨h6, h7, h8⟩ := hok
   simp only at h6 h7 h8
   have HG := hid (And.intro hgo (And.intro hH0 hGv))
   have HI := hid (And.intro hP (And.intro hLl (And.intro hLm (And.intro hLb hf))))
   have hlt2 : (i : Int) < (hi.length : Int) := Int.ofNat_lt.2 hlt
   have hcap : (i : Int) < (yc : Int) := Int.ofNat_lt.2 (Nat.lt_of_lt_of_le hlt (uh HX).2.2.2.1.cap)
   obtain ⟨Wb, hst, hbS, hfS⟩ := st_all (P := Tryz.prog) (W := wr.alloc (.cells #[.int .u32 0, .int .u32 0, .int .u32 0, .bool false] 161)) (g := wr.heap.size) (t := 161) (ty := 161) [.int .u32 0, .int .u32 0, .int .u32 0, .bool false] [.int .u32 (au : Nat), .int .u32 (ev : Nat), .int .u32 (fi : Nat), .bool rb] (heap_alloc_new wr _) rfl Tryz.sizeSmP (by simp [Value.oneCell'])
   have HST := hid hst
   have hfb : Fr (fun _ => False) wr Wb := absorbP (box1 wr _) hfS (fun j hj => by rw [hj]; exact Nat.le_refl _)
   have d3 : Wb.cell? ⟨wr.heap.size, 3, none⟩ = some (.bool rb) := cOB hbS rfl
   have hown : ∀ k, u3.ownBlock = some k → k < wr.heap.size := fun k hk => (hP.lt k hk).2
   have HSS : Hid (∀ W', Fr (fun k => u3.ownBlock = some k) Wb W' → W'.cell? ⟨wr.heap.size, 0, none⟩ = some (.int .u32 (au : Nat)) ∧ W'.cell? ⟨wr.heap.size, 1, none⟩ = some (.int .u32 (ev : Nat)) ∧ W'.cell? ⟨wr.heap.size, 2, none⟩ = some (.int .u32 (fi : Nat))) := hid (fun W' hf => by
    have hb := (hf.block _ (lt_of_block hbS) (fun h => Nat.lt_irrefl _ (hown _ h))).trans hbS
    exact ⟨cOB hb rfl, cOB hb rfl, cOB hb rfl⟩)
   have HSS' : Hid (∀ W', Fr (fun _ => False) Wb W' → W'.cell? ⟨wr.heap.size, 0, none⟩ = some (.int .u32 (au : Nat)) ∧ W'.cell? ⟨wr.heap.size, 1, none⟩ = some (.int .u32 (ev : Nat)) ∧ W'.cell? ⟨wr.heap.size, 2, none⟩ = some (.int .u32 (fi : Nat))) := hid (fun W' hf => (uh HSS) W' (hf.mono (fun _ _ h => h.elim)))
   have HFb := hid hfb
   clear hst hbS hfS hfb hP hLl hLm hLb hf hfw hgo hG hH0 k0 k1 k2 k3 hGv hown
   go_upto_if 46 with (first | ((with_reducible refine wpList_at 44 ?_); refine wpList_load_mid rfl 161 (.tmp 43) rfl g (o + i * 4) rfl _ _ (uh HRs) Tryz.underlying161 rfl Tryz.sizeSmP ?_) | ((with_reducible refine wpList_stN' ?_); refine wpList_stN rfl 161 (.tmp 5) (.tmp 44) rfl _ _ rfl rfl (uh HST) ?_))
   (try simp only [Act.put, nrm])
   clear HST HRs c6'
   go_cut [6] from 45 to 46 (fun s wx => s = .int .u64 (G : Nat) ∧ wx = Wb)
   case first =>
    cases rb
    ·have hG0 : ((G : Nat) : Int) = 0 := by rw [(uh HG).2.2]; rfl
     go_wp2_with fail
     go_meet
     case rel => exact ⟨by rw [hG0], rfl⟩
    ·have hG1 : ((G : Nat) : Int) = 1 := by rw [(uh HG).2.2]; rfl
     go_wp2_with fail
     go_meet
     case rel => exact ⟨by rw [hG1], rfl⟩
   case rest =>
    obtain ⟨rfl, hwx⟩ := hcut
    obtain rfl := hwx.symm
    clear d3
    go_wp2_with fail
    refine wp_region_held_drew (S := (fun W : World => W.cell? ⟨wr.heap.size, 0, none⟩ = some (.int .u32 (au : Nat)) ∧ W.cell? ⟨wr.heap.size, 1, none⟩ = some (.int .u32 (ev : Nat)) ∧ W.cell? ⟨wr.heap.size, 2, none⟩ = some (.int .u32 (fi : Nat)))) (by kernel_rfl) ((uh HSS') _ (Fr.refl _ _).drew) (fun hHeld => ?_)
    refine wtk2 (i := 0) rfl hHeld ?_
    (try simp only [Act.put, nrm])
    refine wtk2 (i := 1) rfl hHeld ?_
    (try simp only [Act.put, nrm])
    refine wtk2 (i := 2) rfl hHeld ?_
    (try simp only [Act.put, nrm])
    refine wtk2 (i := 4) rfl hHeld ?_
    (try simp only [Act.put, nrm])
    refine wtk2 (i := 5) rfl hHeld ?_
    (try simp only [Act.put, nrm])
    refine wtk2 (i := 7) rfl hHeld ?_
    (try simp only [Act.put, nrm])
    refine wtk2 (i := 8) rfl hHeld ?_
    (try simp only [Act.put, nrm])
    refine wtk2 (i := 10) rfl hHeld ?_
    (try simp only [Act.put, nrm])
    refine wtk2 (i := 11) rfl hHeld ?_
    (try simp only [Act.put, nrm])
    refine wpAnyH_ready (rs := [3]) (by kernel_rfl) (by simp) (AllReadyH.cons rfl (fun K hK => ?_) AllReadyH.nil)
    go_simp
    refine (gu32_any n_author au h6 _).mono ?_
    rintro e w5 ⟨rfl, hf5⟩
    have hr5 : Fr (fun _ => False) _ w5 := (Fr.refl _ _).drew.trans hf5 (fun _ _ h => h)
    try dsimp only
    (try clear hHeld)
    refine hK.out _ _ ((uh HSS') _ hr5) (fun hHeld => ?_)
    clear hK K
    (try simp only [Act.put, nrm])
    refine wpAnyH_ready (rs := [6]) (by kernel_rfl) (by simp) (AllReadyH.cons rfl (fun K hK => ?_) AllReadyH.nil)
    go_simp
    refine (gu32_any n_event ev h7 _).mono ?_
    rintro e w6' ⟨rfl, hf6⟩
    have hr6 : Fr (fun _ => False) _ w6' := hr5.trans hf6 (fun _ _ h => h)
    try dsimp only
    (try clear hHeld)
    refine hK.out _ _ ((uh HSS') _ hr6) (fun hHeld => ?_)
    clear hK K
    (try simp only [Act.put, nrm])
    refine wpAnyH_ready (rs := [9]) (by kernel_rfl) (by simp) (AllReadyH.cons rfl (fun K hK => ?_) AllReadyH.nil)
    go_simp
    refine (gu32_any n_many fi h8 _).mono ?_
    rintro e w7 ⟨rfl, hf7⟩
    have hr7 : Fr (fun _ => False) _ w7 := hr6.trans hf7 (fun _ _ h => h)
    try dsimp only
    (try clear hHeld)
    refine hK.out _ _ ((uh HSS') _ hr7) (fun hHeld => ?_)
    clear hK K
    (try simp only [Act.put, nrm])
    have hP7 := (uh HI).1.fr0 ((uh HFb).trans hr7 (fun _ _ h => h))
    have hXx : ∀ q ∈ ([⟨⟨n_author, 4, au, [], 0⟩, .slice none 0 0⟩, ⟨⟨n_event, 4, ev, [], 0⟩, .slice none 0 0⟩, ⟨⟨n_many, 4, fi, [], 0⟩, .slice none 0 0⟩, ⟨⟨n_gone, 1, G, [], 0⟩, .slice none 0 0⟩] : List PV), q.x = .slice none 0 0 := fun q hq => by
     simp only [List.mem_cons, List.not_mem_nil, or_false] at hq
     rcases hq with rfl | rfl | rfl | rfl <;> rfl
    have hXi : ∀ q ∈ ([⟨⟨n_author, 4, au, [], 0⟩, .slice none 0 0⟩, ⟨⟨n_event, 4, ev, [], 0⟩, .slice none 0 0⟩, ⟨⟨n_many, 4, fi, [], 0⟩, .slice none 0 0⟩, ⟨⟨n_gone, 1, G, [], 0⟩, .slice none 0 0⟩] : List PV), q.In w7 := fun q hq => by
     simp only [List.mem_cons, List.not_mem_nil, or_false] at hq
     rcases hq with rfl | rfl | rfl | rfl <;> exact nil_in _ _ rfl
    obtain ⟨a8, c8, w8, hrr, hP8, hf8⟩ := hP7.add (Nat.le_trans (uh HI).2.2.2.2.size (Nat.le_trans (uh HFb).size hr7.size)) _ hXi (Bl.far hP7 (Bl.nilx 0 w7.heap.size hXx) (Nat.zero_le _) (Nat.le_refl _)) (by have h1 := (uh HI).2.1; have h2 := (uh HP11).2.2.2.1; have h3 := (uh HX).2.2.1; have h4 := (uh HX).2.2.2.2; exact lim4 h1 h2 h3 h4 hlt)
    obtain ⟨N8, hN8⟩ : ∃ N8, L.length + ([⟨⟨n_author, 4, au, [], 0⟩, .slice none 0 0⟩, ⟨⟨n_event, 4, ev, [], 0⟩, .slice none 0 0⟩, ⟨⟨n_many, 4, fi, [], 0⟩, .slice none 0 0⟩, ⟨⟨n_gone, 1, G, [], 0⟩, .slice none 0 0⟩] : List PV).length = N8 := ⟨_, rfl⟩
    rw [hN8] at hrr hP8
    have hr' : (Builtin.append_ #[74, 74] 74 #[u3, .slice (some ⟨w7.heap.size, 0, none⟩) 4 4]).run Tryz.prog (w7.alloc (.cells #[.string n_author, .int .i64 4, .int .u64 (au : Nat), .slice none 0 0, .int .i64 0, .string n_event, .int .i64 4, .int .u64 (ev : Nat), .slice none 0 0, .int .i64 0, .string n_many, .int .i64 4, .int .u64 (fi : Nat), .slice none 0 0, .int .i64 0, .string n_gone, .int .i64 1, .int .u64 (G : Nat), .slice none 0 0, .int .i64 0] 110)) = .ok (.slice a8 N8 c8) w8 := hrr
    have HR := hid hr'
    have hr8 : Fr (fun k => u3.ownBlock = some k) Wb w8 := (hr7.mono (fun _ _ h => h.elim)).trans hf8 (fun _ _ h => h)
    have hw8 : Fr (fun _ => False) W1 w8 := absorbP (((uh HI).2.2.2.2.trans (uh HFb) (fun _ _ h => h)).trans hr7 (fun _ _ h => h)) hf8 (fun j hj => (hP7.lt j hj).1)
    have hm8 : (L ++ ([⟨⟨n_author, 4, au, [], 0⟩, .slice none 0 0⟩, ⟨⟨n_event, 4, ev, [], 0⟩, .slice none 0 0⟩, ⟨⟨n_many, 4, fi, [], 0⟩, .slice none 0 0⟩, ⟨⟨n_gone, 1, G, [], 0⟩, .slice none 0 0⟩] : List PV)).map PV.p = LL.map PV.p ++ (⟨n_history, 4, hi.length, [], HW⟩ :: (hi.take (i + 1)).flatMap summaryP) := by
     rw [List.map_append, (uh HI).2.2.1, hist_take hi i hlt, (uh HG).2.1, (uh HG).1, List.append_assoc]
     rfl
    have hl8 : (L ++ ([⟨⟨n_author, 4, au, [], 0⟩, .slice none 0 0⟩, ⟨⟨n_event, 4, ev, [], 0⟩, .slice none 0 0⟩, ⟨⟨n_many, 4, fi, [], 0⟩, .slice none 0 0⟩, ⟨⟨n_gone, 1, G, [], 0⟩, .slice none 0 0⟩] : List PV)).length = LL.length + 1 + 4 * (i + 1) := by rw [List.length_append, (uh HI).2.1]; exact (Nat.add_assoc _ _ _)
    have hbl8 : Bl 0 W1.heap.size (L ++ ([⟨⟨n_author, 4, au, [], 0⟩, .slice none 0 0⟩, ⟨⟨n_event, 4, ev, [], 0⟩, .slice none 0 0⟩, ⟨⟨n_many, 4, fi, [], 0⟩, .slice none 0 0⟩, ⟨⟨n_gone, 1, G, [], 0⟩, .slice none 0 0⟩] : List PV)) := Bl.app (uh HI).2.2.2.1 (Bl.nilx _ _ hXx)
    have HZ := hid (And.intro hP8 (And.intro hl8 (And.intro hm8 (And.intro hbl8 hw8))))
    clear hrr hr' hP8 hf8 hm8 hl8 hw8 hXx hXi hP7 hN8 hbl8
    refine wpAnyH_ready (rs := [12]) (by kernel_rfl) (by simp) (AllReadyH.cons rfl (fun K hK => ?_) AllReadyH.nil)
    go_simp
    (try clear hHeld)
    refine hK.out _ _ ((uh HSS') _ (hr7.alloc _)) (fun hHeld => ?_)
    clear hK K
    (try simp only [Act.put, nrm])
    refine wpAnyH_ready (rs := [13]) (by kernel_rfl) (by simp) (AllReadyH.cons rfl (fun K hK => ?_) AllReadyH.nil)
    refine step_app rfl (.tmp 47) (.tmp 59) 74 74 rfl _ _ _ (by simp [Act.eval]) (by simp [Act.eval]) (uh HR) ?_
    (try clear hHeld)
    refine hK.out _ _ ((uh HSS) _ hr8) (fun hHeld => ?_)
    clear hK K
    (try simp only [Act.put, nrm])
    refine wtk2 (i := 14) rfl hHeld ?_
    (try simp only [Act.put, nrm])
    refine wpAnyH_done (by kernel_rfl) ?_ _
    clear hHeld
    clear hr5 hr6 hr7 hr8 hf5 hf6 hf7 HR HSS HSS'
    go_wp2_with fail
    go_roundw
    case rel => exact ⟨i + 1, _, hlt, congrArg (Value.int .i64) hw1, (uh HZ).1, (uh HZ).2.1, (uh HZ).2.2.1, (uh HZ).2.2.2.1, (uh HZ).2.2.2.2⟩
    case measure => exact measI hw1 hlt
  ·obtain rfl : i = hi.length := Nat.le_antisymm hi' (Nat.le_of_not_lt hlt)
   clear hw1
   have hmp : L.map PV.p = RD := by
    rw [hLm, List.take_length, (uh HP11).2.2.2.2, ← uh HRD, ← uh HHW, List.append_assoc]
    rfl
   have hln : L.length ≤ 4 * fs.length + 4 * hi.length + 7 := by have := (uh HP11).2.2.2.1; omega
   have HZ := hid (And.intro (hP.base (base' := w.heap.size) (Nat.le_of_lt hlt1)) (And.intro hmp (And.intro hln (And.intro (Bl.mono hLb (Nat.le_refl _) (Nat.le_of_lt hlt1)) ((uh HF1).trans hf (fun _ _ h => h))))))
   clear hP hLl hLm hLb hf hmp hln
   go_wp2_with fail
   go_ret
   exact ⟨_, L, rfl, (uh HZ).1, (uh HZ).2.1, (uh HZ).2.2.1, (uh HZ).2.2.2.1, (uh HZ).2.2.2.2⟩
set_option linter.unusedSimpArgs false
theorem beq_castN (m : Nat) : (((m : Nat) : Int) == 0) = !(m != 0) := by
 rw [Bool.eq_iff_iff]
 simp
set_option maxRecDepth 100000 in
set_option maxHeartbeats 2000000 in
theorem gemptyRequest_any (v : RqM) (xo : Option Addr) (xc : Nat) (w : World) (hv : v.ok) (hn : v.fs.length < 9223372036854775808) : Calls Tryz.prog 122 #[.agg (v.vals (.slice xo v.fs.length xc))] w fun e w' => e = .returned (.bool (!v.is)) ∧ Fr (fun _ => False) w w' := by
 obtain ⟨cl, nu, ac, op, re, ve, wa, ow, fs, rs⟩ := v
 obtain ⟨h1, h2, h3, h4, h5, h6, h7, h8, h9⟩ := hv
 simp only [RqM.vals] at *
 obtain ⟨n, hfs⟩ : ∃ n, fs.length = n := ⟨_, rfl⟩
 rw [hfs] at hn ⊢
 go_enter Tryz.func122, Tryz.ntmps122
 go_wp2_with fail
 all_goals
  go_ret
  refine ⟨?_, box1 _ _⟩
  simp_all [RqM.is]
set_option maxRecDepth 100000 in
set_option maxHeartbeats 2000000 in
theorem gemptyAnswer_any (v : AnM) (xo : Option Addr) (xc : Nat) (yo : Option Addr) (yc : Nat) (w : World) (hv : v.ok) (hn : v.fs.length < 9223372036854775808) (hm : v.hi.length < 9223372036854775808) : Calls Tryz.prog 123 #[.agg (v.vals (.slice xo v.fs.length xc) (.slice yo v.hi.length yc))] w fun e w' => e = .returned (.bool (!v.is)) ∧ Fr (fun _ => False) w w' := by
 obtain ⟨cl, nu, co, re, ve, fs, hi⟩ := v
 obtain ⟨h1, h2, h3, h4, h5⟩ := hv
 simp only [AnM.vals] at *
 obtain ⟨n, hfs⟩ : ∃ n, fs.length = n := ⟨_, rfl⟩
 obtain ⟨m, hhi⟩ : ∃ m, hi.length = m := ⟨_, rfl⟩
 rw [hfs] at hn ⊢
 rw [hhi] at hm ⊢
 go_enter Tryz.func123, Tryz.ntmps123
 go_wp2_with fail
 all_goals
  go_ret
  refine ⟨?_, box1 _ _⟩
  simp_all [AnM.is, beq_castN]
set_option maxRecDepth 100000 in
set_option maxHeartbeats 2000000 in
theorem gemptyEvent_any (v : EvM) (xo : Option Addr) (xc : Nat) (yo : Option Addr) (yc : Nat) (w : World) (hv : v.ok) (hn : v.rq.fs.length < 9223372036854775808) (hm : v.dg.length < 9223372036854775808) : Calls Tryz.prog 124 #[.agg (v.vals (.slice xo v.rq.fs.length xc) (.slice yo v.dg.length yc))] w fun e w' => e = .returned (.bool (!v.is)) ∧ Fr (fun _ => False) w w' := by
 obtain ⟨pl, rq, co, dg⟩ := v
 obtain ⟨h1, h2, h3⟩ := hv
 simp only at h1 h2 h3 hn hm
 have HR : Hid (∀ wx, Calls Tryz.prog 122 #[.agg (rq.vals (.slice xo rq.fs.length xc))] wx fun e w' => e = .returned (.bool (!rq.is)) ∧ Fr (fun _ => False) wx w') := fun wx => gemptyRequest_any rq xo xc wx h2 hn
 obtain ⟨B, hB⟩ : ∃ B, rq.is = B := ⟨_, rfl⟩
 simp only [RqM.vals, hB] at HR
 have HB := hid hB
 clear hB
 simp only [EvM.vals]
 obtain ⟨m, hdg⟩ : ∃ m, dg.length = m := ⟨_, rfl⟩
 rw [hdg] at hm ⊢
 go_enter Tryz.func124, Tryz.ntmps124
 go_wp2_with (go_at_call 122; refine ((uh HR) _).mono ?_; rintro e w1 ⟨rfl, hf1⟩; have HF := hid ((box1 w _).trans hf1 (fun _ _ h => h)); clear hf1)
 all_goals
  go_ret
  refine ⟨?_, ?_⟩
  ·have hB := uh HB
   clear HB HR
   simp_all [EvM.is, beq_castN]
  ·first | exact uh HF | exact box1 _ _
theorem Stp.box {w w' : World} {F : Nat → Prop} {g t t' : Nat} {vs vs' : Array Value} (hf : Fr (fun k => k = g) w w') (hb : w.heap[g]? = some (.cells vs t)) (hb' : w'.heap[g]? = some (.cells vs' t')) : Stp w w' F F (fun k _ => k = g) := by
 refine ⟨hf.mono (fun k _ h => .inr ⟨0, h⟩), fun _ h => .inl h, fun k i hk _ hp => hf.cell (p := ⟨k, i, none⟩) hk hp, fun k i hk _ => ?_⟩
 by_cases e : k = g
 ·subst e
  simp [World.frozen?, hb, hb']
 ·exact hf.frozen (p := ⟨k, i, none⟩) hk e
structure MsW (w : World) (base : Nat) (v : MsM) (y0 y1 y2 y3 y4 : Value) (F : Nat → Prop) : Prop where
 o0 : OwV w base y0 v.rq.fs F
 o1 : OwV w base y1 v.an.fs F
 o2 : OwZ w base y2 v.an.hi F
 o3 : OwV w base y3 v.ev.rq.fs F
 o4 : OwB w base y4 v.ev.dg F
theorem MsW.stp {w w' : World} {base : Nat} {v : MsM} {y0 y1 y2 y3 y4 : Value} {F F' : Nat → Prop} {P : Nat → Nat → Prop} (h : MsW w base v y0 y1 y2 y3 y4 F) (hs : Stp w w' F F' P) (hP : ∀ k j, base ≤ k → k < w.heap.size → ¬ P k j) : MsW w' base v y0 y1 y2 y3 y4 F' := ⟨h.o0.stp hs hP, h.o1.stp hs hP, h.o2.stp hs hP, h.o3.stp hs hP, h.o4.stp hs hP⟩
theorem MsW.fin {w : World} {b b' : Nat} {v : MsM} {y0 y1 y2 y3 y4 : Value} {F : Nat → Prop} (h : MsW w b v y0 y1 y2 y3 y4 F) (hb : b' ≤ b) : MsW w b' v y0 y1 y2 y3 y4 (fun _ => False) := ⟨h.o0.fin hb, h.o1.fin hb, h.o2.fin hb, h.o3.fin hb, h.o4.fin hb⟩
theorem MsW.one {w : World} {b : Nat} {v : MsM} {y0 y1 y2 y3 y4 : Value} {F : Nat → Prop} (h : MsW w b v y0 y1 y2 y3 y4 F) : ∀ u ∈ (v.vals y0 y1 y2 y3 y4).toList, u.oneCell' = true := by
 have h0 := own_one2 h.o0.row
 have h1 := own_one2 h.o1.row
 have h2 := own_one2 h.o2.row
 have h3 := own_one2 h.o3.row
 have h4 := own_one2 h.o4.row
 exact List.all_eq_true.1 (show List.all (v.vals y0 y1 y2 y3 y4).toList (fun v => v.oneCell') = true by simp [MsM.vals, Value.oneCell']; exact ⟨h0, h1, h2, h3, h4⟩)
def zAL : List Value := [.int .u32 0, .int .u32 0, .int .u32 0, .int .u8 0, .int .u32 0, .int .u32 0, .int .u32 0, .int .u32 0, .slice none 0 0, .string ⟨#[]⟩, .int .u32 0, .int .u32 0, .int .u8 0, .int .u32 0, .int .u32 0, .slice none 0 0, .slice none 0 0, .int .u32 0, .int .u32 0, .int .u32 0, .int .u32 0, .int .u8 0, .int .u32 0, .int .u32 0, .int .u32 0, .int .u32 0, .slice none 0 0, .string ⟨#[]⟩, .int .u8 0, .slice none 0 0, .int .u32 0, .slice none 0 0, .int .u32 0, .slice none 0 0, .int .u32 0, .slice none 0 0, .slice none 0 0, .int .u8 0, .int .u32 0, .int .u32 0, .int .u32 0, .int .u8 0, .int .u32 0, .int .u32 0, .int .u32 0, .int .u32 0, .slice none 0 0, .string ⟨#[]⟩, .int .u32 0, .int .u32 0, .int .u32 0, .int .u32 0, .int .u8 0, .int .u32 0, .int .u32 0, .slice none 0 0, .slice none 0 0, .int .u8 0, .int .u32 0, .int .u32 0, .int .u32 0, .int .u32 0, .int .u8 0, .int .u32 0, .int .u32 0, .int .u32 0, .int .u32 0, .slice none 0 0, .string ⟨#[]⟩, .int .u8 0, .slice none 0 0, .int .u32 0]
theorem Tryz.sizeAny : (Tryz.prog.info? 44).map (·.size) = some 72 := by kernel_rfl
theorem lfit_any (z : Int) (w : World) : Calls Tryz.prog 15 #[.int .i64 z] w fun e w' => (∃ k : Nat, e = .returned (.int .i64 k) ∧ 1 ≤ k ∧ k ≤ 7) ∧ w' = w := by
 have hlo := Int.lt_tmod_of_pos z (b := 7) (by decide)
 have hhi := Int.tmod_lt_of_pos z (b := 7) (by decide)
 go_enter Tryz.func15, Tryz.ntmps15
 go_wp2_with fail
 ·go_ret
  exact ⟨⟨(z.tmod 7 + 7 + 1).toNat, by rw [Int.toNat_of_nonneg (by omega)]; rfl, by omega, by omega⟩, rfl⟩
 ·go_ret
  exact ⟨⟨(z.tmod 7 + 1).toNat, by rw [Int.toNat_of_nonneg (by omega)]; rfl, by omega, by omega⟩, rfl⟩
theorem Tryz.sizeP_Request : (Tryz.prog.info? 30).map (·.size) = some 10 := by kernel_rfl
theorem Tryz.sizeP_Answer : (Tryz.prog.info? 33).map (·.size) = some 7 := by kernel_rfl
theorem Tryz.sizeP_Event : (Tryz.prog.info? 35).map (·.size) = some 13 := by kernel_rfl
theorem Tryz.sizeP_Head : (Tryz.prog.info? 25).map (·.size) = some 2 := by kernel_rfl
theorem Tryz.sizeP_Signed : (Tryz.prog.info? 37).map (·.size) = some 4 := by kernel_rfl
theorem Tryz.sizeP_Proof : (Tryz.prog.info? 40).map (·.size) = some 1 := by kernel_rfl
theorem Tryz.sizeP_Message : (Tryz.prog.info? 42).map (·.size) = some 35 := by kernel_rfl
end Go.Proofs.YtdcopmkgmbiikaaGreatDoor
