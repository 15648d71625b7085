import Derived.Test.YtdcopmkgmbiikaaGreatDoorPw5
import Derived.Test.YtdcopmkgmbiikaaGreatDoorPw8
import Derived.Test.YtdcopmkgmbiikaaGreatDoorKTld
import Derived.Test.YtdcopmkgmbiikaaGreatDoorPw6
import Derived.Test.YtdcopmkgmbiikaaGreatDoorPw2
namespace Go.Proofs.YtdcopmkgmbiikaaGreatDoor
open Go.RowKit
theorem headW_1 : (headW 258 [7]).f = none ∧ (headW 258 [7]).out = [4, 0, 0, 1, 258, 0, 0, 0, 1, 7] := ⟨by kernel_rfl, by kernel_rfl⟩
theorem headR_1 : (headR [4, 0, 0, 1, 2, 0, 0, 0, 1, 7]).1.rq.fin.2.2 = 0 ∧ (headR [4, 0, 0, 1, 2, 0, 0, 0, 1, 7]).2.1 = 258 := ⟨by kernel_rfl, by kernel_rfl⟩
theorem headR_0 : (headR []).1.rq.fin.2.2 = 1 := by kernel_rfl
theorem lit_sl (w : World) (l : List Nat) (vs : Array Value) (t : TypeId) (hv : vs.toList = cellsOf l) (hl : l.length < 9223372036854775808) : SlI (w.alloc (.cells vs t)) (.slice (some ⟨w.heap.size, 0, none⟩) l.length l.length) l := by
 refine ⟨.inr (.inl ⟨w.heap.size, 0, l.length, rfl, fun j v hj => ?_⟩), fun g o m c e => by cases e; simp, hl⟩
 rw [World.cell?_alloc_at _ _ _ _ rfl, Nat.zero_add, ← Array.getElem?_toList, hv]
 exact hj
set_option maxRecDepth 100000 in
theorem awake7 (E : Nat → Addr) (w : World) (hg : G6 w E) (hw : 9 ≤ w.heap.size) :
  Calls Tryz.prog 7 #[] w fun e w' => e = .returned (.bool true) ∧ Fr (fun _ => False) w w' := by
 have H := hid hg
 have HP := hid (putHead 258 [7] (.slice (some ⟨w.heap.size, 0, none⟩) 1 1) E (w.alloc (.cells #[.int .u8 7] 5)) (hg.fr (box1 _ _) (fun _ h => h.elim)) (by simp; omega) (lit_sl w [7] #[.int .u8 7] _ rfl (by decide)) (by decide))
 clear hg
 go_enter Tryz.func7, Tryz.ntmps7
 go_wp2_with fail
 refine (uh HP).mono ?_
 rintro e w1 ⟨v, err, rfl, hown, hE, hf1⟩
 rw [headW_1.1] at hE
 rw [headW_1.2] at hown
 obtain ⟨vo, vc, rfl⟩ := own_form hown
 have hen : err = .nilIface := by
  rcases hE with ⟨_, h⟩ | ⟨h, _⟩
  ·exact h
  ·exact absurd h (by decide)
 subst hen
 have hf01 : Fr (fun _ => False) w w1 := (box1 w _).trans hf1 (fun _ _ h => h)
 have H1 := hid (And.intro hown hf01)
 clear hown hE hf1 hf01
 go_wp2_with fail
 have hfb := box1 w1 (.cells #[.int .u8 4, .int .u8 0, .int .u8 0, .int .u8 1, .int .u8 2, .int .u8 0, .int .u8 0, .int .u8 0, .int .u8 1, .int .u8 7] 5)
 refine (getHead (.slice (some ⟨w1.heap.size, 0, none⟩) 10 10) [4, 0, 0, 1, 2, 0, 0, 0, 1, 7] E _ ((uh H).fr ((uh H1).2.trans hfb (fun _ _ h => h)) (fun _ h => h.elim)) (by have := (uh H1).2.size; simp; omega) (lit_sl w1 [4, 0, 0, 1, 2, 0, 0, 0, 1, 7] _ _ rfl (by decide)).src (by decide)).mono ?_
 rintro e w2 ⟨vs, err2, rfl, hE2, hz2, hr2, hf2⟩
 clear hz2
 obtain ⟨y, rfl, hy⟩ := hr2 headR_1.1
 rw [headR_1.2]
 have hen2 : err2 = .nilIface := by
  rcases hE2 with ⟨_, h⟩ | ⟨h, _⟩
  ·exact h
  ·rw [headR_1.1] at h; exact absurd h (by decide)
 subst hen2
 obtain ⟨yo, yc, rfl⟩ := own_form hy
 generalize (headR [4, 0, 0, 1, 2, 0, 0, 0, 1, 7]).2.2.length = yn at *
 have hf02 := (uh H1).2.trans (hfb.trans hf2 (fun _ _ h => h)) (fun _ _ h => h)
 have hf12 := hfb.trans hf2 (fun _ _ h => h)
 have H2 := hid (And.intro hf02 hf12)
 clear hy hr2 hE2 hf2 hfb hf02 hf12
 go_wp2_with fail
 have hfc := box1 w2 (.cells #[.int .u32 258, .slice yo yn yc] 25)
 refine (getHead (.slice none 0 0) [] E _ ((uh H).fr ((uh H2).1.trans hfc (fun _ _ h => h)) (fun _ h => h.elim)) (by have := (uh H2).1.size; simp; omega) (.inl ⟨rfl, rfl⟩) (by decide)).mono ?_
 rintro e w3 ⟨vs3, err3, rfl, hE3, hz3, hr3, hf3⟩
 obtain rfl := hz3 (by rw [headR_0]; decide)
 obtain ⟨fb, rfl⟩ : ∃ fb, err3 = .iface 78 (.pointer (some ⟨fb, 0, none⟩)) := by
  rcases hE3 with ⟨h, _⟩ | ⟨_, _, fb, h, _⟩
  ·rw [headR_0] at h; exact absurd h (by decide)
  ·exact ⟨fb, h⟩
 have hf13 := (uh H2).2.trans (hfc.trans hf3 (fun _ _ h => h)) (fun _ _ h => h)
 have hf03 := (uh H2).1.trans (hfc.trans hf3 (fun _ _ h => h)) (fun _ _ h => h)
 have hcz : w3.cell? ⟨w2.heap.size, 0, none⟩ = some (.int .u32 258) := (hf3.cell (p := ⟨w2.heap.size, 0, none⟩) (by simp) (fun h => h)).trans (by simp)
 have hlz := ltC hcz
 have hsrc : Src w3 (.slice vo 10 vc) [4, 0, 0, 1, 258, 0, 0, 0, 1, 7] := (own_src (uh H1).1).fr hf13 (fun _ _ _ _ _ h => h)
 have H3 := hid (And.intro hsrc hf03)
 have hS0 : Fr (fun _ => False) w3 w3 := Fr.refl _ _
 clear hz3 hr3 hE3 hf3 hfc hf13 hf03 hsrc
 go_wp2_with fail
 have hfd := box2 w3 (.cells #[.int .u32 0, .slice none 0 0] 25) (.cells #[.int .u8 4, .int .u8 0, .int .u8 0, .int .u8 1, .int .u8 2, .int .u8 0, .int .u8 0, .int .u8 0, .int .u8 1, .int .u8 7] 5)
 have hlit : Src ((w3.alloc (.cells #[.int .u32 0, .slice none 0 0] 25)).alloc (.cells #[.int .u8 4, .int .u8 0, .int .u8 0, .int .u8 1, .int .u8 2, .int .u8 0, .int .u8 0, .int .u8 0, .int .u8 1, .int .u8 7] 5)) (.slice (some ⟨w3.heap.size + 1, 0, none⟩) 10 10) [4, 0, 0, 1, 2, 0, 0, 0, 1, 7] := by
  have := (lit_sl (w3.alloc (.cells #[.int .u32 0, .slice none 0 0] 25)) [4, 0, 0, 1, 2, 0, 0, 0, 1, 7] #[.int .u8 4, .int .u8 0, .int .u8 0, .int .u8 1, .int .u8 2, .int .u8 0, .int .u8 0, .int .u8 0, .int .u8 1, .int .u8 7] 5 rfl (by decide)).src
  simpa using this
 refine (same_any _ _ [4, 0, 0, 1, 258, 0, 0, 0, 1, 7] [4, 0, 0, 1, 2, 0, 0, 0, 1, 7] _ ((uh H3).1.fr hfd (fun _ _ _ _ _ h => h)) hlit (by decide)).mono ?_
 rintro e w4 ⟨rfl, nd, rfl⟩
 have hsb : sameB [4, 0, 0, 1, 258, 0, 0, 0, 1, 7] [4, 0, 0, 1, 2, 0, 0, 0, 1, 7] = true := by decide
 rw [hsb]
 have hfd4 := (Fr.drewN (S := fun _ => False) hfd nd)
 have hcz4 := (hfd4.cell (p := ⟨w2.heap.size, 0, none⟩) hlz (fun h => h)).trans hcz
 have H4 := hid ((uh H3).2.trans hfd4 (fun _ _ h => h))
 clear hlit hsb hfd hfd4
 go_wp2_with fail
 go_ret
 exact ⟨rfl, uh H4⟩
end Go.Proofs.YtdcopmkgmbiikaaGreatDoor
namespace Go.Proofs.YtdcopmkgmbiikaaGreatDoor
open Go.RowKit
end Go.Proofs.YtdcopmkgmbiikaaGreatDoor
namespace Go.Proofs.YtdcopmkgmbiikaaGreatDoor
open Go.RowKit
set_option linter.unusedSimpArgs false
theorem sameB_self (a : List Nat) : sameB a a = true := by
 unfold sameB
 simp
theorem PL.capL {w : World} {base : Nat} {ao : Option Addr} {cap : Nat} {L : List PV} (h : PL w base (.slice ao L.length cap) L) : L.length ≤ cap := by
 rcases h.row.2 with ⟨e, e2⟩ | ⟨g, c, cur, e, _, _, hc, _⟩
 ·have h0 : L.length = 0 := e2
  omega
 ·cases e
  exact hc
structure PutsC (k : Nat) (va : List Value) (E : Nat → Addr) (w : World) (s : Wq) (LP : List PT) : Prop where
 put : ∀ W, G6 W E → 9 ≤ W.heap.size → Fr (fun _ => False) w W → Calls Tryz.prog 16 #[.int .i64 (k : Nat), .agg va.toArray] W fun e W' => PutRes W W' e s E
 parts : ∀ W, Fr (fun _ => False) w W → Calls Tryz.prog 24 #[.int .i64 (k : Nat), .agg va.toArray] W fun e W' => ∃ y L, e = .returned y ∧ PL W' W.heap.size y L ∧ L.map PV.p = LP ∧ L.length ≤ 16777216 ∧ Fr (fun _ => False) W W'
 out : s.out = (putP [k] LP).1
 f : s.f = (putP [k] LP).2
 kinds : ∀ p ∈ LP, (p.k = 1 ∨ p.k = 4 ∨ p.k = 5 ∨ p.k = 6) ∧ p.u < 18446744073709551616 ∧ p.b.length < 9223372036854775808
 bnd : bnd LP ≤ 100000000000000
 len : s.out.length ≤ 140737488355328
set_option maxRecDepth 100000 in
set_option maxHeartbeats 4000000 in
theorem lputs_any (k : Nat) (va : List Value) (E : Nat → Addr) (w : World) (s : Wq) (LP : List PT) (h : PutsC k va E w s LP) (hg : G7 w E) (hw : 9 ≤ w.heap.size) (hva : va.length = 72) (hk : k < 256) :
  Calls Tryz.prog 8 #[.int .i64 (k : Nat), .agg va.toArray] w fun e w' => e = .returned (.bool true) ∧ Fr (fun _ => False) w w' := by
 have HG : Hid (∀ V, Fr (fun _ => False) w V → G7 V E ∧ 9 ≤ V.heap.size) := hid (fun V hf => ⟨hg.fr hf (fun _ h => h.elim), Nat.le_trans hw hf.size⟩)
 have HX : Hid (∀ V, Fr (fun _ => False) (w.alloc (.cells va.toArray 44)) V → V.rangeAt w.heap.size 0 va) := hid (fun V hf => rOB ((hf.block w.heap.size (by simp) (fun h => h)).trans (heap_alloc_new _ _)))
 have HZ : Hid ((Tryz.prog.info? 44).map (·.size) = some va.length) := hid (by rw [hva]; exact Tryz.sizeAny)
 have hbx := box1 w (.cells va.toArray 44)
 have H := hid h
 have HK := hid hk
 clear h hg hw hva hk
 go_enter Tryz.func8, Tryz.ntmps8
 go_upto_region 1 with fail
 obtain ⟨W1, hW1⟩ : ∃ W1, w.alloc (.cells va.toArray 44) = W1 := ⟨_, rfl⟩
 rw [hW1] at HX hbx
 rw [hW1]
 clear hW1
 have HF1 := hid hbx
 clear hbx
 have HR1 := hid ((uh HX) W1 (Fr.refl _ _))
 go_wp2_with ((with_reducible refine wpList_at 11 ?_); refine wpList_load_mid rfl 44 (.tmp 3) rfl w.heap.size 0 rfl _ _ (uh HR1) Tryz.underlying44 rfl (uh HZ) ?_)
 refine ((uh H).put W1 ((uh HG) _ (uh HF1)).1.g6 ((uh HG) _ (uh HF1)).2 (uh HF1)).mono ?_
 rintro e w2 ⟨x, err, rfl, hown, hE, hf2⟩
 have HO := hid (And.intro (own_src hown) (And.intro hE hf2))
 clear hown hE hf2 HR1
 have HR2 := hid ((uh HX) w2 (uh HO).2.2)
 go_wp2_with ((with_reducible refine wpList_at 18 ?_); refine wpList_load_mid rfl 44 (.tmp 3) rfl w.heap.size 0 rfl _ _ (uh HR2) Tryz.underlying44 rfl (uh HZ) ?_)
 refine ((uh H).parts w2 ((uh HF1).trans (uh HO).2.2 (fun _ _ h => h))).mono ?_
 rintro e w3 ⟨y, L, rfl, hP, hm, hl, hf3⟩
 obtain ⟨ao, cap, rfl, _⟩ := hP.formz
 have HP := hid (And.intro hP (And.intro hm (And.intro hl hf3)))
 clear hP hm hl hf3 HR2
 go_wp2_with fail
 refine (gput_any k (uh HK) ao cap L w3 (uh HP).1.capL (uh HP).1.cells (fun q hq => ((uh HP).1.el q hq).1) (fun q hq => (uh H).kinds q.p (by rw [← (uh HP).2.1]; exact List.mem_map.2 ⟨q, hq, rfl⟩)) (by rw [(uh HP).2.1]; exact (uh H).bnd) (uh HP).2.2.1).mono ?_
 rintro e w4 ⟨z, rfl, hown4, hf4⟩
 rw [(uh HP).2.1] at hown4
 have HQ : Hid (ftC (putP [k] (L.map PV.p)).2 = ftC s.f) := hid (by rw [(uh HP).2.1, (uh H).f])
 rw [uh HQ]
 clear HQ
 unfold ftC
 obtain ⟨nm, hnm⟩ : ∃ nm, (ftV s.f).1 = nm := ⟨_, rfl⟩
 obtain ⟨at', hat⟩ : ∃ a, (ftV s.f).2.1 = a := ⟨_, rfl⟩
 obtain ⟨wy, hwy⟩ : ∃ a, (ftV s.f).2.2 = a := ⟨_, rfl⟩
 rw [hnm, hat, hwy]
 have HN := hid (And.intro hnm (And.intro hat hwy))
 clear hnm hat hwy
 obtain ⟨W5, hst, hb5, hf5⟩ := st_all (P := Tryz.prog) (W := w4.alloc (.cells #[.string ⟨#[]⟩, .int .i64 0, .int .i64 0] 55)) (g := w4.heap.size) (t := 55) (ty := 55) [.string ⟨#[]⟩, .int .i64 0, .int .i64 0] [.string nm, .int .i64 (at' : Nat), .int .i64 (wy : Nat)] (heap_alloc_new w4 _) rfl Tryz.sizeFt (by simp [Value.oneCell'])
 have HST := hid hst
 have hf45 : Fr (fun _ => False) w4 W5 := absorbP (box1 w4 _) hf5 (fun i hi => by rw [hi]; exact Nat.le_refl _)
 have hf25 : Fr (fun _ => False) w2 W5 := ((uh HP).2.2.2.trans hf4 (fun _ _ h => h)).trans hf45 (fun _ _ h => h)
 have hz : Src W5 z (putP [k] LP).1 := (own_src hown4).fr hf45 (fun _ _ _ _ _ h => h)
 have hx : Src W5 x (putP [k] LP).1 := by
  rw [← (uh H).out]
  exact (uh HO).1.fr hf25 (fun _ _ _ _ _ h => h)
 have HB := hid (And.intro hb5 (And.intro hf25 (And.intro hx hz)))
 clear hst hb5 hf5 hf45 hf25 hz hx hown4 hf4
 go_upto_region 3 with ((with_reducible refine wpList_stN' ?_); refine wpList_stN rfl 55 (.tmp 8) (.tmp 22) rfl _ _ rfl rfl (uh HST) ?_)
 (try simp only [Act.put, nrm])
 clear HST
 go_wp2_with fail
 refine (same_any x z _ _ W5 (uh HB).2.2.1 (uh HB).2.2.2 (by rw [← (uh H).out]; exact (uh H).len)).mono ?_
 rintro e w6 ⟨rfl, n, rfl⟩
 rw [sameB_self]
 have HR6 : Hid ((W5.drewN n).rangeAt w4.heap.size 0 [.string nm, .int .i64 (at' : Nat), .int .i64 (wy : Nat)]) := hid (rOB (show (W5.drewN n).heap[w4.heap.size]? = _ from (uh HB).1))
 have hfz : Fr (fun _ => False) w (W5.drewN n) := (((uh HF1).trans (uh HO).2.2 (fun _ _ h => h)).trans (uh HB).2.1 (fun _ _ h => h)).drewN n
 have hE : ErrV (W5.drewN n) err (nm, at', wy) E := by
  have e0 : ftV s.f = (nm, at', wy) := by rw [← (uh HN).1, ← (uh HN).2.1, ← (uh HN).2.2]
  rw [← e0]
  exact (uh HO).2.1.fr ((uh HB).2.1.drewN n)
 have HF := hid hfz
 go_wp2_with ((with_reducible refine wpList_at 28 ?_); refine wpList_load_midG rfl 55 (.tmp 8) rfl w4.heap.size 0 rfl _ _ (uh HR6) Tryz.underlying55 rfl Tryz.sizeFt ?_)
 rcases hE with ⟨h0, rfl⟩ | ⟨h1, h7, fb, rfl, hb⟩
 ·simp only at h0
  subst h0
  refine (told_nil nm (at' : Nat) _).mono ?_
  rintro e w7 ⟨rfl, hf7⟩
  have HF7 := hid ((uh HF).trans hf7 (fun _ _ h => h))
  clear hf7
  go_wp2_with fail
  go_ret
  exact ⟨rfl, uh HF7⟩
 ·refine (told_fault wy fb at' nm E _ ((uh HG) _ (uh HF)).1 h1 h7 hb).mono ?_
  rintro e w7 ⟨rfl, hf7⟩
  have HF7 := hid ((uh HF).trans hf7 (fun _ _ h => h))
  clear hf7
  go_wp2_with fail
  go_ret
  exact ⟨rfl, uh HF7⟩
set_option linter.unusedSimpArgs false
def kE (k : Nat) (gone b : Bool) : Nat := if k < 1 ∨ 3 < k ∨ (k = 3 ∧ gone = false) then 5 else kW b
theorem kE5 {k : Nat} {gone b : Bool} (h : k < 1 ∨ 3 < k ∨ (k = 3 ∧ gone = false)) : ((kE k gone b : Nat) : Int) = 5 := by unfold kE; rw [if_pos h]; rfl
theorem kE0 {k : Nat} {gone b : Bool} (h : ¬ (k < 1 ∨ 3 < k ∨ (k = 3 ∧ gone = false))) : ((kE k gone b : Nat) : Int) = (kW b : Nat) := by unfold kE; rw [if_neg h]
theorem k03 (k : Nat) : k = 0 ∨ k = 1 ∨ k = 2 ∨ k = 3 ∨ 3 < k := by omega
theorem k123 (k : Nat) : k = 1 ∨ k = 2 ∨ k = 3 ∨ (k ≠ 1 ∧ k ≠ 2 ∧ k ≠ 3) := by omega
theorem kF1 {k : Nat} (h : k ≠ 1) : ((k : Int) == 1) = false := by simp; omega
theorem kF2 {k : Nat} (h : k ≠ 2) : ((k : Int) == 2) = false := by simp; omega
theorem kF3 {k : Nat} (h : k ≠ 3) : ((k : Int) == 3) = false := by simp; omega
theorem kB1 {k v u : Nat} {t : ByteArray} (hk : k = 1) (hn : v ≠ 0 ∨ u ≠ 0) : kB k v u t = true := decide_eq_true (.inl ⟨hk, hn⟩)
theorem kB1f {k v u : Nat} {t : ByteArray} (hk : k = 1) (hn : ¬ (v ≠ 0 ∨ u ≠ 0)) : kB k v u t = false := decide_eq_false (by rintro (h | h | h) <;> first | exact hn h.2 | omega)
theorem kB2 {k v u : Nat} {t : ByteArray} (hk : k = 2) (ht : ¬ t.toList = []) : kB k v u t = true := decide_eq_true (.inr (.inl ⟨hk, ht⟩))
theorem kB2f {k v u : Nat} {t : ByteArray} (hk : k = 2) (ht : t.toList = []) : kB k v u t = false := decide_eq_false (by rintro (h | h | h) <;> first | exact h.2 ht | omega)
theorem kB3 {k v u : Nat} {t : ByteArray} (hk : k = 3) (hn : v ≠ 0 ∨ u ≠ 0) : kB k v u t = true := decide_eq_true (.inr (.inr ⟨hk, .inl hn⟩))
theorem kB3t {k v u : Nat} {t : ByteArray} (hk : k = 3) (ht : ¬ t.toList = []) : kB k v u t = true := decide_eq_true (.inr (.inr ⟨hk, .inr ht⟩))
theorem kB3f {k v u : Nat} {t : ByteArray} (hk : k = 3) (hn : ¬ (v ≠ 0 ∨ u ≠ 0)) (ht : t.toList = []) : kB k v u t = false := decide_eq_false (by
 rintro (h | h | h)
 ·omega
 ·omega
 ·rcases h.2 with h | h
  ·exact hn h
  ·exact h ht)
theorem kB0 {k v u : Nat} {t : ByteArray} (h1 : k ≠ 1) (h2 : k ≠ 2) (h3 : k ≠ 3) : kB k v u t = false := decide_eq_false (by rintro (h | h | h) <;> omega)
theorem keep3 {w3 W5 w6 : World} {a b c : Nat} {oa ob : Obj} (olds news : List Value) (ha : W5.heap[a]? = some oa) (hb : W5.heap[b]? = some ob) (hc : W5.heap[c]? = some (.cells olds.toArray 110)) (hf5 : Fr (fun _ => False) w3 W5) (hf6 : Fr (fun _ => False) W5 w6) (hac : a ≠ c) (hbc : b ≠ c) (hc3 : w3.heap.size ≤ c) (ho : olds.length = 5) (hl : news.length = 5) (h1 : ∀ v ∈ news, v.oneCell' = true) :
  ∃ w7, (Instr.storeAt 110 (.pointer (some ⟨c, 0, none⟩)) (.agg news.toArray)).run Tryz.prog w6 = .ok () w7 ∧ w7.heap[a]? = some oa ∧ w7.heap[b]? = some ob ∧ w7.heap[c]? = some (.cells news.toArray 110) ∧ Fr (fun _ => False) w3 w7 := by
 obtain ⟨w7, h2, h3, h4⟩ := box_st2 olds news ((hf6.block _ (lt_of_block hc) (fun h => h)).trans hc) ho hl h1
 refine ⟨w7, h2, ?_, ?_, h3, absorbP (hf5.trans hf6 (fun _ _ h => h)) h4 (fun i hi => by rw [hi]; exact hc3)⟩
 ·exact (h4.block a (Nat.lt_of_lt_of_le (lt_of_block ha) hf6.size) hac).trans ((hf6.block _ (lt_of_block ha) (fun h => h)).trans ha)
 ·exact (h4.block b (Nat.lt_of_lt_of_le (lt_of_block hb) hf6.size) hbc).trans ((hf6.block _ (lt_of_block hb) (fun h => h)).trans hb)
def findR (n : Nat) : Code → Option Code
 | .region k ops b => if k = n then some (.region k ops b) else none
 | .seq a b => match findR n a with
  | some c => some c
  | none => findR n b
 | .loop c => findR n c
 | .block _ c => findR n c
 | .scope c => findR n c
 | .cond _ a b => match findR n a with
  | some c => some c
  | none => findR n b
 | _ => none
set_option linter.unusedSimpArgs false
set_option linter.unusedVariables false
noncomputable def reg15C : Code := ((Tryz.f92.body.bind (findR 15)).getD .skip)
set_option maxRecDepth 1000000 in
set_option maxHeartbeats 8000000 in
theorem reg15 (x0 x1 x2 x3 x4 x5 x6 x7 x8 x9 x11 x12 x15 x16 x17 x18 x19 x20 x21 x22 x23 x24 x25 x26 x27 x28 x29 x30 x31 x32 x33 x34 x35 x36 x37 x38 x39 x40 x41 x42 x43 x44 x45 x46 x47 x48 x49 x50 x51 x52 x53 x54 x55 x56 x57 x58 x59 x60 x61 x62 x63 x64 x65 x66 x67 x68 x69 x70 x71 x72 x73 x74 x75 x76 x77 x78 x79 x80 x81 x82 x83 x84 x85 x86 x87 x88 x89 x90 x91 x92 x93 x94 x95 x96 x97 x98 x99 x100 x101 x102 x103 x104 x105 x106 x107 x108 x109 x110 x111 x112 x113 x114 x115 x116 x117 x118 x119 x120 x121 x122 x123 x124 x125 x126 x127 x128 x129 x130 x131 x132 x133 x134 x135 x136 x137 x138 x139 x140 x141 x142 x143 x144 x145 x146 x147 x148 x149 x150 x151 x152 x153 x154 x155 x156 x157 x158 x159 x160 x161 x162 x163 x164 x165 x166 x167 x168 x169 x170 x171 x172 x173 : Value) (bA bB bC nw fv fu fk : Nat) (fn ft : ByteArray) (yo : Option Addr) (yc : Nat) (nb : Bool) (K : Act → World → Prop) (Q : Exit → Act → World → Prop) (w3 W : World)
  (hA : W.heap[bA]? = some (.cells #[.string fn, .int .u8 (fk : Nat), .string ft, .float .f32 fv, .int .u8 (fu : Nat)] 59)) (hB : W.heap[bB]? = some (.cells #[.string n_name, .int .i64 6, .int .u64 0, .slice yo fn.size yc, .int .i64 (nw : Nat)] 110)) (hC : W.heap[bC]? = some (.cells #[.string n_kind, .int .i64 1, .int .u64 (fk : Nat), .slice none 0 0, .int .i64 0] 110)) (hf : Fr (fun _ => False) w3 W) (hne1 : bA ≠ bC) (hne2 : bB ≠ bC) (hc3 : w3.heap.size ≤ bC) (hfk : fk < 256) (hnb : nb = true ↔ (fv ≠ 0 ∨ fu ≠ 0))
  (hK : ∀ (y80 y81 y82 y83 y84 y85 y86 y87 y88 y89 y90 y91 y92 y93 y94 y95 y96 y97 y98 y99 y100 y101 y102 y103 y104 y105 y106 y107 y108 y109 y110 : Value) (w' : World), w'.heap[bA]? = some (.cells #[.string fn, .int .u8 (fk : Nat), .string ft, .float .f32 fv, .int .u8 (fu : Nat)] 59) ∧ w'.heap[bB]? = some (.cells #[.string n_name, .int .i64 6, .int .u64 0, .slice yo fn.size yc, .int .i64 (nw : Nat)] 110) ∧ w'.heap[bC]? = some (.cells #[.string n_kind, .int .i64 1, .int .u64 (fk : Nat), .slice none 0 0, .int .i64 (kW (kB fk fv fu ft) : Nat)] 110) ∧ Fr (fun _ => False) w3 w' → K ⟨#[x0, x1, x2, x3, x4, x5, x6, x7, x8, x9, .pointer (some ⟨bA, 0, none⟩), x11, x12, .pointer (some ⟨bC, 0, none⟩), .bool nb, x15, x16, x17, x18, x19, x20, x21, x22, x23, x24, x25, x26, x27, x28, x29, x30, x31, x32, x33, x34, x35, x36, x37, x38, x39, x40, x41, x42, x43, x44, x45, x46, x47, x48, x49, x50, x51, x52, x53, x54, x55, x56, x57, x58, x59, x60, x61, x62, x63, x64, x65, x66, x67, x68, x69, x70, x71, x72, x73, x74, x75, x76, x77, x78, x79, y80, y81, y82, y83, y84, y85, y86, y87, y88, y89, y90, y91, y92, y93, y94, y95, y96, y97, y98, y99, y100, y101, y102, y103, y104, y105, y106, y107, y108, y109, y110, x111, x112, x113, x114, x115, x116, x117, x118, x119, x120, x121, x122, x123, x124, x125, x126, x127, x128, x129, x130, x131, x132, x133, x134, x135, x136, x137, x138, x139, x140, x141, x142, x143, x144, x145, x146, x147, x148, x149, x150, x151, x152, x153, x154, x155, x156, x157, x158, x159, x160, x161, x162, x163, x164, x165, x166, x167, x168, x169, x170, x171, x172, x173], []⟩ w') :
  Code.wp Tryz.prog reg15C (Exit.then K Q) ⟨#[x0, x1, x2, x3, x4, x5, x6, x7, x8, x9, .pointer (some ⟨bA, 0, none⟩), x11, x12, .pointer (some ⟨bC, 0, none⟩), .bool nb, x15, x16, x17, x18, x19, x20, x21, x22, x23, x24, x25, x26, x27, x28, x29, x30, x31, x32, x33, x34, x35, x36, x37, x38, x39, x40, x41, x42, x43, x44, x45, x46, x47, x48, x49, x50, x51, x52, x53, x54, x55, x56, x57, x58, x59, x60, x61, x62, x63, x64, x65, x66, x67, x68, x69, x70, x71, x72, x73, x74, x75, x76, x77, x78, x79, x80, x81, x82, x83, x84, x85, x86, x87, x88, x89, x90, x91, x92, x93, x94, x95, x96, x97, x98, x99, x100, x101, x102, x103, x104, x105, x106, x107, x108, x109, x110, x111, x112, x113, x114, x115, x116, x117, x118, x119, x120, x121, x122, x123, x124, x125, x126, x127, x128, x129, x130, x131, x132, x133, x134, x135, x136, x137, x138, x139, x140, x141, x142, x143, x144, x145, x146, x147, x148, x149, x150, x151, x152, x153, x154, x155, x156, x157, x158, x159, x160, x161, x162, x163, x164, x165, x166, x167, x168, x169, x170, x171, x172, x173], []⟩ W := by
 have HR := hid (rOB hC)
 have HG5 := hid (And.intro hA (And.intro hB (And.intro hC hf)))
 have d1 : W.cell? ⟨bA, 1, none⟩ = some (.int .u8 (fk : Nat)) := cOB hA rfl
 have d2 : W.cell? ⟨bA, 2, none⟩ = some (.string ft) := cOB hA rfl
 have HK := hid hK
 clear hA hB hC hf hK
 conv => arg 2; whnf
 rcases (show fk = 1 ∨ fk = 2 ∨ fk = 3 ∨ (fk ≠ 1 ∧ fk ≠ 2 ∧ fk ≠ 3) from k123 fk) with rfl | rfl | rfl | ⟨hk1, hk2, hk3⟩
 ·cases nb
  ·have hn : ¬ (fv ≠ 0 ∨ fu ≠ 0) := fun h => Bool.noConfusion (hnb.2 h)
   have ez : ((kW (kB 1 fv fu ft) : Nat) : Int) = 0 := by rw [kB1f rfl hn]; rfl
   (try clear hn)
   (try clear hnb)
   go_wp2_with ((with_reducible refine wpList_at 80 ?_); refine wpList_load_mid rfl 110 (.tmp 13) rfl bC 0 rfl _ _ (uh HR) Tryz.underlying110 rfl Tryz.sizePt ?_)
   refine (gwhy_any n_kind 1 1 0 4 none 0 0 false _).mono ?_
   rintro e w6 ⟨rfl, hf6⟩
   obtain ⟨w7, hst, hX⟩ := keep3 [.string n_kind, .int .i64 1, .int .u64 1, .slice none 0 0, .int .i64 0] [.string n_kind, .int .i64 1, .int .u64 1, .slice none 0 0, .int .i64 0] (uh HG5).1 (uh HG5).2.1 (uh HG5).2.2.1 (uh HG5).2.2.2 hf6 hne1 hne2 hc3 rfl rfl (by simp [Value.oneCell'])
   have HST := hid hst
   have HX7 := hid hX
   clear hst hX hf6
   go_wp2_with (refine wpList_stN rfl 110 (.tmp 13) (.tmp 110) rfl _ _ rfl rfl (uh HST) ?_)
   exact uh HK _ _ _ _ _ _ _ _ _ _ _ _ _ _ _ _ _ _ _ _ _ _ _ _ _ _ _ _ _ _ _ _ ⟨(uh HX7).1, (uh HX7).2.1, by rw [ez]; exact (uh HX7).2.2.1, (uh HX7).2.2.2⟩
  ·have hn : fv ≠ 0 ∨ fu ≠ 0 := hnb.1 rfl
   have ez : ((kW (kB 1 fv fu ft) : Nat) : Int) = 4 := by rw [kB1 rfl hn]; rfl
   (try clear hn)
   (try clear hnb)
   go_wp2_with ((with_reducible refine wpList_at 80 ?_); refine wpList_load_mid rfl 110 (.tmp 13) rfl bC 0 rfl _ _ (uh HR) Tryz.underlying110 rfl Tryz.sizePt ?_)
   refine (gwhy_any n_kind 1 1 0 4 none 0 0 true _).mono ?_
   rintro e w6 ⟨rfl, hf6⟩
   obtain ⟨w7, hst, hX⟩ := keep3 [.string n_kind, .int .i64 1, .int .u64 1, .slice none 0 0, .int .i64 0] [.string n_kind, .int .i64 1, .int .u64 1, .slice none 0 0, .int .i64 4] (uh HG5).1 (uh HG5).2.1 (uh HG5).2.2.1 (uh HG5).2.2.2 hf6 hne1 hne2 hc3 rfl rfl (by simp [Value.oneCell'])
   have HST := hid hst
   have HX7 := hid hX
   clear hst hX hf6
   go_wp2_with (refine wpList_stN rfl 110 (.tmp 13) (.tmp 110) rfl _ _ rfl rfl (uh HST) ?_)
   exact uh HK _ _ _ _ _ _ _ _ _ _ _ _ _ _ _ _ _ _ _ _ _ _ _ _ _ _ _ _ _ _ _ _ ⟨(uh HX7).1, (uh HX7).2.1, by rw [ez]; exact (uh HX7).2.2.1, (uh HX7).2.2.2⟩
 ·by_cases ht : ft.toList = []
  ·have hte := tE ht
   have hte2 := tE2 ht
   have ez : ((kW (kB 2 fv fu ft) : Nat) : Int) = 0 := by rw [kB2f rfl ht]; rfl
   (try clear hn)
   (try clear hnb)
   go_wp2_with ((with_reducible refine wpList_at 80 ?_); refine wpList_load_mid rfl 110 (.tmp 13) rfl bC 0 rfl _ _ (uh HR) Tryz.underlying110 rfl Tryz.sizePt ?_)
   refine (gwhy_any n_kind 1 2 0 4 none 0 0 false _).mono ?_
   rintro e w6 ⟨rfl, hf6⟩
   obtain ⟨w7, hst, hX⟩ := keep3 [.string n_kind, .int .i64 1, .int .u64 2, .slice none 0 0, .int .i64 0] [.string n_kind, .int .i64 1, .int .u64 2, .slice none 0 0, .int .i64 0] (uh HG5).1 (uh HG5).2.1 (uh HG5).2.2.1 (uh HG5).2.2.2 hf6 hne1 hne2 hc3 rfl rfl (by simp [Value.oneCell'])
   have HST := hid hst
   have HX7 := hid hX
   clear hst hX hf6
   go_wp2_with (refine wpList_stN rfl 110 (.tmp 13) (.tmp 110) rfl _ _ rfl rfl (uh HST) ?_)
   exact uh HK _ _ _ _ _ _ _ _ _ _ _ _ _ _ _ _ _ _ _ _ _ _ _ _ _ _ _ _ _ _ _ _ ⟨(uh HX7).1, (uh HX7).2.1, by rw [ez]; exact (uh HX7).2.2.1, (uh HX7).2.2.2⟩
  ·have hte := tN ht
   have hte2 := tN2 ht
   have ez : ((kW (kB 2 fv fu ft) : Nat) : Int) = 4 := by rw [kB2 rfl ht]; rfl
   (try clear hn)
   (try clear hnb)
   go_wp2_with ((with_reducible refine wpList_at 80 ?_); refine wpList_load_mid rfl 110 (.tmp 13) rfl bC 0 rfl _ _ (uh HR) Tryz.underlying110 rfl Tryz.sizePt ?_)
   refine (gwhy_any n_kind 1 2 0 4 none 0 0 true _).mono ?_
   rintro e w6 ⟨rfl, hf6⟩
   obtain ⟨w7, hst, hX⟩ := keep3 [.string n_kind, .int .i64 1, .int .u64 2, .slice none 0 0, .int .i64 0] [.string n_kind, .int .i64 1, .int .u64 2, .slice none 0 0, .int .i64 4] (uh HG5).1 (uh HG5).2.1 (uh HG5).2.2.1 (uh HG5).2.2.2 hf6 hne1 hne2 hc3 rfl rfl (by simp [Value.oneCell'])
   have HST := hid hst
   have HX7 := hid hX
   clear hst hX hf6
   go_wp2_with (refine wpList_stN rfl 110 (.tmp 13) (.tmp 110) rfl _ _ rfl rfl (uh HST) ?_)
   exact uh HK _ _ _ _ _ _ _ _ _ _ _ _ _ _ _ _ _ _ _ _ _ _ _ _ _ _ _ _ _ _ _ _ ⟨(uh HX7).1, (uh HX7).2.1, by rw [ez]; exact (uh HX7).2.2.1, (uh HX7).2.2.2⟩
 ·cases nb
  ·by_cases ht : ft.toList = []
   ·have hn : ¬ (fv ≠ 0 ∨ fu ≠ 0) := fun h => Bool.noConfusion (hnb.2 h)
    have hte := tE ht
    have hte2 := tE2 ht
    have ez : ((kW (kB 3 fv fu ft) : Nat) : Int) = 0 := by rw [kB3f rfl hn ht]; rfl
    (try clear hn)
    (try clear hnb)
    go_wp2_with ((with_reducible refine wpList_at 80 ?_); refine wpList_load_mid rfl 110 (.tmp 13) rfl bC 0 rfl _ _ (uh HR) Tryz.underlying110 rfl Tryz.sizePt ?_)
    refine (gwhy_any n_kind 1 3 0 4 none 0 0 false _).mono ?_
    rintro e w6 ⟨rfl, hf6⟩
    obtain ⟨w7, hst, hX⟩ := keep3 [.string n_kind, .int .i64 1, .int .u64 3, .slice none 0 0, .int .i64 0] [.string n_kind, .int .i64 1, .int .u64 3, .slice none 0 0, .int .i64 0] (uh HG5).1 (uh HG5).2.1 (uh HG5).2.2.1 (uh HG5).2.2.2 hf6 hne1 hne2 hc3 rfl rfl (by simp [Value.oneCell'])
    have HST := hid hst
    have HX7 := hid hX
    clear hst hX hf6
    go_wp2_with (refine wpList_stN rfl 110 (.tmp 13) (.tmp 110) rfl _ _ rfl rfl (uh HST) ?_)
    exact uh HK _ _ _ _ _ _ _ _ _ _ _ _ _ _ _ _ _ _ _ _ _ _ _ _ _ _ _ _ _ _ _ _ ⟨(uh HX7).1, (uh HX7).2.1, by rw [ez]; exact (uh HX7).2.2.1, (uh HX7).2.2.2⟩
   ·have hn : ¬ (fv ≠ 0 ∨ fu ≠ 0) := fun h => Bool.noConfusion (hnb.2 h)
    have hte := tN ht
    have hte2 := tN2 ht
    have ez : ((kW (kB 3 fv fu ft) : Nat) : Int) = 4 := by rw [kB3t rfl ht]; rfl
    (try clear hn)
    (try clear hnb)
    go_wp2_with ((with_reducible refine wpList_at 80 ?_); refine wpList_load_mid rfl 110 (.tmp 13) rfl bC 0 rfl _ _ (uh HR) Tryz.underlying110 rfl Tryz.sizePt ?_)
    refine (gwhy_any n_kind 1 3 0 4 none 0 0 true _).mono ?_
    rintro e w6 ⟨rfl, hf6⟩
    obtain ⟨w7, hst, hX⟩ := keep3 [.string n_kind, .int .i64 1, .int .u64 3, .slice none 0 0, .int .i64 0] [.string n_kind, .int .i64 1, .int .u64 3, .slice none 0 0, .int .i64 4] (uh HG5).1 (uh HG5).2.1 (uh HG5).2.2.1 (uh HG5).2.2.2 hf6 hne1 hne2 hc3 rfl rfl (by simp [Value.oneCell'])
    have HST := hid hst
    have HX7 := hid hX
    clear hst hX hf6
    go_wp2_with (refine wpList_stN rfl 110 (.tmp 13) (.tmp 110) rfl _ _ rfl rfl (uh HST) ?_)
    exact uh HK _ _ _ _ _ _ _ _ _ _ _ _ _ _ _ _ _ _ _ _ _ _ _ _ _ _ _ _ _ _ _ _ ⟨(uh HX7).1, (uh HX7).2.1, by rw [ez]; exact (uh HX7).2.2.1, (uh HX7).2.2.2⟩
  ·have hn : fv ≠ 0 ∨ fu ≠ 0 := hnb.1 rfl
   have ez : ((kW (kB 3 fv fu ft) : Nat) : Int) = 4 := by rw [kB3 rfl hn]; rfl
   (try clear hn)
   (try clear hnb)
   go_wp2_with ((with_reducible refine wpList_at 80 ?_); refine wpList_load_mid rfl 110 (.tmp 13) rfl bC 0 rfl _ _ (uh HR) Tryz.underlying110 rfl Tryz.sizePt ?_)
   refine (gwhy_any n_kind 1 3 0 4 none 0 0 true _).mono ?_
   rintro e w6 ⟨rfl, hf6⟩
   obtain ⟨w7, hst, hX⟩ := keep3 [.string n_kind, .int .i64 1, .int .u64 3, .slice none 0 0, .int .i64 0] [.string n_kind, .int .i64 1, .int .u64 3, .slice none 0 0, .int .i64 4] (uh HG5).1 (uh HG5).2.1 (uh HG5).2.2.1 (uh HG5).2.2.2 hf6 hne1 hne2 hc3 rfl rfl (by simp [Value.oneCell'])
   have HST := hid hst
   have HX7 := hid hX
   clear hst hX hf6
   go_wp2_with (refine wpList_stN rfl 110 (.tmp 13) (.tmp 110) rfl _ _ rfl rfl (uh HST) ?_)
   exact uh HK _ _ _ _ _ _ _ _ _ _ _ _ _ _ _ _ _ _ _ _ _ _ _ _ _ _ _ _ _ _ _ _ ⟨(uh HX7).1, (uh HX7).2.1, by rw [ez]; exact (uh HX7).2.2.1, (uh HX7).2.2.2⟩
 ·have e1 := kF1 hk1
  have e2 := kF2 hk2
  have e3 := kF3 hk3
  have ez : ((kW (kB fk fv fu ft) : Nat) : Int) = 0 := by rw [kB0 hk1 hk2 hk3]; rfl
  (try clear hn)
  (try clear hnb)
  go_wp2_with ((with_reducible refine wpList_at 80 ?_); refine wpList_load_mid rfl 110 (.tmp 13) rfl bC 0 rfl _ _ (uh HR) Tryz.underlying110 rfl Tryz.sizePt ?_)
  refine (gwhy_any n_kind 1 (fk : Nat) 0 4 none 0 0 false _).mono ?_
  rintro e w6 ⟨rfl, hf6⟩
  obtain ⟨w7, hst, hX⟩ := keep3 [.string n_kind, .int .i64 1, .int .u64 (fk : Nat), .slice none 0 0, .int .i64 0] [.string n_kind, .int .i64 1, .int .u64 (fk : Nat), .slice none 0 0, .int .i64 0] (uh HG5).1 (uh HG5).2.1 (uh HG5).2.2.1 (uh HG5).2.2.2 hf6 hne1 hne2 hc3 rfl rfl (by simp [Value.oneCell'])
  have HST := hid hst
  have HX7 := hid hX
  clear hst hX hf6
  go_wp2_with (refine wpList_stN rfl 110 (.tmp 13) (.tmp 110) rfl _ _ rfl rfl (uh HST) ?_)
  exact uh HK _ _ _ _ _ _ _ _ _ _ _ _ _ _ _ _ _ _ _ _ _ _ _ _ _ _ _ _ _ _ _ _ ⟨(uh HX7).1, (uh HX7).2.1, by rw [ez]; exact (uh HX7).2.2.1, (uh HX7).2.2.2⟩
set_option linter.unusedSimpArgs false
set_option linter.unusedVariables false
noncomputable def reg16C : Code := ((Tryz.f92.body.bind (findR 16)).getD .skip)
set_option maxRecDepth 1000000 in
set_option maxHeartbeats 8000000 in
theorem reg16 (x0 x1 x3 x4 x5 x6 x7 x8 x9 x11 x12 x14 x15 x16 x17 x18 x19 x20 x21 x22 x23 x24 x25 x26 x27 x28 x29 x30 x31 x32 x33 x34 x35 x36 x37 x38 x39 x40 x41 x42 x43 x44 x45 x46 x47 x48 x49 x50 x51 x52 x53 x54 x55 x56 x57 x58 x59 x60 x61 x62 x63 x64 x65 x66 x67 x68 x69 x70 x71 x72 x73 x74 x75 x76 x77 x78 x79 x80 x81 x82 x83 x84 x85 x86 x87 x88 x89 x90 x91 x92 x93 x94 x95 x96 x97 x98 x99 x100 x101 x102 x103 x104 x105 x106 x107 x108 x109 x110 x111 x112 x113 x114 x115 x116 x117 x118 x119 x120 x121 x122 x123 x124 x125 x126 x127 x128 x129 x130 x131 x132 x133 x134 x135 x136 x137 x138 x139 x140 x141 x142 x143 x144 x145 x146 x147 x148 x149 x150 x151 x152 x153 x154 x155 x156 x157 x158 x159 x160 x161 x162 x163 x164 x165 x166 x167 x168 x169 x170 x171 x172 x173 : Value) (bA bB bC nw fv fu fk : Nat) (fn ft : ByteArray) (yo : Option Addr) (yc : Nat) (gone KB : Bool) (KW : Nat) (K : Act → World → Prop) (Q : Exit → Act → World → Prop) (w3 W : World)
  (hA : W.heap[bA]? = some (.cells #[.string fn, .int .u8 (fk : Nat), .string ft, .float .f32 fv, .int .u8 (fu : Nat)] 59)) (hB : W.heap[bB]? = some (.cells #[.string n_name, .int .i64 6, .int .u64 0, .slice yo fn.size yc, .int .i64 (nw : Nat)] 110)) (hC : W.heap[bC]? = some (.cells #[.string n_kind, .int .i64 1, .int .u64 (fk : Nat), .slice none 0 0, .int .i64 (KW : Nat)] 110)) (hf : Fr (fun _ => False) w3 W) (hne1 : bA ≠ bC) (hne2 : bB ≠ bC) (hc3 : w3.heap.size ≤ bC) (hfk : fk < 256) (hKW : kW KB = KW)
  (hK : ∀ (y111 y112 y113 y114 y115 y116 y117 y118 y119 y120 y121 y122 y123 y124 y125 y126 y127 y128 y129 : Value) (w' : World), w'.heap[bA]? = some (.cells #[.string fn, .int .u8 (fk : Nat), .string ft, .float .f32 fv, .int .u8 (fu : Nat)] 59) ∧ w'.heap[bB]? = some (.cells #[.string n_name, .int .i64 6, .int .u64 0, .slice yo fn.size yc, .int .i64 (nw : Nat)] 110) ∧ w'.heap[bC]? = some (.cells #[.string n_kind, .int .i64 1, .int .u64 (fk : Nat), .slice none 0 0, .int .i64 (kE fk gone KB : Nat)] 110) ∧ Fr (fun _ => False) w3 w' → K ⟨#[x0, x1, .bool gone, x3, x4, x5, x6, x7, x8, x9, .pointer (some ⟨bA, 0, none⟩), x11, x12, .pointer (some ⟨bC, 0, none⟩), x14, x15, x16, x17, x18, x19, x20, x21, x22, x23, x24, x25, x26, x27, x28, x29, x30, x31, x32, x33, x34, x35, x36, x37, x38, x39, x40, x41, x42, x43, x44, x45, x46, x47, x48, x49, x50, x51, x52, x53, x54, x55, x56, x57, x58, x59, x60, x61, x62, x63, x64, x65, x66, x67, x68, x69, x70, x71, x72, x73, x74, x75, x76, x77, x78, x79, x80, x81, x82, x83, x84, x85, x86, x87, x88, x89, x90, x91, x92, x93, x94, x95, x96, x97, x98, x99, x100, x101, x102, x103, x104, x105, x106, x107, x108, x109, x110, y111, y112, y113, y114, y115, y116, y117, y118, y119, y120, y121, y122, y123, y124, y125, y126, y127, y128, y129, x130, x131, x132, x133, x134, x135, x136, x137, x138, x139, x140, x141, x142, x143, x144, x145, x146, x147, x148, x149, x150, x151, x152, x153, x154, x155, x156, x157, x158, x159, x160, x161, x162, x163, x164, x165, x166, x167, x168, x169, x170, x171, x172, x173], []⟩ w') :
  Code.wp Tryz.prog reg16C (Exit.then K Q) ⟨#[x0, x1, .bool gone, x3, x4, x5, x6, x7, x8, x9, .pointer (some ⟨bA, 0, none⟩), x11, x12, .pointer (some ⟨bC, 0, none⟩), x14, x15, x16, x17, x18, x19, x20, x21, x22, x23, x24, x25, x26, x27, x28, x29, x30, x31, x32, x33, x34, x35, x36, x37, x38, x39, x40, x41, x42, x43, x44, x45, x46, x47, x48, x49, x50, x51, x52, x53, x54, x55, x56, x57, x58, x59, x60, x61, x62, x63, x64, x65, x66, x67, x68, x69, x70, x71, x72, x73, x74, x75, x76, x77, x78, x79, x80, x81, x82, x83, x84, x85, x86, x87, x88, x89, x90, x91, x92, x93, x94, x95, x96, x97, x98, x99, x100, x101, x102, x103, x104, x105, x106, x107, x108, x109, x110, x111, x112, x113, x114, x115, x116, x117, x118, x119, x120, x121, x122, x123, x124, x125, x126, x127, x128, x129, x130, x131, x132, x133, x134, x135, x136, x137, x138, x139, x140, x141, x142, x143, x144, x145, x146, x147, x148, x149, x150, x151, x152, x153, x154, x155, x156, x157, x158, x159, x160, x161, x162, x163, x164, x165, x166, x167, x168, x169, x170, x171, x172, x173], []⟩ W := by
 have HR := hid (rOB hC)
 have HG5 := hid (And.intro hA (And.intro hB (And.intro hC hf)))
 have d1 : W.cell? ⟨bA, 1, none⟩ = some (.int .u8 (fk : Nat)) := cOB hA rfl
 have HK := hid hK
 have HKB := hid (And.intro trivial hKW)
 clear hA hB hC hf hK hKW
 conv => arg 2; whnf
 rcases (show fk = 0 ∨ fk = 1 ∨ fk = 2 ∨ fk = 3 ∨ 3 < fk from k03 fk) with rfl | rfl | rfl | rfl | hk3
 ·have ez : ((kE 0 gone KB : Nat) : Int) = 5 := kE5 (.inl (by omega))
  go_wp2_with ((with_reducible refine wpList_at 111 ?_); refine wpList_load_mid rfl 110 (.tmp 13) rfl bC 0 rfl _ _ (uh HR) Tryz.underlying110 rfl Tryz.sizePt ?_)
  refine (gwhy_any n_kind 1 0 (KW : Nat) 5 none 0 0 true _).mono ?_
  rintro e w8 ⟨rfl, hf8⟩
  obtain ⟨w9, hst, hX⟩ := keep3 [.string n_kind, .int .i64 1, .int .u64 0, .slice none 0 0, .int .i64 (KW : Nat)] [.string n_kind, .int .i64 1, .int .u64 0, .slice none 0 0, .int .i64 5] (uh HG5).1 (uh HG5).2.1 (uh HG5).2.2.1 (uh HG5).2.2.2 hf8 hne1 hne2 hc3 rfl rfl (by simp [Value.oneCell'])
  have HST := hid hst
  have HX9 := hid hX
  clear hst hX hf8
  go_wp2_with (refine wpList_stN rfl 110 (.tmp 13) (.tmp 129) rfl _ _ rfl rfl (uh HST) ?_)
  exact uh HK _ _ _ _ _ _ _ _ _ _ _ _ _ _ _ _ _ _ _ _ ⟨(uh HX9).1, (uh HX9).2.1, by rw [ez]; exact (uh HX9).2.2.1, (uh HX9).2.2.2⟩
 ·have ez : ((kE 1 gone KB : Nat) : Int) = (KW : Nat) := (kE0 (by omega)).trans (by rw [(uh HKB).2])
  go_wp2_with ((with_reducible refine wpList_at 111 ?_); refine wpList_load_mid rfl 110 (.tmp 13) rfl bC 0 rfl _ _ (uh HR) Tryz.underlying110 rfl Tryz.sizePt ?_)
  refine (gwhy_any n_kind 1 1 (KW : Nat) 5 none 0 0 false _).mono ?_
  rintro e w8 ⟨rfl, hf8⟩
  obtain ⟨w9, hst, hX⟩ := keep3 [.string n_kind, .int .i64 1, .int .u64 1, .slice none 0 0, .int .i64 (KW : Nat)] [.string n_kind, .int .i64 1, .int .u64 1, .slice none 0 0, .int .i64 (KW : Nat)] (uh HG5).1 (uh HG5).2.1 (uh HG5).2.2.1 (uh HG5).2.2.2 hf8 hne1 hne2 hc3 rfl rfl (by simp [Value.oneCell'])
  have HST := hid hst
  have HX9 := hid hX
  clear hst hX hf8
  go_wp2_with (refine wpList_stN rfl 110 (.tmp 13) (.tmp 129) rfl _ _ rfl rfl (uh HST) ?_)
  exact uh HK _ _ _ _ _ _ _ _ _ _ _ _ _ _ _ _ _ _ _ _ ⟨(uh HX9).1, (uh HX9).2.1, by rw [ez]; exact (uh HX9).2.2.1, (uh HX9).2.2.2⟩
 ·have ez : ((kE 2 gone KB : Nat) : Int) = (KW : Nat) := (kE0 (by omega)).trans (by rw [(uh HKB).2])
  go_wp2_with ((with_reducible refine wpList_at 111 ?_); refine wpList_load_mid rfl 110 (.tmp 13) rfl bC 0 rfl _ _ (uh HR) Tryz.underlying110 rfl Tryz.sizePt ?_)
  refine (gwhy_any n_kind 1 2 (KW : Nat) 5 none 0 0 false _).mono ?_
  rintro e w8 ⟨rfl, hf8⟩
  obtain ⟨w9, hst, hX⟩ := keep3 [.string n_kind, .int .i64 1, .int .u64 2, .slice none 0 0, .int .i64 (KW : Nat)] [.string n_kind, .int .i64 1, .int .u64 2, .slice none 0 0, .int .i64 (KW : Nat)] (uh HG5).1 (uh HG5).2.1 (uh HG5).2.2.1 (uh HG5).2.2.2 hf8 hne1 hne2 hc3 rfl rfl (by simp [Value.oneCell'])
  have HST := hid hst
  have HX9 := hid hX
  clear hst hX hf8
  go_wp2_with (refine wpList_stN rfl 110 (.tmp 13) (.tmp 129) rfl _ _ rfl rfl (uh HST) ?_)
  exact uh HK _ _ _ _ _ _ _ _ _ _ _ _ _ _ _ _ _ _ _ _ ⟨(uh HX9).1, (uh HX9).2.1, by rw [ez]; exact (uh HX9).2.2.1, (uh HX9).2.2.2⟩
 ·cases gone
  ·have ez : ((kE 3 false KB : Nat) : Int) = 5 := kE5 (.inr (.inr ⟨rfl, rfl⟩))
   go_wp2_with ((with_reducible refine wpList_at 111 ?_); refine wpList_load_mid rfl 110 (.tmp 13) rfl bC 0 rfl _ _ (uh HR) Tryz.underlying110 rfl Tryz.sizePt ?_)
   refine (gwhy_any n_kind 1 3 (KW : Nat) 5 none 0 0 true _).mono ?_
   rintro e w8 ⟨rfl, hf8⟩
   obtain ⟨w9, hst, hX⟩ := keep3 [.string n_kind, .int .i64 1, .int .u64 3, .slice none 0 0, .int .i64 (KW : Nat)] [.string n_kind, .int .i64 1, .int .u64 3, .slice none 0 0, .int .i64 5] (uh HG5).1 (uh HG5).2.1 (uh HG5).2.2.1 (uh HG5).2.2.2 hf8 hne1 hne2 hc3 rfl rfl (by simp [Value.oneCell'])
   have HST := hid hst
   have HX9 := hid hX
   clear hst hX hf8
   go_wp2_with (refine wpList_stN rfl 110 (.tmp 13) (.tmp 129) rfl _ _ rfl rfl (uh HST) ?_)
   exact uh HK _ _ _ _ _ _ _ _ _ _ _ _ _ _ _ _ _ _ _ _ ⟨(uh HX9).1, (uh HX9).2.1, by rw [ez]; exact (uh HX9).2.2.1, (uh HX9).2.2.2⟩
  ·have ez : ((kE 3 true KB : Nat) : Int) = (KW : Nat) := (kE0 (by rintro (h | h | h); omega; omega; exact Bool.noConfusion h.2)).trans (by rw [(uh HKB).2])
   go_wp2_with ((with_reducible refine wpList_at 111 ?_); refine wpList_load_mid rfl 110 (.tmp 13) rfl bC 0 rfl _ _ (uh HR) Tryz.underlying110 rfl Tryz.sizePt ?_)
   refine (gwhy_any n_kind 1 3 (KW : Nat) 5 none 0 0 false _).mono ?_
   rintro e w8 ⟨rfl, hf8⟩
   obtain ⟨w9, hst, hX⟩ := keep3 [.string n_kind, .int .i64 1, .int .u64 3, .slice none 0 0, .int .i64 (KW : Nat)] [.string n_kind, .int .i64 1, .int .u64 3, .slice none 0 0, .int .i64 (KW : Nat)] (uh HG5).1 (uh HG5).2.1 (uh HG5).2.2.1 (uh HG5).2.2.2 hf8 hne1 hne2 hc3 rfl rfl (by simp [Value.oneCell'])
   have HST := hid hst
   have HX9 := hid hX
   clear hst hX hf8
   go_wp2_with (refine wpList_stN rfl 110 (.tmp 13) (.tmp 129) rfl _ _ rfl rfl (uh HST) ?_)
   exact uh HK _ _ _ _ _ _ _ _ _ _ _ _ _ _ _ _ _ _ _ _ ⟨(uh HX9).1, (uh HX9).2.1, by rw [ez]; exact (uh HX9).2.2.1, (uh HX9).2.2.2⟩
 ·have hd1 : decide ((fk : Int) < 1) = false := decide_eq_false (by omega)
  have hd3 : (3 : Int) < (fk : Int) := by omega
  have ez : ((kE fk gone KB : Nat) : Int) = 5 := kE5 (.inr (.inl hk3))
  go_wp2_with ((with_reducible refine wpList_at 111 ?_); refine wpList_load_mid rfl 110 (.tmp 13) rfl bC 0 rfl _ _ (uh HR) Tryz.underlying110 rfl Tryz.sizePt ?_)
  refine (gwhy_any n_kind 1 (fk : Nat) (KW : Nat) 5 none 0 0 true _).mono ?_
  rintro e w8 ⟨rfl, hf8⟩
  obtain ⟨w9, hst, hX⟩ := keep3 [.string n_kind, .int .i64 1, .int .u64 (fk : Nat), .slice none 0 0, .int .i64 (KW : Nat)] [.string n_kind, .int .i64 1, .int .u64 (fk : Nat), .slice none 0 0, .int .i64 5] (uh HG5).1 (uh HG5).2.1 (uh HG5).2.2.1 (uh HG5).2.2.2 hf8 hne1 hne2 hc3 rfl rfl (by simp [Value.oneCell'])
  have HST := hid hst
  have HX9 := hid hX
  clear hst hX hf8
  go_wp2_with (refine wpList_stN rfl 110 (.tmp 13) (.tmp 129) rfl _ _ rfl rfl (uh HST) ?_)
  exact uh HK _ _ _ _ _ _ _ _ _ _ _ _ _ _ _ _ _ _ _ _ ⟨(uh HX9).1, (uh HX9).2.1, by rw [ez]; exact (uh HX9).2.2.1, (uh HX9).2.2.2⟩
set_option linter.unusedSimpArgs false
theorem Tryz.sizeFl : (Tryz.prog.info? 59).map (·.size) = some 5 := by kernel_rfl
structure FI (w wr : World) (tv : Value) (i : Nat) (L : List PV) (c : Nat) (last : Nat) (l : List Fld) : Prop where
 pl : PL wr w.heap.size tv L
 mp : L.map PV.p = ⟨n_fields, 4, l.length, [], c⟩ :: fieldsP1 last ⟨#[]⟩ (l.take i)
 ln : L.length ≤ 4 * i + 1
 bl : Bl 0 w.heap.size L
 fr : Fr (fun _ => False) w wr
theorem FI.next {w wr w' : World} {tv v : Value} {i : Nat} {L X : List PV} {c last : Nat} {l : List Fld} (h : FI w wr tv i L c last l) (hi : i < l.length) (hX : X.map PV.p = namedP last (prevN l i) l[i]) (hp : PL w' w.heap.size v (L ++ X)) (hb : Bl 0 w.heap.size X) (hf : Fr (fun _ => False) w w') (hn : X.length ≤ 4) : FI w w' v (i + 1) (L ++ X) c last l :=
 ⟨hp, by rw [List.map_append, h.mp, hX, fieldsP1_take last l i hi]; rfl, by rw [List.length_append]; have := h.ln; omega, h.bl.app hb, hf⟩
theorem PL.notB {w : World} {base b ty : Nat} {v : Value} {L : List PV} {cs : Array Value} (h : PL w base v L) (hb : w.heap[b]? = some (.cells cs ty)) (ht : ty ≠ 110) : ¬ v.ownBlock = some b := by
 intro e
 rcases h.row.2 with ⟨rfl, _⟩ | ⟨g, cap, cur, rfl, _, hg, _⟩
 ·cases e
 ·cases e
  rw [hb] at hg
  cases hg
  exact ht rfl
def cntW (used : Bool) (n : Nat) : Nat := if 32 < n then 2 else if used = false ∧ 0 < n then 4 else 0
set_option maxRecDepth 100000 in
set_option maxHeartbeats 8000000 in
theorem gfields_any (xo : Option Addr) (xc : Nat) (l : List Fld) (used gone : Bool) (w : World) (hx : FdI w (.slice xo l.length xc) l) (hs : ∀ f ∈ l, f.name.size < 140737488355000 ∧ f.text.size < 140737488355000) (hl : l.length ≤ 1048576) :
  Calls Tryz.prog 92 #[.slice xo l.length xc, .bool used, .bool gone] w fun e w' => ∃ v L, e = .returned v ∧ PL w' w.heap.size v L ∧ L.map PV.p = fieldsD used gone l ∧ L.length ≤ 4 * l.length + 1 ∧ Bl 0 w.heap.size L ∧ Fr (fun _ => False) w w' := by
 obtain ⟨⟨xo', xc', e, hV⟩, hn⟩ := hx
 cases e
 have HV := hid (And.intro hV (And.intro hn hs))
 clear hV hs
 have hleq := leq_str
 have hfb := f32bits
 go_enter Tryz.func92, Tryz.ntmps92
 go_wp2_with fail
 refine (gcount_any n_fields l.length 32 hn _).mono ?_
 rintro e w1 ⟨rfl, hf1⟩
 have HF1 := hid hf1
 clear hf1 hn
 go_upto_if 22 with fail
 go_cut [31] from 17 to 31 (fun _ wx => wx.heap[w1.heap.size]? = some (.cells #[.string n_fields, .int .i64 4, .int .u64 (l.length : Nat), .slice none 0 0, .int .i64 (cntW used l.length : Nat)] 110) ∧ Fr (fun _ => False) w wx)
 case first =>
  by_cases h32 : (32 : Int) < (l.length : Int)
  ·have ec : ((cntW used l.length : Nat) : Int) = 2 := by unfold cntW; rw [if_pos (by omega)]; rfl
   simp only [if_pos h32]
   go_wp2_with fail
   go_meet
   case rel => exact ⟨by rw [ec]; exact heap_alloc_new w1 _, (uh HF1).alloc _⟩
  ·simp only [if_neg h32]
   rcases (show used = true ∨ (used = false ∧ l.length = 0) ∨ (used = false ∧ 0 < l.length) by
    cases used
    ·by_cases h : l.length = 0
     ·exact .inr (.inl ⟨rfl, h⟩)
     ·exact .inr (.inr ⟨rfl, by omega⟩)
    ·exact .inl rfl) with rfl | ⟨rfl, h0⟩ | ⟨rfl, h0⟩
   ·have ec : ((cntW true l.length : Nat) : Int) = 0 := by unfold cntW; rw [if_neg (by omega)]; rfl
    go_wp2_with fail
    (try rw [hd])
    refine (gwhy_any n_fields 4 (l.length : Nat) 0 4 none 0 0 false _).mono ?_
    rintro e w2 ⟨rfl, hf2⟩
    have hb2 := (hf2.block w1.heap.size (by simp) (fun h => h)).trans (heap_alloc_new w1 (.cells #[.string n_fields, .int .i64 4, .int .u64 (l.length : Nat), .slice none 0 0, .int .i64 0] 110))
    obtain ⟨w3, hst, hb3, hf3⟩ := box_st2 [.string n_fields, .int .i64 4, .int .u64 (l.length : Nat), .slice none 0 0, .int .i64 0] [.string n_fields, .int .i64 4, .int .u64 (l.length : Nat), .slice none 0 0, .int .i64 0] hb2 rfl rfl (by simp [Value.oneCell'])
    have hf13 : Fr (fun _ => False) w w3 := absorbP (((uh HF1).alloc _).trans hf2 (fun _ _ h => h)) hf3 (fun i hi => by have := (uh HF1).size; omega)
    have HST := hid hst
    have HB := hid (And.intro hb3 hf13)
    clear hst hb2 hb3 hf3 hf2 hf13
    go_wp2_with (refine wpList_stN rfl 110 (.tmp 7) (.tmp 31) rfl _ _ rfl rfl (uh HST) ?_)
    go_meet
    case rel => exact ⟨by rw [ec]; exact (uh HB).1, (uh HB).2⟩
   ·have ec : ((cntW false l.length : Nat) : Int) = 0 := by unfold cntW; rw [if_neg (by omega)]; rw [if_neg (fun h => by omega)]; rfl
    have hd : decide (0 < l.length) = false := decide_eq_false (by omega)
    clear h0
    go_wp2_with fail
    (try rw [hd])
    refine (gwhy_any n_fields 4 (l.length : Nat) 0 4 none 0 0 false _).mono ?_
    rintro e w2 ⟨rfl, hf2⟩
    have hb2 := (hf2.block w1.heap.size (by simp) (fun h => h)).trans (heap_alloc_new w1 (.cells #[.string n_fields, .int .i64 4, .int .u64 (l.length : Nat), .slice none 0 0, .int .i64 0] 110))
    obtain ⟨w3, hst, hb3, hf3⟩ := box_st2 [.string n_fields, .int .i64 4, .int .u64 (l.length : Nat), .slice none 0 0, .int .i64 0] [.string n_fields, .int .i64 4, .int .u64 (l.length : Nat), .slice none 0 0, .int .i64 0] hb2 rfl rfl (by simp [Value.oneCell'])
    have hf13 : Fr (fun _ => False) w w3 := absorbP (((uh HF1).alloc _).trans hf2 (fun _ _ h => h)) hf3 (fun i hi => by have := (uh HF1).size; omega)
    have HST := hid hst
    have HB := hid (And.intro hb3 hf13)
    clear hst hb2 hb3 hf3 hf2 hf13
    go_wp2_with (refine wpList_stN rfl 110 (.tmp 7) (.tmp 31) rfl _ _ rfl rfl (uh HST) ?_)
    go_meet
    case rel => exact ⟨by rw [ec]; exact (uh HB).1, (uh HB).2⟩
   ·have ec : ((cntW false l.length : Nat) : Int) = 4 := by unfold cntW; rw [if_neg (by omega)]; rw [if_pos ⟨rfl, h0⟩]; rfl
    have hd : decide (0 < l.length) = true := decide_eq_true h0
    clear h0
    go_wp2_with fail
    (try rw [hd])
    refine (gwhy_any n_fields 4 (l.length : Nat) 0 4 none 0 0 true _).mono ?_
    rintro e w2 ⟨rfl, hf2⟩
    have hb2 := (hf2.block w1.heap.size (by simp) (fun h => h)).trans (heap_alloc_new w1 (.cells #[.string n_fields, .int .i64 4, .int .u64 (l.length : Nat), .slice none 0 0, .int .i64 0] 110))
    obtain ⟨w3, hst, hb3, hf3⟩ := box_st2 [.string n_fields, .int .i64 4, .int .u64 (l.length : Nat), .slice none 0 0, .int .i64 0] [.string n_fields, .int .i64 4, .int .u64 (l.length : Nat), .slice none 0 0, .int .i64 4] hb2 rfl rfl (by simp [Value.oneCell'])
    have hf13 : Fr (fun _ => False) w w3 := absorbP (((uh HF1).alloc _).trans hf2 (fun _ _ h => h)) hf3 (fun i hi => by have := (uh HF1).size; omega)
    have HST := hid hst
    have HB := hid (And.intro hb3 hf13)
    clear hst hb2 hb3 hf3 hf2 hf13
    go_wp2_with (refine wpList_stN rfl 110 (.tmp 7) (.tmp 31) rfl _ _ rfl rfl (uh HST) ?_)
    go_meet
    case rel => exact ⟨by rw [ec]; exact (uh HB).1, (uh HB).2⟩
 case rest =>
  obtain ⟨hb, hfc⟩ := hcut
  rename World => wc
  have HRc := hid (rOB (cs := [.string n_fields, .int .i64 4, .int .u64 (l.length : Nat), .slice none 0 0, .int .i64 (cntW used l.length : Nat)]) hb)
  have hszc : w.heap.size ≤ wc.heap.size := hfc.size
  have hP := PL.lit wc w.heap.size [⟨⟨n_fields, 4, l.length, [], cntW used l.length⟩, .slice none 0 0⟩] hszc (fun q hq => by
   obtain rfl := List.mem_singleton.1 hq
   exact nil_in _ _ rfl) (by simp)
  have HI0 : Hid (FI w (wc.alloc (.cells (([⟨⟨n_fields, 4, l.length, [], cntW used l.length⟩, .slice none 0 0⟩] : List PV).flatMap PV.cs).toArray 110)) (.slice (some ⟨wc.heap.size, 0, none⟩) 1 1) 0 [⟨⟨n_fields, 4, l.length, [], cntW used l.length⟩, .slice none 0 0⟩] (cntW used l.length) (if gone then 3 else 2) l) := hid ⟨hP, rfl, Nat.le_refl _, Bl.nilx _ _ (fun q hq => by obtain rfl := List.mem_singleton.1 hq; rfl), hfc.alloc _⟩
  clear hb hfc hP hszc HF1
  go_wp2_with (refine wpList_load_mid rfl 110 (.tmp 7) rfl w1.heap.size 0 rfl _ _ (uh HRc) Tryz.underlying110 rfl Tryz.sizePt ?_)
  clear HRc
  go_loopw [8, 9] (fun tv iv wr => ∃ (i : Nat) (L : List PV), i ≤ l.length ∧ iv = .int .i64 (i : Nat) ∧ FI w wr tv i L (cntW used l.length) (if gone then 3 else 2) l) (fun _ iv _ => l.length - (intOf iv).toNat)
  case atStart => exact ⟨0, _, Nat.zero_le _, rfl, uh HI0⟩
  case round =>
   obtain ⟨i, L, hi, rfl, hI⟩ := hrel
   rename World => wr
   clear HI0
   have hw1 := wrapP i (by omega)
   by_cases hlt : i < l.length
   ·obtain ⟨hfo, g, o, rfl, _, k0, k1, k2, k3, k4⟩ := (uh HV).1.el i _ (List.getElem?_eq_getElem hlt)
    have hsz := (uh HV).2.2 l[i] (List.getElem_mem hlt)
    have hkeep : ∀ (W : World) (off : Nat) (v : Value), Fr (fun _ => False) w W → w.cell? ⟨g, off, none⟩ = some v → W.cell? ⟨g, off, none⟩ = some v := fun W off v hf h => (hf.cell (p := ⟨g, off, none⟩) (ltC h) (fun h => h)).trans h
    obtain ⟨F0, hF0⟩ : ∃ F0, l[i] = F0 := ⟨_, rfl⟩
    rw [hF0] at hfo k0 k1 k2 k3 k4 hsz
    obtain ⟨fn, fk, ft, fv, fu⟩ := F0
    simp only at k0 k1 k2 k3 k4 hsz
    have HRf := hid (show wr.rangeAt g (o + i * 5) [.string fn, .int .u8 (fk : Nat), .string ft, .float .f32 fv, .int .u8 (fu : Nat)] from fun j v hv => by
     match j, hv with
     | 0, hv => rw [← show some _ = some v by simpa using hv]; exact hkeep wr _ _ hI.fr k0
     | 1, hv => rw [← show some _ = some v by simpa using hv]; exact hkeep wr _ _ hI.fr k1
     | 2, hv => rw [← show some _ = some v by simpa using hv]; exact hkeep wr _ _ hI.fr k2
     | 3, hv => rw [← show some _ = some v by simpa using hv]; exact hkeep wr _ _ hI.fr k3
     | 4, hv => rw [← show some _ = some v by simpa using hv]; exact hkeep wr _ _ hI.fr k4)
    have HI := hid hI
    have HK := hid hkeep
    have HF := hid (And.intro hfo (And.intro hF0 hsz))
    have hlt2 : (i : Int) < (l.length : Int) := by omega
    have hcap : (i : Int) < (xc : Int) := by have := (uh HV).1.cap; omega
    clear hI hkeep hfo hF0 hsz k0 k1 k2 k3 k4
    go_wp2_with (refine wpList_load_mid rfl 59 (.tmp 42) rfl g (o + i * 5) rfl _ _ (uh HRf) Tryz.underlying59 rfl Tryz.sizeFl ?_)
    refine (gtext_any n_name fn 1 64 _ (uh HF).2.2.1).mono ?_
    rintro e w2 ⟨yo, yc, rfl, hs2, hy2, hf2⟩
    have HB2 := hid (And.intro ((hf2.block wr.heap.size (by simp) (fun h => h)).trans (heap_alloc_new wr (.cells #[.string fn, .int .u8 (fk : Nat), .string ft, .float .f32 fv, .int .u8 (fu : Nat)] 59))) (And.intro hs2 (And.intro hy2 (((uh HI).fr.alloc _).trans hf2 (fun _ _ h => h)))))
    have hlt12 : wr.heap.size < w2.heap.size := by have := hf2.size; simp at this; omega
    have HWR : Hid (Fr (fun _ => False) wr w2) := hid (((Fr.refl (fun _ : Nat => False) wr).alloc _).trans hf2 (fun _ _ h => h))
    clear hs2 hy2 hf2 HRf
    go_upto_region 10 with fail
    obtain ⟨W3, hW3⟩ : ∃ W3, w2.alloc (.cells #[.string n_name, .int .i64 6, .int .u64 0, .slice yo fn.size yc, .int .i64 (szN 1 64 fn.size : Nat)] 110) = W3 := ⟨_, rfl⟩
    have hf3 : Fr (fun _ => False) w2 W3 := by rw [← hW3]; exact box1 w2 _
    have hb11 : W3.heap[w2.heap.size]? = some (.cells #[.string n_name, .int .i64 6, .int .u64 0, .slice yo fn.size yc, .int .i64 (szN 1 64 fn.size : Nat)] 110) := by rw [← hW3]; exact heap_alloc_new w2 _
    have hb10 := (hf3.block _ hlt12 (fun h => h)).trans (uh HB2).1
    have c10 : W3.cell? ⟨wr.heap.size, 0, none⟩ = some (.string fn) := cOB hb10 rfl
    have c11 : W3.cell? ⟨w2.heap.size, 4, none⟩ = some (.int .i64 (szN 1 64 fn.size : Nat)) := cOB hb11 rfl
    have HG := hid (And.intro hb10 (And.intro hb11 hf3))
    clear hb10 hb11 hf3
    rw [hW3]
    clear hW3
    go_cut [64] from 34 to 172 (fun s wx => s = .bool (decide (szN 1 64 fn.size = 0 ∧ 0 < i ∧ sle fn (prevN l i) = true)) ∧ ∃ q, wx = W3.drewN q)
    case first =>
     by_cases hz : szN 1 64 fn.size = 0
     ·have hzb : (((szN 1 64 fn.size : Nat) : Int) == 0) = true := by simp [hz]
      by_cases h0 : i = 0
      ·have hd0 : decide (0 < i) = false := decide_eq_false (by omega)
       go_quiet (fail)
       go_wp2_with fail
       go_meet
       case rel => exact ⟨congrArg Value.bool (decide_eq_false (fun h => by omega)).symm, _, rfl⟩
      ·have hd0 : decide (0 < i) = true := decide_eq_true (by omega)
       have hwm : wrap64 ((i : Int) - 1) = ((i - 1 : Nat) : Int) := by unfold wrap64; omega
       have hi1 : i - 1 < l.length := by omega
       have hm1 : ((i - 1 : Nat) : Int) < (l.length : Int) := by omega
       have hm2 : ((i - 1 : Nat) : Int) < (xc : Int) := by omega
       have c13 : W3.cell? ⟨g, o + (i - 1) * 5, none⟩ = some (.string (prevN l i)) := by
        obtain ⟨_, g', o', e', _, q0, _⟩ := (uh HV).1.el (i - 1) _ (List.getElem?_eq_getElem hi1)
        cases e'
        have ep : prevN l i = l[i - 1].name := by unfold prevN; rw [if_neg h0]; simp [List.getD, hi1]
        rw [ep]
        exact uh HK W3 _ _ (((uh HB2).2.2.2).trans (uh HG).2.2 (fun _ _ h => h)) q0
       cases hsl : sle fn (prevN l i)
       ·go_quiet (fail)
        go_wp2_with fail
        go_meet
        case rel => exact ⟨congrArg Value.bool (decide_eq_false (fun h => by have h2 := h.2.2; rw [hsl] at h2; cases h2)).symm, _, rfl⟩
       ·go_quiet (fail)
        go_wp2_with fail
        go_meet
        case rel => exact ⟨congrArg Value.bool (decide_eq_true ⟨hz, by omega, hsl⟩).symm, _, rfl⟩
     ·have hzb : (((szN 1 64 fn.size : Nat) : Int) == 0) = false := by simp; omega
      go_quiet (fail)
      go_wp2_with fail
      go_meet
      case rel => exact ⟨congrArg Value.bool (decide_eq_false (fun h => hz h.1)).symm, _, rfl⟩
    case rest =>
     obtain ⟨rfl, q, rfl⟩ := hcut
     have ew := name_wy (prevN l i) fn i (fun e => by unfold prevN; rw [if_pos e])
     have hfz : W3.frozen? ⟨w2.heap.size, 4, none⟩ = false := by simp [World.frozen?, (uh HG).2.1]
     clear c10
     go_upto_if 64 with fail
     go_cut [65] from 34 to 172 (fun _ wx => wx.heap[wr.heap.size]? = some (.cells #[.string fn, .int .u8 (fk : Nat), .string ft, .float .f32 fv, .int .u8 (fu : Nat)] 59) ∧ wx.heap[w2.heap.size]? = some (.cells #[.string n_name, .int .i64 6, .int .u64 0, .slice yo fn.size yc, .int .i64 (fb [fun v => szN 1 64 v.size, abN (prevN l i)] fn : Nat)] 110) ∧ Fr (fun _ => False) w2 wx)
     case first =>
      by_cases hc : szN 1 64 fn.size = 0 ∧ 0 < i ∧ sle fn (prevN l i) = true
      ·rw [decide_eq_true hc]
       rw [if_pos hc] at ew
       go_wp2_with fail
       go_meet
       case rel =>
        rw [ew]
        refine ⟨?_, ?_, ?_⟩
        ·exact ((((Fr.refl (fun k => k = w2.heap.size) W3).drewN q).setCell (p := ⟨w2.heap.size, 4, none⟩) (.inl rfl) _).block wr.heap.size (by have := (uh HG).2.2.size; omega) (fun e => by omega)).trans (uh HG).1
        ·exact blkset (w := W3.drewN q) (uh HG).2.1 4 _
        ·exact ((uh HG).2.2.drewN q).setCell (p := ⟨w2.heap.size, 4, none⟩) (.inr (Nat.le_refl _)) _
      ·rw [decide_eq_false hc]
       rw [if_neg hc] at ew
       go_wp2_with fail
       go_meet
       case rel =>
        rw [ew]
        exact ⟨(uh HG).1, (uh HG).2.1, (uh HG).2.2.drewN q⟩
     case rest =>
      clear c11 hfz ew HG hleq
      obtain ⟨hb10, hb11, hf3⟩ := hcut
      rename World => w3
      have hfk8 : fk < 256 := (uh HF).1.kind
      have hck : IntKind.u64.wrap (fk : Int) = (fk : Int) := by rw [IntKind.wrap_u64]; have := (uh HF).1.kind; simp only at this; omega
      have hcv : IntKind.u64.wrap (fv : Int) = (fv : Int) := by rw [IntKind.wrap_u64]; have := (uh HF).1.value; simp only at this; omega
      have hcu : IntKind.u64.wrap (fu : Int) = (fu : Int) := by rw [IntKind.wrap_u64]; have := (uh HF).1.unit; simp only at this; omega
      have d1 : w3.cell? ⟨wr.heap.size, 1, none⟩ = some (.int .u8 (fk : Nat)) := cOB hb10 rfl
      have d2 : w3.cell? ⟨wr.heap.size, 2, none⟩ = some (.string ft) := cOB hb10 rfl
      have d3 : w3.cell? ⟨wr.heap.size, 3, none⟩ = some (.float .f32 fv) := cOB hb10 rfl
      have d4 : w3.cell? ⟨wr.heap.size, 4, none⟩ = some (.int .u8 (fu : Nat)) := cOB hb10 rfl
      have HG := hid (And.intro hb10 (And.intro hb11 hf3))
      have hlt13 : w2.heap.size < w3.heap.size := lt_of_block hb11
      clear hb10 hb11 hf3
      go_upto_region 14 with fail
      obtain ⟨W5, hW5⟩ : ∃ W5, w3.alloc (.cells #[.string ⟨#[107, 105, 110, 100]⟩, .int .i64 1, .int .u64 (fk : Nat), .slice none 0 0, .int .i64 0] 110) = W5 := ⟨_, rfl⟩
      have hf5 : Fr (fun _ => False) w3 W5 := by rw [← hW5]; exact box1 w3 _
      have hb13 : W5.heap[w3.heap.size]? = some (.cells #[.string ⟨#[107, 105, 110, 100]⟩, .int .i64 1, .int .u64 (fk : Nat), .slice none 0 0, .int .i64 0] 110) := by rw [← hW5]; exact heap_alloc_new w3 _
      rw [hW5]
      clear hW5
      have hb10 := (hf5.block _ (by omega) (fun h => h)).trans (uh HG).1
      have hb11 := (hf5.block _ hlt13 (fun h => h)).trans (uh HG).2.1
      clear d1 d2 d3 d4
      have d1 : W5.cell? ⟨wr.heap.size, 1, none⟩ = some (.int .u8 (fk : Nat)) := cOB hb10 rfl
      have d2 : W5.cell? ⟨wr.heap.size, 2, none⟩ = some (.string ft) := cOB hb10 rfl
      have d4 : W5.cell? ⟨wr.heap.size, 4, none⟩ = some (.int .u8 (fu : Nat)) := cOB hb10 rfl
      have hR13 : W5.rangeAt w3.heap.size 0 [.string ⟨#[107, 105, 110, 100]⟩, .int .i64 1, .int .u64 (fk : Nat), .slice none 0 0, .int .i64 0] := rOB hb13
      have HG5 := hid (And.intro hb10 (And.intro hb11 (And.intro hb13 (hf5))))
      have HR := hid hR13
      clear hb10 hb11 hb13 hf5 hR13
      go_cut [14] from 34 to 172 (fun s wx => (∃ nb : Bool, s = .bool nb ∧ (nb = true ↔ (fv ≠ 0 ∨ fu ≠ 0))) ∧ wx = W5)
      case first =>
       by_cases v0 : fv = 0
       ·have hvb : (((fv : Nat) : Int) != 0) = false := by simp [v0]
        by_cases u0 : fu = 0
        ·have hub : (((fu : Nat) : Int) != 0) = false := by simp [u0]
         go_wp2_with fail
         go_meet
         case rel => exact ⟨⟨_, rfl, by simp [v0, u0]⟩, rfl⟩
        ·have hub : (((fu : Nat) : Int) != 0) = true := by simp [u0]
         go_wp2_with fail
         go_meet
         case rel => exact ⟨⟨_, rfl, by simp [u0]⟩, rfl⟩
       ·have hvb : (((fv : Nat) : Int) != 0) = true := by simp [v0]
        go_wp2_with fail
        go_meet
        case rel => exact ⟨⟨_, rfl, by simp [v0]⟩, rfl⟩
      case rest =>
       obtain ⟨⟨nb, rfl, hnb⟩, rfl⟩ := hcut
       go_upto_region 15 with fail
       go_cut [110] from 34 to 172 (fun _ wx => wx.heap[wr.heap.size]? = some (.cells #[.string fn, .int .u8 (fk : Nat), .string ft, .float .f32 fv, .int .u8 (fu : Nat)] 59) ∧ wx.heap[w2.heap.size]? = some (.cells #[.string n_name, .int .i64 6, .int .u64 0, .slice yo fn.size yc, .int .i64 (fb [fun v => szN 1 64 v.size, abN (prevN l i)] fn : Nat)] 110) ∧ wx.heap[w3.heap.size]? = some (.cells #[.string n_kind, .int .i64 1, .int .u64 (fk : Nat), .slice none 0 0, .int .i64 (kW (kB fk fv fu ft) : Nat)] 110) ∧ Fr (fun _ => False) w3 wx)
       case first =>
        have HNE : Hid (wr.heap.size ≠ w3.heap.size ∧ w2.heap.size ≠ w3.heap.size) := hid ⟨Nat.ne_of_lt (Nat.lt_trans hlt12 hlt13), Nat.ne_of_lt hlt13⟩
        refine reg15 _ _ _ _ _ _ _ _ _ _ _ _ _ _ _ _ _ _ _ _ _ _ _ _ _ _ _ _ _ _ _ _ _ _ _ _ _ _ _ _ _ _ _ _ _ _ _ _ _ _ _ _ _ _ _ _ _ _ _ _ _ _ _ _ _ _ _ _ _ _ _ _ _ _ _ _ _ _ _ _ _ _ _ _ _ _ _ _ _ _ _ _ _ _ _ _ _ _ _ _ _ _ _ _ _ _ _ _ _ _ _ _ _ _ _ _ _ _ _ _ _ _ _ _ _ _ _ _ _ _ _ _ _ _ _ _ _ _ _ _ _ _ _ _ _ _ _ _ _ _ _ _ _ _ _ _ _ _ _ _ _ _ _ _ _ _ _ _ _ _ _ wr.heap.size w2.heap.size w3.heap.size _ fv fu fk fn ft yo yc nb _ _ w3 _ (uh HG5).1 (uh HG5).2.1 (uh HG5).2.2.1 (uh HG5).2.2.2 (uh HNE).1 (uh HNE).2 (Nat.le_refl _) hfk8 hnb ?_
        intro y80 y81 y82 y83 y84 y85 y86 y87 y88 y89 y90 y91 y92 y93 y94 y95 y96 y97 y98 y99 y100 y101 y102 y103 y104 y105 y106 y107 y108 y109 y110 w' hrel
        dsimp only
        go_step
        go_meet
        case rel => exact hrel
       case rest =>
        clear d1 d2 d4 HG5 HR
        obtain ⟨hb10, hb11, hb13, hf7⟩ := hcut
        rename World => w7
        obtain ⟨KB, hKB⟩ : ∃ KB, kB fk fv fu ft = KB := ⟨_, rfl⟩
        rw [hKB] at hb13
        obtain ⟨KW, hKW⟩ : ∃ KW, kW KB = KW := ⟨_, rfl⟩
        rw [hKW] at hb13
        have HKB := hid (And.intro hKB hKW)
        clear hKB hKW
        have d1 : w7.cell? ⟨wr.heap.size, 1, none⟩ = some (.int .u8 (fk : Nat)) := cOB hb10 rfl
        have HR := hid (rOB hb13)
        have HG5 := hid (And.intro hb10 (And.intro hb11 (And.intro hb13 hf7)))
        clear hb10 hb11 hb13 hf7
        go_upto_region 16 with fail
        go_cut [129] from 34 to 172 (fun _ wx => wx.heap[wr.heap.size]? = some (.cells #[.string fn, .int .u8 (fk : Nat), .string ft, .float .f32 fv, .int .u8 (fu : Nat)] 59) ∧ wx.heap[w2.heap.size]? = some (.cells #[.string n_name, .int .i64 6, .int .u64 0, .slice yo fn.size yc, .int .i64 (fb [fun v => szN 1 64 v.size, abN (prevN l i)] fn : Nat)] 110) ∧ wx.heap[w3.heap.size]? = some (.cells #[.string n_kind, .int .i64 1, .int .u64 (fk : Nat), .slice none 0 0, .int .i64 (kE fk gone KB : Nat)] 110) ∧ Fr (fun _ => False) w3 wx)
        case first =>
         have HNE : Hid (wr.heap.size ≠ w3.heap.size ∧ w2.heap.size ≠ w3.heap.size) := hid ⟨Nat.ne_of_lt (Nat.lt_trans hlt12 hlt13), Nat.ne_of_lt hlt13⟩
         refine reg16 _ _ _ _ _ _ _ _ _ _ _ _ _ _ _ _ _ _ _ _ _ _ _ _ _ _ _ _ _ _ _ _ _ _ _ _ _ _ _ _ _ _ _ _ _ _ _ _ _ _ _ _ _ _ _ _ _ _ _ _ _ _ _ _ _ _ _ _ _ _ _ _ _ _ _ _ _ _ _ _ _ _ _ _ _ _ _ _ _ _ _ _ _ _ _ _ _ _ _ _ _ _ _ _ _ _ _ _ _ _ _ _ _ _ _ _ _ _ _ _ _ _ _ _ _ _ _ _ _ _ _ _ _ _ _ _ _ _ _ _ _ _ _ _ _ _ _ _ _ _ _ _ _ _ _ _ _ _ _ _ _ _ _ _ _ _ _ _ _ _ _ wr.heap.size w2.heap.size w3.heap.size _ fv fu fk fn ft yo yc gone KB KW _ _ w3 _ (uh HG5).1 (uh HG5).2.1 (uh HG5).2.2.1 (uh HG5).2.2.2 (uh HNE).1 (uh HNE).2 (Nat.le_refl _) hfk8 (uh HKB).2 ?_
         intro y111 y112 y113 y114 y115 y116 y117 y118 y119 y120 y121 y122 y123 y124 y125 y126 y127 y128 y129 w' hrel
         dsimp only
         go_step
         go_meet
         case rel => exact hrel
        case rest =>
         clear d1 HG5 HR
         obtain ⟨hb10, hb11, hb13, hf9⟩ := hcut
         rename World => w9
         have HR11 := hid (rOB hb11)
         have HR13 := hid (rOB hb13)
         have hf29 : Fr (fun _ => False) w2 w9 := (uh HG).2.2.trans hf9 (fun _ _ h => h)
         have hfr9 : Fr (fun _ => False) wr w9 := (uh HWR).trans hf29 (fun _ _ h => h)
         have hXin : ∀ q ∈ ([⟨⟨n_name, 6, 0, bytesOf fn, fb [fun v => szN 1 64 v.size, abN (prevN l i)] fn⟩, .slice yo fn.size yc⟩, ⟨⟨n_kind, 1, fk, [], kE fk gone KB⟩, .slice none 0 0⟩] : List PV), q.In w9 := fun q hq => by
          simp only [List.mem_cons, List.not_mem_nil, or_false] at hq
          rcases hq with rfl | rfl
          ·exact ⟨(uh HB2).2.1.fr hf29 (fun _ _ _ _ _ h => h), fun g o n c e => by
            simp only [Value.slice.injEq] at e
            exact Nat.lt_of_lt_of_le ((uh HB2).2.2.1 g o e.1).2 hf29.size⟩
          ·exact nil_in _ _ rfl
         have hXb : Bl 0 wr.heap.size ([⟨⟨n_name, 6, 0, bytesOf fn, fb [fun v => szN 1 64 v.size, abN (prevN l i)] fn⟩, .slice yo fn.size yc⟩, ⟨⟨n_kind, 1, fk, [], kE fk gone KB⟩, .slice none 0 0⟩] : List PV) := fun q hq g o n c e => by
          simp only [List.mem_cons, List.not_mem_nil, or_false] at hq
          rcases hq with rfl | rfl
          ·simp only [Value.slice.injEq] at e
           have := ((uh HB2).2.2.1 g o e.1).1
           simp at this
           exact .inr (by omega)
          ·cases e
         obtain ⟨ao, cap, w10, hr, hP10, hf10⟩ := ((uh HI).pl.fr0 hfr9).add (by have := (uh HI).fr.size; have := hfr9.size; omega) _ hXin (Bl.far (uh HI).pl hXb (Nat.zero_le _) (Nat.le_refl _)) (by have := (uh HI).ln; simp; omega)
         have hr' : (Builtin.append_ #[74, 74] 74 #[u8, .slice (some ⟨w9.heap.size, 0, none⟩) 2 2]).run Tryz.prog (w9.alloc (.cells #[.string n_name, .int .i64 6, .int .u64 0, .slice yo fn.size yc, .int .i64 (fb [fun v => szN 1 64 v.size, abN (prevN l i)] fn : Nat), .string n_kind, .int .i64 1, .int .u64 (fk : Nat), .slice none 0 0, .int .i64 (kE fk gone KB : Nat)] 110)) = .ok (.slice ao (L.length + 2) cap) w10 := hr
         have HRr := hid hr'
         have HP10 := hid (And.intro hP10 (And.intro hf10 (And.intro hfr9 (And.intro hXin hXb))))
         have HB9 := hid (And.intro hb10 (And.intro hb11 hb13))
         clear hr hr' hP10 hf10 hfr9 hXin hXb hb10 hb11 hb13 hf29 hf9
         have hlt9 : wr.heap.size < w9.heap.size := lt_of_block (uh HB9).1
         have hnot : ¬ (u8.ownBlock = some wr.heap.size) := fun h => Nat.lt_irrefl _ ((uh HI).pl.lt _ h).2
         have d1 : w10.cell? ⟨wr.heap.size, 1, none⟩ = some (.int .u8 (fk : Nat)) := cOB (((uh HP10).2.1.block _ hlt9 hnot).trans (uh HB9).1) rfl
         have HNX : Hid (Bl 0 w.heap.size ([⟨⟨n_name, 6, 0, bytesOf fn, fb [fun v => szN 1 64 v.size, abN (prevN l i)] fn⟩, .slice yo fn.size yc⟩, ⟨⟨n_kind, 1, fk, [], kE fk gone KB⟩, .slice none 0 0⟩] : List PV)) := hid (Bl.mono (uh HP10).2.2.2.2 (Nat.le_refl _) (uh HI).fr.size)
         have HKN : Hid (kE fk gone KB = fb [wiN 1 (if gone then 3 else 2) 5, unN (Fld.beside ⟨fn, fk, ft, fv, fu⟩)] fk) := hid (by rw [← (uh HKB).1]; exact (kind_wy ⟨fn, fk, ft, fv, fu⟩ gone).symm)
         rcases (show fk = 1 ∨ fk = 2 ∨ (fk ≠ 1 ∧ fk ≠ 2) by omega) with rfl | rfl | ⟨hk1, hk2⟩
         ·have d2 : w10.cell? ⟨wr.heap.size, 2, none⟩ = some (.string ft) := cOB (((uh HP10).2.1.block _ hlt9 hnot).trans (uh HB9).1) rfl
          go_wp2_with (first | ((with_reducible refine wpList_at 131 ?_); refine wpList_load_mid rfl 110 (.tmp 11) rfl w2.heap.size 0 rfl _ _ (uh HR11) Tryz.underlying110 rfl Tryz.sizePt ?_) | ((with_reducible refine wpList_at 132 ?_); refine wpList_load_mid rfl 110 (.tmp 13) rfl w3.heap.size 0 rfl _ _ (uh HR13) Tryz.underlying110 rfl Tryz.sizePt ?_) | ((with_reducible refine wpList_at 134 ?_); refine wpList_appY rfl (.tmp 130) (.tmp 133) 74 74 rfl _ _ _ rfl rfl (uh HRr) ?_))
          refine (gtext_any n_text ft 0 64 _ (uh HF).2.2.2).mono ?_
          rintro e w11 ⟨zo, zc, rfl, hs11, hz11, hf11⟩
          have hXin : ∀ q ∈ ([⟨⟨n_text, 6, 0, bytesOf ft, szN 0 64 ft.size⟩, .slice zo ft.size zc⟩] : List PV), q.In w11 := fun q hq => by
           simp only [List.mem_cons, List.not_mem_nil, or_false] at hq
           obtain rfl := hq
           exact ⟨hs11, fun g o n c e => by
            simp only [Value.slice.injEq] at e
            exact (hz11 g o e.1).2⟩
          have hXb : Bl 0 w10.heap.size ([⟨⟨n_text, 6, 0, bytesOf ft, szN 0 64 ft.size⟩, .slice zo ft.size zc⟩] : List PV) := fun q hq g o n c e => by
           simp only [List.mem_cons, List.not_mem_nil, or_false] at hq
           obtain rfl := hq
           simp only [Value.slice.injEq] at e
           exact .inr (hz11 g o e.1).1
          have hsz10 : w.heap.size ≤ w10.heap.size := Nat.le_trans (Nat.le_trans (uh HI).fr.size (uh HP10).2.2.1.size) (uh HP10).2.1.size
          obtain ⟨bo, bc, w12, hr, hP12, hf12⟩ := ((uh HP10).1.fr0 hf11).add (by have := hf11.size; omega) _ hXin (Bl.far (uh HP10).1 hXb (Nat.zero_le _) (Nat.le_refl _)) (by have := (uh HI).ln; simp; omega)
          have hr' : (Builtin.append_ #[74, 74] 74 #[.slice ao (L.length + 2) cap, .slice (some ⟨w11.heap.size, 0, none⟩) 1 1]).run Tryz.prog (w11.alloc (.cells #[.string n_text, .int .i64 6, .int .u64 0, .slice zo ft.size zc, .int .i64 (szN 0 64 ft.size : Nat)] 110)) = .ok (.slice bo _ bc) w12 := hr
          have HRs := hid hr'
          have hfw : Fr (fun _ => False) w w12 := absorbP ((absorbP ((uh HI).fr.trans (uh HP10).2.2.1 (fun _ _ h => h)) (uh HP10).2.1 (fun j hj => ((uh HI).pl.lt j hj).1)).trans hf11 (fun _ _ h => h)) hf12 (fun j hj => ((uh HP10).1.lt j hj).1)
          rw [List.append_assoc, List.length_append] at hP12
          have HP12 := hid (And.intro hP12 (And.intro hfw (Bl.app (uh HNX) (Bl.mono hXb (Nat.zero_le _) hsz10))))
          have hbA := ((uh HP10).2.1.block _ hlt9 hnot).trans (uh HB9).1
          have hltA := lt_of_block hbA
          have d1' : w12.cell? ⟨wr.heap.size, 1, none⟩ = some (.int .u8 (1 : Nat)) := cOB ((hf12.block _ (Nat.lt_of_lt_of_le hltA hf11.size) ((uh HP10).1.notB hbA (by decide))).trans ((hf11.block _ hltA (fun h => h)).trans hbA)) rfl
          clear hr hr' hP12 hfw hXin hXb hf12 hs11 hz11 d1 d2 hbA hltA
          go_wp2_with (first | ((with_reducible refine wpList_at 143 ?_); refine wpList_appY rfl (.tmp 138) (.tmp 142) 74 74 rfl _ _ _ rfl rfl (uh HRs) ?_))
          go_roundw
          case rel =>
           refine ⟨i + 1, _, by omega, by go_num, (uh HI).next hlt ?_ (uh HP12).1 (uh HP12).2.2 (uh HP12).2.1 (by simp)⟩
           rw [(uh HF).2.1]
           have hkw := uh HKN
           simp [namedP, fieldP, hkw]
          case measure => simp [intOf]; omega
         ·have d4 : w10.cell? ⟨wr.heap.size, 4, none⟩ = some (.int .u8 (fu : Nat)) := cOB (((uh HP10).2.1.block _ hlt9 hnot).trans (uh HB9).1) rfl
          have hfv : fv < 18446744073709551616 := by have := (uh HF).1.value; simp only at this; omega
          go_wp2_with (first | ((with_reducible refine wpList_at 131 ?_); refine wpList_load_mid rfl 110 (.tmp 11) rfl w2.heap.size 0 rfl _ _ (uh HR11) Tryz.underlying110 rfl Tryz.sizePt ?_) | ((with_reducible refine wpList_at 132 ?_); refine wpList_load_mid rfl 110 (.tmp 13) rfl w3.heap.size 0 rfl _ _ (uh HR13) Tryz.underlying110 rfl Tryz.sizePt ?_) | ((with_reducible refine wpList_at 134 ?_); refine wpList_appY rfl (.tmp 130) (.tmp 133) 74 74 rfl _ _ _ rfl rfl (uh HRr) ?_))
          refine (gquant_any fv _ hfv).mono ?_
          rintro e w11 ⟨rfl, h11⟩
          obtain rfl := h11.symm
          go_wp2_with fail
          obtain ⟨QW, hQW⟩ : ∃ QW, (if quantB fv = true then 0 else 4 : Nat) = QW := ⟨_, rfl⟩
          have ev : (if (!quantB fv) = true then (4 : Int) else 0) = (QW : Nat) := by rw [← hQW]; cases quantB fv <;> rfl
          have HQW := hid hQW
          refine (gwhyN n_value 5 (fv : Nat) 0 4 _ none 0 0 (!quantB fv) _ ev).mono ?_
          rintro e w11 ⟨rfl, hf11⟩
          clear ev hQW
          obtain ⟨W12, hst, hb15, hf12, _⟩ := box_st (w := w11) [.string n_value, .int .i64 5, .int .u64 (fv : Nat), .slice none 0 0, .int .i64 (QW : Nat)] (Fr.refl _ _) rfl (by simp [Value.oneCell'])
          have HST := hid hst
          have hf1012 : Fr (fun _ => False) w10 W12 := hf11.trans hf12 (fun _ _ h => h)
          have hbA := ((uh HP10).2.1.block _ hlt9 hnot).trans (uh HB9).1
          have hltA := lt_of_block hbA
          have d4' : W12.cell? ⟨wr.heap.size, 4, none⟩ = some (.int .u8 (fu : Nat)) := cOB ((hf1012.block _ hltA (fun h => h)).trans hbA) rfl
          have HB15 := hid (And.intro hb15 hf1012)
          clear hst hb15 hf12 hf11 hf1012 d1 d4 hbA hltA
          have hu3 : (fu : Int) < 1 ∨ (¬ (fu : Int) < 1 ∧ ¬ (21 : Int) < (fu : Int)) ∨ (¬ (fu : Int) < 1 ∧ (21 : Int) < (fu : Int)) := by omega
          rcases hu3 with hu1 | ⟨hu1, hu2⟩ | ⟨hu1, hu2⟩
          ·have hd1 : decide ((fu : Int) < 1) = true := decide_eq_true hu1
           have eu : (if true = true then (4 : Int) else 0) = ((wiN 1 21 4 fu : Nat) : Int) := by show (4 : Int) = _; unfold wiN; rw [if_pos (by omega)]; rfl
           go_wp2_with ((with_reducible refine wpList_stN' ?_); refine wpList_stN rfl 110 (.tmp 15) (.tmp 154) rfl _ _ rfl rfl (uh HST) ?_)
           refine (gwhyN n_unit 1 (fu : Nat) 0 4 _ none 0 0 true _ eu).mono ?_
           rintro e w13 ⟨rfl, hf13⟩
           obtain ⟨W14, hst, hb16, hf14, _⟩ := box_st (w := w13) [.string n_unit, .int .i64 1, .int .u64 (fu : Nat), .slice none 0 0, .int .i64 (wiN 1 21 4 fu : Nat)] (Fr.refl _ _) rfl (by simp [Value.oneCell'])
           have HST2 := hid hst
           have hf1214 : Fr (fun _ => False) W12 W14 := hf13.trans hf14 (fun _ _ h => h)
           have hf1014 : Fr (fun _ => False) w10 W14 := (uh HB15).2.trans hf1214 (fun _ _ h => h)
           have HR15 := hid (rOB ((hf1214.block _ (lt_of_block (uh HB15).1) (fun h => h)).trans (uh HB15).1))
           have HR16 := hid (rOB hb16)
           have hX2in : ∀ q ∈ ([⟨⟨n_value, 5, fv, [], QW⟩, .slice none 0 0⟩, ⟨⟨n_unit, 1, fu, [], wiN 1 21 4 fu⟩, .slice none 0 0⟩] : List PV), q.In W14 := fun q hq => by
            simp only [List.mem_cons, List.not_mem_nil, or_false] at hq
            rcases hq with rfl | rfl <;> exact nil_in _ _ rfl
           have hX2n : ∀ q ∈ ([⟨⟨n_value, 5, fv, [], QW⟩, .slice none 0 0⟩, ⟨⟨n_unit, 1, fu, [], wiN 1 21 4 fu⟩, .slice none 0 0⟩] : List PV), q.x = .slice none 0 0 := fun q hq => by
            simp only [List.mem_cons, List.not_mem_nil, or_false] at hq
            rcases hq with rfl | rfl <;> rfl
           have hsz10 : w.heap.size ≤ w10.heap.size := Nat.le_trans (Nat.le_trans (uh HI).fr.size (uh HP10).2.2.1.size) (uh HP10).2.1.size
           obtain ⟨bo, bc, w15, hr, hP15, hf15⟩ := ((uh HP10).1.fr0 hf1014).add (by have := hf1014.size; omega) _ hX2in (Bl.far (uh HP10).1 (Bl.nilx 0 w10.heap.size hX2n) (Nat.zero_le _) (Nat.le_refl _)) (by have := (uh HI).ln; simp; omega)
           have hr' : (Builtin.append_ #[74, 74] 74 #[.slice ao (L.length + 2) cap, .slice (some ⟨W14.heap.size, 0, none⟩) 2 2]).run Tryz.prog (W14.alloc (.cells #[.string n_value, .int .i64 5, .int .u64 (fv : Nat), .slice none 0 0, .int .i64 (QW : Nat), .string n_unit, .int .i64 1, .int .u64 (fu : Nat), .slice none 0 0, .int .i64 (wiN 1 21 4 fu : Nat)] 110)) = .ok (.slice bo _ bc) w15 := hr
           have HRs := hid hr'
           have hfw : Fr (fun _ => False) w w15 := absorbP ((absorbP ((uh HI).fr.trans (uh HP10).2.2.1 (fun _ _ h => h)) (uh HP10).2.1 (fun j hj => ((uh HI).pl.lt j hj).1)).trans hf1014 (fun _ _ h => h)) hf15 (fun j hj => ((uh HP10).1.lt j hj).1)
           rw [List.append_assoc, List.length_append] at hP15
           have HP15 := hid (And.intro hP15 (And.intro hfw (Bl.app (uh HNX) (Bl.nilx 0 w.heap.size hX2n))))
           clear hr hr' hP15 hfw hX2in hX2n hf15 hst hb16 hf14 hf13 hf1214 hf1014 hsz10 d4' HST
           go_wp2_with (first | ((with_reducible refine wpList_at 169 ?_); refine wpList_load_mid rfl 110 (.tmp 15) rfl w11.heap.size 0 rfl _ _ (uh HR15) Tryz.underlying110 rfl Tryz.sizePt ?_) | ((with_reducible refine wpList_at 170 ?_); refine wpList_load_mid rfl 110 (.tmp 16) rfl w13.heap.size 0 rfl _ _ (uh HR16) Tryz.underlying110 rfl Tryz.sizePt ?_) | ((with_reducible refine wpList_at 172 ?_); refine wpList_appY rfl (.tmp 168) (.tmp 171) 74 74 rfl _ _ _ rfl rfl (uh HRs) ?_) | ((with_reducible refine wpList_stN' ?_); refine wpList_stN rfl 110 (.tmp 16) (.tmp 167) rfl _ _ rfl rfl (uh HST2) ?_))
           go_roundw
           case rel =>
            refine ⟨i + 1, _, by omega, by go_num, (uh HI).next hlt ?_ (uh HP15).1 (uh HP15).2.2 (uh HP15).2.1 (by simp)⟩
            rw [(uh HF).2.1]
            have hkw := uh HKN
            have hqw := uh HQW
            simp [namedP, fieldP, hkw, hqw]
           case measure => simp [intOf]; omega
          ·have hd1 : decide ((fu : Int) < 1) = false := decide_eq_false hu1
           have hd2 : decide ((21 : Int) < (fu : Int)) = false := decide_eq_false hu2
           have eu : (if false = true then (4 : Int) else 0) = ((wiN 1 21 4 fu : Nat) : Int) := by show (0 : Int) = _; unfold wiN; rw [if_neg (by omega)]; rfl
           go_wp2_with ((with_reducible refine wpList_stN' ?_); refine wpList_stN rfl 110 (.tmp 15) (.tmp 154) rfl _ _ rfl rfl (uh HST) ?_)
           refine (gwhyN n_unit 1 (fu : Nat) 0 4 _ none 0 0 false _ eu).mono ?_
           rintro e w13 ⟨rfl, hf13⟩
           obtain ⟨W14, hst, hb16, hf14, _⟩ := box_st (w := w13) [.string n_unit, .int .i64 1, .int .u64 (fu : Nat), .slice none 0 0, .int .i64 (wiN 1 21 4 fu : Nat)] (Fr.refl _ _) rfl (by simp [Value.oneCell'])
           have HST2 := hid hst
           have hf1214 : Fr (fun _ => False) W12 W14 := hf13.trans hf14 (fun _ _ h => h)
           have hf1014 : Fr (fun _ => False) w10 W14 := (uh HB15).2.trans hf1214 (fun _ _ h => h)
           have HR15 := hid (rOB ((hf1214.block _ (lt_of_block (uh HB15).1) (fun h => h)).trans (uh HB15).1))
           have HR16 := hid (rOB hb16)
           have hX2in : ∀ q ∈ ([⟨⟨n_value, 5, fv, [], QW⟩, .slice none 0 0⟩, ⟨⟨n_unit, 1, fu, [], wiN 1 21 4 fu⟩, .slice none 0 0⟩] : List PV), q.In W14 := fun q hq => by
            simp only [List.mem_cons, List.not_mem_nil, or_false] at hq
            rcases hq with rfl | rfl <;> exact nil_in _ _ rfl
           have hX2n : ∀ q ∈ ([⟨⟨n_value, 5, fv, [], QW⟩, .slice none 0 0⟩, ⟨⟨n_unit, 1, fu, [], wiN 1 21 4 fu⟩, .slice none 0 0⟩] : List PV), q.x = .slice none 0 0 := fun q hq => by
            simp only [List.mem_cons, List.not_mem_nil, or_false] at hq
            rcases hq with rfl | rfl <;> rfl
           have hsz10 : w.heap.size ≤ w10.heap.size := Nat.le_trans (Nat.le_trans (uh HI).fr.size (uh HP10).2.2.1.size) (uh HP10).2.1.size
           obtain ⟨bo, bc, w15, hr, hP15, hf15⟩ := ((uh HP10).1.fr0 hf1014).add (by have := hf1014.size; omega) _ hX2in (Bl.far (uh HP10).1 (Bl.nilx 0 w10.heap.size hX2n) (Nat.zero_le _) (Nat.le_refl _)) (by have := (uh HI).ln; simp; omega)
           have hr' : (Builtin.append_ #[74, 74] 74 #[.slice ao (L.length + 2) cap, .slice (some ⟨W14.heap.size, 0, none⟩) 2 2]).run Tryz.prog (W14.alloc (.cells #[.string n_value, .int .i64 5, .int .u64 (fv : Nat), .slice none 0 0, .int .i64 (QW : Nat), .string n_unit, .int .i64 1, .int .u64 (fu : Nat), .slice none 0 0, .int .i64 (wiN 1 21 4 fu : Nat)] 110)) = .ok (.slice bo _ bc) w15 := hr
           have HRs := hid hr'
           have hfw : Fr (fun _ => False) w w15 := absorbP ((absorbP ((uh HI).fr.trans (uh HP10).2.2.1 (fun _ _ h => h)) (uh HP10).2.1 (fun j hj => ((uh HI).pl.lt j hj).1)).trans hf1014 (fun _ _ h => h)) hf15 (fun j hj => ((uh HP10).1.lt j hj).1)
           rw [List.append_assoc, List.length_append] at hP15
           have HP15 := hid (And.intro hP15 (And.intro hfw (Bl.app (uh HNX) (Bl.nilx 0 w.heap.size hX2n))))
           clear hr hr' hP15 hfw hX2in hX2n hf15 hst hb16 hf14 hf13 hf1214 hf1014 hsz10 d4' HST
           go_wp2_with (first | ((with_reducible refine wpList_at 169 ?_); refine wpList_load_mid rfl 110 (.tmp 15) rfl w11.heap.size 0 rfl _ _ (uh HR15) Tryz.underlying110 rfl Tryz.sizePt ?_) | ((with_reducible refine wpList_at 170 ?_); refine wpList_load_mid rfl 110 (.tmp 16) rfl w13.heap.size 0 rfl _ _ (uh HR16) Tryz.underlying110 rfl Tryz.sizePt ?_) | ((with_reducible refine wpList_at 172 ?_); refine wpList_appY rfl (.tmp 168) (.tmp 171) 74 74 rfl _ _ _ rfl rfl (uh HRs) ?_) | ((with_reducible refine wpList_stN' ?_); refine wpList_stN rfl 110 (.tmp 16) (.tmp 167) rfl _ _ rfl rfl (uh HST2) ?_))
           go_roundw
           case rel =>
            refine ⟨i + 1, _, by omega, by go_num, (uh HI).next hlt ?_ (uh HP15).1 (uh HP15).2.2 (uh HP15).2.1 (by simp)⟩
            rw [(uh HF).2.1]
            have hkw := uh HKN
            have hqw := uh HQW
            simp [namedP, fieldP, hkw, hqw]
           case measure => simp [intOf]; omega
          ·have hd1 : decide ((fu : Int) < 1) = false := decide_eq_false hu1
           have hd2 : decide ((21 : Int) < (fu : Int)) = true := decide_eq_true hu2
           have eu : (if true = true then (4 : Int) else 0) = ((wiN 1 21 4 fu : Nat) : Int) := by show (4 : Int) = _; unfold wiN; rw [if_pos (by omega)]; rfl
           go_wp2_with ((with_reducible refine wpList_stN' ?_); refine wpList_stN rfl 110 (.tmp 15) (.tmp 154) rfl _ _ rfl rfl (uh HST) ?_)
           refine (gwhyN n_unit 1 (fu : Nat) 0 4 _ none 0 0 true _ eu).mono ?_
           rintro e w13 ⟨rfl, hf13⟩
           obtain ⟨W14, hst, hb16, hf14, _⟩ := box_st (w := w13) [.string n_unit, .int .i64 1, .int .u64 (fu : Nat), .slice none 0 0, .int .i64 (wiN 1 21 4 fu : Nat)] (Fr.refl _ _) rfl (by simp [Value.oneCell'])
           have HST2 := hid hst
           have hf1214 : Fr (fun _ => False) W12 W14 := hf13.trans hf14 (fun _ _ h => h)
           have hf1014 : Fr (fun _ => False) w10 W14 := (uh HB15).2.trans hf1214 (fun _ _ h => h)
           have HR15 := hid (rOB ((hf1214.block _ (lt_of_block (uh HB15).1) (fun h => h)).trans (uh HB15).1))
           have HR16 := hid (rOB hb16)
           have hX2in : ∀ q ∈ ([⟨⟨n_value, 5, fv, [], QW⟩, .slice none 0 0⟩, ⟨⟨n_unit, 1, fu, [], wiN 1 21 4 fu⟩, .slice none 0 0⟩] : List PV), q.In W14 := fun q hq => by
            simp only [List.mem_cons, List.not_mem_nil, or_false] at hq
            rcases hq with rfl | rfl <;> exact nil_in _ _ rfl
           have hX2n : ∀ q ∈ ([⟨⟨n_value, 5, fv, [], QW⟩, .slice none 0 0⟩, ⟨⟨n_unit, 1, fu, [], wiN 1 21 4 fu⟩, .slice none 0 0⟩] : List PV), q.x = .slice none 0 0 := fun q hq => by
            simp only [List.mem_cons, List.not_mem_nil, or_false] at hq
            rcases hq with rfl | rfl <;> rfl
           have hsz10 : w.heap.size ≤ w10.heap.size := Nat.le_trans (Nat.le_trans (uh HI).fr.size (uh HP10).2.2.1.size) (uh HP10).2.1.size
           obtain ⟨bo, bc, w15, hr, hP15, hf15⟩ := ((uh HP10).1.fr0 hf1014).add (by have := hf1014.size; omega) _ hX2in (Bl.far (uh HP10).1 (Bl.nilx 0 w10.heap.size hX2n) (Nat.zero_le _) (Nat.le_refl _)) (by have := (uh HI).ln; simp; omega)
           have hr' : (Builtin.append_ #[74, 74] 74 #[.slice ao (L.length + 2) cap, .slice (some ⟨W14.heap.size, 0, none⟩) 2 2]).run Tryz.prog (W14.alloc (.cells #[.string n_value, .int .i64 5, .int .u64 (fv : Nat), .slice none 0 0, .int .i64 (QW : Nat), .string n_unit, .int .i64 1, .int .u64 (fu : Nat), .slice none 0 0, .int .i64 (wiN 1 21 4 fu : Nat)] 110)) = .ok (.slice bo _ bc) w15 := hr
           have HRs := hid hr'
           have hfw : Fr (fun _ => False) w w15 := absorbP ((absorbP ((uh HI).fr.trans (uh HP10).2.2.1 (fun _ _ h => h)) (uh HP10).2.1 (fun j hj => ((uh HI).pl.lt j hj).1)).trans hf1014 (fun _ _ h => h)) hf15 (fun j hj => ((uh HP10).1.lt j hj).1)
           rw [List.append_assoc, List.length_append] at hP15
           have HP15 := hid (And.intro hP15 (And.intro hfw (Bl.app (uh HNX) (Bl.nilx 0 w.heap.size hX2n))))
           clear hr hr' hP15 hfw hX2in hX2n hf15 hst hb16 hf14 hf13 hf1214 hf1014 hsz10 d4' HST
           go_wp2_with (first | ((with_reducible refine wpList_at 169 ?_); refine wpList_load_mid rfl 110 (.tmp 15) rfl w11.heap.size 0 rfl _ _ (uh HR15) Tryz.underlying110 rfl Tryz.sizePt ?_) | ((with_reducible refine wpList_at 170 ?_); refine wpList_load_mid rfl 110 (.tmp 16) rfl w13.heap.size 0 rfl _ _ (uh HR16) Tryz.underlying110 rfl Tryz.sizePt ?_) | ((with_reducible refine wpList_at 172 ?_); refine wpList_appY rfl (.tmp 168) (.tmp 171) 74 74 rfl _ _ _ rfl rfl (uh HRs) ?_) | ((with_reducible refine wpList_stN' ?_); refine wpList_stN rfl 110 (.tmp 16) (.tmp 167) rfl _ _ rfl rfl (uh HST2) ?_))
           go_roundw
           case rel =>
            refine ⟨i + 1, _, by omega, by go_num, (uh HI).next hlt ?_ (uh HP15).1 (uh HP15).2.2 (uh HP15).2.1 (by simp)⟩
            rw [(uh HF).2.1]
            have hkw := uh HKN
            have hqw := uh HQW
            simp [namedP, fieldP, hkw, hqw]
           case measure => simp [intOf]; omega
         ·have e1 := kF1 hk1
          have e2 := kF2 hk2
          go_wp2_with (first | ((with_reducible refine wpList_at 131 ?_); refine wpList_load_mid rfl 110 (.tmp 11) rfl w2.heap.size 0 rfl _ _ (uh HR11) Tryz.underlying110 rfl Tryz.sizePt ?_) | ((with_reducible refine wpList_at 132 ?_); refine wpList_load_mid rfl 110 (.tmp 13) rfl w3.heap.size 0 rfl _ _ (uh HR13) Tryz.underlying110 rfl Tryz.sizePt ?_) | ((with_reducible refine wpList_at 134 ?_); refine wpList_appY rfl (.tmp 130) (.tmp 133) 74 74 rfl _ _ _ rfl rfl (uh HRr) ?_))
          go_roundw
          case rel =>
           refine ⟨i + 1, _, by omega, by go_num, (uh HI).next hlt ?_ (uh HP10).1 (uh HNX) (absorbP ((uh HI).fr.trans (uh HP10).2.2.1 (fun _ _ h => h)) (uh HP10).2.1 (fun j hj => ((uh HI).pl.lt j hj).1)) (by simp)⟩
           rw [(uh HF).2.1]
           have hkw := uh HKN
           simp only [List.map_cons, List.map_nil, namedP, fieldP, if_neg hk1, if_neg hk2, hkw]
          case measure => simp [intOf]; omega
   ·obtain rfl : i = l.length := by omega
    have HI := hid hI
    clear hI hlt hi hw1
    go_wp2_with fail
    go_ret
    exact ⟨_, L, rfl, (uh HI).pl, by rw [(uh HI).mp, List.take_length]; rfl, (uh HI).ln, (uh HI).bl, (uh HI).fr⟩
theorem cw0_big (n : Nat) (h : n ≤ 3500000000) : cw0.room n := by simp only [cw0, CS.room, CS.len, List.length_nil]; omega
theorem room_short {s : Wq} (h : (CS.wr s).room 3000000000) : s.l.length ≤ 30000000000000 := by
 simp only [CS.room, CS.len] at h
 omega
theorem requestW_roomB (v : RqM) : (CS.wr (requestW v)).room 3000000000 := by
 rw [← requestW_eq]
 exact CS.pRequest_room (n := 3000000000) (CS.pForm_room (cw0_big 3000000141 (by decide)) 1) v
theorem answerW_roomB (v : AnM) : (CS.wr (answerW v)).room 3000000000 := by
 rw [← answerW_eq]
 have R0 : (cw0.pForm 2).room 3000000500 := CS.pForm_room (cw0_big 3000000501 (by decide)) 2
 have R1 : ((cw0.pForm 2).a1 v).1.room 3000000498 := CS.pId_room R0 _
 have R2 : ((cw0.pForm 2).a2 v).1.room 3000000497 := CS.pU8_room R1 _ _ _
 have R3 : ((cw0.pForm 2).a3 v).1.room 3000000496 := CS.pU32_room R2 _ _ _
 have R4 : ((cw0.pForm 2).a4 v).1.room 3000000495 := CS.pU32_room R3 _ _ _
 have R5 : ((cw0.pForm 2).a5 v).1.room 3000000366 := CS.pFields_room R4 _ _ _
 have M5 : (cw0.pForm 2).sm ((cw0.pForm 2).a5 v).1 := CS.sm_trans (CS.sm_trans (CS.sm_trans (CS.sm_trans (CS.pId_sm _ _) (CS.pU8_sm _ _ _ _)) (CS.pU32_sm _ _ _ _)) (CS.pU32_sm _ _ _ _)) (CS.pFields_sm _ _ _ _)
 have e := sm_wq (CS.sm_trans (CS.pForm_sm cw0 2) M5)
 show (((cw0.pForm 2).a5 v).1.pHist v.hi).1.room 3000000000
 rw [e] at R5 ⊢
 exact CS.pHist_room _ (CS.room_le R5 (by decide)) _
theorem eventW_roomB (v : EvM) : (CS.wr (eventW v)).room 3000000000 := by
 rw [← eventW_eq]
 exact CS.pHash_room (CS.pU8_room (CS.pRequest_room (CS.pU32_room (CS.pForm_room (cw0_big 3000000144 (by decide)) 3) _ _ _) _) _ _ _) _ _
theorem CS.pM_roomB (s : Wq) (h : (CS.wr s).room 3000000500) (k : Nat) (v : MsM) : ((CS.wr s).pM k v).1.room 3000000000 := by
 unfold CS.pM
 split
 ·exact CS.pRequest_room (n := 3000000000) (CS.room_le h (by decide)) _
 split
 ·exact CS.pId_room (n := 3000000000) (CS.room_le h (by decide)) _
 split
 ·have R1 : ((CS.wr s).a1 v.an).1.room 3000000498 := CS.pId_room h _
  have R2 : ((CS.wr s).a2 v.an).1.room 3000000497 := CS.pU8_room R1 _ _ _
  have R3 : ((CS.wr s).a3 v.an).1.room 3000000496 := CS.pU32_room R2 _ _ _
  have R4 : ((CS.wr s).a4 v.an).1.room 3000000495 := CS.pU32_room R3 _ _ _
  have R5 : ((CS.wr s).a5 v.an).1.room 3000000366 := CS.pFields_room R4 _ _ _
  have M5 : (CS.wr s).sm ((CS.wr s).a5 v.an).1 := CS.sm_trans (CS.sm_trans (CS.sm_trans (CS.sm_trans (CS.pId_sm _ _) (CS.pU8_sm _ _ _ _)) (CS.pU32_sm _ _ _ _)) (CS.pU32_sm _ _ _ _)) (CS.pFields_sm _ _ _ _)
  have e := sm_wq M5
  show (((CS.wr s).a5 v.an).1.pHist v.an.hi).1.room 3000000000
  rw [e] at R5 ⊢
  exact CS.pHist_room _ (CS.room_le R5 (by decide)) _
 split
 ·exact CS.pU8_room (CS.pId_room (n := 3000000001) (CS.room_le h (by decide)) _) _ _ _
 split
 ·exact CS.pHash_room (CS.pU8_room (CS.pRequest_room (n := 3000000002) (CS.pU32_room (n := 3000000142) (CS.room_le h (by decide)) _ _ _) _) _ _ _) _ _
 split
 ·exact CS.pU32_room (n := 3000000000) (CS.room_le h (by decide)) _ _ _
 ·exact CS.room_le h (by decide)
theorem messageW_roomB (v : MsM) : (CS.wr (messageW v)).room 3000000000 := by
 rw [← messageW_eq]
 have R0 : (cw0.pForm 7).room 3000000501 := CS.pForm_room (cw0_big 3000000502 (by decide)) 7
 have R1 : ((cw0.pForm 7).m1 v).1.room 3000000500 := CS.pU8_room R0 _ _ _
 have e := sm_wq (CS.sm_trans (CS.pForm_sm cw0 7) (CS.pU8_sm (cw0.pForm 7) n_kind [wiN 1 7 5, unN v.beside] v.kd))
 show (((cw0.pForm 7).m1 v).1.pM ((cw0.pForm 7).m1 v).2 v).1.room 3000000000
 have e' : ((cw0.pForm 7).m1 v).1 = .wr ((cw0.pForm 7).m1 v).1.wq := e
 rw [e'] at R1 ⊢
 exact CS.pM_roomB _ R1 _ _
theorem headW_roomB (n : Nat) (r : List Nat) : (CS.wr (headW n r)).room 3000000000 := CS.pHead_room (n := 3000000000) (CS.pForm_room (cw0_big 3000000003 (by decide)) 4) (n, r)
theorem signedW_roomB (size key : Nat) (root sig : List Nat) : (CS.wr (signedW ((size, root), key, sig))).room 3000000000 := CS.pByt_room (n := 3000000000) (CS.pU32_room (n := 3000000001) (CS.pHead_room (n := 3000000002) (CS.pForm_room (cw0_big 3000000005 (by decide)) 5) (size, root)) _ _ _) _ _ _ _ (fun e => by have := szN_fit [] 0 32768 (fun v : List Nat => v.length) sig e; show sig.length ≤ 32768; omega)
theorem proofW_roomB (ps : List (List Nat)) : (CS.wr (proofW ps)).room 3000000000 := by
 rw [← proofW_eq]
 refine loopW_room (ps.take (min ps.length 4096)) (n := 3000000000) ?_
 have h2 := CS.pInt_room (n := 3000004096) (CS.pForm_room (n := 3000004097) (cw0_big 3000004098 (by decide)) 6) n_hashes (4096 : Nat) (lrs (4096 : Nat) []) ps.length
 have h3 : (ps.take (min ps.length 4096)).length ≤ 4096 := by rw [List.length_take]; omega
 exact Nat.le_trans (Nat.add_le_add_left (Nat.mul_le_mul_left 40000 (by omega)) _) h2
end Go.Proofs.YtdcopmkgmbiikaaGreatDoor
