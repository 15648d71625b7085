import Derived.Test.YtkiepcdncegniaaPk3
namespace Go.Proofs.Ytkiepcdncegniaa
open Go.RowKit Go.Maps

set_option maxRecDepth 100000 in
set_option maxHeartbeats 4000000 in
theorem looked_wait {w : World} {d c : Nat} {cs : List SC} {dn : List Nat} {T : Nat → Prop} (hs : SS w d c cs dn T) (got base : Nat) (v : Value) (l : List RC) (h : OwC w base v l) (hl : l.length ≤ 4096) (hc : c < 4294967296) (i : Nat) (q : SC) (x : RC) (hq : cs[i]? = some q) (hx : l[i]? = some x) (hok : x.Ok w) (hd : q.d = none) (hxo : x.o = 0) (hxc : x.c < 256) (hla : q.la = (x.c : Int)) (hn : q.n = x.b) : Calls Try.prog 23 #[.pointer (some ⟨d, 0, none⟩), .agg #[.int .u32 (c : Nat), v, .int .i64 (got : Nat)], .agg #[.int .u32 (c : Nat), .int .u32 ((i : Int) + 1)]] w fun e w' => e = .returned (.bool true) ∧ Fr (fun _ => False) w w' := by
  obtain ⟨ao, cap, rfl⟩ := own_formX h
  obtain ⟨N, hN⟩ : ∃ N, l.length = N := ⟨_, rfl⟩
  have HO := hide h
  have HSS := hide hs
  have HNN := hide hN
  rw [hN] at hl HO ⊢
  have hil : i < N := by have := (List.getElem?_eq_some_iff.1 hx).1; omega
  have hrow := h
  unfold OwC at hrow
  rw [hN] at hrow
  obtain ⟨g, cp, eg, _, hg⟩ := own_one_form hrow (by omega)
  rw [← hN] at eg
  have hcx : w.rangeAt g (i * 20) x.cs := fun j u hu => by
    have h20 : j < 20 := by have := (List.getElem?_eq_some_iff.1 hu).1; rwa [RC.len] at this
    exact hg (i * 20 + j) u (by rw [ccells_at l i j x hx h20]; exact hu)
  have H1 := hide hok.one
  rw [hN] at eg
  cases eg
  obtain ⟨⟨xcl, xnu, xac, xop, xrc, xve, xwa, xow, xfv, xrs⟩, xF, xo, ⟨xdl, xdn, xdo, xdr, xdv, xgv, xhv⟩, xG, xK, xc, xb⟩ := x
  obtain ⟨xfo, xfc, e, _⟩ := hok.f.f
  simp only at e
  subst e
  obtain ⟨xgo, xgc, e, _⟩ := hok.g.f
  simp only at e
  subst e
  obtain ⟨xho, xhc, e, _⟩ := hok.k.f
  simp only at e
  subst e
  have HOK := hide hok
  simp only [RC.cs, RQ.cs, AN.cs, List.cons_append, List.nil_append] at hcx
  have hgw : g < w.heap.size := lt_of_cell (hcx 0 _ rfl)
  have HCX := hide hcx
  clear hrow hg hcx hok hx
  obtain ⟨W1, hW1⟩ : ∃ W1, (w.alloc (.cells #[.int .u32 (c : Nat), .slice (some ⟨g, 0, none⟩) N cap, .int .i64 (got : Nat)] 60)).alloc (.cells #[.int .u32 (c : Nat), .int .u32 ((i : Int) + 1)] 29) = W1 := ⟨_, rfl⟩
  have hf1 : Fr (fun _ => False) w W1 := by rw [← hW1]; exact (box1 w _).alloc _
  have hb0 : W1.heap[w.heap.size]? = some (.cells #[.int .u32 (c : Nat), .slice (some ⟨g, 0, none⟩) N cap, .int .i64 (got : Nat)] 60) := by rw [← hW1]; exact (Below.heap_alloc _ _ _ (by simp)).trans (heap_alloc_new w _)
  have hb1 : W1.heap[w.heap.size + 1]? = some (.cells #[.int .u32 (c : Nat), .int .u32 ((i : Int) + 1)] 29) := by
    rw [← hW1]
    have := heap_alloc_new (w.alloc (.cells #[.int .u32 (c : Nat), .slice (some ⟨g, 0, none⟩) N cap, .int .i64 (got : Nat)] 60)) (.cells #[.int .u32 (c : Nat), .int .u32 ((i : Int) + 1)] 29)
    rwa [World.size_alloc] at this
  have HRS : Hid (∀ W', Fr (fun _ => False) W1 W' → W'.rangeAt w.heap.size 0 [.int .u32 (c : Nat), .slice (some ⟨g, 0, none⟩) N cap, .int .i64 (got : Nat)]) := hide (fun W' hf => range_of_block ((hf.block _ (lt_of_block hb0) (fun h => h)).trans hb0))
  have HID : Hid (∀ W', Fr (fun _ => False) W1 W' → W'.cell? ⟨w.heap.size + 1, 0, none⟩ = some (.int .u32 (c : Nat)) ∧ W'.cell? ⟨w.heap.size + 1, 1, none⟩ = some (.int .u32 ((i : Int) + 1)) ∧ w.heap.size + 1 < W'.heap.size) := hide (fun W' hf => by
    have hb := (hf.block _ (lt_of_block hb1) (fun h => h)).trans hb1
    exact ⟨cell_of_blk hb rfl, cell_of_blk hb rfl, lt_of_block hb⟩)
  have HB := hide (And.intro hb0 (And.intro hb1 hf1))
  obtain ⟨i0, i1, _⟩ := (unhide HID) W1 (Fr.refl _ _)
  clear hb0 hb1 hf1 h hs hN
  go_enter Try.func23, Try.ntmps23
  go_wp2_with fail
  have HT : Hid (Calls Try.prog 19 #[.pointer (some ⟨d, 0, none⟩), .agg #[.int .u32 (c : Nat), .int .u32 ((i : Int) + 1)]] W1 fun e w' => ∃ v u, e = .returned (.tuple #[.agg #[.int .u32 0, .int .u32 0, .int .u8 0, .int .u32 0, .int .u32 0, v, u], .bool false]) ∧ OwF w' W1.heap.size v [] ∧ OwS w' W1.heap.size u [] ∧ Fr (fun _ => False) W1 w') := hide (((unhide HSS).fr0 (unhide HB).2.2).aNo c (i + 1) hc (by omega) (fun _ => fA_wt hq hd))
  refine (unhide HT).mono ?_
  clear HT
  rintro e w2 ⟨v2, u2, rfl, hF2, hH2, hf2⟩
  obtain ⟨fo, fc, rfl⟩ := own_formX hF2
  obtain ⟨ho, hc2, rfl⟩ := own_formX hH2
  have HO2 := hide (And.intro hF2 hH2)
  have HF2 := hide hf2
  obtain ⟨j0, j1, j2⟩ := (unhide HID) w2 hf2
  clear hF2 hH2 hf2 i0 i1
  go_wp2_with fail
  obtain ⟨W3, hW3⟩ : ∃ W3, w2.alloc (.cells #[.int .u32 0, .int .u32 0, .int .u8 0, .int .u32 0, .int .u32 0, .slice fo 0 fc, .slice ho 0 hc2] 44) = W3 := ⟨_, rfl⟩
  have hf3 : Fr (fun _ => False) w2 W3 := by rw [← hW3]; exact box1 w2 _
  have hb3 : W3.heap[w2.heap.size]? = some (.cells #[.int .u32 0, .int .u32 0, .int .u8 0, .int .u32 0, .int .u32 0, .slice fo 0 fc, .slice ho 0 hc2] 44) := by rw [← hW3]; exact heap_alloc_new w2 _
  rw [hW3]
  have HF3 := hide (And.intro ((unhide HF2).trans0 hf3) (And.intro hf3 hb3))
  clear hW3 hf3 hb3 j0 j1 j2
  have HT : Hid (Calls Try.prog 15 #[.pointer (some ⟨d, 0, none⟩), .agg #[.int .u32 (c : Nat), .int .u32 ((i : Int) + 1)]] W3 fun e w' => e = .returned (.tuple #[.int .i64 (xc : Nat), .int .i64 (xb : Nat)]) ∧ Fr (fun _ => False) W3 w') := hide (by
    have := (((unhide HSS).fr0 (unhide HB).2.2).fr0 (unhide HF3).1).bYes i q hq hd
    rw [hla, hn] at this
    exact this)
  refine (unhide HT).mono ?_
  clear HT
  rintro e w4 ⟨rfl, hf4⟩
  have HF4 := hide ((unhide HF3).1.trans0 hf4)
  have HF34 := hide hf4
  obtain ⟨j0, j1, j2⟩ := (unhide HID) w4 (unhide HF4)
  have HR4 := hide ((unhide HRS) w4 (unhide HF4))
  clear hf4
  go_wp2_with (refine wpList_load_mid rfl 60 (.tmp 4) rfl w.heap.size 0 rfl _ _ (unhide HR4) Try.underlying60 rfl Try.sizeRs ?_)
  refine (gfind_any c (some ⟨g, 0, none⟩) N cap got c (i + 1) w4 hl).mono ?_
  rintro e w5 ⟨rfl, hf5⟩
  have HF5 := hide (And.intro ((unhide HF4).trans0 hf5) ((unhide HF34).trans0 hf5))
  clear hf5 j0 j1 j2 HR4
  have hgn : gnum c N c (i + 1) = i + 1 := by unfold gnum; rw [if_pos ⟨rfl, by omega, by omega⟩]
  rw [hgn]
  have hwi : wrap64 ((i : Int) + 1 - 1) = (i : Int) := by unfold wrap64; omega
  have l3 : (0 : Int) ≤ (i : Int) := by omega
  have l1 : (i : Int) < (N : Int) := by omega
  have l2 : ¬ (i : Int) + 1 = 0 := by omega
  have l2b : ((i : Int) + 1 == 0) = false := by simpa using l2
  have d1 : w5.cell? ⟨w.heap.size, 1, none⟩ = some (.slice (some ⟨g, 0, none⟩) N cap) := cell_of_blk (((unhide HF5).1.block _ (lt_of_block (unhide HB).1) (fun h => h)).trans (unhide HB).1) rfl
  have HR5 : Hid (w5.rangeAt g (i * 20) [.int .u32 (xcl : Nat), .int .u32 (xnu : Nat), .int .u32 (xac : Nat), .int .u8 (xop : Nat), .int .u32 (xrc : Nat), .int .u32 (xve : Nat), .int .u32 (xwa : Nat), .int .u32 (xow : Nat), (.slice xfo xF.length xfc), .string xrs, .int .i64 (xo : Nat), .int .u32 (xdl : Nat), .int .u32 (xdn : Nat), .int .u8 (xdo : Nat), .int .u32 (xdr : Nat), .int .u32 (xdv : Nat), (.slice xgo xG.length xgc), (.slice xho xK.length xhc), .int .u8 (xc : Nat), .int .i64 (xb : Nat)]) := hide (fun j u hu => (((unhide HB).2.2.trans0 (unhide HF5).1).cell (p := ⟨g, i * 20 + j, none⟩) (Nat.lt_of_lt_of_le hgw (Nat.le_refl _)) (fun h => h)).trans ((unhide HCX) j u hu))
  obtain ⟨W6, hst6, hb6, hf6⟩ := st_all (P := Try.prog) (ty := 66) [.int .u32 0, .int .u32 0, .int .u32 0, .int .u8 0, .int .u32 0, .int .u32 0, .int .u32 0, .int .u32 0, .slice none 0 0, .string ⟨#[]⟩, .int .i64 0, .int .u32 0, .int .u32 0, .int .u8 0, .int .u32 0, .int .u32 0, .slice none 0 0, .slice none 0 0, .int .u8 0, .int .i64 0] [.int .u32 (xcl : Nat), .int .u32 (xnu : Nat), .int .u32 (xac : Nat), .int .u8 (xop : Nat), .int .u32 (xrc : Nat), .int .u32 (xve : Nat), .int .u32 (xwa : Nat), .int .u32 (xow : Nat), (.slice xfo xF.length xfc), .string xrs, .int .i64 (xo : Nat), .int .u32 (xdl : Nat), .int .u32 (xdn : Nat), .int .u8 (xdo : Nat), .int .u32 (xdr : Nat), .int .u32 (xdv : Nat), (.slice xgo xG.length xgc), (.slice xho xK.length xhc), .int .u8 (xc : Nat), .int .i64 (xb : Nat)] (heap_alloc_new w5 (.cells #[.int .u32 0, .int .u32 0, .int .u32 0, .int .u8 0, .int .u32 0, .int .u32 0, .int .u32 0, .int .u32 0, .slice none 0 0, .string ⟨#[]⟩, .int .i64 0, .int .u32 0, .int .u32 0, .int .u8 0, .int .u32 0, .int .u32 0, .slice none 0 0, .slice none 0 0, .int .u8 0, .int .i64 0] 66)) rfl Try.sizeCl (unhide H1)
  have hf56 : Fr (fun _ => False) w5 W6 := (box1 w5 _).trans hf6 (fun g hg e => by omega)
  have d10 : W6.cell? ⟨w5.heap.size, 10, none⟩ = some (.int .i64 (xo : Nat)) := cell_of_blk hb6 rfl
  have HST6 := hide hst6
  have HB6 := hide (And.intro hb6 hf56)
  obtain ⟨XS, hXS⟩ : ∃ XS : List Value, XS = [.int .u32 (xcl : Nat), .int .u32 (xnu : Nat), .int .u32 (xac : Nat), .int .u8 (xop : Nat), .int .u32 (xrc : Nat), .int .u32 (xve : Nat), .int .u32 (xwa : Nat), .int .u32 (xow : Nat), (.slice xfo xF.length xfc), .string xrs, .int .i64 (xo : Nat), .int .u32 (xdl : Nat), .int .u32 (xdn : Nat), .int .u8 (xdo : Nat), .int .u32 (xdr : Nat), .int .u32 (xdv : Nat), (.slice xgo xG.length xgc), (.slice xho xK.length xhc), .int .u8 (xc : Nat), .int .i64 (xb : Nat)] := ⟨_, rfl⟩
  rw [← hXS] at HR5 HST6
  have hsx : (Try.prog.info? 66).map (·.size) = some XS.length := by rw [hXS]; exact Try.sizeCl
  clear hXS hst6 hb6 hf6 hf56 HCX hgw hgn
  subst hxo
  have HRA : Hid (W6.rangeAt w2.heap.size 0 [.int .u32 0, .int .u32 0, .int .u8 0, .int .u32 0, .int .u32 0, .slice fo 0 fc, .slice ho 0 hc2]) := hide (range_of_block ((((unhide HF5).2.trans0 (unhide HB6).2).block _ (lt_of_block (unhide HF3).2.2) (fun h => h)).trans (unhide HF3).2.2))
  have HGS : Hid (Calls Try.prog 25 #[.agg #[.int .u32 0, .int .u32 0, .int .u8 0, .int .u32 0, .int .u32 0, .slice fo 0 fc, .slice ho 0 hc2], .agg #[.int .u32 0, .int .u32 0, .int .u8 0, .int .u32 0, .int .u32 0, .slice none 0 0, .slice none 0 0]] W6 fun e w' => e = .returned (.bool true) ∧ Fr (fun _ => False) W6 w') := hide (gsameAnswer_any ⟨0, 0, 0, 0, 0, .slice fo 0 fc, .slice ho 0 hc2⟩ ⟨0, 0, 0, 0, 0, .slice none 0 0, .slice none 0 0⟩ [] [] [] [] W6 ((OwF.fds (unhide HO2).1).fr ((unhide HF3).2.1.trans0 ((unhide HF5).2.trans0 (unhide HB6).2))) (fds_no _) ((OwS.sms (unhide HO2).2).fr ((unhide HF3).2.1.trans0 ((unhide HF5).2.trans0 (unhide HB6).2))) (sms_no _) (by simp) (by simp))
  go_wp2_with (first | refine wpList_allocN rfl 66 rfl _ (alloc_cl w5) ?_ | refine wpList_load_mid rfl 66 (.tmp 49) rfl g (i * 20) rfl _ _ (unhide HR5) Try.underlying66 rfl hsx ?_ | refine wpList_stN rfl 66 (.tmp 12) (.tmp 50) rfl _ _ rfl rfl (unhide HST6) ?_ | refine wpList_load_midG rfl 44 (.tmp 7) rfl w2.heap.size 0 rfl _ _ (unhide HRA) Try.underlying44 rfl Try.sizeAn ?_)
  refine (unhide HGS).mono ?_
  rintro e w7 ⟨rfl, hf7⟩
  have b7 := (hf7.block _ (lt_of_block (unhide HB6).1) (fun h => h)).trans (unhide HB6).1
  have d18 : w7.cell? ⟨w5.heap.size, 18, none⟩ = some (.int .u8 (xc : Nat)) := cell_of_blk b7 rfl
  have d19 : w7.cell? ⟨w5.heap.size, 19, none⟩ = some (.int .i64 (xb : Nat)) := cell_of_blk b7 rfl
  have hwc : wrap64 (xc : Int) = (xc : Int) := by have := hxc; unfold wrap64; omega
  have HE := hide ((((unhide HB).2.2.trans0 (unhide HF5).1).trans0 (unhide HB6).2).trans0 hf7)
  clear hf7 HGS HRA b7 HB6
  go_wp2_with fail
  go_ret
  exact ⟨rfl, unhide HE⟩
end Go.Proofs.Ytkiepcdncegniaa

