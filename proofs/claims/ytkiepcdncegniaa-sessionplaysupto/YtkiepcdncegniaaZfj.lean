import Derived.Test.YtkiepcdncegniaaZfd
namespace Go.Proofs.Ytkiepcdncegniaa
open Go.RowKit Go.Maps

set_option maxRecDepth 100000 in
set_option maxHeartbeats 4000000 in
/-- An answer of a request that is answered. -/
theorem gtake_again (c got base i : Nat) (v : Value) (l : List RC) (x : RC) (xs : List Value) (icl inu co : Nat) (a : AN) (w : World) (hm : MsX xs 3 icl inu co a) (h : OwC w base v l) (hok : ∀ y ∈ l, y.Ok w) (hl : l.length ≤ 4096) (hx : l[i]? = some x) (hcl : a.cl = c) (hnu : a.nu = i + 1) (ho : 0 < x.o) (F : List F5) (K : List SM) (hF : Fds w a.fv F) (hK : Sms w a.hv K) : Calls Try.prog 22 #[.agg #[.int .u32 (c : Nat), v, .int .i64 (got : Nat)], .agg xs.toArray] w fun e w' => ∃ v', e = .returned (.tuple #[.agg #[.int .u32 (c : Nat), v', .int .i64 (got : Nat)], .int .i64 (if gsameA x.a a x.G F x.K K then 0 else 4)]) ∧ OwC w' base v' l ∧ Fr (fun _ => False) w w' ∧ ∀ g, v'.ownBlock = some g → v.ownBlock = some g ∨ w.heap.size ≤ g := by
  obtain ⟨ao, cap, rfl⟩ := own_formX h
  obtain ⟨acl, anu, aco, arc, ave, afv, ahv⟩ := a
  obtain ⟨N, hN⟩ : ∃ N, l.length = N := ⟨_, rfl⟩
  have HO := hide h
  have HNN := hide hN
  rw [hN] at hl HO ⊢
  have hil : i < N := by have := (List.getElem?_eq_some_iff.1 hx).1; omega
  have hrow := h
  unfold OwC at hrow
  rw [hN] at hrow
  obtain ⟨g, cp, eg, _, hg⟩ := own_one_form hrow (by omega)
  rw [← hN] at eg
  have hcx : w.rangeAt g (i * 20) x.cs := fun j u hu => by
    have h20 : j < 20 := by have := (List.getElem?_eq_some_iff.1 hu).1; rwa [RC.len] at this
    exact hg (i * 20 + j) u (by rw [ccells_at l i j x hx h20]; exact hu)
  have hokx := hok x (List.mem_of_getElem? hx)
  have H1 := hide (And.intro (fun y hy => (hok y hy).one) hokx.one)
  have HX := hide hx
  rw [hN] at eg
  cases eg
  obtain ⟨⟨xcl, xnu, xac, xop, xrc, xve, xwa, xow, xfv, xrs⟩, xF, xo, ⟨xdl, xdn, xdo, xdr, xdv, xgv, xhv⟩, xG, xK, xc, xb⟩ := x
  obtain ⟨xfo, xfc, e, _⟩ := hokx.f.f
  simp only at e
  subst e
  obtain ⟨xgo, xgc, e, _⟩ := hokx.g.f
  simp only at e
  subst e
  obtain ⟨xho, xhc, e, _⟩ := hokx.k.f
  simp only at e
  subst e
  have HOK := hide hokx
  simp only [RC.cs, RQ.cs, AN.cs, List.cons_append, List.nil_append] at hcx
  have hgw : g < w.heap.size := lt_of_cell (hcx 0 _ rfl)
  have HCX := hide hcx
  clear h hN hrow hg hcx hok hokx hx
  obtain ⟨W1, hW1⟩ : ∃ W1, ((w.alloc (.cells #[.int .u32 (c : Nat), .slice (some ⟨g, 0, none⟩) N cap, .int .i64 (got : Nat)] 60)).alloc (.cells xs.toArray 49)).alloc (.cells #[.int .u32 0, .slice none 0 0, .int .i64 0] 60) = W1 := ⟨_, rfl⟩
  have hf1 : Fr (fun _ => False) w W1 := by rw [← hW1]; exact ((box1 w _).alloc _).alloc _
  have hb0 : W1.heap[w.heap.size]? = some (.cells #[.int .u32 (c : Nat), .slice (some ⟨g, 0, none⟩) N cap, .int .i64 (got : Nat)] 60) := by rw [← hW1]; exact (Below.heap_alloc _ _ _ (by simp; omega)).trans ((Below.heap_alloc _ _ _ (by simp)).trans (heap_alloc_new w _))
  have hb1 : W1.heap[w.heap.size + 1]? = some (.cells xs.toArray 49) := by
    rw [← hW1]
    refine (Below.heap_alloc _ _ _ (by simp)).trans ?_
    have := heap_alloc_new (w.alloc (.cells #[.int .u32 (c : Nat), .slice (some ⟨g, 0, none⟩) N cap, .int .i64 (got : Nat)] 60)) (.cells xs.toArray 49)
    rwa [World.size_alloc] at this
  have hb2 : W1.heap[w.heap.size + 1 + 1]? = some (.cells #[.int .u32 0, .slice none 0 0, .int .i64 0] 60) := by
    rw [← hW1]
    have := heap_alloc_new ((w.alloc (.cells #[.int .u32 (c : Nat), .slice (some ⟨g, 0, none⟩) N cap, .int .i64 (got : Nat)] 60)).alloc (.cells xs.toArray 49)) (.cells #[.int .u32 0, .slice none 0 0, .int .i64 0] 60)
    rwa [World.size_alloc, World.size_alloc] at this
  have hz1 : W1.heap.size = w.heap.size + 3 := by rw [← hW1]; simp
  have hz2 : w.heap.size + 1 < W1.heap.size := by omega
  have hz3 : w.heap.size < W1.heap.size := by omega
  have c0 : W1.cell? ⟨w.heap.size + 1, 0, none⟩ = some (.int .u8 3) := cell_of_blk hb1 (by simpa using hm.k)
  have c11 : W1.cell? ⟨w.heap.size + 1, 11, none⟩ = some (.int .u32 (icl : Nat)) := cell_of_blk hb1 (by simpa using hm.i1)
  have c12 : W1.cell? ⟨w.heap.size + 1, 12, none⟩ = some (.int .u32 (inu : Nat)) := cell_of_blk hb1 (by simpa using hm.i2)
  have c13 : W1.cell? ⟨w.heap.size + 1, 13, none⟩ = some (.int .u32 (acl : Nat)) := cell_of_blk hb1 (by simpa using hm.an 0 _ rfl)
  have c14 : W1.cell? ⟨w.heap.size + 1, 14, none⟩ = some (.int .u32 (anu : Nat)) := cell_of_blk hb1 (by simpa using hm.an 1 _ rfl)
  have HB := hide (And.intro hb0 (And.intro hb1 (And.intro hb2 (And.intro hf1 hz1))))
  have HRS : Hid (∀ W', Fr (fun _ => False) W1 W' → W'.rangeAt w.heap.size 0 [.int .u32 (c : Nat), .slice (some ⟨g, 0, none⟩) N cap, .int .i64 (got : Nat)]) := hide (fun W' hf => range_of_block ((hf.block _ (lt_of_block hb0) (fun h => h)).trans hb0))
  clear hb0 hb1 hb2 hf1 hz1
  go_enter Try.func22, Try.ntmps22
  simp only at hcl hnu
  subst hcl
  subst hnu
  have hgn : gnum acl N acl (i + 1) = i + 1 := by unfold gnum; rw [if_pos ⟨rfl, by omega, by omega⟩]
  have hwi : wrap64 ((i : Int) + 1 - 1) = (i : Int) := by unfold wrap64; omega
  have l3 : (0 : Int) ≤ (i : Int) := by omega
  have l1 : (i : Int) < (N : Int) := by omega
  have l2 : ¬ (i : Int) + 1 = 0 := by omega
  have l2b : ((i : Int) + 1 == 0) = false := by simpa using l2
  go_wp2_with (refine wpList_load_mid rfl 60 (.tmp 2) rfl w.heap.size 0 rfl _ _ ((unhide HRS) _ (box1 W1 (.cells #[.int .u32 (acl : Nat), .int .u32 ((i : Int) + 1)] 29))) Try.underlying60 rfl Try.sizeRs ?_)
  refine (gfind_any acl (some ⟨g, 0, none⟩) N cap got acl (i + 1) _ hl).mono ?_
  rintro e w5 ⟨rfl, hf5⟩
  rw [hgn]
  have hf15 : Fr (fun _ => False) W1 w5 := (box1 W1 (.cells #[.int .u32 (acl : Nat), .int .u32 ((i : Int) + 1)] 29)).trans0 hf5
  have d0 : w5.cell? ⟨w.heap.size + 1, 0, none⟩ = some (.int .u8 3) := (hf15.cell (p := ⟨w.heap.size + 1, 0, none⟩) (lt_of_cell c0) (fun h => h)).trans c0
  have d1 : w5.cell? ⟨w.heap.size, 1, none⟩ = some (.slice (some ⟨g, 0, none⟩) N cap) := cell_of_blk ((hf15.block _ (lt_of_block (unhide HB).1) (fun h => h)).trans (unhide HB).1) rfl
  have d20 : w5.cell? ⟨w.heap.size + 1, 20, none⟩ = some (.int .u8 (co : Nat)) := cell_of_blk ((hf15.block _ (lt_of_block (unhide HB).2.1) (fun h => h)).trans (unhide HB).2.1) (by simpa using hm.c)
  have y2 : w.heap.size + 1 < w5.heap.size := Nat.lt_of_lt_of_le hz2 hf15.size
  have y3 : w.heap.size < w5.heap.size := Nat.lt_of_lt_of_le hz3 hf15.size
  have HF5 := hide (And.intro hf15 hf5)
  have HR5 : Hid (w5.rangeAt g (i * 20) [.int .u32 (xcl : Nat), .int .u32 (xnu : Nat), .int .u32 (xac : Nat), .int .u8 (xop : Nat), .int .u32 (xrc : Nat), .int .u32 (xve : Nat), .int .u32 (xwa : Nat), .int .u32 (xow : Nat), (.slice xfo xF.length xfc), .string xrs, .int .i64 (xo : Nat), .int .u32 (xdl : Nat), .int .u32 (xdn : Nat), .int .u8 (xdo : Nat), .int .u32 (xdr : Nat), .int .u32 (xdv : Nat), (.slice xgo xG.length xgc), (.slice xho xK.length xhc), .int .u8 (xc : Nat), .int .i64 (xb : Nat)]) := hide (fun j u hu => (((unhide HB).2.2.2.1.trans0 hf15).cell (p := ⟨g, i * 20 + j, none⟩) (Nat.lt_of_lt_of_le hgw (Nat.le_refl _)) (fun h => h)).trans ((unhide HCX) j u hu))
  obtain ⟨W6, hst6, hb6, hf6⟩ := st_all (P := Try.prog) (ty := 66) [.int .u32 0, .int .u32 0, .int .u32 0, .int .u8 0, .int .u32 0, .int .u32 0, .int .u32 0, .int .u32 0, .slice none 0 0, .string ⟨#[]⟩, .int .i64 0, .int .u32 0, .int .u32 0, .int .u8 0, .int .u32 0, .int .u32 0, .slice none 0 0, .slice none 0 0, .int .u8 0, .int .i64 0] [.int .u32 (xcl : Nat), .int .u32 (xnu : Nat), .int .u32 (xac : Nat), .int .u8 (xop : Nat), .int .u32 (xrc : Nat), .int .u32 (xve : Nat), .int .u32 (xwa : Nat), .int .u32 (xow : Nat), (.slice xfo xF.length xfc), .string xrs, .int .i64 (xo : Nat), .int .u32 (xdl : Nat), .int .u32 (xdn : Nat), .int .u8 (xdo : Nat), .int .u32 (xdr : Nat), .int .u32 (xdv : Nat), (.slice xgo xG.length xgc), (.slice xho xK.length xhc), .int .u8 (xc : Nat), .int .i64 (xb : Nat)] (heap_alloc_new w5 (.cells #[.int .u32 0, .int .u32 0, .int .u32 0, .int .u8 0, .int .u32 0, .int .u32 0, .int .u32 0, .int .u32 0, .slice none 0 0, .string ⟨#[]⟩, .int .i64 0, .int .u32 0, .int .u32 0, .int .u8 0, .int .u32 0, .int .u32 0, .slice none 0 0, .slice none 0 0, .int .u8 0, .int .i64 0] 66)) rfl Try.sizeCl (unhide H1).2
  have hf56 : Fr (fun _ => False) w5 W6 := (box1 w5 _).trans hf6 (fun g hg e => by omega)
  have d0b : W6.cell? ⟨w.heap.size + 1, 0, none⟩ = some (.int .u8 3) := (hf56.cell (p := ⟨w.heap.size + 1, 0, none⟩) (lt_of_cell d0) (fun h => h)).trans d0
  have d20b : W6.cell? ⟨w.heap.size + 1, 20, none⟩ = some (.int .u8 (co : Nat)) := (hf56.cell (p := ⟨w.heap.size + 1, 20, none⟩) (lt_of_cell d20) (fun h => h)).trans d20
  have d10 : W6.cell? ⟨w5.heap.size, 10, none⟩ = some (.int .i64 (xo : Nat)) := cell_of_blk hb6 rfl
  have HST6 := hide hst6
  have HB6 := hide (And.intro hb6 hf56)
  obtain ⟨XS, hXS⟩ : ∃ XS : List Value, XS = [.int .u32 (xcl : Nat), .int .u32 (xnu : Nat), .int .u32 (xac : Nat), .int .u8 (xop : Nat), .int .u32 (xrc : Nat), .int .u32 (xve : Nat), .int .u32 (xwa : Nat), .int .u32 (xow : Nat), (.slice xfo xF.length xfc), .string xrs, .int .i64 (xo : Nat), .int .u32 (xdl : Nat), .int .u32 (xdn : Nat), .int .u8 (xdo : Nat), .int .u32 (xdr : Nat), .int .u32 (xdv : Nat), (.slice xgo xG.length xgc), (.slice xho xK.length xhc), .int .u8 (xc : Nat), .int .i64 (xb : Nat)] := ⟨_, rfl⟩
  rw [← hXS] at HR5 HST6
  have hsx : (Try.prog.info? 66).map (·.size) = some XS.length := by rw [hXS]; exact Try.sizeCl
  clear hXS
  clear hst6 hb6 hf6 hf56
  clear hf5 hf15 c0 c11 c12 c13 c14 hz2 hz3 HCX hgn hgw hW1 d0 d20
  have e1 : (0 : Int) < (xo : Int) := by omega
  have HGS := hide (fun W (hf : Fr (fun _ => False) w W) => gsameAnswer_any ⟨xdl, xdn, xdo, xdr, xdv, (.slice xgo xG.length xgc), (.slice xho xK.length xhc)⟩ ⟨acl, i + 1, aco, arc, ave, afv, ahv⟩ xG F xK K W (rd_fds ((unhide HOK).g.fr0 hf)) (hF.fr hf) (sms_of_rd ((unhide HOK).k.fr0 hf)) (hK.fr hf) (unhide HOK).gl (unhide HOK).kl)
  simp only [AN.cs] at HGS
  have HFW := hide (((unhide HB).2.2.2.1.trans0 (unhide HF5).1).trans0 (unhide HB6).2)
  have HRA : Hid (W6.rangeAt w5.heap.size 11 [.int .u32 (xdl : Nat), .int .u32 (xdn : Nat), .int .u8 (xdo : Nat), .int .u32 (xdr : Nat), .int .u32 (xdv : Nat), .slice xgo xG.length xgc, .slice xho xK.length xhc]) := hide (fun j v hj => by
    have hl : j < 7 := (List.getElem?_eq_some_iff.1 hj).1
    refine cell_of_blk (unhide HB6).1 ?_
    match j, hl with
    | 0, _ => exact hj
    | 1, _ => exact hj
    | 2, _ => exact hj
    | 3, _ => exact hj
    | 4, _ => exact hj
    | 5, _ => exact hj
    | 6, _ => exact hj)
  have HRM : Hid (W6.rangeAt (w.heap.size + 1) 13 [.int .u32 (acl : Nat), .int .u32 ((i : Int) + 1), .int .u8 (aco : Nat), .int .u32 (arc : Nat), .int .u32 (ave : Nat), afv, ahv]) := hide (fun j v hj => cell_of_blk ((((unhide HF5).1.trans0 (unhide HB6).2).block _ (lt_of_block (unhide HB).2.1) (fun h => h)).trans (unhide HB).2.1) (by simpa using hm.an j v hj))
  go_wp2_with (first | refine wpList_allocN rfl 66 rfl _ (alloc_cl w5) ?_ | refine wpList_load_mid rfl 66 (.tmp 31) rfl g (i * 20) rfl _ _ (unhide HR5) Try.underlying66 rfl hsx ?_ | refine wpList_stN rfl 66 (.tmp 8) (.tmp 32) rfl _ _ rfl rfl (unhide HST6) ?_ | refine wpList_load_mid rfl 44 (.tmp 53) rfl w5.heap.size 11 rfl _ _ (unhide HRA) Try.underlying44 rfl Try.sizeAn ?_ | refine wpList_load_mid rfl 44 (.tmp 55) rfl (w.heap.size + 1) 13 rfl _ _ (unhide HRM) Try.underlying44 rfl Try.sizeAn ?_)
  refine ((unhide HGS) W6 (unhide HFW)).mono ?_
  rintro e w9 ⟨rfl, hf9⟩
  have hf19 : Fr (fun _ => False) W1 w9 := ((unhide HF5).1.trans0 (unhide HB6).2).trans0 hf9
  clear hf9 HGS HRA HRM
  obtain ⟨bb, hbb⟩ : ∃ bb, gsameA ⟨xdl, xdn, xdo, xdr, xdv, (.slice xgo xG.length xgc), (.slice xho xK.length xhc)⟩ ⟨acl, i + 1, aco, arc, ave, afv, ahv⟩ xG F xK K = bb := ⟨_, rfl⟩
  simp only [hbb]
  cases bb
  · obtain ⟨W9, hst, hb9, hf9⟩ := st_all (P := Try.prog) (ty := 60) [.int .u32 0, .slice none 0 0, .int .i64 0] [.int .u32 (acl : Nat), .slice (some ⟨g, 0, none⟩) N cap, .int .i64 (got : Nat)] (((hf19).block _ (lt_of_block (unhide HB).2.2.1) (fun h => h)).trans (unhide HB).2.2.1) rfl Try.sizeRs (fun u hu => by simp at hu; rcases hu with rfl | rfl | rfl <;> rfl)
    have HST := hide hst
    have HE : Hid (OwC W9 base (.slice (some ⟨g, 0, none⟩) N cap) l ∧ Fr (fun _ => False) w W9) := hide (by
      have hfw : Fr (fun _ => False) w W9 := ((unhide HB).2.2.2.1.trans0 hf19).trans hf9 (fun g hg e => by omega)
      exact ⟨(unhide HO).fr0 hfw, hfw⟩)
    have HB9 := hide (range_of_block hb9)
    clear hst hb9 hf9
    go_wp2_with (first | refine wpList_load_mid rfl 60 (.tmp 2) rfl w.heap.size 0 rfl _ _ ((unhide HRS) _ hf19) Try.underlying60 rfl Try.sizeRs ?_ | refine wpList_stN rfl 60 (.tmp 4) (.tmp 59) rfl _ _ rfl rfl (unhide HST) ?_)
    all_goals (refine bodyPost_ret (results_cellt rfl _ _ (w.heap.size + 1 + 1) 0 _ _ _ rfl rfl (unhide HB9) Try.underlying60 rfl Try.sizeRs) rfl ?_; exact ⟨_, rfl, (unhide HE).1, (unhide HE).2, fun g hg => .inl hg⟩)
  · obtain ⟨W9, hst, hb9, hf9⟩ := st_all (P := Try.prog) (ty := 60) [.int .u32 0, .slice none 0 0, .int .i64 0] [.int .u32 (acl : Nat), .slice (some ⟨g, 0, none⟩) N cap, .int .i64 (got : Nat)] (((hf19).block _ (lt_of_block (unhide HB).2.2.1) (fun h => h)).trans (unhide HB).2.2.1) rfl Try.sizeRs (fun u hu => by simp at hu; rcases hu with rfl | rfl | rfl <;> rfl)
    have HST := hide hst
    have HE : Hid (OwC W9 base (.slice (some ⟨g, 0, none⟩) N cap) l ∧ Fr (fun _ => False) w W9) := hide (by
      have hfw : Fr (fun _ => False) w W9 := ((unhide HB).2.2.2.1.trans0 hf19).trans hf9 (fun g hg e => by omega)
      exact ⟨(unhide HO).fr0 hfw, hfw⟩)
    have HB9 := hide (range_of_block hb9)
    clear hst hb9 hf9
    go_wp2_with (first | refine wpList_load_mid rfl 60 (.tmp 2) rfl w.heap.size 0 rfl _ _ ((unhide HRS) _ hf19) Try.underlying60 rfl Try.sizeRs ?_ | refine wpList_stN rfl 60 (.tmp 4) (.tmp 60) rfl _ _ rfl rfl (unhide HST) ?_)
    all_goals (refine bodyPost_ret (results_cellt rfl _ _ (w.heap.size + 1 + 1) 0 _ _ _ rfl rfl (unhide HB9) Try.underlying60 rfl Try.sizeRs) rfl ?_; exact ⟨_, rfl, (unhide HE).1, (unhide HE).2, fun g hg => .inl hg⟩)
end Go.Proofs.Ytkiepcdncegniaa
