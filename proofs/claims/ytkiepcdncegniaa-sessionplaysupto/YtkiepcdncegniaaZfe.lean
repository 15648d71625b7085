import Derived.Test.YtkiepcdncegniaaZfd
namespace Go.Proofs.Ytkiepcdncegniaa
open Go.RowKit Go.Maps

set_option maxRecDepth 100000 in
set_option maxHeartbeats 4000000 in
/-- A Busy of a request that waits. -/
theorem gtake_busyW (c got base i : Nat) (v : Value) (l : List RC) (x : RC) (xs : List Value) (icl inu co : Nat) (a : AN) (w : World) (hm : MsX xs 4 icl inu co a) (h : OwC w base v l) (hb : base ≤ w.heap.size) (hok : ∀ y ∈ l, y.Ok w) (hl : l.length ≤ 4096) (hx : l[i]? = some x) (hcl : icl = c) (hnu : inu = i + 1) (ho : x.o = 0) (hxb : x.b ≤ 1000000000) : Calls Try.prog 22 #[.agg #[.int .u32 (c : Nat), v, .int .i64 (got : Nat)], .agg xs.toArray] w fun e w' => ∃ v', e = .returned (.tuple #[.agg #[.int .u32 (c : Nat), v', .int .i64 (got : Nat)], .int .i64 0]) ∧ OwC w' base v' (l.set i { x with c := co, b := x.b + 1 }) ∧ Fr (fun _ => False) w w' ∧ ∀ g, v'.ownBlock = some g → v.ownBlock = some g ∨ w.heap.size ≤ g := by
  obtain ⟨ao, cap, rfl⟩ := own_formX h
  obtain ⟨acl, anu, aco, arc, ave, afv, ahv⟩ := a
  obtain ⟨N, hN⟩ : ∃ N, l.length = N := ⟨_, rfl⟩
  have HO := hide h
  have HNN := hide hN
  rw [hN] at hl HO ⊢
  have hil : i < N := by have := (List.getElem?_eq_some_iff.1 hx).1; omega
  have hrow := h
  unfold OwC at hrow
  rw [hN] at hrow
  obtain ⟨g, cp, eg, _, hg⟩ := own_one_form hrow (by omega)
  rw [← hN] at eg
  have hcx : w.rangeAt g (i * 20) x.cs := fun j u hu => by
    have h20 : j < 20 := by have := (List.getElem?_eq_some_iff.1 hu).1; rwa [RC.len] at this
    exact hg (i * 20 + j) u (by rw [ccells_at l i j x hx h20]; exact hu)
  have hokx := hok x (List.mem_of_getElem? hx)
  have H1 := hide (And.intro (fun y hy => (hok y hy).one) hokx.one)
  have HX := hide hx
  rw [hN] at eg
  cases eg
  obtain ⟨⟨xcl, xnu, xac, xop, xrc, xve, xwa, xow, xfv, xrs⟩, xF, xo, ⟨xdl, xdn, xdo, xdr, xdv, xgv, xhv⟩, xG, xK, xc, xb⟩ := x
  obtain ⟨xfo, xfc, e, _⟩ := hokx.f.f
  simp only at e
  subst e
  obtain ⟨xgo, xgc, e, _⟩ := hokx.g.f
  simp only at e
  subst e
  obtain ⟨xho, xhc, e, _⟩ := hokx.k.f
  simp only at e
  subst e
  have HOK := hide hokx
  simp only [RC.cs, RQ.cs, AN.cs, List.cons_append, List.nil_append] at hcx
  have hgw : g < w.heap.size := lt_of_cell (hcx 0 _ rfl)
  have HCX := hide hcx
  clear h hN hrow hg hcx hok hokx hx
  obtain ⟨W1, hW1⟩ : ∃ W1, ((w.alloc (.cells #[.int .u32 (c : Nat), .slice (some ⟨g, 0, none⟩) N cap, .int .i64 (got : Nat)] 60)).alloc (.cells xs.toArray 49)).alloc (.cells #[.int .u32 0, .slice none 0 0, .int .i64 0] 60) = W1 := ⟨_, rfl⟩
  have hf1 : Fr (fun _ => False) w W1 := by rw [← hW1]; exact ((box1 w _).alloc _).alloc _
  have hb0 : W1.heap[w.heap.size]? = some (.cells #[.int .u32 (c : Nat), .slice (some ⟨g, 0, none⟩) N cap, .int .i64 (got : Nat)] 60) := by rw [← hW1]; exact (Below.heap_alloc _ _ _ (by simp; omega)).trans ((Below.heap_alloc _ _ _ (by simp)).trans (heap_alloc_new w _))
  have hb1 : W1.heap[w.heap.size + 1]? = some (.cells xs.toArray 49) := by
    rw [← hW1]
    refine (Below.heap_alloc _ _ _ (by simp)).trans ?_
    have := heap_alloc_new (w.alloc (.cells #[.int .u32 (c : Nat), .slice (some ⟨g, 0, none⟩) N cap, .int .i64 (got : Nat)] 60)) (.cells xs.toArray 49)
    rwa [World.size_alloc] at this
  have hb2 : W1.heap[w.heap.size + 1 + 1]? = some (.cells #[.int .u32 0, .slice none 0 0, .int .i64 0] 60) := by
    rw [← hW1]
    have := heap_alloc_new ((w.alloc (.cells #[.int .u32 (c : Nat), .slice (some ⟨g, 0, none⟩) N cap, .int .i64 (got : Nat)] 60)).alloc (.cells xs.toArray 49)) (.cells #[.int .u32 0, .slice none 0 0, .int .i64 0] 60)
    rwa [World.size_alloc, World.size_alloc] at this
  have hz1 : W1.heap.size = w.heap.size + 3 := by rw [← hW1]; simp
  have hz2 : w.heap.size + 1 < W1.heap.size := by omega
  have hz3 : w.heap.size < W1.heap.size := by omega
  have c0 : W1.cell? ⟨w.heap.size + 1, 0, none⟩ = some (.int .u8 4) := cell_of_blk hb1 (by simpa using hm.k)
  have c11 : W1.cell? ⟨w.heap.size + 1, 11, none⟩ = some (.int .u32 (icl : Nat)) := cell_of_blk hb1 (by simpa using hm.i1)
  have c12 : W1.cell? ⟨w.heap.size + 1, 12, none⟩ = some (.int .u32 (inu : Nat)) := cell_of_blk hb1 (by simpa using hm.i2)
  have c13 : W1.cell? ⟨w.heap.size + 1, 13, none⟩ = some (.int .u32 (acl : Nat)) := cell_of_blk hb1 (by simpa using hm.an 0 _ rfl)
  have c14 : W1.cell? ⟨w.heap.size + 1, 14, none⟩ = some (.int .u32 (anu : Nat)) := cell_of_blk hb1 (by simpa using hm.an 1 _ rfl)
  have HB := hide (And.intro hb0 (And.intro hb1 (And.intro hb2 (And.intro hf1 hz1))))
  have HRS : Hid (∀ W', Fr (fun _ => False) W1 W' → W'.rangeAt w.heap.size 0 [.int .u32 (c : Nat), .slice (some ⟨g, 0, none⟩) N cap, .int .i64 (got : Nat)]) := hide (fun W' hf => range_of_block ((hf.block _ (lt_of_block hb0) (fun h => h)).trans hb0))
  clear hb0 hb1 hb2 hf1 hz1
  go_enter Try.func22, Try.ntmps22
  subst hcl
  subst hnu
  have hgn : gnum icl N icl (i + 1) = i + 1 := by unfold gnum; rw [if_pos ⟨rfl, by omega, by omega⟩]
  have hwi : wrap64 ((i : Int) + 1 - 1) = (i : Int) := by unfold wrap64; omega
  have l3 : (0 : Int) ≤ (i : Int) := by omega
  have l1 : (i : Int) < (N : Int) := by omega
  have l2 : ¬ (i : Int) + 1 = 0 := by omega
  have l2b : ((i : Int) + 1 == 0) = false := by simpa using l2
  go_wp2_with (refine wpList_load_mid rfl 60 (.tmp 2) rfl w.heap.size 0 rfl _ _ ((unhide HRS) _ (box1 W1 (.cells #[.int .u32 (icl : Nat), .int .u32 ((i : Int) + 1)] 29))) Try.underlying60 rfl Try.sizeRs ?_)
  refine (gfind_any icl (some ⟨g, 0, none⟩) N cap got icl (i + 1) _ hl).mono ?_
  rintro e w5 ⟨rfl, hf5⟩
  rw [hgn]
  have hf15 : Fr (fun _ => False) W1 w5 := (box1 W1 (.cells #[.int .u32 (icl : Nat), .int .u32 ((i : Int) + 1)] 29)).trans0 hf5
  have d0 : w5.cell? ⟨w.heap.size + 1, 0, none⟩ = some (.int .u8 4) := (hf15.cell (p := ⟨w.heap.size + 1, 0, none⟩) (lt_of_cell c0) (fun h => h)).trans c0
  have d1 : w5.cell? ⟨w.heap.size, 1, none⟩ = some (.slice (some ⟨g, 0, none⟩) N cap) := cell_of_blk ((hf15.block _ (lt_of_block (unhide HB).1) (fun h => h)).trans (unhide HB).1) rfl
  have d20 : w5.cell? ⟨w.heap.size + 1, 20, none⟩ = some (.int .u8 (co : Nat)) := cell_of_blk ((hf15.block _ (lt_of_block (unhide HB).2.1) (fun h => h)).trans (unhide HB).2.1) (by simpa using hm.c)
  have y2 : w.heap.size + 1 < w5.heap.size := Nat.lt_of_lt_of_le hz2 hf15.size
  have y3 : w.heap.size < w5.heap.size := Nat.lt_of_lt_of_le hz3 hf15.size
  have HF5 := hide (And.intro hf15 hf5)
  have HR5 : Hid (w5.rangeAt g (i * 20) [.int .u32 (xcl : Nat), .int .u32 (xnu : Nat), .int .u32 (xac : Nat), .int .u8 (xop : Nat), .int .u32 (xrc : Nat), .int .u32 (xve : Nat), .int .u32 (xwa : Nat), .int .u32 (xow : Nat), (.slice xfo xF.length xfc), .string xrs, .int .i64 (xo : Nat), .int .u32 (xdl : Nat), .int .u32 (xdn : Nat), .int .u8 (xdo : Nat), .int .u32 (xdr : Nat), .int .u32 (xdv : Nat), (.slice xgo xG.length xgc), (.slice xho xK.length xhc), .int .u8 (xc : Nat), .int .i64 (xb : Nat)]) := hide (fun j u hu => (((unhide HB).2.2.2.1.trans0 hf15).cell (p := ⟨g, i * 20 + j, none⟩) (Nat.lt_of_lt_of_le hgw (Nat.le_refl _)) (fun h => h)).trans ((unhide HCX) j u hu))
  obtain ⟨W6, hst6, hb6, hf6⟩ := st_all (P := Try.prog) (ty := 66) [.int .u32 0, .int .u32 0, .int .u32 0, .int .u8 0, .int .u32 0, .int .u32 0, .int .u32 0, .int .u32 0, .slice none 0 0, .string ⟨#[]⟩, .int .i64 0, .int .u32 0, .int .u32 0, .int .u8 0, .int .u32 0, .int .u32 0, .slice none 0 0, .slice none 0 0, .int .u8 0, .int .i64 0] [.int .u32 (xcl : Nat), .int .u32 (xnu : Nat), .int .u32 (xac : Nat), .int .u8 (xop : Nat), .int .u32 (xrc : Nat), .int .u32 (xve : Nat), .int .u32 (xwa : Nat), .int .u32 (xow : Nat), (.slice xfo xF.length xfc), .string xrs, .int .i64 (xo : Nat), .int .u32 (xdl : Nat), .int .u32 (xdn : Nat), .int .u8 (xdo : Nat), .int .u32 (xdr : Nat), .int .u32 (xdv : Nat), (.slice xgo xG.length xgc), (.slice xho xK.length xhc), .int .u8 (xc : Nat), .int .i64 (xb : Nat)] (heap_alloc_new w5 (.cells #[.int .u32 0, .int .u32 0, .int .u32 0, .int .u8 0, .int .u32 0, .int .u32 0, .int .u32 0, .int .u32 0, .slice none 0 0, .string ⟨#[]⟩, .int .i64 0, .int .u32 0, .int .u32 0, .int .u8 0, .int .u32 0, .int .u32 0, .slice none 0 0, .slice none 0 0, .int .u8 0, .int .i64 0] 66)) rfl Try.sizeCl (unhide H1).2
  have hf56 : Fr (fun _ => False) w5 W6 := (box1 w5 _).trans hf6 (fun g hg e => by omega)
  have d0b : W6.cell? ⟨w.heap.size + 1, 0, none⟩ = some (.int .u8 4) := (hf56.cell (p := ⟨w.heap.size + 1, 0, none⟩) (lt_of_cell d0) (fun h => h)).trans d0
  have d20b : W6.cell? ⟨w.heap.size + 1, 20, none⟩ = some (.int .u8 (co : Nat)) := (hf56.cell (p := ⟨w.heap.size + 1, 20, none⟩) (lt_of_cell d20) (fun h => h)).trans d20
  have d10 : W6.cell? ⟨w5.heap.size, 10, none⟩ = some (.int .i64 (xo : Nat)) := cell_of_blk hb6 rfl
  have HST6 := hide hst6
  have HB6 := hide (And.intro hb6 hf56)
  obtain ⟨XS, hXS⟩ : ∃ XS : List Value, XS = [.int .u32 (xcl : Nat), .int .u32 (xnu : Nat), .int .u32 (xac : Nat), .int .u8 (xop : Nat), .int .u32 (xrc : Nat), .int .u32 (xve : Nat), .int .u32 (xwa : Nat), .int .u32 (xow : Nat), (.slice xfo xF.length xfc), .string xrs, .int .i64 (xo : Nat), .int .u32 (xdl : Nat), .int .u32 (xdn : Nat), .int .u8 (xdo : Nat), .int .u32 (xdr : Nat), .int .u32 (xdv : Nat), (.slice xgo xG.length xgc), (.slice xho xK.length xhc), .int .u8 (xc : Nat), .int .i64 (xb : Nat)] := ⟨_, rfl⟩
  rw [← hXS] at HR5 HST6
  have hsx : (Try.prog.info? 66).map (·.size) = some XS.length := by rw [hXS]; exact Try.sizeCl
  clear hXS
  clear hst6 hb6 hf6 hf56
  clear hf5 hf15 c0 c11 c12 c13 c14 hz2 hz3 HCX hgn hgw hW1 d0 d20
  subst ho
  have hwb := wrapS xb hxb
  have d18 : W6.cell? ⟨w5.heap.size, 18, none⟩ = some (.int .u8 (xc : Nat)) := cell_of_blk (unhide HB6).1 rfl
  have z18 : W6.frozen? ⟨w5.heap.size, 18, none⟩ = false := by simp [World.frozen?, (unhide HB6).1]
  obtain ⟨W7, hW7⟩ : ∃ W7, W6.setCell ⟨w5.heap.size, 18, none⟩ (.int .u8 (co : Nat)) = W7 := ⟨_, rfl⟩
  have hb7 := blkset (unhide HB6).1 18 (.int .u8 (co : Nat))
  rw [hW7] at hb7
  simp only [List.setIfInBounds_toArray, List.set_cons_zero, List.set_cons_succ] at hb7
  have d19 : W7.cell? ⟨w5.heap.size, 19, none⟩ = some (.int .i64 (xb : Nat)) := cell_of_blk hb7 rfl
  have z19 : W7.frozen? ⟨w5.heap.size, 19, none⟩ = false := by simp [World.frozen?, hb7]
  obtain ⟨W8, hW8⟩ : ∃ W8, W7.setCell ⟨w5.heap.size, 19, none⟩ (.int .i64 ((xb : Int) + 1)) = W8 := ⟨_, rfl⟩
  have hb8 := blkset hb7 19 (.int .i64 ((xb : Int) + 1))
  rw [hW8] at hb8
  simp only [List.setIfInBounds_toArray, List.set_cons_zero, List.set_cons_succ] at hb8
  have hb8b : W8.heap[w5.heap.size]? = some (.cells (RC.cs ⟨⟨xcl, xnu, xac, xop, xrc, xve, xwa, xow, (.slice xfo xF.length xfc), xrs⟩, xF, 0, ⟨xdl, xdn, xdo, xdr, xdv, (.slice xgo xG.length xgc), (.slice xho xK.length xhc)⟩, xG, xK, co, xb + 1⟩).toArray 66) := by rw [hb8]; simp only [RC.cs, RQ.cs, AN.cs, List.cons_append, List.nil_append, Int.natCast_add, Int.cast_ofNat_Int]
  have HR8 := hide (range_of_block hb8b)
  have HF8 : Hid (Fr (fun _ => False) w5 W8) := hide (by
    have h67 : Fr (fun k => k = w5.heap.size) W6 W7 := by rw [← hW7]; exact (Fr.refl (fun k => k = w5.heap.size) _).setCell (p := ⟨w5.heap.size, 18, none⟩) (.inl rfl) _
    have h78 : Fr (fun k => k = w5.heap.size) W7 W8 := by rw [← hW8]; exact (Fr.refl (fun k => k = w5.heap.size) _).setCell (p := ⟨w5.heap.size, 19, none⟩) (.inl rfl) _
    exact ((unhide HB6).2.trans h67 (fun g hg e => by omega)).trans h78 (fun g hg e => by omega))
  have HX1 : Hid (∀ u ∈ RC.cs ⟨⟨xcl, xnu, xac, xop, xrc, xve, xwa, xow, (.slice xfo xF.length xfc), xrs⟩, xF, 0, ⟨xdl, xdn, xdo, xdr, xdv, (.slice xgo xG.length xgc), (.slice xho xK.length xhc)⟩, xG, xK, co, xb + 1⟩, u.oneCell' = true) := hide (List.all_eq_true.1 (show List.all (RC.cs ⟨⟨xcl, xnu, xac, xop, xrc, xve, xwa, xow, (.slice xfo xF.length xfc), xrs⟩, xF, 0, ⟨xdl, xdn, xdo, xdr, xdv, (.slice xgo xG.length xgc), (.slice xho xK.length xhc)⟩, xG, xK, co, xb + 1⟩) (fun v => v.oneCell') = true from rfl))
  clear hb7 hb8 hb8b HB6
  have HFW := hide (((unhide HB).2.2.2.1.trans0 (unhide HF5).1).trans0 (unhide HF8))
  have HW : Hid (Calls Try.prog 38 #[.agg #[.int .u32 (icl : Nat), .slice (some ⟨g, 0, none⟩) N cap, .int .i64 (got : Nat)], .int .i64 ((i : Int) + 1), .agg (RC.cs ⟨⟨xcl, xnu, xac, xop, xrc, xve, xwa, xow, (.slice xfo xF.length xfc), xrs⟩, xF, 0, ⟨xdl, xdn, xdo, xdr, xdv, (.slice xgo xG.length xgc), (.slice xho xK.length xhc)⟩, xG, xK, co, xb + 1⟩).toArray] W8 fun e w' => ∃ v', e = .returned (.agg #[.int .u32 (icl : Nat), v', .int .i64 (got : Nat)]) ∧ OwC w' W8.heap.size v' (l.set i ⟨⟨xcl, xnu, xac, xop, xrc, xve, xwa, xow, (.slice xfo xF.length xfc), xrs⟩, xF, 0, ⟨xdl, xdn, xdo, xdr, xdv, (.slice xgo xG.length xgc), (.slice xho xK.length xhc)⟩, xG, xK, co, xb + 1⟩) ∧ Fr (fun _ => False) W8 w') := hide (gwith_any icl got base i (.slice (some ⟨g, 0, none⟩) N cap) l ⟨⟨xcl, xnu, xac, xop, xrc, xve, xwa, xow, (.slice xfo xF.length xfc), xrs⟩, xF, 0, ⟨xdl, xdn, xdo, xdr, xdv, (.slice xgo xG.length xgc), (.slice xho xK.length xhc)⟩, xG, xK, co, xb + 1⟩ W8 ((unhide HO).fr0 (unhide HFW)) (unhide H1).1 (unhide HX1) (by rw [unhide HNN]; exact hil) (by rw [unhide HNN]; exact hl))
  obtain ⟨YS, hYS⟩ : ∃ YS : List Value, YS = RC.cs ⟨⟨xcl, xnu, xac, xop, xrc, xve, xwa, xow, (.slice xfo xF.length xfc), xrs⟩, xF, 0, ⟨xdl, xdn, xdo, xdr, xdv, (.slice xgo xG.length xgc), (.slice xho xK.length xhc)⟩, xG, xK, co, xb + 1⟩ := ⟨_, rfl⟩
  rw [← hYS] at HR8 HW
  have hsy : (Try.prog.info? 66).map (·.size) = some YS.length := by rw [hYS, RC.len]; exact Try.sizeCl
  clear hYS
  go_wp2_with (first | refine wpList_allocN rfl 66 rfl _ (alloc_cl w5) ?_ | refine wpList_load_mid rfl 66 (.tmp 31) rfl g (i * 20) rfl _ _ (unhide HR5) Try.underlying66 rfl hsx ?_ | refine wpList_stN rfl 66 (.tmp 8) (.tmp 32) rfl _ _ rfl rfl (unhide HST6) ?_ | refine wpList_load_mid rfl 66 (.tmp 8) rfl w5.heap.size 0 rfl _ _ (unhide HR8) Try.underlying66 rfl hsy ?_ | refine wpList_load_mid rfl 60 (.tmp 2) rfl w.heap.size 0 rfl _ _ ((unhide HRS) _ ((unhide HF5).1.trans0 (unhide HF8))) Try.underlying60 rfl Try.sizeRs ?_)
  refine (unhide HW).mono ?_
  rintro e w9 ⟨v9, rfl, ho9, hf9⟩
  obtain ⟨vo, vc, e9⟩ := own_formX ho9
  rw [List.length_set] at e9
  subst e9
  have hz9 : w.heap.size + 3 ≤ W8.heap.size := by have h1 := (unhide HB).2.2.2.2; have h2 := (unhide HF5).1.size; have h3 := (unhide HF8).size; omega
  obtain ⟨W10, hst, hb10, hf10⟩ := st_all (P := Try.prog) (ty := 60) [.int .u32 0, .slice none 0 0, .int .i64 0] [.int .u32 (icl : Nat), .slice vo l.length vc, .int .i64 (got : Nat)] (((((unhide HF5).1.trans0 (unhide HF8)).trans0 hf9).block _ (lt_of_block (unhide HB).2.2.1) (fun h => h)).trans (unhide HB).2.2.1) rfl Try.sizeRs (fun u hu => by simp at hu; rcases hu with rfl | rfl | rfl <;> rfl)
  have HST := hide hst
  have HE : Hid (OwC W10 base (.slice vo l.length vc) (l.set i ⟨⟨xcl, xnu, xac, xop, xrc, xve, xwa, xow, (.slice xfo xF.length xfc), xrs⟩, xF, 0, ⟨xdl, xdn, xdo, xdr, xdv, (.slice xgo xG.length xgc), (.slice xho xK.length xhc)⟩, xG, xK, co, xb + 1⟩) ∧ Fr (fun _ => False) w W10 ∧ ∀ k, (Value.slice vo l.length vc).ownBlock = some k → w.heap.size ≤ k) := hide (by
    have hfw : Fr (fun _ => False) w W10 := ((unhide HFW).trans0 hf9).trans hf10 (fun g hg e => by omega)
    exact ⟨ownsRow_base (ownsRow_of_block ho9 (fun k hk => hf10.block k (ho9.lt k hk).2 (fun e => by have := (ho9.lt k hk).1; omega))) (by omega), hfw, fun k hk => by have := (ho9.lt k hk).1; omega⟩)
  have HB10 := hide (range_of_block hb10)
  clear hst hb10 hf10 ho9 hf9 HW
  go_wp2_with (refine wpList_stN rfl 60 (.tmp 4) (.tmp 49) rfl _ _ rfl rfl (unhide HST) ?_)
  refine bodyPost_ret (results_cellt rfl _ _ (w.heap.size + 1 + 1) 0 _ _ _ rfl rfl (unhide HB10) Try.underlying60 rfl Try.sizeRs) rfl ?_
  exact ⟨_, rfl, (unhide HE).1, (unhide HE).2.1, fun g hg => .inr ((unhide HE).2.2 g hg)⟩
end Go.Proofs.Ytkiepcdncegniaa
