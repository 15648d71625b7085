import Derived.Test.YtkiepcdncegniaaPk2
import Derived.Test.YtkiepcdncegniaaPk1
namespace Go.Proofs.Ytkiepcdncegniaa
open Go.RowKit Go.Maps

set_option maxRecDepth 100000 in
set_option maxHeartbeats 4000000 in
/-- A Busy of a request that waits. -/
theorem gtake_busyW (c got base i : Nat) (v : Value) (l : List RC) (x : RC) (xs : List Value) (icl inu co : Nat) (a : AN) (w : World) (hm : MsX xs 4 icl inu co a) (h : OwC w base v l) (hb : base ≤ w.heap.size) (hok : ∀ y ∈ l, y.Ok w) (hl : l.length ≤ 4096) (hx : l[i]? = some x) (hcl : icl = c) (hnu : inu = i + 1) (ho : x.o = 0) (hxb : x.b ≤ 1000000000) : Calls Try.prog 22 #[.agg #[.int .u32 (c : Nat), v, .int .i64 (got : Nat)], .agg xs.toArray] w fun e w' => ∃ v', e = .returned (.tuple #[.agg #[.int .u32 (c : Nat), v', .int .i64 (got : Nat)], .int .i64 0]) ∧ OwC w' base v' (l.set i { x with c := co, b := x.b + 1 }) ∧ Fr (fun _ => False) w w' ∧ ∀ g, v'.ownBlock = some g → v.ownBlock = some g ∨ w.heap.size ≤ g := by
  obtain ⟨ao, cap, rfl⟩ := own_formX h
  obtain ⟨acl, anu, aco, arc, ave, afv, ahv⟩ := a
  obtain ⟨N, hN⟩ : ∃ N, l.length = N := ⟨_, rfl⟩
  have HO := hide h
  have HNN := hide hN
  rw [hN] at hl HO ⊢
  have hil : i < N := by have := (List.getElem?_eq_some_iff.1 hx).1; omega
  have hrow := h
  unfold OwC at hrow
  rw [hN] at hrow
  obtain ⟨g, cp, eg, _, hg⟩ := own_one_form hrow (by omega)
  rw [← hN] at eg
  have hcx : w.rangeAt g (i * 20) x.cs := fun j u hu => by
    have h20 : j < 20 := by have := (List.getElem?_eq_some_iff.1 hu).1; rwa [RC.len] at this
    exact hg (i * 20 + j) u (by rw [ccells_at l i j x hx h20]; exact hu)
  have hokx := hok x (List.mem_of_getElem? hx)
  have H1 := hide (And.intro (fun y hy => (hok y hy).one) hokx.one)
  have HX := hide hx
  rw [hN] at eg
  cases eg
  obtain ⟨⟨xcl, xnu, xac, xop, xrc, xve, xwa, xow, xfv, xrs⟩, xF, xo, ⟨xdl, xdn, xdo, xdr, xdv, xgv, xhv⟩, xG, xK, xc, xb⟩ := x
  obtain ⟨xfo, xfc, e, _⟩ := hokx.f.f
  simp only at e
  subst e
  obtain ⟨xgo, xgc, e, _⟩ := hokx.g.f
  simp only at e
  subst e
  obtain ⟨xho, xhc, e, _⟩ := hokx.k.f
  simp only at e
  subst e
  have HOK := hide hokx
  simp only [RC.cs, RQ.cs, AN.cs, List.cons_append, List.nil_append] at hcx
  have hgw : g < w.heap.size := lt_of_cell (hcx 0 _ rfl)
  have HCX := hide hcx
  clear h hN hrow hg hcx hok hokx hx
  obtain ⟨W1, hW1⟩ : ∃ W1, ((w.alloc (.cells #[.int .u32 (c : Nat), .slice (some ⟨g, 0, none⟩) N cap, .int .i64 (got : Nat)] 60)).alloc (.cells xs.toArray 49)).alloc (.cells #[.int .u32 0, .slice none 0 0, .int .i64 0] 60) = W1 := ⟨_, rfl⟩
  have hf1 : Fr (fun _ => False) w W1 := by rw [← hW1]; exact ((box1 w _).alloc _).alloc _
  have hb0 : W1.heap[w.heap.size]? = some (.cells #[.int .u32 (c : Nat), .slice (some ⟨g, 0, none⟩) N cap, .int .i64 (got : Nat)] 60) := by rw [← hW1]; exact (Below.heap_alloc _ _ _ (by simp; omega)).trans ((Below.heap_alloc _ _ _ (by simp)).trans (heap_alloc_new w _))
  have hb1 : W1.heap[w.heap.size + 1]? = some (.cells xs.toArray 49) := by
    rw [← hW1]
    refine (Below.heap_alloc _ _ _ (by simp)).trans ?_
    have := heap_alloc_new (w.alloc (.cells #[.int .u32 (c : Nat), .slice (some ⟨g, 0, none⟩) N cap, .int .i64 (got : Nat)] 60)) (.cells xs.toArray 49)
    rwa [World.size_alloc] at this
  have hb2 : W1.heap[w.heap.size + 1 + 1]? = some (.cells #[.int .u32 0, .slice none 0 0, .int .i64 0] 60) := by
    rw [← hW1]
    have := heap_alloc_new ((w.alloc (.cells #[.int .u32 (c : Nat), .slice (some ⟨g, 0, none⟩) N cap, .int .i64 (got : Nat)] 60)).alloc (.cells xs.toArray 49)) (.cells #[.int .u32 0, .slice none 0 0, .int .i64 0] 60)
    rwa [World.size_alloc, World.size_alloc] at this
  have hz1 : W1.heap.size = w.heap.size + 3 := by rw [← hW1]; simp
  have hz2 : w.heap.size + 1 < W1.heap.size := by omega
  have hz3 : w.heap.size < W1.heap.size := by omega
  have c0 : W1.cell? ⟨w.heap.size + 1, 0, none⟩ = some (.int .u8 4) := cell_of_blk hb1 (by simpa using hm.k)
  have c11 : W1.cell? ⟨w.heap.size + 1, 11, none⟩ = some (.int .u32 (icl : Nat)) := cell_of_blk hb1 (by simpa using hm.i1)
  have c12 : W1.cell? ⟨w.heap.size + 1, 12, none⟩ = some (.int .u32 (inu : Nat)) := cell_of_blk hb1 (by simpa using hm.i2)
  have c13 : W1.cell? ⟨w.heap.size + 1, 13, none⟩ = some (.int .u32 (acl : Nat)) := cell_of_blk hb1 (by simpa using hm.an 0 _ rfl)
  have c14 : W1.cell? ⟨w.heap.size + 1, 14, none⟩ = some (.int .u32 (anu : Nat)) := cell_of_blk hb1 (by simpa using hm.an 1 _ rfl)
  have HB := hide (And.intro hb0 (And.intro hb1 (And.intro hb2 (And.intro hf1 hz1))))
  have HRS : Hid (∀ W', Fr (fun _ => False) W1 W' → W'.rangeAt w.heap.size 0 [.int .u32 (c : Nat), .slice (some ⟨g, 0, none⟩) N cap, .int .i64 (got : Nat)]) := hide (fun W' hf => range_of_block ((hf.block _ (lt_of_block hb0) (fun h => h)).trans hb0))
  clear hb0 hb1 hb2 hf1 hz1
  go_enter Try.func22, Try.ntmps22
  subst hcl
  subst hnu
  have hgn : gnum icl N icl (i + 1) = i + 1 := by unfold gnum; rw [if_pos ⟨rfl, by omega, by omega⟩]
  have hwi : wrap64 ((i : Int) + 1 - 1) = (i : Int) := by unfold wrap64; omega
  have l3 : (0 : Int) ≤ (i : Int) := by omega
  have l1 : (i : Int) < (N : Int) := by omega
  have l2 : ¬ (i : Int) + 1 = 0 := by omega
  have l2b : ((i : Int) + 1 == 0) = false := by simpa using l2
  go_wp2_with (refine wpList_load_mid rfl 60 (.tmp 2) rfl w.heap.size 0 rfl _ _ ((unhide HRS) _ (box1 W1 (.cells #[.int .u32 (icl : Nat), .int .u32 ((i : Int) + 1)] 29))) Try.underlying60 rfl Try.sizeRs ?_)
  refine (gfind_any icl (some ⟨g, 0, none⟩) N cap got icl (i + 1) _ hl).mono ?_
  rintro e w5 ⟨rfl, hf5⟩
  rw [hgn]
  have hf15 : Fr (fun _ => False) W1 w5 := (box1 W1 (.cells #[.int .u32 (icl : Nat), .int .u32 ((i : Int) + 1)] 29)).trans0 hf5
  have d0 : w5.cell? ⟨w.heap.size + 1, 0, none⟩ = some (.int .u8 4) := (hf15.cell (p := ⟨w.heap.size + 1, 0, none⟩) (lt_of_cell c0) (fun h => h)).trans c0
  have d1 : w5.cell? ⟨w.heap.size, 1, none⟩ = some (.slice (some ⟨g, 0, none⟩) N cap) := cell_of_blk ((hf15.block _ (lt_of_block (unhide HB).1) (fun h => h)).trans (unhide HB).1) rfl
  have d20 : w5.cell? ⟨w.heap.size + 1, 20, none⟩ = some (.int .u8 (co : Nat)) := cell_of_blk ((hf15.block _ (lt_of_block (unhide HB).2.1) (fun h => h)).trans (unhide HB).2.1) (by simpa using hm.c)
  have y2 : w.heap.size + 1 < w5.heap.size := Nat.lt_of_lt_of_le hz2 hf15.size
  have y3 : w.heap.size < w5.heap.size := Nat.lt_of_lt_of_le hz3 hf15.size
  have HF5 := hide (And.intro hf15 hf5)
  have HR5 : Hid (w5.rangeAt g (i * 20) [.int .u32 (xcl : Nat), .int .u32 (xnu : Nat), .int .u32 (xac : Nat), .int .u8 (xop : Nat), .int .u32 (xrc : Nat), .int .u32 (xve : Nat), .int .u32 (xwa : Nat), .int .u32 (xow : Nat), (.slice xfo xF.length xfc), .string xrs, .int .i64 (xo : Nat), .int .u32 (xdl : Nat), .int .u32 (xdn : Nat), .int .u8 (xdo : Nat), .int .u32 (xdr : Nat), .int .u32 (xdv : Nat), (.slice xgo xG.length xgc), (.slice xho xK.length xhc), .int .u8 (xc : Nat), .int .i64 (xb : Nat)]) := hide (fun j u hu => (((unhide HB).2.2.2.1.trans0 hf15).cell (p := ⟨g, i * 20 + j, none⟩) (Nat.lt_of_lt_of_le hgw (Nat.le_refl _)) (fun h => h)).trans ((unhide HCX) j u hu))
  obtain ⟨W6, hst6, hb6, hf6⟩ := st_all (P := Try.prog) (ty := 66) [.int .u32 0, .int .u32 0, .int .u32 0, .int .u8 0, .int .u32 0, .int .u32 0, .int .u32 0, .int .u32 0, .slice none 0 0, .string ⟨#[]⟩, .int .i64 0, .int .u32 0, .int .u32 0, .int .u8 0, .int .u32 0, .int .u32 0, .slice none 0 0, .slice none 0 0, .int .u8 0, .int .i64 0] [.int .u32 (xcl : Nat), .int .u32 (xnu : Nat), .int .u32 (xac : Nat), .int .u8 (xop : Nat), .int .u32 (xrc : Nat), .int .u32 (xve : Nat), .int .u32 (xwa : Nat), .int .u32 (xow : Nat), (.slice xfo xF.length xfc), .string xrs, .int .i64 (xo : Nat), .int .u32 (xdl : Nat), .int .u32 (xdn : Nat), .int .u8 (xdo : Nat), .int .u32 (xdr : Nat), .int .u32 (xdv : Nat), (.slice xgo xG.length xgc), (.slice xho xK.length xhc), .int .u8 (xc : Nat), .int .i64 (xb : Nat)] (heap_alloc_new w5 (.cells #[.int .u32 0, .int .u32 0, .int .u32 0, .int .u8 0, .int .u32 0, .int .u32 0, .int .u32 0, .int .u32 0, .slice none 0 0, .string ⟨#[]⟩, .int .i64 0, .int .u32 0, .int .u32 0, .int .u8 0, .int .u32 0, .int .u32 0, .slice none 0 0, .slice none 0 0, .int .u8 0, .int .i64 0] 66)) rfl Try.sizeCl (unhide H1).2
  have hf56 : Fr (fun _ => False) w5 W6 := (box1 w5 _).trans hf6 (fun g hg e => by omega)
  have d0b : W6.cell? ⟨w.heap.size + 1, 0, none⟩ = some (.int .u8 4) := (hf56.cell (p := ⟨w.heap.size + 1, 0, none⟩) (lt_of_cell d0) (fun h => h)).trans d0
  have d20b : W6.cell? ⟨w.heap.size + 1, 20, none⟩ = some (.int .u8 (co : Nat)) := (hf56.cell (p := ⟨w.heap.size + 1, 20, none⟩) (lt_of_cell d20) (fun h => h)).trans d20
  have d10 : W6.cell? ⟨w5.heap.size, 10, none⟩ = some (.int .i64 (xo : Nat)) := cell_of_blk hb6 rfl
  have HST6 := hide hst6
  have HB6 := hide (And.intro hb6 hf56)
  obtain ⟨XS, hXS⟩ : ∃ XS : List Value, XS = [.int .u32 (xcl : Nat), .int .u32 (xnu : Nat), .int .u32 (xac : Nat), .int .u8 (xop : Nat), .int .u32 (xrc : Nat), .int .u32 (xve : Nat), .int .u32 (xwa : Nat), .int .u32 (xow : Nat), (.slice xfo xF.length xfc), .string xrs, .int .i64 (xo : Nat), .int .u32 (xdl : Nat), .int .u32 (xdn : Nat), .int .u8 (xdo : Nat), .int .u32 (xdr : Nat), .int .u32 (xdv : Nat), (.slice xgo xG.length xgc), (.slice xho xK.length xhc), .int .u8 (xc : Nat), .int .i64 (xb : Nat)] := ⟨_, rfl⟩
  rw [← hXS] at HR5 HST6
  have hsx : (Try.prog.info? 66).map (·.size) = some XS.length := by rw [hXS]; exact Try.sizeCl
  clear hXS
  clear hst6 hb6 hf6 hf56
  clear hf5 hf15 c0 c11 c12 c13 c14 hz2 hz3 HCX hgn hgw hW1 d0 d20
  subst ho
  have hwb := wrapS xb hxb
  have d18 : W6.cell? ⟨w5.heap.size, 18, none⟩ = some (.int .u8 (xc : Nat)) := cell_of_blk (unhide HB6).1 rfl
  have z18 : W6.frozen? ⟨w5.heap.size, 18, none⟩ = false := by simp [World.frozen?, (unhide HB6).1]
  obtain ⟨W7, hW7⟩ : ∃ W7, W6.setCell ⟨w5.heap.size, 18, none⟩ (.int .u8 (co : Nat)) = W7 := ⟨_, rfl⟩
  have hb7 := blkset (unhide HB6).1 18 (.int .u8 (co : Nat))
  rw [hW7] at hb7
  simp only [List.setIfInBounds_toArray, List.set_cons_zero, List.set_cons_succ] at hb7
  have d19 : W7.cell? ⟨w5.heap.size, 19, none⟩ = some (.int .i64 (xb : Nat)) := cell_of_blk hb7 rfl
  have z19 : W7.frozen? ⟨w5.heap.size, 19, none⟩ = false := by simp [World.frozen?, hb7]
  obtain ⟨W8, hW8⟩ : ∃ W8, W7.setCell ⟨w5.heap.size, 19, none⟩ (.int .i64 ((xb : Int) + 1)) = W8 := ⟨_, rfl⟩
  have hb8 := blkset hb7 19 (.int .i64 ((xb : Int) + 1))
  rw [hW8] at hb8
  simp only [List.setIfInBounds_toArray, List.set_cons_zero, List.set_cons_succ] at hb8
  have hb8b : W8.heap[w5.heap.size]? = some (.cells (RC.cs ⟨⟨xcl, xnu, xac, xop, xrc, xve, xwa, xow, (.slice xfo xF.length xfc), xrs⟩, xF, 0, ⟨xdl, xdn, xdo, xdr, xdv, (.slice xgo xG.length xgc), (.slice xho xK.length xhc)⟩, xG, xK, co, xb + 1⟩).toArray 66) := by rw [hb8]; simp only [RC.cs, RQ.cs, AN.cs, List.cons_append, List.nil_append, Int.natCast_add, Int.cast_ofNat_Int]
  have HR8 := hide (range_of_block hb8b)
  have HF8 : Hid (Fr (fun _ => False) w5 W8) := hide (by
    have h67 : Fr (fun k => k = w5.heap.size) W6 W7 := by rw [← hW7]; exact (Fr.refl (fun k => k = w5.heap.size) _).setCell (p := ⟨w5.heap.size, 18, none⟩) (.inl rfl) _
    have h78 : Fr (fun k => k = w5.heap.size) W7 W8 := by rw [← hW8]; exact (Fr.refl (fun k => k = w5.heap.size) _).setCell (p := ⟨w5.heap.size, 19, none⟩) (.inl rfl) _
    exact ((unhide HB6).2.trans h67 (fun g hg e => by omega)).trans h78 (fun g hg e => by omega))
  have HX1 : Hid (∀ u ∈ RC.cs ⟨⟨xcl, xnu, xac, xop, xrc, xve, xwa, xow, (.slice xfo xF.length xfc), xrs⟩, xF, 0, ⟨xdl, xdn, xdo, xdr, xdv, (.slice xgo xG.length xgc), (.slice xho xK.length xhc)⟩, xG, xK, co, xb + 1⟩, u.oneCell' = true) := hide (List.all_eq_true.1 (show List.all (RC.cs ⟨⟨xcl, xnu, xac, xop, xrc, xve, xwa, xow, (.slice xfo xF.length xfc), xrs⟩, xF, 0, ⟨xdl, xdn, xdo, xdr, xdv, (.slice xgo xG.length xgc), (.slice xho xK.length xhc)⟩, xG, xK, co, xb + 1⟩) (fun v => v.oneCell') = true from rfl))
  clear hb7 hb8 hb8b HB6
  have HFW := hide (((unhide HB).2.2.2.1.trans0 (unhide HF5).1).trans0 (unhide HF8))
  have HW : Hid (Calls Try.prog 38 #[.agg #[.int .u32 (icl : Nat), .slice (some ⟨g, 0, none⟩) N cap, .int .i64 (got : Nat)], .int .i64 ((i : Int) + 1), .agg (RC.cs ⟨⟨xcl, xnu, xac, xop, xrc, xve, xwa, xow, (.slice xfo xF.length xfc), xrs⟩, xF, 0, ⟨xdl, xdn, xdo, xdr, xdv, (.slice xgo xG.length xgc), (.slice xho xK.length xhc)⟩, xG, xK, co, xb + 1⟩).toArray] W8 fun e w' => ∃ v', e = .returned (.agg #[.int .u32 (icl : Nat), v', .int .i64 (got : Nat)]) ∧ OwC w' W8.heap.size v' (l.set i ⟨⟨xcl, xnu, xac, xop, xrc, xve, xwa, xow, (.slice xfo xF.length xfc), xrs⟩, xF, 0, ⟨xdl, xdn, xdo, xdr, xdv, (.slice xgo xG.length xgc), (.slice xho xK.length xhc)⟩, xG, xK, co, xb + 1⟩) ∧ Fr (fun _ => False) W8 w') := hide (gwith_any icl got base i (.slice (some ⟨g, 0, none⟩) N cap) l ⟨⟨xcl, xnu, xac, xop, xrc, xve, xwa, xow, (.slice xfo xF.length xfc), xrs⟩, xF, 0, ⟨xdl, xdn, xdo, xdr, xdv, (.slice xgo xG.length xgc), (.slice xho xK.length xhc)⟩, xG, xK, co, xb + 1⟩ W8 ((unhide HO).fr0 (unhide HFW)) (unhide H1).1 (unhide HX1) (by rw [unhide HNN]; exact hil) (by rw [unhide HNN]; exact hl))
  obtain ⟨YS, hYS⟩ : ∃ YS : List Value, YS = RC.cs ⟨⟨xcl, xnu, xac, xop, xrc, xve, xwa, xow, (.slice xfo xF.length xfc), xrs⟩, xF, 0, ⟨xdl, xdn, xdo, xdr, xdv, (.slice xgo xG.length xgc), (.slice xho xK.length xhc)⟩, xG, xK, co, xb + 1⟩ := ⟨_, rfl⟩
  rw [← hYS] at HR8 HW
  have hsy : (Try.prog.info? 66).map (·.size) = some YS.length := by rw [hYS, RC.len]; exact Try.sizeCl
  clear hYS
  go_wp2_with (first | refine wpList_allocN rfl 66 rfl _ (alloc_cl w5) ?_ | refine wpList_load_mid rfl 66 (.tmp 31) rfl g (i * 20) rfl _ _ (unhide HR5) Try.underlying66 rfl hsx ?_ | refine wpList_stN rfl 66 (.tmp 8) (.tmp 32) rfl _ _ rfl rfl (unhide HST6) ?_ | refine wpList_load_mid rfl 66 (.tmp 8) rfl w5.heap.size 0 rfl _ _ (unhide HR8) Try.underlying66 rfl hsy ?_ | refine wpList_load_mid rfl 60 (.tmp 2) rfl w.heap.size 0 rfl _ _ ((unhide HRS) _ ((unhide HF5).1.trans0 (unhide HF8))) Try.underlying60 rfl Try.sizeRs ?_)
  refine (unhide HW).mono ?_
  rintro e w9 ⟨v9, rfl, ho9, hf9⟩
  obtain ⟨vo, vc, e9⟩ := own_formX ho9
  rw [List.length_set] at e9
  subst e9
  have hz9 : w.heap.size + 3 ≤ W8.heap.size := by have h1 := (unhide HB).2.2.2.2; have h2 := (unhide HF5).1.size; have h3 := (unhide HF8).size; omega
  obtain ⟨W10, hst, hb10, hf10⟩ := st_all (P := Try.prog) (ty := 60) [.int .u32 0, .slice none 0 0, .int .i64 0] [.int .u32 (icl : Nat), .slice vo l.length vc, .int .i64 (got : Nat)] (((((unhide HF5).1.trans0 (unhide HF8)).trans0 hf9).block _ (lt_of_block (unhide HB).2.2.1) (fun h => h)).trans (unhide HB).2.2.1) rfl Try.sizeRs (fun u hu => by simp at hu; rcases hu with rfl | rfl | rfl <;> rfl)
  have HST := hide hst
  have HE : Hid (OwC W10 base (.slice vo l.length vc) (l.set i ⟨⟨xcl, xnu, xac, xop, xrc, xve, xwa, xow, (.slice xfo xF.length xfc), xrs⟩, xF, 0, ⟨xdl, xdn, xdo, xdr, xdv, (.slice xgo xG.length xgc), (.slice xho xK.length xhc)⟩, xG, xK, co, xb + 1⟩) ∧ Fr (fun _ => False) w W10 ∧ ∀ k, (Value.slice vo l.length vc).ownBlock = some k → w.heap.size ≤ k) := hide (by
    have hfw : Fr (fun _ => False) w W10 := ((unhide HFW).trans0 hf9).trans hf10 (fun g hg e => by omega)
    exact ⟨ownsRow_base (ownsRow_of_block ho9 (fun k hk => hf10.block k (ho9.lt k hk).2 (fun e => by have := (ho9.lt k hk).1; omega))) (by omega), hfw, fun k hk => by have := (ho9.lt k hk).1; omega⟩)
  have HB10 := hide (range_of_block hb10)
  clear hst hb10 hf10 ho9 hf9 HW
  go_wp2_with (refine wpList_stN rfl 60 (.tmp 4) (.tmp 49) rfl _ _ rfl rfl (unhide HST) ?_)
  refine bodyPost_ret (results_cellt rfl _ _ (w.heap.size + 1 + 1) 0 _ _ _ rfl rfl (unhide HB10) Try.underlying60 rfl Try.sizeRs) rfl ?_
  exact ⟨_, rfl, (unhide HE).1, (unhide HE).2.1, fun g hg => .inr ((unhide HE).2.2 g hg)⟩
end Go.Proofs.Ytkiepcdncegniaa

namespace Go.Proofs.Ytkiepcdncegniaa
open Go.RowKit Go.Maps

set_option maxRecDepth 100000 in
set_option maxHeartbeats 4000000 in
/-- A Busy of a request that is answered. -/
theorem gtake_busyD (c got base i : Nat) (v : Value) (l : List RC) (x : RC) (xs : List Value) (icl inu co : Nat) (a : AN) (w : World) (hm : MsX xs 4 icl inu co a) (h : OwC w base v l) (hb : base ≤ w.heap.size) (hok : ∀ y ∈ l, y.Ok w) (hl : l.length ≤ 4096) (hx : l[i]? = some x) (hcl : icl = c) (hnu : inu = i + 1) (ho : 0 < x.o) : Calls Try.prog 22 #[.agg #[.int .u32 (c : Nat), v, .int .i64 (got : Nat)], .agg xs.toArray] w fun e w' => ∃ v', e = .returned (.tuple #[.agg #[.int .u32 (c : Nat), v', .int .i64 (got : Nat)], .int .i64 0]) ∧ OwC w' base v' (l.set i x) ∧ Fr (fun _ => False) w w' ∧ ∀ g, v'.ownBlock = some g → v.ownBlock = some g ∨ w.heap.size ≤ g := by
  obtain ⟨ao, cap, rfl⟩ := own_formX h
  obtain ⟨acl, anu, aco, arc, ave, afv, ahv⟩ := a
  obtain ⟨N, hN⟩ : ∃ N, l.length = N := ⟨_, rfl⟩
  have HO := hide h
  have HNN := hide hN
  rw [hN] at hl HO ⊢
  have hil : i < N := by have := (List.getElem?_eq_some_iff.1 hx).1; omega
  have hrow := h
  unfold OwC at hrow
  rw [hN] at hrow
  obtain ⟨g, cp, eg, _, hg⟩ := own_one_form hrow (by omega)
  rw [← hN] at eg
  have hcx : w.rangeAt g (i * 20) x.cs := fun j u hu => by
    have h20 : j < 20 := by have := (List.getElem?_eq_some_iff.1 hu).1; rwa [RC.len] at this
    exact hg (i * 20 + j) u (by rw [ccells_at l i j x hx h20]; exact hu)
  have hokx := hok x (List.mem_of_getElem? hx)
  have H1 := hide (And.intro (fun y hy => (hok y hy).one) hokx.one)
  have HX := hide hx
  rw [hN] at eg
  cases eg
  obtain ⟨⟨xcl, xnu, xac, xop, xrc, xve, xwa, xow, xfv, xrs⟩, xF, xo, ⟨xdl, xdn, xdo, xdr, xdv, xgv, xhv⟩, xG, xK, xc, xb⟩ := x
  obtain ⟨xfo, xfc, e, _⟩ := hokx.f.f
  simp only at e
  subst e
  obtain ⟨xgo, xgc, e, _⟩ := hokx.g.f
  simp only at e
  subst e
  obtain ⟨xho, xhc, e, _⟩ := hokx.k.f
  simp only at e
  subst e
  have HOK := hide hokx
  simp only [RC.cs, RQ.cs, AN.cs, List.cons_append, List.nil_append] at hcx
  have hgw : g < w.heap.size := lt_of_cell (hcx 0 _ rfl)
  have HCX := hide hcx
  clear h hN hrow hg hcx hok hokx hx
  obtain ⟨W1, hW1⟩ : ∃ W1, ((w.alloc (.cells #[.int .u32 (c : Nat), .slice (some ⟨g, 0, none⟩) N cap, .int .i64 (got : Nat)] 60)).alloc (.cells xs.toArray 49)).alloc (.cells #[.int .u32 0, .slice none 0 0, .int .i64 0] 60) = W1 := ⟨_, rfl⟩
  have hf1 : Fr (fun _ => False) w W1 := by rw [← hW1]; exact ((box1 w _).alloc _).alloc _
  have hb0 : W1.heap[w.heap.size]? = some (.cells #[.int .u32 (c : Nat), .slice (some ⟨g, 0, none⟩) N cap, .int .i64 (got : Nat)] 60) := by rw [← hW1]; exact (Below.heap_alloc _ _ _ (by simp; omega)).trans ((Below.heap_alloc _ _ _ (by simp)).trans (heap_alloc_new w _))
  have hb1 : W1.heap[w.heap.size + 1]? = some (.cells xs.toArray 49) := by
    rw [← hW1]
    refine (Below.heap_alloc _ _ _ (by simp)).trans ?_
    have := heap_alloc_new (w.alloc (.cells #[.int .u32 (c : Nat), .slice (some ⟨g, 0, none⟩) N cap, .int .i64 (got : Nat)] 60)) (.cells xs.toArray 49)
    rwa [World.size_alloc] at this
  have hb2 : W1.heap[w.heap.size + 1 + 1]? = some (.cells #[.int .u32 0, .slice none 0 0, .int .i64 0] 60) := by
    rw [← hW1]
    have := heap_alloc_new ((w.alloc (.cells #[.int .u32 (c : Nat), .slice (some ⟨g, 0, none⟩) N cap, .int .i64 (got : Nat)] 60)).alloc (.cells xs.toArray 49)) (.cells #[.int .u32 0, .slice none 0 0, .int .i64 0] 60)
    rwa [World.size_alloc, World.size_alloc] at this
  have hz1 : W1.heap.size = w.heap.size + 3 := by rw [← hW1]; simp
  have hz2 : w.heap.size + 1 < W1.heap.size := by omega
  have hz3 : w.heap.size < W1.heap.size := by omega
  have c0 : W1.cell? ⟨w.heap.size + 1, 0, none⟩ = some (.int .u8 4) := cell_of_blk hb1 (by simpa using hm.k)
  have c11 : W1.cell? ⟨w.heap.size + 1, 11, none⟩ = some (.int .u32 (icl : Nat)) := cell_of_blk hb1 (by simpa using hm.i1)
  have c12 : W1.cell? ⟨w.heap.size + 1, 12, none⟩ = some (.int .u32 (inu : Nat)) := cell_of_blk hb1 (by simpa using hm.i2)
  have c13 : W1.cell? ⟨w.heap.size + 1, 13, none⟩ = some (.int .u32 (acl : Nat)) := cell_of_blk hb1 (by simpa using hm.an 0 _ rfl)
  have c14 : W1.cell? ⟨w.heap.size + 1, 14, none⟩ = some (.int .u32 (anu : Nat)) := cell_of_blk hb1 (by simpa using hm.an 1 _ rfl)
  have HB := hide (And.intro hb0 (And.intro hb1 (And.intro hb2 (And.intro hf1 hz1))))
  have HRS : Hid (∀ W', Fr (fun _ => False) W1 W' → W'.rangeAt w.heap.size 0 [.int .u32 (c : Nat), .slice (some ⟨g, 0, none⟩) N cap, .int .i64 (got : Nat)]) := hide (fun W' hf => range_of_block ((hf.block _ (lt_of_block hb0) (fun h => h)).trans hb0))
  clear hb0 hb1 hb2 hf1 hz1
  go_enter Try.func22, Try.ntmps22
  subst hcl
  subst hnu
  have hgn : gnum icl N icl (i + 1) = i + 1 := by unfold gnum; rw [if_pos ⟨rfl, by omega, by omega⟩]
  have hwi : wrap64 ((i : Int) + 1 - 1) = (i : Int) := by unfold wrap64; omega
  have l3 : (0 : Int) ≤ (i : Int) := by omega
  have l1 : (i : Int) < (N : Int) := by omega
  have l2 : ¬ (i : Int) + 1 = 0 := by omega
  have l2b : ((i : Int) + 1 == 0) = false := by simpa using l2
  go_wp2_with (refine wpList_load_mid rfl 60 (.tmp 2) rfl w.heap.size 0 rfl _ _ ((unhide HRS) _ (box1 W1 (.cells #[.int .u32 (icl : Nat), .int .u32 ((i : Int) + 1)] 29))) Try.underlying60 rfl Try.sizeRs ?_)
  refine (gfind_any icl (some ⟨g, 0, none⟩) N cap got icl (i + 1) _ hl).mono ?_
  rintro e w5 ⟨rfl, hf5⟩
  rw [hgn]
  have hf15 : Fr (fun _ => False) W1 w5 := (box1 W1 (.cells #[.int .u32 (icl : Nat), .int .u32 ((i : Int) + 1)] 29)).trans0 hf5
  have d0 : w5.cell? ⟨w.heap.size + 1, 0, none⟩ = some (.int .u8 4) := (hf15.cell (p := ⟨w.heap.size + 1, 0, none⟩) (lt_of_cell c0) (fun h => h)).trans c0
  have d1 : w5.cell? ⟨w.heap.size, 1, none⟩ = some (.slice (some ⟨g, 0, none⟩) N cap) := cell_of_blk ((hf15.block _ (lt_of_block (unhide HB).1) (fun h => h)).trans (unhide HB).1) rfl
  have d20 : w5.cell? ⟨w.heap.size + 1, 20, none⟩ = some (.int .u8 (co : Nat)) := cell_of_blk ((hf15.block _ (lt_of_block (unhide HB).2.1) (fun h => h)).trans (unhide HB).2.1) (by simpa using hm.c)
  have y2 : w.heap.size + 1 < w5.heap.size := Nat.lt_of_lt_of_le hz2 hf15.size
  have y3 : w.heap.size < w5.heap.size := Nat.lt_of_lt_of_le hz3 hf15.size
  have HF5 := hide (And.intro hf15 hf5)
  have HR5 : Hid (w5.rangeAt g (i * 20) [.int .u32 (xcl : Nat), .int .u32 (xnu : Nat), .int .u32 (xac : Nat), .int .u8 (xop : Nat), .int .u32 (xrc : Nat), .int .u32 (xve : Nat), .int .u32 (xwa : Nat), .int .u32 (xow : Nat), (.slice xfo xF.length xfc), .string xrs, .int .i64 (xo : Nat), .int .u32 (xdl : Nat), .int .u32 (xdn : Nat), .int .u8 (xdo : Nat), .int .u32 (xdr : Nat), .int .u32 (xdv : Nat), (.slice xgo xG.length xgc), (.slice xho xK.length xhc), .int .u8 (xc : Nat), .int .i64 (xb : Nat)]) := hide (fun j u hu => (((unhide HB).2.2.2.1.trans0 hf15).cell (p := ⟨g, i * 20 + j, none⟩) (Nat.lt_of_lt_of_le hgw (Nat.le_refl _)) (fun h => h)).trans ((unhide HCX) j u hu))
  obtain ⟨W6, hst6, hb6, hf6⟩ := st_all (P := Try.prog) (ty := 66) [.int .u32 0, .int .u32 0, .int .u32 0, .int .u8 0, .int .u32 0, .int .u32 0, .int .u32 0, .int .u32 0, .slice none 0 0, .string ⟨#[]⟩, .int .i64 0, .int .u32 0, .int .u32 0, .int .u8 0, .int .u32 0, .int .u32 0, .slice none 0 0, .slice none 0 0, .int .u8 0, .int .i64 0] [.int .u32 (xcl : Nat), .int .u32 (xnu : Nat), .int .u32 (xac : Nat), .int .u8 (xop : Nat), .int .u32 (xrc : Nat), .int .u32 (xve : Nat), .int .u32 (xwa : Nat), .int .u32 (xow : Nat), (.slice xfo xF.length xfc), .string xrs, .int .i64 (xo : Nat), .int .u32 (xdl : Nat), .int .u32 (xdn : Nat), .int .u8 (xdo : Nat), .int .u32 (xdr : Nat), .int .u32 (xdv : Nat), (.slice xgo xG.length xgc), (.slice xho xK.length xhc), .int .u8 (xc : Nat), .int .i64 (xb : Nat)] (heap_alloc_new w5 (.cells #[.int .u32 0, .int .u32 0, .int .u32 0, .int .u8 0, .int .u32 0, .int .u32 0, .int .u32 0, .int .u32 0, .slice none 0 0, .string ⟨#[]⟩, .int .i64 0, .int .u32 0, .int .u32 0, .int .u8 0, .int .u32 0, .int .u32 0, .slice none 0 0, .slice none 0 0, .int .u8 0, .int .i64 0] 66)) rfl Try.sizeCl (unhide H1).2
  have hf56 : Fr (fun _ => False) w5 W6 := (box1 w5 _).trans hf6 (fun g hg e => by omega)
  have d0b : W6.cell? ⟨w.heap.size + 1, 0, none⟩ = some (.int .u8 4) := (hf56.cell (p := ⟨w.heap.size + 1, 0, none⟩) (lt_of_cell d0) (fun h => h)).trans d0
  have d20b : W6.cell? ⟨w.heap.size + 1, 20, none⟩ = some (.int .u8 (co : Nat)) := (hf56.cell (p := ⟨w.heap.size + 1, 20, none⟩) (lt_of_cell d20) (fun h => h)).trans d20
  have d10 : W6.cell? ⟨w5.heap.size, 10, none⟩ = some (.int .i64 (xo : Nat)) := cell_of_blk hb6 rfl
  have HST6 := hide hst6
  have HB6 := hide (And.intro hb6 hf56)
  obtain ⟨XS, hXS⟩ : ∃ XS : List Value, XS = [.int .u32 (xcl : Nat), .int .u32 (xnu : Nat), .int .u32 (xac : Nat), .int .u8 (xop : Nat), .int .u32 (xrc : Nat), .int .u32 (xve : Nat), .int .u32 (xwa : Nat), .int .u32 (xow : Nat), (.slice xfo xF.length xfc), .string xrs, .int .i64 (xo : Nat), .int .u32 (xdl : Nat), .int .u32 (xdn : Nat), .int .u8 (xdo : Nat), .int .u32 (xdr : Nat), .int .u32 (xdv : Nat), (.slice xgo xG.length xgc), (.slice xho xK.length xhc), .int .u8 (xc : Nat), .int .i64 (xb : Nat)] := ⟨_, rfl⟩
  rw [← hXS] at HR5 HST6
  have hsx : (Try.prog.info? 66).map (·.size) = some XS.length := by rw [hXS]; exact Try.sizeCl
  clear hXS
  clear hst6 hb6 hf6 hf56
  clear hf5 hf15 c0 c11 c12 c13 c14 hz2 hz3 HCX hgn hgw hW1 d0 d20
  have e1 : ¬ (xo : Int) = 0 := by omega
  have e2 : ((xo : Int) == 0) = false := by simpa using e1
  obtain ⟨W8, hW8⟩ : ∃ W8, W6 = W8 := ⟨_, rfl⟩
  subst hW8
  have hb8b : W6.heap[w5.heap.size]? = some (.cells (RC.cs ⟨⟨xcl, xnu, xac, xop, xrc, xve, xwa, xow, (.slice xfo xF.length xfc), xrs⟩, xF, xo, ⟨xdl, xdn, xdo, xdr, xdv, (.slice xgo xG.length xgc), (.slice xho xK.length xhc)⟩, xG, xK, xc, xb⟩).toArray 66) := (unhide HB6).1
  have HR8 := hide (range_of_block hb8b)
  have HF8 : Hid (Fr (fun _ => False) w5 W6) := hide (unhide HB6).2
  have HX1 : Hid (∀ u ∈ RC.cs ⟨⟨xcl, xnu, xac, xop, xrc, xve, xwa, xow, (.slice xfo xF.length xfc), xrs⟩, xF, xo, ⟨xdl, xdn, xdo, xdr, xdv, (.slice xgo xG.length xgc), (.slice xho xK.length xhc)⟩, xG, xK, xc, xb⟩, u.oneCell' = true) := hide (unhide H1).2
  clear hb8b HB6
  have HFW := hide (((unhide HB).2.2.2.1.trans0 (unhide HF5).1).trans0 (unhide HF8))
  have HW : Hid (Calls Try.prog 38 #[.agg #[.int .u32 (icl : Nat), .slice (some ⟨g, 0, none⟩) N cap, .int .i64 (got : Nat)], .int .i64 ((i : Int) + 1), .agg (RC.cs ⟨⟨xcl, xnu, xac, xop, xrc, xve, xwa, xow, (.slice xfo xF.length xfc), xrs⟩, xF, xo, ⟨xdl, xdn, xdo, xdr, xdv, (.slice xgo xG.length xgc), (.slice xho xK.length xhc)⟩, xG, xK, xc, xb⟩).toArray] W6 fun e w' => ∃ v', e = .returned (.agg #[.int .u32 (icl : Nat), v', .int .i64 (got : Nat)]) ∧ OwC w' W6.heap.size v' (l.set i ⟨⟨xcl, xnu, xac, xop, xrc, xve, xwa, xow, (.slice xfo xF.length xfc), xrs⟩, xF, xo, ⟨xdl, xdn, xdo, xdr, xdv, (.slice xgo xG.length xgc), (.slice xho xK.length xhc)⟩, xG, xK, xc, xb⟩) ∧ Fr (fun _ => False) W6 w') := hide (gwith_any icl got base i (.slice (some ⟨g, 0, none⟩) N cap) l ⟨⟨xcl, xnu, xac, xop, xrc, xve, xwa, xow, (.slice xfo xF.length xfc), xrs⟩, xF, xo, ⟨xdl, xdn, xdo, xdr, xdv, (.slice xgo xG.length xgc), (.slice xho xK.length xhc)⟩, xG, xK, xc, xb⟩ W6 ((unhide HO).fr0 (unhide HFW)) (unhide H1).1 (unhide HX1) (by rw [unhide HNN]; exact hil) (by rw [unhide HNN]; exact hl))
  obtain ⟨YS, hYS⟩ : ∃ YS : List Value, YS = RC.cs ⟨⟨xcl, xnu, xac, xop, xrc, xve, xwa, xow, (.slice xfo xF.length xfc), xrs⟩, xF, xo, ⟨xdl, xdn, xdo, xdr, xdv, (.slice xgo xG.length xgc), (.slice xho xK.length xhc)⟩, xG, xK, xc, xb⟩ := ⟨_, rfl⟩
  rw [← hYS] at HR8 HW
  have hsy : (Try.prog.info? 66).map (·.size) = some YS.length := by rw [hYS, RC.len]; exact Try.sizeCl
  clear hYS
  go_wp2_with (first | refine wpList_allocN rfl 66 rfl _ (alloc_cl w5) ?_ | refine wpList_load_mid rfl 66 (.tmp 31) rfl g (i * 20) rfl _ _ (unhide HR5) Try.underlying66 rfl hsx ?_ | refine wpList_stN rfl 66 (.tmp 8) (.tmp 32) rfl _ _ rfl rfl (unhide HST6) ?_ | refine wpList_load_mid rfl 66 (.tmp 8) rfl w5.heap.size 0 rfl _ _ (unhide HR8) Try.underlying66 rfl hsy ?_ | refine wpList_load_mid rfl 60 (.tmp 2) rfl w.heap.size 0 rfl _ _ ((unhide HRS) _ ((unhide HF5).1.trans0 (unhide HF8))) Try.underlying60 rfl Try.sizeRs ?_)
  refine (unhide HW).mono ?_
  rintro e w9 ⟨v9, rfl, ho9, hf9⟩
  obtain ⟨vo, vc, e9⟩ := own_formX ho9
  rw [List.length_set] at e9
  subst e9
  have hz9 : w.heap.size + 3 ≤ W6.heap.size := by have h1 := (unhide HB).2.2.2.2; have h2 := (unhide HF5).1.size; have h3 := (unhide HF8).size; omega
  obtain ⟨W10, hst, hb10, hf10⟩ := st_all (P := Try.prog) (ty := 60) [.int .u32 0, .slice none 0 0, .int .i64 0] [.int .u32 (icl : Nat), .slice vo l.length vc, .int .i64 (got : Nat)] (((((unhide HF5).1.trans0 (unhide HF8)).trans0 hf9).block _ (lt_of_block (unhide HB).2.2.1) (fun h => h)).trans (unhide HB).2.2.1) rfl Try.sizeRs (fun u hu => by simp at hu; rcases hu with rfl | rfl | rfl <;> rfl)
  have HST := hide hst
  have HE : Hid (OwC W10 base (.slice vo l.length vc) (l.set i ⟨⟨xcl, xnu, xac, xop, xrc, xve, xwa, xow, (.slice xfo xF.length xfc), xrs⟩, xF, xo, ⟨xdl, xdn, xdo, xdr, xdv, (.slice xgo xG.length xgc), (.slice xho xK.length xhc)⟩, xG, xK, xc, xb⟩) ∧ Fr (fun _ => False) w W10 ∧ ∀ k, (Value.slice vo l.length vc).ownBlock = some k → w.heap.size ≤ k) := hide (by
    have hfw : Fr (fun _ => False) w W10 := ((unhide HFW).trans0 hf9).trans hf10 (fun g hg e => by omega)
    exact ⟨ownsRow_base (ownsRow_of_block ho9 (fun k hk => hf10.block k (ho9.lt k hk).2 (fun e => by have := (ho9.lt k hk).1; omega))) (by omega), hfw, fun k hk => by have := (ho9.lt k hk).1; omega⟩)
  have HB10 := hide (range_of_block hb10)
  clear hst hb10 hf10 ho9 hf9 HW
  go_wp2_with (refine wpList_stN rfl 60 (.tmp 4) (.tmp 49) rfl _ _ rfl rfl (unhide HST) ?_)
  refine bodyPost_ret (results_cellt rfl _ _ (w.heap.size + 1 + 1) 0 _ _ _ rfl rfl (unhide HB10) Try.underlying60 rfl Try.sizeRs) rfl ?_
  exact ⟨_, rfl, (unhide HE).1, (unhide HE).2.1, fun g hg => .inr ((unhide HE).2.2 g hg)⟩
end Go.Proofs.Ytkiepcdncegniaa

namespace Go.Proofs.Ytkiepcdncegniaa
open Go.RowKit Go.Maps

set_option maxRecDepth 100000 in
set_option maxHeartbeats 4000000 in
/-- An answer of a request that is answered. -/
theorem gtake_again (c got base i : Nat) (v : Value) (l : List RC) (x : RC) (xs : List Value) (icl inu co : Nat) (a : AN) (w : World) (hm : MsX xs 3 icl inu co a) (h : OwC w base v l) (hok : ∀ y ∈ l, y.Ok w) (hl : l.length ≤ 4096) (hx : l[i]? = some x) (hcl : a.cl = c) (hnu : a.nu = i + 1) (ho : 0 < x.o) (F : List F5) (K : List SM) (hF : Fds w a.fv F) (hK : Sms w a.hv K) : Calls Try.prog 22 #[.agg #[.int .u32 (c : Nat), v, .int .i64 (got : Nat)], .agg xs.toArray] w fun e w' => ∃ v', e = .returned (.tuple #[.agg #[.int .u32 (c : Nat), v', .int .i64 (got : Nat)], .int .i64 (if gsameA x.a a x.G F x.K K then 0 else 4)]) ∧ OwC w' base v' l ∧ Fr (fun _ => False) w w' ∧ ∀ g, v'.ownBlock = some g → v.ownBlock = some g ∨ w.heap.size ≤ g := by
  obtain ⟨ao, cap, rfl⟩ := own_formX h
  obtain ⟨acl, anu, aco, arc, ave, afv, ahv⟩ := a
  obtain ⟨N, hN⟩ : ∃ N, l.length = N := ⟨_, rfl⟩
  have HO := hide h
  have HNN := hide hN
  rw [hN] at hl HO ⊢
  have hil : i < N := by have := (List.getElem?_eq_some_iff.1 hx).1; omega
  have hrow := h
  unfold OwC at hrow
  rw [hN] at hrow
  obtain ⟨g, cp, eg, _, hg⟩ := own_one_form hrow (by omega)
  rw [← hN] at eg
  have hcx : w.rangeAt g (i * 20) x.cs := fun j u hu => by
    have h20 : j < 20 := by have := (List.getElem?_eq_some_iff.1 hu).1; rwa [RC.len] at this
    exact hg (i * 20 + j) u (by rw [ccells_at l i j x hx h20]; exact hu)
  have hokx := hok x (List.mem_of_getElem? hx)
  have H1 := hide (And.intro (fun y hy => (hok y hy).one) hokx.one)
  have HX := hide hx
  rw [hN] at eg
  cases eg
  obtain ⟨⟨xcl, xnu, xac, xop, xrc, xve, xwa, xow, xfv, xrs⟩, xF, xo, ⟨xdl, xdn, xdo, xdr, xdv, xgv, xhv⟩, xG, xK, xc, xb⟩ := x
  obtain ⟨xfo, xfc, e, _⟩ := hokx.f.f
  simp only at e
  subst e
  obtain ⟨xgo, xgc, e, _⟩ := hokx.g.f
  simp only at e
  subst e
  obtain ⟨xho, xhc, e, _⟩ := hokx.k.f
  simp only at e
  subst e
  have HOK := hide hokx
  simp only [RC.cs, RQ.cs, AN.cs, List.cons_append, List.nil_append] at hcx
  have hgw : g < w.heap.size := lt_of_cell (hcx 0 _ rfl)
  have HCX := hide hcx
  clear h hN hrow hg hcx hok hokx hx
  obtain ⟨W1, hW1⟩ : ∃ W1, ((w.alloc (.cells #[.int .u32 (c : Nat), .slice (some ⟨g, 0, none⟩) N cap, .int .i64 (got : Nat)] 60)).alloc (.cells xs.toArray 49)).alloc (.cells #[.int .u32 0, .slice none 0 0, .int .i64 0] 60) = W1 := ⟨_, rfl⟩
  have hf1 : Fr (fun _ => False) w W1 := by rw [← hW1]; exact ((box1 w _).alloc _).alloc _
  have hb0 : W1.heap[w.heap.size]? = some (.cells #[.int .u32 (c : Nat), .slice (some ⟨g, 0, none⟩) N cap, .int .i64 (got : Nat)] 60) := by rw [← hW1]; exact (Below.heap_alloc _ _ _ (by simp; omega)).trans ((Below.heap_alloc _ _ _ (by simp)).trans (heap_alloc_new w _))
  have hb1 : W1.heap[w.heap.size + 1]? = some (.cells xs.toArray 49) := by
    rw [← hW1]
    refine (Below.heap_alloc _ _ _ (by simp)).trans ?_
    have := heap_alloc_new (w.alloc (.cells #[.int .u32 (c : Nat), .slice (some ⟨g, 0, none⟩) N cap, .int .i64 (got : Nat)] 60)) (.cells xs.toArray 49)
    rwa [World.size_alloc] at this
  have hb2 : W1.heap[w.heap.size + 1 + 1]? = some (.cells #[.int .u32 0, .slice none 0 0, .int .i64 0] 60) := by
    rw [← hW1]
    have := heap_alloc_new ((w.alloc (.cells #[.int .u32 (c : Nat), .slice (some ⟨g, 0, none⟩) N cap, .int .i64 (got : Nat)] 60)).alloc (.cells xs.toArray 49)) (.cells #[.int .u32 0, .slice none 0 0, .int .i64 0] 60)
    rwa [World.size_alloc, World.size_alloc] at this
  have hz1 : W1.heap.size = w.heap.size + 3 := by rw [← hW1]; simp
  have hz2 : w.heap.size + 1 < W1.heap.size := by omega
  have hz3 : w.heap.size < W1.heap.size := by omega
  have c0 : W1.cell? ⟨w.heap.size + 1, 0, none⟩ = some (.int .u8 3) := cell_of_blk hb1 (by simpa using hm.k)
  have c11 : W1.cell? ⟨w.heap.size + 1, 11, none⟩ = some (.int .u32 (icl : Nat)) := cell_of_blk hb1 (by simpa using hm.i1)
  have c12 : W1.cell? ⟨w.heap.size + 1, 12, none⟩ = some (.int .u32 (inu : Nat)) := cell_of_blk hb1 (by simpa using hm.i2)
  have c13 : W1.cell? ⟨w.heap.size + 1, 13, none⟩ = some (.int .u32 (acl : Nat)) := cell_of_blk hb1 (by simpa using hm.an 0 _ rfl)
  have c14 : W1.cell? ⟨w.heap.size + 1, 14, none⟩ = some (.int .u32 (anu : Nat)) := cell_of_blk hb1 (by simpa using hm.an 1 _ rfl)
  have HB := hide (And.intro hb0 (And.intro hb1 (And.intro hb2 (And.intro hf1 hz1))))
  have HRS : Hid (∀ W', Fr (fun _ => False) W1 W' → W'.rangeAt w.heap.size 0 [.int .u32 (c : Nat), .slice (some ⟨g, 0, none⟩) N cap, .int .i64 (got : Nat)]) := hide (fun W' hf => range_of_block ((hf.block _ (lt_of_block hb0) (fun h => h)).trans hb0))
  clear hb0 hb1 hb2 hf1 hz1
  go_enter Try.func22, Try.ntmps22
  simp only at hcl hnu
  subst hcl
  subst hnu
  have hgn : gnum acl N acl (i + 1) = i + 1 := by unfold gnum; rw [if_pos ⟨rfl, by omega, by omega⟩]
  have hwi : wrap64 ((i : Int) + 1 - 1) = (i : Int) := by unfold wrap64; omega
  have l3 : (0 : Int) ≤ (i : Int) := by omega
  have l1 : (i : Int) < (N : Int) := by omega
  have l2 : ¬ (i : Int) + 1 = 0 := by omega
  have l2b : ((i : Int) + 1 == 0) = false := by simpa using l2
  go_wp2_with (refine wpList_load_mid rfl 60 (.tmp 2) rfl w.heap.size 0 rfl _ _ ((unhide HRS) _ (box1 W1 (.cells #[.int .u32 (acl : Nat), .int .u32 ((i : Int) + 1)] 29))) Try.underlying60 rfl Try.sizeRs ?_)
  refine (gfind_any acl (some ⟨g, 0, none⟩) N cap got acl (i + 1) _ hl).mono ?_
  rintro e w5 ⟨rfl, hf5⟩
  rw [hgn]
  have hf15 : Fr (fun _ => False) W1 w5 := (box1 W1 (.cells #[.int .u32 (acl : Nat), .int .u32 ((i : Int) + 1)] 29)).trans0 hf5
  have d0 : w5.cell? ⟨w.heap.size + 1, 0, none⟩ = some (.int .u8 3) := (hf15.cell (p := ⟨w.heap.size + 1, 0, none⟩) (lt_of_cell c0) (fun h => h)).trans c0
  have d1 : w5.cell? ⟨w.heap.size, 1, none⟩ = some (.slice (some ⟨g, 0, none⟩) N cap) := cell_of_blk ((hf15.block _ (lt_of_block (unhide HB).1) (fun h => h)).trans (unhide HB).1) rfl
  have d20 : w5.cell? ⟨w.heap.size + 1, 20, none⟩ = some (.int .u8 (co : Nat)) := cell_of_blk ((hf15.block _ (lt_of_block (unhide HB).2.1) (fun h => h)).trans (unhide HB).2.1) (by simpa using hm.c)
  have y2 : w.heap.size + 1 < w5.heap.size := Nat.lt_of_lt_of_le hz2 hf15.size
  have y3 : w.heap.size < w5.heap.size := Nat.lt_of_lt_of_le hz3 hf15.size
  have HF5 := hide (And.intro hf15 hf5)
  have HR5 : Hid (w5.rangeAt g (i * 20) [.int .u32 (xcl : Nat), .int .u32 (xnu : Nat), .int .u32 (xac : Nat), .int .u8 (xop : Nat), .int .u32 (xrc : Nat), .int .u32 (xve : Nat), .int .u32 (xwa : Nat), .int .u32 (xow : Nat), (.slice xfo xF.length xfc), .string xrs, .int .i64 (xo : Nat), .int .u32 (xdl : Nat), .int .u32 (xdn : Nat), .int .u8 (xdo : Nat), .int .u32 (xdr : Nat), .int .u32 (xdv : Nat), (.slice xgo xG.length xgc), (.slice xho xK.length xhc), .int .u8 (xc : Nat), .int .i64 (xb : Nat)]) := hide (fun j u hu => (((unhide HB).2.2.2.1.trans0 hf15).cell (p := ⟨g, i * 20 + j, none⟩) (Nat.lt_of_lt_of_le hgw (Nat.le_refl _)) (fun h => h)).trans ((unhide HCX) j u hu))
  obtain ⟨W6, hst6, hb6, hf6⟩ := st_all (P := Try.prog) (ty := 66) [.int .u32 0, .int .u32 0, .int .u32 0, .int .u8 0, .int .u32 0, .int .u32 0, .int .u32 0, .int .u32 0, .slice none 0 0, .string ⟨#[]⟩, .int .i64 0, .int .u32 0, .int .u32 0, .int .u8 0, .int .u32 0, .int .u32 0, .slice none 0 0, .slice none 0 0, .int .u8 0, .int .i64 0] [.int .u32 (xcl : Nat), .int .u32 (xnu : Nat), .int .u32 (xac : Nat), .int .u8 (xop : Nat), .int .u32 (xrc : Nat), .int .u32 (xve : Nat), .int .u32 (xwa : Nat), .int .u32 (xow : Nat), (.slice xfo xF.length xfc), .string xrs, .int .i64 (xo : Nat), .int .u32 (xdl : Nat), .int .u32 (xdn : Nat), .int .u8 (xdo : Nat), .int .u32 (xdr : Nat), .int .u32 (xdv : Nat), (.slice xgo xG.length xgc), (.slice xho xK.length xhc), .int .u8 (xc : Nat), .int .i64 (xb : Nat)] (heap_alloc_new w5 (.cells #[.int .u32 0, .int .u32 0, .int .u32 0, .int .u8 0, .int .u32 0, .int .u32 0, .int .u32 0, .int .u32 0, .slice none 0 0, .string ⟨#[]⟩, .int .i64 0, .int .u32 0, .int .u32 0, .int .u8 0, .int .u32 0, .int .u32 0, .slice none 0 0, .slice none 0 0, .int .u8 0, .int .i64 0] 66)) rfl Try.sizeCl (unhide H1).2
  have hf56 : Fr (fun _ => False) w5 W6 := (box1 w5 _).trans hf6 (fun g hg e => by omega)
  have d0b : W6.cell? ⟨w.heap.size + 1, 0, none⟩ = some (.int .u8 3) := (hf56.cell (p := ⟨w.heap.size + 1, 0, none⟩) (lt_of_cell d0) (fun h => h)).trans d0
  have d20b : W6.cell? ⟨w.heap.size + 1, 20, none⟩ = some (.int .u8 (co : Nat)) := (hf56.cell (p := ⟨w.heap.size + 1, 20, none⟩) (lt_of_cell d20) (fun h => h)).trans d20
  have d10 : W6.cell? ⟨w5.heap.size, 10, none⟩ = some (.int .i64 (xo : Nat)) := cell_of_blk hb6 rfl
  have HST6 := hide hst6
  have HB6 := hide (And.intro hb6 hf56)
  obtain ⟨XS, hXS⟩ : ∃ XS : List Value, XS = [.int .u32 (xcl : Nat), .int .u32 (xnu : Nat), .int .u32 (xac : Nat), .int .u8 (xop : Nat), .int .u32 (xrc : Nat), .int .u32 (xve : Nat), .int .u32 (xwa : Nat), .int .u32 (xow : Nat), (.slice xfo xF.length xfc), .string xrs, .int .i64 (xo : Nat), .int .u32 (xdl : Nat), .int .u32 (xdn : Nat), .int .u8 (xdo : Nat), .int .u32 (xdr : Nat), .int .u32 (xdv : Nat), (.slice xgo xG.length xgc), (.slice xho xK.length xhc), .int .u8 (xc : Nat), .int .i64 (xb : Nat)] := ⟨_, rfl⟩
  rw [← hXS] at HR5 HST6
  have hsx : (Try.prog.info? 66).map (·.size) = some XS.length := by rw [hXS]; exact Try.sizeCl
  clear hXS
  clear hst6 hb6 hf6 hf56
  clear hf5 hf15 c0 c11 c12 c13 c14 hz2 hz3 HCX hgn hgw hW1 d0 d20
  have e1 : (0 : Int) < (xo : Int) := by omega
  have HGS := hide (fun W (hf : Fr (fun _ => False) w W) => gsameAnswer_any ⟨xdl, xdn, xdo, xdr, xdv, (.slice xgo xG.length xgc), (.slice xho xK.length xhc)⟩ ⟨acl, i + 1, aco, arc, ave, afv, ahv⟩ xG F xK K W (rd_fds ((unhide HOK).g.fr0 hf)) (hF.fr hf) (sms_of_rd ((unhide HOK).k.fr0 hf)) (hK.fr hf) (unhide HOK).gl (unhide HOK).kl)
  simp only [AN.cs] at HGS
  have HFW := hide (((unhide HB).2.2.2.1.trans0 (unhide HF5).1).trans0 (unhide HB6).2)
  have HRA : Hid (W6.rangeAt w5.heap.size 11 [.int .u32 (xdl : Nat), .int .u32 (xdn : Nat), .int .u8 (xdo : Nat), .int .u32 (xdr : Nat), .int .u32 (xdv : Nat), .slice xgo xG.length xgc, .slice xho xK.length xhc]) := hide (fun j v hj => by
    have hl : j < 7 := (List.getElem?_eq_some_iff.1 hj).1
    refine cell_of_blk (unhide HB6).1 ?_
    match j, hl with
    | 0, _ => exact hj
    | 1, _ => exact hj
    | 2, _ => exact hj
    | 3, _ => exact hj
    | 4, _ => exact hj
    | 5, _ => exact hj
    | 6, _ => exact hj)
  have HRM : Hid (W6.rangeAt (w.heap.size + 1) 13 [.int .u32 (acl : Nat), .int .u32 ((i : Int) + 1), .int .u8 (aco : Nat), .int .u32 (arc : Nat), .int .u32 (ave : Nat), afv, ahv]) := hide (fun j v hj => cell_of_blk ((((unhide HF5).1.trans0 (unhide HB6).2).block _ (lt_of_block (unhide HB).2.1) (fun h => h)).trans (unhide HB).2.1) (by simpa using hm.an j v hj))
  go_wp2_with (first | refine wpList_allocN rfl 66 rfl _ (alloc_cl w5) ?_ | refine wpList_load_mid rfl 66 (.tmp 31) rfl g (i * 20) rfl _ _ (unhide HR5) Try.underlying66 rfl hsx ?_ | refine wpList_stN rfl 66 (.tmp 8) (.tmp 32) rfl _ _ rfl rfl (unhide HST6) ?_ | refine wpList_load_mid rfl 44 (.tmp 53) rfl w5.heap.size 11 rfl _ _ (unhide HRA) Try.underlying44 rfl Try.sizeAn ?_ | refine wpList_load_mid rfl 44 (.tmp 55) rfl (w.heap.size + 1) 13 rfl _ _ (unhide HRM) Try.underlying44 rfl Try.sizeAn ?_)
  refine ((unhide HGS) W6 (unhide HFW)).mono ?_
  rintro e w9 ⟨rfl, hf9⟩
  have hf19 : Fr (fun _ => False) W1 w9 := ((unhide HF5).1.trans0 (unhide HB6).2).trans0 hf9
  clear hf9 HGS HRA HRM
  obtain ⟨bb, hbb⟩ : ∃ bb, gsameA ⟨xdl, xdn, xdo, xdr, xdv, (.slice xgo xG.length xgc), (.slice xho xK.length xhc)⟩ ⟨acl, i + 1, aco, arc, ave, afv, ahv⟩ xG F xK K = bb := ⟨_, rfl⟩
  simp only [hbb]
  cases bb
  · obtain ⟨W9, hst, hb9, hf9⟩ := st_all (P := Try.prog) (ty := 60) [.int .u32 0, .slice none 0 0, .int .i64 0] [.int .u32 (acl : Nat), .slice (some ⟨g, 0, none⟩) N cap, .int .i64 (got : Nat)] (((hf19).block _ (lt_of_block (unhide HB).2.2.1) (fun h => h)).trans (unhide HB).2.2.1) rfl Try.sizeRs (fun u hu => by simp at hu; rcases hu with rfl | rfl | rfl <;> rfl)
    have HST := hide hst
    have HE : Hid (OwC W9 base (.slice (some ⟨g, 0, none⟩) N cap) l ∧ Fr (fun _ => False) w W9) := hide (by
      have hfw : Fr (fun _ => False) w W9 := ((unhide HB).2.2.2.1.trans0 hf19).trans hf9 (fun g hg e => by omega)
      exact ⟨(unhide HO).fr0 hfw, hfw⟩)
    have HB9 := hide (range_of_block hb9)
    clear hst hb9 hf9
    go_wp2_with (first | refine wpList_load_mid rfl 60 (.tmp 2) rfl w.heap.size 0 rfl _ _ ((unhide HRS) _ hf19) Try.underlying60 rfl Try.sizeRs ?_ | refine wpList_stN rfl 60 (.tmp 4) (.tmp 59) rfl _ _ rfl rfl (unhide HST) ?_)
    all_goals (refine bodyPost_ret (results_cellt rfl _ _ (w.heap.size + 1 + 1) 0 _ _ _ rfl rfl (unhide HB9) Try.underlying60 rfl Try.sizeRs) rfl ?_; exact ⟨_, rfl, (unhide HE).1, (unhide HE).2, fun g hg => .inl hg⟩)
  · obtain ⟨W9, hst, hb9, hf9⟩ := st_all (P := Try.prog) (ty := 60) [.int .u32 0, .slice none 0 0, .int .i64 0] [.int .u32 (acl : Nat), .slice (some ⟨g, 0, none⟩) N cap, .int .i64 (got : Nat)] (((hf19).block _ (lt_of_block (unhide HB).2.2.1) (fun h => h)).trans (unhide HB).2.2.1) rfl Try.sizeRs (fun u hu => by simp at hu; rcases hu with rfl | rfl | rfl <;> rfl)
    have HST := hide hst
    have HE : Hid (OwC W9 base (.slice (some ⟨g, 0, none⟩) N cap) l ∧ Fr (fun _ => False) w W9) := hide (by
      have hfw : Fr (fun _ => False) w W9 := ((unhide HB).2.2.2.1.trans0 hf19).trans hf9 (fun g hg e => by omega)
      exact ⟨(unhide HO).fr0 hfw, hfw⟩)
    have HB9 := hide (range_of_block hb9)
    clear hst hb9 hf9
    go_wp2_with (first | refine wpList_load_mid rfl 60 (.tmp 2) rfl w.heap.size 0 rfl _ _ ((unhide HRS) _ hf19) Try.underlying60 rfl Try.sizeRs ?_ | refine wpList_stN rfl 60 (.tmp 4) (.tmp 60) rfl _ _ rfl rfl (unhide HST) ?_)
    all_goals (refine bodyPost_ret (results_cellt rfl _ _ (w.heap.size + 1 + 1) 0 _ _ _ rfl rfl (unhide HB9) Try.underlying60 rfl Try.sizeRs) rfl ?_; exact ⟨_, rfl, (unhide HE).1, (unhide HE).2, fun g hg => .inl hg⟩)
end Go.Proofs.Ytkiepcdncegniaa

namespace Go.Proofs.Ytkiepcdncegniaa
open Go.RowKit Go.Maps

theorem tmod_abs (c : Int) : ∃ n : Nat, n ≤ 8 ∧ ((Int.tmod c 9 = (n : Int)) ∨ (Int.tmod c 9 = -(n : Int) ∧ 0 < n)) := by
  have h1 : Int.tmod c 9 < 9 := Int.tmod_lt_of_pos c (by omega)
  have h2 : -9 < Int.tmod c 9 := by
    have := Int.tmod_lt_of_pos (-c) (b := 9) (by omega)
    rw [Int.neg_tmod] at this
    omega
  by_cases h : 0 ≤ Int.tmod c 9
  · exact ⟨(Int.tmod c 9).toNat, by omega, .inl (by omega)⟩
  · exact ⟨(-Int.tmod c 9).toNat, by omega, .inr ⟨by omega, by omega⟩⟩
/-- SessionOnce's first loop: nothing is answered. -/
structure OI (w wr : World) (d i : Nat) (cs : List SC) (T : Nat → Prop) : Prop where
  s : SS wr d 1 cs [] T
  c : cs.length = i
  a : ∀ q ∈ cs, q.d = none ∧ q.n = 0
  b : ∀ g, T g → w.heap.size ≤ g
  f : Fr (fun _ => False) w wr
/-- SessionOnce's second loop: what is answered stands in the two rows. -/
structure PI (w W : World) (d A B n k : Nat) (cs : List SC) (dn : List Nat) (T : Nat → Prop) (fs hs : List Value) : Prop where
  s : SS W d 1 cs dn T
  c : cs.length = n
  ba : W.heap[A]? = some (.cells fs.toArray 72)
  fl : fs.length = 63
  bb : W.heap[B]? = some (.cells hs.toArray 73)
  hl : hs.length = 9
  hh : ∀ (j : Nat) (q : SC), cs[j]? = some q → hs[j]? = some (.bool q.d.isSome)
  hf : ∀ (j : Nat) (q : SC) (x : AD), cs[j]? = some q → q.d = some x → x.a.cl = 1 ∧ x.a.nu = j + 1 ∧ ∃ fv hv, Rd w fv x.F.length 5 (fcells x.F) ∧ Rd w hv x.H.length 4 (scells x.H) ∧ ∀ i v, (AN.cs { x.a with fv := fv, hv := hv })[i]? = some v → fs[j * 7 + i]? = some v
  dl : dn.length = nA cs
  nb : ∀ q ∈ cs, q.n ≤ k
  t : ∀ g, T g → w.heap.size ≤ g ∧ g ≠ A ∧ g ≠ B
  ab : A ≠ B ∧ w.heap.size ≤ A ∧ w.heap.size ≤ B
  f : Fr (fun _ => False) w W
theorem PI.fr0 {w W W' : World} {d A B n k : Nat} {cs : List SC} {dn : List Nat} {T : Nat → Prop} {fs hs : List Value} (h : PI w W d A B n k cs dn T fs hs) (hf : Fr (fun _ => False) W W') : PI w W' d A B n k cs dn T fs hs :=
  ⟨h.s.fr0 hf, h.c, (hf.block A (lt_of_block h.ba) (fun h => h)).trans h.ba, h.fl, (hf.block B (lt_of_block h.bb) (fun h => h)).trans h.bb, h.hl, h.hh, h.hf, h.dl, h.nb, h.t, h.ab, h.f.trans0 hf⟩
theorem nA_map (cs : List SC) : nA cs = (cs.map (·.d)).countP Option.isSome := by
  unfold nA
  rw [List.countP_map]
  rfl
theorem Kept.nA {cs cs' : List SC} (h : Kept cs cs') : nA cs' = nA cs := by
  rw [nA_map, nA_map]
  congr 1
  apply List.ext_getElem?
  intro i
  rw [List.getElem?_map, List.getElem?_map]
  by_cases hi : i < cs.length
  · obtain ⟨y, hy, hd, _⟩ := h.q i _ (List.getElem?_eq_getElem hi)
    rw [hy, List.getElem?_eq_getElem hi]
    simp [hd]
  · rw [List.getElem?_eq_none (by rw [h.n]; omega), List.getElem?_eq_none (by omega)]
theorem Kept.back {cs cs' : List SC} (h : Kept cs cs') {i : Nat} {y : SC} (hy : cs'[i]? = some y) : ∃ x, cs[i]? = some x ∧ y.d = x.d ∧ y.n ≤ x.n + 1 := by
  have hi : i < cs.length := by rw [← h.n]; exact (List.getElem?_eq_some_iff.1 hy).1
  obtain ⟨y', h1, h2, h3⟩ := h.q i _ (List.getElem?_eq_getElem hi)
  rw [hy] at h1
  cases h1
  exact ⟨_, List.getElem?_eq_getElem hi, h2, h3⟩
/-- A message that is no first answer. -/
theorem PI.old {w W W' : World} {d A B n k : Nat} {cs cs' : List SC} {dn : List Nat} {T : Nat → Prop} {fs hs : List Value} (h : PI w W d A B n k cs dn T fs hs) (hk : Kept cs cs') (hs' : SS W' d 1 cs' dn T) (hf : Fr T W W') : PI w W' d A B n (k + 1) cs' dn T fs hs :=
  ⟨hs', hk.n.trans h.c, (hf.block A (lt_of_block h.ba) (fun e => (h.t _ e).2.1 rfl)).trans h.ba, h.fl, (hf.block B (lt_of_block h.bb) (fun e => (h.t _ e).2.2 rfl)).trans h.bb, h.hl, fun j q hq => by
      obtain ⟨x, hx, hd, _⟩ := hk.back hq
      rw [hd]
      exact h.hh j x hx, fun j q x hq hd => by
      obtain ⟨y, hy, hd2, _⟩ := hk.back hq
      exact h.hf j y x hy (hd2.symm.trans hd), h.dl.trans hk.nA.symm, fun q hq => by
      obtain ⟨i, hi⟩ := List.getElem?_of_mem hq
      obtain ⟨x, hx, _, hn⟩ := hk.back hi
      have := h.nb x (List.mem_of_getElem? hx)
      omega, h.t, h.ab, h.f.trans hf (fun g hg e => by have := (h.t g e).1; omega)⟩
/-- A first answer, behind Take and the two stores. -/
theorem PI.new {w W W1 W2 : World} {d A B n k i : Nat} {cs : List SC} {dn : List Nat} {T : Nat → Prop} {fs hs fs' hs' : List Value} (h : PI w W d A B n k cs dn T fs hs) {q : SC} {x : AD} (hq : cs[i]? = some q) (hd : q.d = none) (hs1 : SS W1 d 1 (cs.set i { q with d := some x }) (dn ++ [i + 1]) (Tn T W W1)) (hf1 : Fr T W W1) (hf2 : Fr (fun g => g = A ∨ g = B) W1 W2)
    (hba : W2.heap[A]? = some (.cells fs'.toArray 72)) (hfl : fs'.length = 63) (hbb : W2.heap[B]? = some (.cells hs'.toArray 73)) (hhl : hs'.length = 9)
    (hhi : hs'[i]? = some (.bool true)) (hho : ∀ j, j ≠ i → hs'[j]? = hs[j]?)
    (hxc : x.a.cl = 1 ∧ x.a.nu = i + 1) (fv hv : Value) (hfv : Rd w fv x.F.length 5 (fcells x.F)) (hhv : Rd w hv x.H.length 4 (scells x.H)) (hfi : ∀ t v, (AN.cs { x.a with fv := fv, hv := hv })[t]? = some v → fs'[i * 7 + t]? = some v) (hfo : ∀ j, (j < i * 7 ∨ i * 7 + 7 ≤ j) → fs'[j]? = fs[j]?) :
    PI w W2 d A B n (k + 1) (cs.set i { q with d := some x }) (dn ++ [i + 1]) (Tn T W W1) fs' hs' := by
  have hil := (List.getElem?_eq_some_iff.1 hq).1
  have hlA := lt_of_block h.ba
  have hlB := lt_of_block h.bb
  have ht : ∀ g, Tn T W W1 g → w.heap.size ≤ g ∧ g ≠ A ∧ g ≠ B := fun g hg => by
    rcases hg with hg | hg
    · exact h.t g hg
    · have h1 := h.f.size
      have h4 := hg.1
      exact ⟨by omega, by omega, by omega⟩
  refine ⟨hs1.fr hf2 (fun g hg e => ?_), by rw [List.length_set]; exact h.c, hba, hfl, hbb, hhl, fun j p hp => ?_, fun j p y hp hy => ?_, ?_, fun p hp => ?_, ht, h.ab, (h.f.trans hf1 (fun g hg e => by have := (h.t g e).1; omega)).trans hf2 (fun g hg e => by have := h.ab; rcases e with e | e <;> omega)⟩
  · have := ht g hg
    rcases e with e | e
    · exact this.2.1 e
    · exact this.2.2 e
  · by_cases e : i = j
    · subst e
      rw [List.getElem?_set_self hil] at hp
      cases hp
      exact hhi
    · rw [List.getElem?_set_ne e] at hp
      rw [hho j (fun h => e h.symm)]
      exact h.hh j p hp
  · by_cases e : i = j
    · subst e
      rw [List.getElem?_set_self hil] at hp
      cases hp
      simp only [Option.some.injEq] at hy
      subst hy
      exact ⟨hxc.1, hxc.2, fv, hv, hfv, hhv, hfi⟩
    · rw [List.getElem?_set_ne e] at hp
      obtain ⟨a1, a2, fv', hv', a3, a4, a5⟩ := h.hf j p y hp hy
      refine ⟨a1, a2, fv', hv', a3, a4, fun t v ht => ?_⟩
      have h7 : t < 7 := (List.getElem?_eq_some_iff.1 ht).1
      rw [hfo _ (by omega)]
      exact a5 t v ht
  · have := (nA_set cs i q { q with d := some x } hq hd rfl).1
    rw [this, List.length_append, h.dl]
    rfl
  · obtain ⟨j, hj⟩ := List.getElem?_of_mem hp
    by_cases e : i = j
    · subst e
      rw [List.getElem?_set_self hil] at hj
      cases hj
      have := h.nb q (List.mem_of_getElem? hq)
      simp only
      omega
    · rw [List.getElem?_set_ne e] at hj
      have := h.nb p (List.mem_of_getElem? hj)
      omega
/-- What a row of nine answers, of nine truths holds at first. -/
def zF : List Value := zA ++ (zA ++ (zA ++ (zA ++ (zA ++ (zA ++ (zA ++ (zA ++ zA)))))))
def zH : List Value := [.bool false, .bool false, .bool false, .bool false, .bool false, .bool false, .bool false, .bool false, .bool false]
theorem OI.start {w wr : World} {d n : Nat} {cs : List SC} {T : Nat → Prop} (h : OI w wr d n cs T) (hn : n ≤ 8) : PI w ((wr.alloc (.cells zF.toArray 72)).alloc (.cells zH.toArray 73)) d wr.heap.size (wr.heap.size + 1) n 0 cs [] T zF zH := by
  have hf := ((box1 wr (.cells zF.toArray 72)).alloc (.cells zH.toArray 73))
  have hsz := h.f.size
  refine ⟨h.s.fr0 hf, h.c, (Below.heap_alloc _ _ _ (by simp)).trans (heap_alloc_new wr _), rfl, ?_, rfl, fun j q hq => ?_, fun j q x hq hd => ?_, ?_, fun q hq => ?_, fun g hg => ⟨h.b g hg, ?_, ?_⟩, ⟨by omega, by omega, by omega⟩, h.f.trans0 hf⟩
  · have := heap_alloc_new (wr.alloc (.cells zF.toArray 72)) (.cells zH.toArray 73)
    rwa [World.size_alloc] at this
  · have hj := (List.getElem?_eq_some_iff.1 hq).1
    rw [((h.a q (List.mem_of_getElem? hq)).1)]
    have hj8 : j < 8 := by have := h.c; omega
    match j, hj8 with
    | 0, _ => rfl
    | 1, _ => rfl
    | 2, _ => rfl
    | 3, _ => rfl
    | 4, _ => rfl
    | 5, _ => rfl
    | 6, _ => rfl
    | 7, _ => rfl
  · rw [(h.a q (List.mem_of_getElem? hq)).1] at hd
    cases hd
  · have : nA cs = 0 := by
      unfold nA
      rw [List.countP_eq_zero]
      intro q hq
      rw [(h.a q hq).1]
      simp
    rw [this]
    rfl
  · rw [(h.a q hq).2]
    exact Nat.zero_le _
  · have := h.s.lt g hg
    omega
  · have := h.s.lt g hg
    omega
theorem setCells_mid (g t : Nat) : ∀ (vs fs : List Value) (o : Nat) (w : World), w.heap[g]? = some (.cells fs.toArray t) → o + vs.length ≤ fs.length → ∃ fs', (w.setCells g o vs).heap[g]? = some (.cells (List.toArray fs') t) ∧ fs'.length = fs.length ∧ (∀ i v, vs[i]? = some v → fs'[o + i]? = some v) ∧ ∀ j, (j < o ∨ o + vs.length ≤ j) → fs'[j]? = fs[j]?
  | [], fs, o, w, h, _ => ⟨fs, h, rfl, by simp, fun _ _ => rfl⟩
  | v :: vs, fs, o, w, h, hl => by
    rw [World.setCells]
    have hl2 : o + (vs.length + 1) ≤ fs.length := hl
    obtain ⟨fs', a1, a2, a3, a4⟩ := setCells_mid g t vs (fs.set o v) (o + 1) (w.setCell ⟨g, o, none⟩ v) (by rw [blkset h]; simp) (by rw [List.length_set]; omega)
    refine ⟨fs', a1, by rw [a2, List.length_set], fun i u hu => ?_, fun j hj => ?_⟩
    · cases i with
      | zero =>
        simp only [List.getElem?_cons_zero, Option.some.injEq] at hu
        subst hu
        rw [Nat.add_zero, a4 o (by omega), List.getElem?_set_self (by omega)]
      | succ i =>
        have := a3 i u (by simpa using hu)
        rw [← this]
        congr 1
        omega
    · have hj2 : j < o ∨ o + (vs.length + 1) ≤ j := hj
      rw [a4 j (by omega), List.getElem?_set_ne (by omega)]
/-- A struct is stored into a row. -/
theorem st_mid {P : Program} {W : World} {g t ty o : Nat} (fs news : List Value) (hb : W.heap[g]? = some (.cells fs.toArray t)) (hl : o + news.length ≤ fs.length) (hi : (P.info? ty).map (·.size) = some news.length) (h1 : ∀ v ∈ news, v.oneCell' = true) :
    ∃ W8, (Instr.storeAt ty (.pointer (some ⟨g, o, none⟩)) (.agg news.toArray)).run P W = .ok () W8 ∧ (∃ fs', W8.heap[g]? = some (.cells (List.toArray fs') t) ∧ fs'.length = fs.length ∧ (∀ i v, news[i]? = some v → fs'[o + i]? = some v) ∧ ∀ j, (j < o ∨ o + news.length ≤ j) → fs'[j]? = fs[j]?) ∧ Fr (fun k => k = g) W W8 := by
  refine ⟨W.setCells g o news, run_storeAt_mid W g o ty news.toArray (fun j hj => ?_) (by simpa using hi) (all_oneCell_toArray h1), setCells_mid g t news fs o W hb hl, setCells_fr g news o W⟩
  have hj : j < news.length := by simpa using hj
  have hj2 : o + j < fs.length := by omega
  refine ⟨?_, by simp [World.frozen?, hb]⟩
  simp [World.cell?, hb, hj2]
end Go.Proofs.Ytkiepcdncegniaa

namespace Go.Proofs.Ytkiepcdncegniaa
open Go.RowKit Go.Maps

theorem mid_eq {pre olds vs post fs' : List Value} (hl : olds.length = vs.length) (h2 : ∀ i v, vs[i]? = some v → fs'[pre.length + i]? = some v) (h3 : ∀ j, j < pre.length ∨ pre.length + vs.length ≤ j → fs'[j]? = (pre ++ (olds ++ post))[j]?) : fs' = pre ++ (vs ++ post) := by
  apply List.ext_getElem?
  intro j
  by_cases a : j < pre.length
  · rw [h3 j (.inl a), List.getElem?_append_left a, List.getElem?_append_left a]
  · by_cases b : j < pre.length + vs.length
    · rw [List.getElem?_append_right (by omega), List.getElem?_append_left (by omega)]
      have hv : vs[j - pre.length]? = some (vs[j - pre.length]'(by omega)) := List.getElem?_eq_getElem (by omega)
      have := h2 _ _ hv
      rw [show pre.length + (j - pre.length) = j by omega] at this
      rw [this, hv]
    · rw [h3 j (.inr (by omega)), List.getElem?_append_right (by omega), List.getElem?_append_right (by omega), List.getElem?_append_right (by omega), List.getElem?_append_right (by omega), hl]
set_option maxRecDepth 100000 in
set_option maxHeartbeats 4000000 in
/-- requested. -/
theorem requested_true (r : RQ) (fv gv : Value) (F : List F5) (w : World) (hf : Fds w fv F) (hg : Fds w gv F) (hl : F.length ≤ 1048576) :
    Calls Try.prog 39 #[.agg (hmsg (r.re fv)).toArray, .agg (r.re gv).cs.toArray] w fun e w' => e = .returned (.bool true) ∧ Fr (fun _ => False) w w' := by
  obtain ⟨W1, hW1⟩ : ∃ W1, (w.alloc (.cells (hmsg (r.re fv)).toArray 49)).alloc (.cells (r.re gv).cs.toArray 34) = W1 := ⟨_, rfl⟩
  have hf1 : Fr (fun _ => False) w W1 := by rw [← hW1]; exact (box1 w _).alloc _
  have hb0 : W1.heap[w.heap.size]? = some (.cells (hmsg (r.re fv)).toArray 49) := by rw [← hW1]; exact (Below.heap_alloc _ _ _ (by simp)).trans (heap_alloc_new w _)
  have hb1 : W1.heap[w.heap.size + 1]? = some (.cells (r.re gv).cs.toArray 34) := by
    rw [← hW1]
    have := heap_alloc_new (w.alloc (.cells (hmsg (r.re fv)).toArray 49)) (.cells (r.re gv).cs.toArray 34)
    rwa [World.size_alloc] at this
  have k0 : W1.cell? ⟨w.heap.size, 0, none⟩ = some (.int .u8 1) := cell_of_blk hb0 rfl
  have HR1 : Hid (W1.rangeAt w.heap.size 1 (r.re fv).cs) := hide (fun j v hj => by
    have hl : j < 10 := (List.getElem?_eq_some_iff.1 hj).1
    refine cell_of_blk hb0 ?_
    match j, hl with
    | 0, _ => exact hj
    | 1, _ => exact hj
    | 2, _ => exact hj
    | 3, _ => exact hj
    | 4, _ => exact hj
    | 5, _ => exact hj
    | 6, _ => exact hj
    | 7, _ => exact hj
    | 8, _ => exact hj
    | 9, _ => exact hj)
  have HR2 := hide (range_of_block hb1)
  have HG := hide (gsameReq_refl r fv gv F W1 (hf.fr hf1) (hg.fr hf1) hl)
  have HB := hide (And.intro hb0 hf1)
  clear hb0 hb1 hf1 hf hg
  go_enter Try.func39, Try.ntmps39
  go_wp2_with (first | refine wpList_load_midG rfl 34 (.tmp 9) rfl w.heap.size 1 rfl _ _ (unhide HR1) Try.underlying34 rfl Try.sizeRq ?_ | refine wpList_load_midG rfl 34 (.tmp 3) rfl (w.heap.size + 1) 0 rfl _ _ (unhide HR2) Try.underlying34 rfl Try.sizeRq ?_)
  refine (unhide HG).mono ?_
  rintro e w2 ⟨rfl, hf2⟩
  have hb2 := (hf2.block _ (lt_of_block (unhide HB).1) (fun h => h)).trans (unhide HB).1
  obtain ⟨W3, hst, ⟨fs', hb3, _, h3, h4⟩, hf3⟩ := st_mid (P := Try.prog) (ty := 34) (o := 1) (hmsg (r.re fv)) zR hb2 (by simp [hmsg, RQ.cs, zR, zA, zE]) Try.sizeRq (List.all_eq_true.1 (show List.all zR (fun v => v.oneCell') = true from rfl))
  have e3 : fs' = [.int .u8 1] ++ (zR ++ ([.int .u32 0, .int .u32 0] ++ (zA ++ (.int .u8 0 :: (zE ++ [.int .u32 0]))))) := mid_eq (olds := (r.re fv).cs) rfl h3 h4
  rw [e3] at hb3
  have k3 : W3.cell? ⟨w.heap.size, 0, none⟩ = some (.int .u8 1) := cell_of_blk hb3 rfl
  have z3 : W3.frozen? ⟨w.heap.size, 0, none⟩ = false := by simp [World.frozen?, hb3]
  obtain ⟨W4, hW4⟩ : ∃ W4, W3.setCell ⟨w.heap.size, 0, none⟩ (.int .u8 2) = W4 := ⟨_, rfl⟩
  have hb4 : W4.heap[w.heap.size]? = some (.cells (tmsg 0 0).toArray 49) := by
    rw [← hW4, blkset hb3]
    simp [tmsg]
  have HR4 := hide (range_of_block hb4)
  have HST := hide hst
  have HF4 : Hid (Fr (fun _ => False) w W4) := hide (by
    have h34 : Fr (fun k => k = w.heap.size) W3 W4 := by rw [← hW4]; exact (Fr.refl (fun k => k = w.heap.size) _).setCell (p := ⟨w.heap.size, 0, none⟩) (.inl rfl) _
    exact ((((unhide HB).2.trans0 hf2).trans hf3 (fun g hg e => by omega))).trans h34 (fun g hg e => by omega))
  clear hf2 hb2 hst hb3 h3 h4 hf3 e3 hb4 HG k0 HR1 HR2 hW1
  go_wp2_with (first | refine wpList_stN rfl 34 (.tmp 16) (.tmp 15) rfl _ _ rfl rfl (unhide HST) ?_ | refine wpList_load_mid rfl 49 (.tmp 2) rfl w.heap.size 0 rfl _ _ (unhide HR4) Try.underlying49 rfl Try.sizeMs ?_)
  have HA : Hid (Calls Try.prog 40 #[.agg (tmsg 0 0).toArray, .agg #[.int .u32 0, .int .u32 0]] W4 fun e w' => e = .returned (.bool true) ∧ Fr (fun _ => False) W4 w') := hide (asked_true 0 0 W4)
  refine (unhide HA).mono ?_
  rintro e w5 ⟨rfl, hf5⟩
  have HF5 := hide ((unhide HF4).trans0 hf5)
  clear hf5 HA
  go_wp2_with fail
  go_ret
  exact ⟨rfl, unhide HF5⟩
end Go.Proofs.Ytkiepcdncegniaa

namespace Go.Proofs.Ytkiepcdncegniaa
open Go.RowKit Go.Maps

set_option maxRecDepth 100000 in
set_option maxHeartbeats 4000000 in
/-- The first answer of a request. -/
theorem gtake_new (c got base i : Nat) (v : Value) (l : List RC) (x : RC) (xs : List Value) (icl inu co : Nat) (a : AN) (w : World) (hm : MsX xs 3 icl inu co a) (h : OwC w base v l) (hb : base ≤ w.heap.size) (hok : ∀ y ∈ l, y.Ok w) (hl : l.length ≤ 4096) (hx : l[i]? = some x) (hcl : a.cl = c) (hnu : a.nu = i + 1) (ho : x.o = 0) (hgot : got ≤ 1000000000) (F : List F5) (K : List SM) (ha : ∀ v ∈ a.cs, v.oneCell' = true) : Calls Try.prog 22 #[.agg #[.int .u32 (c : Nat), v, .int .i64 (got : Nat)], .agg xs.toArray] w fun e w' => ∃ v', e = .returned (.tuple #[.agg #[.int .u32 (c : Nat), v', .int .i64 ((got : Int) + 1)], .int .i64 0]) ∧ OwC w' base v' (l.set i { x with o := got + 1, a := a, G := F, K := K }) ∧ Fr (fun _ => False) w w' ∧ ∀ g, v'.ownBlock = some g → v.ownBlock = some g ∨ w.heap.size ≤ g := by
  obtain ⟨ao, cap, rfl⟩ := own_formX h
  obtain ⟨acl, anu, aco, arc, ave, afv, ahv⟩ := a
  obtain ⟨N, hN⟩ : ∃ N, l.length = N := ⟨_, rfl⟩
  have HO := hide h
  have HNN := hide hN
  rw [hN] at hl HO ⊢
  have hil : i < N := by have := (List.getElem?_eq_some_iff.1 hx).1; omega
  have hrow := h
  unfold OwC at hrow
  rw [hN] at hrow
  obtain ⟨g, cp, eg, _, hg⟩ := own_one_form hrow (by omega)
  rw [← hN] at eg
  have hcx : w.rangeAt g (i * 20) x.cs := fun j u hu => by
    have h20 : j < 20 := by have := (List.getElem?_eq_some_iff.1 hu).1; rwa [RC.len] at this
    exact hg (i * 20 + j) u (by rw [ccells_at l i j x hx h20]; exact hu)
  have hokx := hok x (List.mem_of_getElem? hx)
  have H1 := hide (And.intro (fun y hy => (hok y hy).one) hokx.one)
  have HX := hide hx
  rw [hN] at eg
  cases eg
  obtain ⟨⟨xcl, xnu, xac, xop, xrc, xve, xwa, xow, xfv, xrs⟩, xF, xo, ⟨xdl, xdn, xdo, xdr, xdv, xgv, xhv⟩, xG, xK, xc, xb⟩ := x
  obtain ⟨xfo, xfc, e, _⟩ := hokx.f.f
  simp only at e
  subst e
  obtain ⟨xgo, xgc, e, _⟩ := hokx.g.f
  simp only at e
  subst e
  obtain ⟨xho, xhc, e, _⟩ := hokx.k.f
  simp only at e
  subst e
  have HOK := hide hokx
  simp only [RC.cs, RQ.cs, AN.cs, List.cons_append, List.nil_append] at hcx
  have hgw : g < w.heap.size := lt_of_cell (hcx 0 _ rfl)
  have HCX := hide hcx
  clear h hN hrow hg hcx hok hokx hx
  obtain ⟨W1, hW1⟩ : ∃ W1, ((w.alloc (.cells #[.int .u32 (c : Nat), .slice (some ⟨g, 0, none⟩) N cap, .int .i64 (got : Nat)] 60)).alloc (.cells xs.toArray 49)).alloc (.cells #[.int .u32 0, .slice none 0 0, .int .i64 0] 60) = W1 := ⟨_, rfl⟩
  have hf1 : Fr (fun _ => False) w W1 := by rw [← hW1]; exact ((box1 w _).alloc _).alloc _
  have hb0 : W1.heap[w.heap.size]? = some (.cells #[.int .u32 (c : Nat), .slice (some ⟨g, 0, none⟩) N cap, .int .i64 (got : Nat)] 60) := by rw [← hW1]; exact (Below.heap_alloc _ _ _ (by simp; omega)).trans ((Below.heap_alloc _ _ _ (by simp)).trans (heap_alloc_new w _))
  have hb1 : W1.heap[w.heap.size + 1]? = some (.cells xs.toArray 49) := by
    rw [← hW1]
    refine (Below.heap_alloc _ _ _ (by simp)).trans ?_
    have := heap_alloc_new (w.alloc (.cells #[.int .u32 (c : Nat), .slice (some ⟨g, 0, none⟩) N cap, .int .i64 (got : Nat)] 60)) (.cells xs.toArray 49)
    rwa [World.size_alloc] at this
  have hb2 : W1.heap[w.heap.size + 1 + 1]? = some (.cells #[.int .u32 0, .slice none 0 0, .int .i64 0] 60) := by
    rw [← hW1]
    have := heap_alloc_new ((w.alloc (.cells #[.int .u32 (c : Nat), .slice (some ⟨g, 0, none⟩) N cap, .int .i64 (got : Nat)] 60)).alloc (.cells xs.toArray 49)) (.cells #[.int .u32 0, .slice none 0 0, .int .i64 0] 60)
    rwa [World.size_alloc, World.size_alloc] at this
  have hz1 : W1.heap.size = w.heap.size + 3 := by rw [← hW1]; simp
  have hz2 : w.heap.size + 1 < W1.heap.size := by omega
  have hz3 : w.heap.size < W1.heap.size := by omega
  have c0 : W1.cell? ⟨w.heap.size + 1, 0, none⟩ = some (.int .u8 3) := cell_of_blk hb1 (by simpa using hm.k)
  have c11 : W1.cell? ⟨w.heap.size + 1, 11, none⟩ = some (.int .u32 (icl : Nat)) := cell_of_blk hb1 (by simpa using hm.i1)
  have c12 : W1.cell? ⟨w.heap.size + 1, 12, none⟩ = some (.int .u32 (inu : Nat)) := cell_of_blk hb1 (by simpa using hm.i2)
  have c13 : W1.cell? ⟨w.heap.size + 1, 13, none⟩ = some (.int .u32 (acl : Nat)) := cell_of_blk hb1 (by simpa using hm.an 0 _ rfl)
  have c14 : W1.cell? ⟨w.heap.size + 1, 14, none⟩ = some (.int .u32 (anu : Nat)) := cell_of_blk hb1 (by simpa using hm.an 1 _ rfl)
  have HB := hide (And.intro hb0 (And.intro hb1 (And.intro hb2 (And.intro hf1 hz1))))
  have HRS : Hid (∀ W', Fr (fun _ => False) W1 W' → W'.rangeAt w.heap.size 0 [.int .u32 (c : Nat), .slice (some ⟨g, 0, none⟩) N cap, .int .i64 (got : Nat)]) := hide (fun W' hf => range_of_block ((hf.block _ (lt_of_block hb0) (fun h => h)).trans hb0))
  clear hb0 hb1 hb2 hf1 hz1
  go_enter Try.func22, Try.ntmps22
  simp only at hcl hnu
  subst hcl
  subst hnu
  have hgn : gnum acl N acl (i + 1) = i + 1 := by unfold gnum; rw [if_pos ⟨rfl, by omega, by omega⟩]
  have hwi : wrap64 ((i : Int) + 1 - 1) = (i : Int) := by unfold wrap64; omega
  have l3 : (0 : Int) ≤ (i : Int) := by omega
  have l1 : (i : Int) < (N : Int) := by omega
  have l2 : ¬ (i : Int) + 1 = 0 := by omega
  have l2b : ((i : Int) + 1 == 0) = false := by simpa using l2
  go_wp2_with (refine wpList_load_mid rfl 60 (.tmp 2) rfl w.heap.size 0 rfl _ _ ((unhide HRS) _ (box1 W1 (.cells #[.int .u32 (acl : Nat), .int .u32 ((i : Int) + 1)] 29))) Try.underlying60 rfl Try.sizeRs ?_)
  refine (gfind_any acl (some ⟨g, 0, none⟩) N cap got acl (i + 1) _ hl).mono ?_
  rintro e w5 ⟨rfl, hf5⟩
  rw [hgn]
  have hf15 : Fr (fun _ => False) W1 w5 := (box1 W1 (.cells #[.int .u32 (acl : Nat), .int .u32 ((i : Int) + 1)] 29)).trans0 hf5
  have d0 : w5.cell? ⟨w.heap.size + 1, 0, none⟩ = some (.int .u8 3) := (hf15.cell (p := ⟨w.heap.size + 1, 0, none⟩) (lt_of_cell c0) (fun h => h)).trans c0
  have d1 : w5.cell? ⟨w.heap.size, 1, none⟩ = some (.slice (some ⟨g, 0, none⟩) N cap) := cell_of_blk ((hf15.block _ (lt_of_block (unhide HB).1) (fun h => h)).trans (unhide HB).1) rfl
  have d20 : w5.cell? ⟨w.heap.size + 1, 20, none⟩ = some (.int .u8 (co : Nat)) := cell_of_blk ((hf15.block _ (lt_of_block (unhide HB).2.1) (fun h => h)).trans (unhide HB).2.1) (by simpa using hm.c)
  have y2 : w.heap.size + 1 < w5.heap.size := Nat.lt_of_lt_of_le hz2 hf15.size
  have y3 : w.heap.size < w5.heap.size := Nat.lt_of_lt_of_le hz3 hf15.size
  have HF5 := hide (And.intro hf15 hf5)
  have HR5 : Hid (w5.rangeAt g (i * 20) [.int .u32 (xcl : Nat), .int .u32 (xnu : Nat), .int .u32 (xac : Nat), .int .u8 (xop : Nat), .int .u32 (xrc : Nat), .int .u32 (xve : Nat), .int .u32 (xwa : Nat), .int .u32 (xow : Nat), (.slice xfo xF.length xfc), .string xrs, .int .i64 (xo : Nat), .int .u32 (xdl : Nat), .int .u32 (xdn : Nat), .int .u8 (xdo : Nat), .int .u32 (xdr : Nat), .int .u32 (xdv : Nat), (.slice xgo xG.length xgc), (.slice xho xK.length xhc), .int .u8 (xc : Nat), .int .i64 (xb : Nat)]) := hide (fun j u hu => (((unhide HB).2.2.2.1.trans0 hf15).cell (p := ⟨g, i * 20 + j, none⟩) (Nat.lt_of_lt_of_le hgw (Nat.le_refl _)) (fun h => h)).trans ((unhide HCX) j u hu))
  obtain ⟨W6, hst6, hb6, hf6⟩ := st_all (P := Try.prog) (ty := 66) [.int .u32 0, .int .u32 0, .int .u32 0, .int .u8 0, .int .u32 0, .int .u32 0, .int .u32 0, .int .u32 0, .slice none 0 0, .string ⟨#[]⟩, .int .i64 0, .int .u32 0, .int .u32 0, .int .u8 0, .int .u32 0, .int .u32 0, .slice none 0 0, .slice none 0 0, .int .u8 0, .int .i64 0] [.int .u32 (xcl : Nat), .int .u32 (xnu : Nat), .int .u32 (xac : Nat), .int .u8 (xop : Nat), .int .u32 (xrc : Nat), .int .u32 (xve : Nat), .int .u32 (xwa : Nat), .int .u32 (xow : Nat), (.slice xfo xF.length xfc), .string xrs, .int .i64 (xo : Nat), .int .u32 (xdl : Nat), .int .u32 (xdn : Nat), .int .u8 (xdo : Nat), .int .u32 (xdr : Nat), .int .u32 (xdv : Nat), (.slice xgo xG.length xgc), (.slice xho xK.length xhc), .int .u8 (xc : Nat), .int .i64 (xb : Nat)] (heap_alloc_new w5 (.cells #[.int .u32 0, .int .u32 0, .int .u32 0, .int .u8 0, .int .u32 0, .int .u32 0, .int .u32 0, .int .u32 0, .slice none 0 0, .string ⟨#[]⟩, .int .i64 0, .int .u32 0, .int .u32 0, .int .u8 0, .int .u32 0, .int .u32 0, .slice none 0 0, .slice none 0 0, .int .u8 0, .int .i64 0] 66)) rfl Try.sizeCl (unhide H1).2
  have hf56 : Fr (fun _ => False) w5 W6 := (box1 w5 _).trans hf6 (fun g hg e => by omega)
  have d0b : W6.cell? ⟨w.heap.size + 1, 0, none⟩ = some (.int .u8 3) := (hf56.cell (p := ⟨w.heap.size + 1, 0, none⟩) (lt_of_cell d0) (fun h => h)).trans d0
  have d20b : W6.cell? ⟨w.heap.size + 1, 20, none⟩ = some (.int .u8 (co : Nat)) := (hf56.cell (p := ⟨w.heap.size + 1, 20, none⟩) (lt_of_cell d20) (fun h => h)).trans d20
  have d10 : W6.cell? ⟨w5.heap.size, 10, none⟩ = some (.int .i64 (xo : Nat)) := cell_of_blk hb6 rfl
  have HST6 := hide hst6
  have HB6 := hide (And.intro hb6 hf56)
  obtain ⟨XS, hXS⟩ : ∃ XS : List Value, XS = [.int .u32 (xcl : Nat), .int .u32 (xnu : Nat), .int .u32 (xac : Nat), .int .u8 (xop : Nat), .int .u32 (xrc : Nat), .int .u32 (xve : Nat), .int .u32 (xwa : Nat), .int .u32 (xow : Nat), (.slice xfo xF.length xfc), .string xrs, .int .i64 (xo : Nat), .int .u32 (xdl : Nat), .int .u32 (xdn : Nat), .int .u8 (xdo : Nat), .int .u32 (xdr : Nat), .int .u32 (xdv : Nat), (.slice xgo xG.length xgc), (.slice xho xK.length xhc), .int .u8 (xc : Nat), .int .i64 (xb : Nat)] := ⟨_, rfl⟩
  rw [← hXS] at HR5 HST6
  have hsx : (Try.prog.info? 66).map (·.size) = some XS.length := by rw [hXS]; exact Try.sizeCl
  clear hXS
  clear hst6 hb6 hf6 hf56
  clear hf5 hf15 c0 c11 c12 c13 c14 hz2 hz3 HCX hgn hgw hW1 d0 d20
  subst ho
  have e1 : ¬ (0 : Int) < 0 := by omega
  have hwg := wrapS got hgot
  have z5 := (unhide HF5).1.size
  have hz1 := (unhide HB).2.2.2.2
  have bs := (((unhide HF5).1.trans0 (unhide HB6).2).block _ (lt_of_block (unhide HB).1) (fun h => h)).trans (unhide HB).1
  have bm := (((unhide HF5).1.trans0 (unhide HB6).2).block _ (lt_of_block (unhide HB).2.1) (fun h => h)).trans (unhide HB).2.1
  have br := (((unhide HF5).1.trans0 (unhide HB6).2).block _ (lt_of_block (unhide HB).2.2.1) (fun h => h)).trans (unhide HB).2.2.1
  have s2 : W6.cell? ⟨w.heap.size, 2, none⟩ = some (.int .i64 (got : Nat)) := cell_of_blk bs rfl
  have zs2 : W6.frozen? ⟨w.heap.size, 2, none⟩ = false := by simp [World.frozen?, bs]
  obtain ⟨W7, hW7⟩ : ∃ W7, W6.setCell ⟨w.heap.size, 2, none⟩ (.int .i64 ((got : Int) + 1)) = W7 := ⟨_, rfl⟩
  have f7 : Fr (fun k => k = w.heap.size) W6 W7 := by rw [← hW7]; exact (Fr.refl (fun k => k = w.heap.size) _).setCell (p := ⟨w.heap.size, 2, none⟩) (.inl rfl) _
  have bs7 : W7.heap[w.heap.size]? = some (.cells #[.int .u32 (acl : Nat), .slice (some ⟨g, 0, none⟩) N cap, .int .i64 ((got : Int) + 1)] 60) := by
    rw [← hW7, blkset bs]
    simp
  have b67 := (f7.block _ (lt_of_block (unhide HB6).1) (fun e => by omega)).trans (unhide HB6).1
  have s7 : W7.cell? ⟨w.heap.size, 2, none⟩ = some (.int .i64 ((got : Int) + 1)) := cell_of_blk bs7 rfl
  have d10b : W7.cell? ⟨w5.heap.size, 10, none⟩ = some (.int .i64 0) := cell_of_blk b67 rfl
  have z10 : W7.frozen? ⟨w5.heap.size, 10, none⟩ = false := by simp [World.frozen?, b67]
  obtain ⟨W8, hW8⟩ : ∃ W8, W7.setCell ⟨w5.heap.size, 10, none⟩ (.int .i64 ((got : Int) + 1)) = W8 := ⟨_, rfl⟩
  have f8 : Fr (fun k => k = w5.heap.size) W7 W8 := by rw [← hW8]; exact (Fr.refl (fun k => k = w5.heap.size) _).setCell (p := ⟨w5.heap.size, 10, none⟩) (.inl rfl) _
  have b8 : W8.heap[w5.heap.size]? = some (.cells ([.int .u32 (xcl : Nat), .int .u32 (xnu : Nat), .int .u32 (xac : Nat), .int .u8 (xop : Nat), .int .u32 (xrc : Nat), .int .u32 (xve : Nat), .int .u32 (xwa : Nat), .int .u32 (xow : Nat), .slice xfo xF.length xfc, .string xrs, .int .i64 ((got : Int) + 1)] ++ ([.int .u32 (xdl : Nat), .int .u32 (xdn : Nat), .int .u8 (xdo : Nat), .int .u32 (xdr : Nat), .int .u32 (xdv : Nat), .slice xgo xG.length xgc, .slice xho xK.length xhc] ++ [.int .u8 (xc : Nat), .int .i64 (xb : Nat)]) : List Value).toArray 66) := by
    rw [← hW8, blkset b67]
    simp
  have ha' : ∀ v ∈ ([.int .u32 (acl : Nat), .int .u32 ((i : Int) + 1), .int .u8 (aco : Nat), .int .u32 (arc : Nat), .int .u32 (ave : Nat), afv, ahv] : List Value), v.oneCell' = true := ha
  obtain ⟨W9, hst9, ⟨fs', hb9, _, h3, h4⟩, f9⟩ := st_mid (P := Try.prog) (ty := 44) (o := 11) ([.int .u32 (xcl : Nat), .int .u32 (xnu : Nat), .int .u32 (xac : Nat), .int .u8 (xop : Nat), .int .u32 (xrc : Nat), .int .u32 (xve : Nat), .int .u32 (xwa : Nat), .int .u32 (xow : Nat), .slice xfo xF.length xfc, .string xrs, .int .i64 ((got : Int) + 1)] ++ ([.int .u32 (xdl : Nat), .int .u32 (xdn : Nat), .int .u8 (xdo : Nat), .int .u32 (xdr : Nat), .int .u32 (xdv : Nat), .slice xgo xG.length xgc, .slice xho xK.length xhc] ++ [.int .u8 (xc : Nat), .int .i64 (xb : Nat)])) [.int .u32 (acl : Nat), .int .u32 ((i : Int) + 1), .int .u8 (aco : Nat), .int .u32 (arc : Nat), .int .u32 (ave : Nat), afv, ahv] b8 (by simp) Try.sizeAn ha'
  have e9 : fs' = ([.int .u32 (xcl : Nat), .int .u32 (xnu : Nat), .int .u32 (xac : Nat), .int .u8 (xop : Nat), .int .u32 (xrc : Nat), .int .u32 (xve : Nat), .int .u32 (xwa : Nat), .int .u32 (xow : Nat), .slice xfo xF.length xfc, .string xrs, .int .i64 ((got : Int) + 1)] ++ ([.int .u32 (acl : Nat), .int .u32 ((i : Int) + 1), .int .u8 (aco : Nat), .int .u32 (arc : Nat), .int .u32 (ave : Nat), afv, ahv] ++ [.int .u8 (xc : Nat), .int .i64 (xb : Nat)]) : List Value) := mid_eq (pre := [.int .u32 (xcl : Nat), .int .u32 (xnu : Nat), .int .u32 (xac : Nat), .int .u8 (xop : Nat), .int .u32 (xrc : Nat), .int .u32 (xve : Nat), .int .u32 (xwa : Nat), .int .u32 (xow : Nat), .slice xfo xF.length xfc, .string xrs, .int .i64 ((got : Int) + 1)]) (olds := [.int .u32 (xdl : Nat), .int .u32 (xdn : Nat), .int .u8 (xdo : Nat), .int .u32 (xdr : Nat), .int .u32 (xdv : Nat), .slice xgo xG.length xgc, .slice xho xK.length xhc]) rfl h3 h4
  rw [e9] at hb9
  have hb9b : W9.heap[w5.heap.size]? = some (.cells (RC.cs ⟨⟨xcl, xnu, xac, xop, xrc, xve, xwa, xow, (.slice xfo xF.length xfc), xrs⟩, xF, got + 1, ⟨acl, i + 1, aco, arc, ave, afv, ahv⟩, F, K, xc, xb⟩).toArray 66) := by
    rw [hb9]
    simp only [RC.cs, RQ.cs, AN.cs, List.cons_append, List.nil_append, Int.natCast_add, Int.cast_ofNat_Int]
  have f69 : Fr (fun k => k = w.heap.size ∨ k = w5.heap.size) W6 W9 := ((f7.mono (fun _ _ e => .inl e)).trans f8 (fun _ _ e => .inr e)).trans f9 (fun _ _ e => .inr e)
  have HRM : Hid (W8.rangeAt (w.heap.size + 1) 13 [.int .u32 (acl : Nat), .int .u32 ((i : Int) + 1), .int .u8 (aco : Nat), .int .u32 (arc : Nat), .int .u32 (ave : Nat), afv, ahv]) := hide (fun j v hj => cell_of_blk ((f8.block _ (Nat.lt_of_lt_of_le (lt_of_block bm) f7.size) (fun e => by omega)).trans ((f7.block _ (lt_of_block bm) (fun e => by omega)).trans bm)) (by simpa using hm.an j v hj))
  have HR8 := hide (range_of_block hb9b)
  have HRS9 : Hid (W9.rangeAt w.heap.size 0 [.int .u32 (acl : Nat), .slice (some ⟨g, 0, none⟩) N cap, .int .i64 ((got : Int) + 1)]) := hide (range_of_block ((f9.block _ (Nat.lt_of_lt_of_le (lt_of_block bs7) f8.size) (fun e => by omega)).trans ((f8.block _ (lt_of_block bs7) (fun e => by omega)).trans bs7)))
  have HBR : Hid (W9.heap[w.heap.size + 1 + 1]? = some (.cells #[.int .u32 0, .slice none 0 0, .int .i64 0] 60)) := hide ((f69.block _ (lt_of_block br) (fun e => by omega)).trans br)
  have HST9 := hide hst9
  have HFW : Hid (Fr (fun _ => False) w W9) := hide ((((unhide HB).2.2.2.1.trans0 (unhide HF5).1).trans0 (unhide HB6).2).trans f69 (fun g hg e => by omega))
  have HX1 : Hid (∀ u ∈ RC.cs ⟨⟨xcl, xnu, xac, xop, xrc, xve, xwa, xow, (.slice xfo xF.length xfc), xrs⟩, xF, got + 1, ⟨acl, i + 1, aco, arc, ave, afv, ahv⟩, F, K, xc, xb⟩, u.oneCell' = true) := hide (fun u hu => by
    have hu' : u ∈ ([.int .u32 (xcl : Nat), .int .u32 (xnu : Nat), .int .u32 (xac : Nat), .int .u8 (xop : Nat), .int .u32 (xrc : Nat), .int .u32 (xve : Nat), .int .u32 (xwa : Nat), .int .u32 (xow : Nat), .slice xfo xF.length xfc, .string xrs, .int .i64 ((got : Int) + 1)] ++ ([.int .u32 (acl : Nat), .int .u32 ((i : Int) + 1), .int .u8 (aco : Nat), .int .u32 (arc : Nat), .int .u32 (ave : Nat), afv, ahv] ++ [.int .u8 (xc : Nat), .int .i64 (xb : Nat)]) : List Value) := by
      simpa only [RC.cs, RQ.cs, AN.cs, List.cons_append, List.nil_append, Int.natCast_add, Int.cast_ofNat_Int] using hu
    rcases List.mem_append.1 hu' with h | h
    · exact (List.all_eq_true.1 (show List.all [.int .u32 (xcl : Nat), .int .u32 (xnu : Nat), .int .u32 (xac : Nat), .int .u8 (xop : Nat), .int .u32 (xrc : Nat), .int .u32 (xve : Nat), .int .u32 (xwa : Nat), .int .u32 (xow : Nat), .slice xfo xF.length xfc, .string xrs, .int .i64 ((got : Int) + 1)] (fun v => v.oneCell') = true from rfl)) u h
    · rcases List.mem_append.1 h with h | h
      · exact ha' u h
      · exact (List.all_eq_true.1 (show List.all [.int .u8 (xc : Nat), .int .i64 (xb : Nat)] (fun v => v.oneCell') = true from rfl)) u h)
  have HW : Hid (Calls Try.prog 38 #[.agg #[.int .u32 (acl : Nat), .slice (some ⟨g, 0, none⟩) N cap, .int .i64 ((got : Int) + 1)], .int .i64 ((i : Int) + 1), .agg (RC.cs ⟨⟨xcl, xnu, xac, xop, xrc, xve, xwa, xow, (.slice xfo xF.length xfc), xrs⟩, xF, got + 1, ⟨acl, i + 1, aco, arc, ave, afv, ahv⟩, F, K, xc, xb⟩).toArray] W9 fun e w' => ∃ v', e = .returned (.agg #[.int .u32 (acl : Nat), v', .int .i64 ((got : Int) + 1)]) ∧ OwC w' W9.heap.size v' (l.set i ⟨⟨xcl, xnu, xac, xop, xrc, xve, xwa, xow, (.slice xfo xF.length xfc), xrs⟩, xF, got + 1, ⟨acl, i + 1, aco, arc, ave, afv, ahv⟩, F, K, xc, xb⟩) ∧ Fr (fun _ => False) W9 w') := hide (gwith_any acl (got + 1) base i (.slice (some ⟨g, 0, none⟩) N cap) l ⟨⟨xcl, xnu, xac, xop, xrc, xve, xwa, xow, (.slice xfo xF.length xfc), xrs⟩, xF, got + 1, ⟨acl, i + 1, aco, arc, ave, afv, ahv⟩, F, K, xc, xb⟩ W9 ((unhide HO).fr0 (unhide HFW)) (unhide H1).1 (unhide HX1) (by rw [unhide HNN]; exact hil) (by rw [unhide HNN]; exact hl))
  obtain ⟨YS, hYS⟩ : ∃ YS : List Value, YS = RC.cs ⟨⟨xcl, xnu, xac, xop, xrc, xve, xwa, xow, (.slice xfo xF.length xfc), xrs⟩, xF, got + 1, ⟨acl, i + 1, aco, arc, ave, afv, ahv⟩, F, K, xc, xb⟩ := ⟨_, rfl⟩
  rw [← hYS] at HR8 HW
  have hsy : (Try.prog.info? 66).map (·.size) = some YS.length := by rw [hYS, RC.len]; exact Try.sizeCl
  have hz9 : w.heap.size + 3 ≤ W9.heap.size := by have h1 := f69.size; have h2 := (unhide HB6).2.size; omega
  clear hYS bs bm br f7 bs7 b67 f8 b8 ha' hb9 h3 h4 f9 e9 hb9b f69 hst9 HB6 z5 hz1
  go_wp2_with (first | refine wpList_allocN rfl 66 rfl _ (alloc_cl w5) ?_ | refine wpList_load_mid rfl 66 (.tmp 31) rfl g (i * 20) rfl _ _ (unhide HR5) Try.underlying66 rfl hsx ?_ | refine wpList_stN rfl 66 (.tmp 8) (.tmp 32) rfl _ _ rfl rfl (unhide HST6) ?_ | refine wpList_load_mid rfl 44 (.tmp 68) rfl (w.heap.size + 1) 13 rfl _ _ (unhide HRM) Try.underlying44 rfl Try.sizeAn ?_ | refine wpList_stN rfl 44 (.tmp 70) (.tmp 69) rfl _ _ rfl rfl (unhide HST9) ?_ | refine wpList_load_mid rfl 66 (.tmp 8) rfl w5.heap.size 0 rfl _ _ (unhide HR8) Try.underlying66 rfl hsy ?_ | refine wpList_load_mid rfl 60 (.tmp 2) rfl w.heap.size 0 rfl _ _ (unhide HRS9) Try.underlying60 rfl Try.sizeRs ?_)
  refine (unhide HW).mono ?_
  rintro e w10 ⟨v9, rfl, ho9, hf9⟩
  obtain ⟨vo, vc, e9⟩ := own_formX ho9
  rw [List.length_set] at e9
  subst e9
  obtain ⟨W10, hst, hb10, hf10⟩ := st_all (P := Try.prog) (ty := 60) [.int .u32 0, .slice none 0 0, .int .i64 0] [.int .u32 (acl : Nat), .slice vo l.length vc, .int .i64 ((got : Int) + 1)] ((hf9.block _ (lt_of_block (unhide HBR)) (fun h => h)).trans (unhide HBR)) rfl Try.sizeRs (fun u hu => by simp at hu; rcases hu with rfl | rfl | rfl <;> rfl)
  have HST := hide hst
  have HE : Hid (OwC W10 base (.slice vo l.length vc) (l.set i ⟨⟨xcl, xnu, xac, xop, xrc, xve, xwa, xow, (.slice xfo xF.length xfc), xrs⟩, xF, got + 1, ⟨acl, i + 1, aco, arc, ave, afv, ahv⟩, F, K, xc, xb⟩) ∧ Fr (fun _ => False) w W10 ∧ ∀ k, (Value.slice vo l.length vc).ownBlock = some k → w.heap.size ≤ k) := hide (by
    have hfw : Fr (fun _ => False) w W10 := ((unhide HFW).trans0 hf9).trans hf10 (fun g hg e => by omega)
    exact ⟨ownsRow_base (ownsRow_of_block ho9 (fun k hk => hf10.block k (ho9.lt k hk).2 (fun e => by have := (ho9.lt k hk).1; omega))) (by omega), hfw, fun k hk => by have := (ho9.lt k hk).1; omega⟩)
  have HB10 := hide (range_of_block hb10)
  clear hst hb10 hf10 ho9 hf9 HW
  go_wp2_with (refine wpList_stN rfl 60 (.tmp 4) (.tmp 74) rfl _ _ rfl rfl (unhide HST) ?_)
  refine bodyPost_ret (results_cellt rfl _ _ (w.heap.size + 1 + 1) 0 _ _ _ rfl rfl (unhide HB10) Try.underlying60 rfl Try.sizeRs) rfl ?_
  exact ⟨_, rfl, (unhide HE).1, (unhide HE).2.1, fun g hg => .inr ((unhide HE).2.2 g hg)⟩
end Go.Proofs.Ytkiepcdncegniaa

namespace Go.Proofs.Ytkiepcdncegniaa
open Go.RowKit Go.Maps

/-- A request of the session against the document's own. -/
structure RelQ (c : Nat) (dn : List Nat) (i : Nat) (q : SC) (x : RC) : Prop where
  r : x.r = q.r.re x.r.fv
  F : x.F = q.F
  w : q.d = none → x.o = 0 ∧ q.la = (x.c : Int) ∧ q.n = x.b
  d : ∀ y, q.d = some y → 0 < x.o ∧ dn[x.o - 1]? = some (i + 1) ∧ (y.a.cl = x.a.cl ∧ y.a.nu = x.a.nu ∧ y.a.co = x.a.co ∧ y.a.rc = x.a.rc ∧ y.a.ve = x.a.ve) ∧ y.F = x.G ∧ y.H = x.K ∧ x.a.cl = c ∧ x.a.nu = i + 1
/-- A session against the document's own. -/
structure Rel (w : World) (c : Nat) (cs : List SC) (dn : List Nat) (l : List RC) : Prop where
  n : l.length = cs.length
  q : ∀ (i : Nat) (q : SC) (x : RC), cs[i]? = some q → l[i]? = some x → RelQ c dn i q x
  g : ∀ (j k : Nat), dn[j]? = some k → ∃ i x, k = i + 1 ∧ l[i]? = some x ∧ x.o = j + 1
  k : ∀ x ∈ l, x.Ok w ∧ x.c < 256
theorem Rel.nil (w : World) (c : Nat) : Rel w c [] [] [] := ⟨rfl, fun i q x h => by simp at h, fun j k h => by simp at h, fun x h => by simp at h⟩
/-- A call. -/
theorem Rel.call {w : World} {c : Nat} {cs : List SC} {dn : List Nat} {l : List RC} (h : Rel w c cs dn l) (r : RQ) (F : List F5) (fv : Value) (hx : Rd w fv F.length 5 (fcells F)) (hl : F.length ≤ 1048576) :
    Rel w c (cs ++ [⟨r, F, 0, 0, none⟩]) dn (l ++ [⟨r.re fv, F, 0, ⟨0, 0, 0, 0, 0, .slice none 0 0, .slice none 0 0⟩, [], [], 0, 0⟩]) := by
  refine ⟨by simp [h.n], fun i q x hq hx2 => ?_, fun j k hj => ?_, fun x hx2 => ?_⟩
  · by_cases hi : i < cs.length
    · rw [List.getElem?_append_left hi] at hq
      rw [List.getElem?_append_left (by rw [h.n]; exact hi)] at hx2
      exact h.q i q x hq hx2
    · have hi2 : i = cs.length := by have := (List.getElem?_eq_some_iff.1 hq).1; simp at this; omega
      subst hi2
      rw [List.getElem?_append_right (Nat.le_refl _), Nat.sub_self] at hq
      rw [← h.n, List.getElem?_append_right (Nat.le_refl _), Nat.sub_self] at hx2
      simp only [List.getElem?_cons_zero, Option.some.injEq] at hq hx2
      subst hq
      subst hx2
      exact ⟨rfl, rfl, fun _ => ⟨rfl, rfl, rfl⟩, fun y hy => by cases hy⟩
  · obtain ⟨i, x, e1, e2, e3⟩ := h.g j k hj
    exact ⟨i, x, e1, by rw [List.getElem?_append_left (List.getElem?_eq_some_iff.1 e2).1]; exact e2, e3⟩
  · rcases List.mem_append.1 hx2 with hx2 | hx2
    · exact h.k x hx2
    · simp only [List.mem_singleton] at hx2
      subst hx2
      exact ⟨⟨hx, Rd.nil w 5, Rd.nil w 4, hl, by simp, by simp⟩, by simp⟩
/-- A Busy of a request that waits. -/
theorem Rel.busy {w : World} {c : Nat} {cs : List SC} {dn : List Nat} {l : List RC} (h : Rel w c cs dn l) {i : Nat} {q : SC} {x : RC} (hq : cs[i]? = some q) (hd : q.d = none) (hx : l[i]? = some x) (co : Nat) (hco : co < 256) :
    Rel w c (cs.set i { q with la := (co : Int), n := q.n + 1 }) dn (l.set i { x with c := co, b := x.b + 1 }) := by
  have hil := (List.getElem?_eq_some_iff.1 hq).1
  have hil2 := (List.getElem?_eq_some_iff.1 hx).1
  have h0 := h.q i q x hq hx
  refine ⟨by simp [h.n], fun j p y hp hy => ?_, fun j k hj => ?_, fun y hy => ?_⟩
  · by_cases e : i = j
    · subst e
      rw [List.getElem?_set_self hil] at hp
      rw [List.getElem?_set_self hil2] at hy
      cases hp
      cases hy
      refine ⟨h0.r, h0.F, fun _ => ⟨(h0.w hd).1, rfl, ?_⟩, fun y hy => ?_⟩
      · have := (h0.w hd).2.2
        simp only
        omega
      · simp only at hy
        rw [hd] at hy
        cases hy
    · rw [List.getElem?_set_ne e] at hp hy
      exact h.q j p y hp hy
  · obtain ⟨m, y, e1, e2, e3⟩ := h.g j k hj
    by_cases e : i = m
    · subst e
      rw [hx] at e2
      cases e2
      exact ⟨i, _, e1, List.getElem?_set_self hil2, e3⟩
    · exact ⟨m, y, e1, by rw [List.getElem?_set_ne e]; exact e2, e3⟩
  · rcases List.mem_or_eq_of_mem_set hy with hy | rfl
    · exact h.k y hy
    · have hk := h.k x (List.mem_of_getElem? hx)
      exact ⟨⟨hk.1.f, hk.1.g, hk.1.k, hk.1.fl, hk.1.gl, hk.1.kl⟩, hco⟩
/-- The first answer of a request. -/
theorem Rel.new {w : World} {c : Nat} {cs : List SC} {dn : List Nat} {l : List RC} (h : Rel w c cs dn l) {i : Nat} {q : SC} {x : RC} (hq : cs[i]? = some q) (hd : q.d = none) (hx : l[i]? = some x) (a : AN) (hc : a.cl = c) (hn : a.nu = i + 1) (F : List F5) (K : List SM) (v u : Value) (hF : Rd w a.fv F.length 5 (fcells F)) (hK : Rd w a.hv K.length 4 (scells K)) (hFl : F.length ≤ 1048576) (hKl : K.length ≤ 1048576) :
    Rel w c (cs.set i { q with d := some ⟨⟨c, i + 1, a.co, a.rc, a.ve, v, u⟩, F, K⟩ }) (dn ++ [i + 1]) (l.set i { x with o := dn.length + 1, a := a, G := F, K := K }) := by
  have hil := (List.getElem?_eq_some_iff.1 hq).1
  have hil2 := (List.getElem?_eq_some_iff.1 hx).1
  have h0 := h.q i q x hq hx
  refine ⟨by simp [h.n], fun j p y hp hy => ?_, fun j k hj => ?_, fun y hy => ?_⟩
  · by_cases e : i = j
    · subst e
      rw [List.getElem?_set_self hil] at hp
      rw [List.getElem?_set_self hil2] at hy
      cases hp
      cases hy
      refine ⟨h0.r, h0.F, fun e => (by cases e), fun z hz => ?_⟩
      simp only [Option.some.injEq] at hz
      subst hz
      exact ⟨Nat.succ_pos _, by simp, ⟨hc.symm, hn.symm, rfl, rfl, rfl⟩, rfl, rfl, hc, hn⟩
    · rw [List.getElem?_set_ne e] at hp hy
      have h1 := h.q j p y hp hy
      refine ⟨h1.r, h1.F, h1.w, fun z hz => ?_⟩
      obtain ⟨a1, a2, a3⟩ := h1.d z hz
      exact ⟨a1, by rw [List.getElem?_append_left (List.getElem?_eq_some_iff.1 a2).1]; exact a2, a3⟩
  · by_cases hj2 : j < dn.length
    · rw [List.getElem?_append_left hj2] at hj
      obtain ⟨m, y, e1, e2, e3⟩ := h.g j k hj
      by_cases e : i = m
      · subst e
        rw [hx] at e2
        cases e2
        have := (h0.w hd).1
        omega
      · exact ⟨m, y, e1, by rw [List.getElem?_set_ne e]; exact e2, e3⟩
    · have hj3 : j = dn.length := by have := (List.getElem?_eq_some_iff.1 hj).1; simp at this; omega
      subst hj3
      rw [List.getElem?_append_right (Nat.le_refl _), Nat.sub_self] at hj
      simp only [List.getElem?_cons_zero, Option.some.injEq] at hj
      exact ⟨i, _, hj.symm, List.getElem?_set_self hil2, rfl⟩
  · rcases List.mem_or_eq_of_mem_set hy with hy | rfl
    · exact h.k y hy
    · have hk := h.k x (List.mem_of_getElem? hx)
      exact ⟨⟨hk.1.f, hF, hK, hk.1.fl, hFl, hKl⟩, hk.2⟩
end Go.Proofs.Ytkiepcdncegniaa

namespace Go.Proofs.Ytkiepcdncegniaa
open Go.RowKit Go.Maps

theorem SS.wide {W W' : World} {d c : Nat} {cs : List SC} {dn : List Nat} {T : Nat → Prop} (h : SS W' d c cs dn T) : SS W' d c cs dn (Tn T W W') := by
  obtain ⟨mw, ma, dv, h⟩ := h
  exact ⟨mw, ma, dv, h.mono (fun g hg => .inl hg) (fun g hg => by
    rcases hg with hg | hg
    · exact h.lt g hg
    · exact hg.2)⟩
/-- What both sessions make of a message. -/
structure BothT (w0 w : World) (d c : Nat) (cs : List SC) (dn : List Nat) (T : Nat → Prop) (base : Nat) (v : Value) (got : Nat) (m : MG) (k : Nat) (r : Int) (dn' : List Nat) (l' : List RC) : Prop where
  ref : Calls Try.prog 22 #[.agg #[.int .u32 (c : Nat), v, .int .i64 (got : Nat)], .agg m.xs.toArray] w fun e w' => ∃ v', e = .returned (.tuple #[.agg #[.int .u32 (c : Nat), v', .int .i64 (dn'.length : Nat)], .int .i64 r]) ∧ OwC w' base v' l' ∧ Fr (fun _ => False) w w' ∧ ∀ g, v'.ownBlock = some g → v.ownBlock = some g ∨ w.heap.size ≤ g
  dl : dn'.length ≤ got + 1
  ses : ∀ W, SS W d c cs dn T → m.Ok W → Calls Try.prog 14 #[.pointer (some ⟨d, 0, none⟩), .agg m.xs.toArray] W fun e w' => ∃ cs', e = .returned (.int .i64 r) ∧ SS w' d c cs' dn' (Tn T W w') ∧ Fr T W w' ∧ Rel w0 c cs' dn' l' ∧ ∀ q ∈ cs', q.n ≤ k + 1
theorem gnum_no {c n cl k : Nat} (h : ¬ (cl = c ∧ k ≠ 0 ∧ k ≤ n)) : gnum c n cl k = 0 := by
  unfold gnum
  rw [if_neg]
  rintro ⟨h1, h2, h3⟩
  exact h ⟨h1, by omega, h3⟩
theorem both_take {w0 w : World} {d c : Nat} {cs : List SC} {dn : List Nat} {T : Nat → Prop} {l : List RC} (hs : SS w d c cs dn T) (hf : Fr (fun _ => False) w0 w) (m : MG) (hm : m.Ok w0) (base : Nat) (v : Value) (ho : OwC w base v l) (hb : base ≤ w.heap.size) (hR : Rel w0 c cs dn l) (hdl : dn.length ≤ 1048575) (k : Nat) (hk : k ≤ 100000000) (hn : ∀ q ∈ cs, q.n ≤ k) :
    ∃ r dn' l', BothT w0 w d c cs dn T base v dn.length m k r dn' l' := by
  have hl : l.length ≤ 4096 := by rw [hR.n]; exact hs.len
  have hok : ∀ y ∈ l, y.Ok w := fun y hy => (hR.k y hy).1.fr0 hf
  have hT : ∀ {W W' : World}, Fr (fun _ => False) W W' → Fr T W W' := fun hf => hf.mono (fun _ _ e => e.elim)
  have hm2 := hm.fr0 hf
  have same : ∀ (r : Int), (Calls Try.prog 22 #[.agg #[.int .u32 (c : Nat), v, .int .i64 (dn.length : Nat)], .agg m.xs.toArray] w fun e w' => ∃ v', e = .returned (.tuple #[.agg #[.int .u32 (c : Nat), v', .int .i64 (dn.length : Nat)], .int .i64 r]) ∧ OwC w' base v' l ∧ Fr (fun _ => False) w w' ∧ ∀ g, v'.ownBlock = some g → v.ownBlock = some g ∨ w.heap.size ≤ g) → (∀ W, SS W d c cs dn T → m.Ok W → Calls Try.prog 14 #[.pointer (some ⟨d, 0, none⟩), .agg m.xs.toArray] W fun e w' => ∃ r', e = .returned (.int .i64 r') ∧ r' = r ∧ Fr (fun _ => False) W w') → ∃ r dn' l', BothT w0 w d c cs dn T base v dn.length m k r dn' l' := fun r h1 h2 =>
    ⟨r, dn, l, h1, Nat.le_succ _, fun W hS hmW => (h2 W hS hmW).mono fun e w' ⟨r', e1, e2, hf'⟩ => ⟨cs, by rw [e1, e2], SS.wide (hS.fr0 hf'), hT hf', hR, fun q hq => by have := hn q hq; omega⟩⟩
  obtain ⟨xs, ki, icl, inu, co, a, F, K⟩ := m
  by_cases h3 : ki = 3
  · subst h3
    by_cases hu : a.cl = c ∧ a.nu ≠ 0 ∧ a.nu ≤ cs.length
    · obtain ⟨hc, h0, hle⟩ := hu
      obtain ⟨i, hi⟩ : ∃ i, a.nu = i + 1 := ⟨a.nu - 1, by omega⟩
      obtain ⟨q, hq⟩ : ∃ q, cs[i]? = some q := ⟨_, List.getElem?_eq_getElem (by omega)⟩
      obtain ⟨x, hx⟩ : ∃ x, l[i]? = some x := ⟨_, List.getElem?_eq_getElem (by rw [hR.n]; omega)⟩
      have hq0 := hR.q i q x hq hx
      cases hd : q.d with
      | none =>
        have hw := hq0.w hd
        have hxone : ∀ u ∈ a.cs, u.oneCell' = true := fun u hu => by
          obtain ⟨t, ht⟩ := List.getElem?_of_mem hu
          exact hm.one u (List.mem_of_getElem? (hm.x.an t u ht))
        refine ⟨0, dn ++ [i + 1], l.set i { x with o := dn.length + 1, a := a, G := F, K := K }, ?_, by simp, fun W hS hmW => ?_⟩
        · have := gtake_new c dn.length base i v l x xs icl inu co a w hm.x ho hb hok hl hx hc hi hw.1 (by omega) F K hxone
          rw [List.length_append]
          exact this
        · refine (hS.answer xs icl inu co a hm.x i q hq hd hc hi F K hmW.f hmW.h hm.fl hm.hl hdl).mono ?_
          rintro e w' ⟨r, rfl, rfl, ⟨v1, u1, hs'⟩, hf'⟩
          refine ⟨_, rfl, hs', hf', hR.new hq hd hx a hc hi F K v1 u1 hm.f hm.h hm.fl hm.hl, fun p hp => ?_⟩
          rcases List.mem_or_eq_of_mem_set hp with hp | rfl
          · have := hn p hp; omega
          · have := hn q (List.mem_of_getElem? hq); simp only; omega
      | some y =>
        obtain ⟨g1, g2, g3, g4, g5, g6, g7⟩ := hq0.d y hd
        have hsame : gsameA x.a a x.G F x.K K = sameA y.a a y.F F y.H K := by
          obtain ⟨e1, e2, e3, e4, e5⟩ := g3
          rw [g4, g5]
          unfold gsameA
          rw [g6, g7, hc, hi]
          simp only [decide_true, Bool.and_self, Bool.true_and]
          unfold sameA
          rw [e3, e4, e5]
        refine same (if gsameA x.a a x.G F x.K K then 0 else 4) ?_ (fun W hS hmW => ?_)
        · exact gtake_again c dn.length base i v l x xs icl inu co a w hm.x ho hok hl hx hc hi g1 F K (rd_fds hm2.f) (sms_of_rd hm2.h)
        · have hX := hS.fdsX (List.mem_of_getElem? hq) hd
          have hf' := rd_fds hmW.f
          have hh' := sms_of_rd hmW.h
          rw [hsame]
          exact hS.ansDone xs icl inu co a hm.x i q y hq hd hc hi (sameA y.a a y.F F y.H K) (fun W' hf2 => sameAnswer_any y.a a y.F F y.H K W' (hX.1.fr hf2) (hf'.fr hf2) (hX.2.1.fr hf2) (hh'.fr hf2) hX.2.2.1 hX.2.2.2)
    · refine same 15 (gtake_noneA c dn.length base v l xs icl inu co a w hm.x ho hl (gnum_no (by rw [hR.n]; exact hu))) (fun W hS hmW => ?_)
      refine hS.ansNone xs icl inu co a hm.x (fun e => ?_) hm.ac hm.an
      by_cases h0 : a.nu = 0
      · exact .inl h0
      · exact .inr (by
          have : ¬ a.nu ≤ cs.length := fun hl => hu ⟨e, h0, hl⟩
          omega)
  · by_cases h4 : ki = 4
    · subst h4
      by_cases hu : icl = c ∧ inu ≠ 0 ∧ inu ≤ cs.length
      · obtain ⟨hc, h0, hle⟩ := hu
        obtain ⟨i, hi⟩ : ∃ i, inu = i + 1 := ⟨inu - 1, by omega⟩
        obtain ⟨q, hq⟩ : ∃ q, cs[i]? = some q := ⟨_, List.getElem?_eq_getElem (by omega)⟩
        obtain ⟨x, hx⟩ : ∃ x, l[i]? = some x := ⟨_, List.getElem?_eq_getElem (by rw [hR.n]; omega)⟩
        have hq0 := hR.q i q x hq hx
        cases hd : q.d with
        | none =>
          have hw := hq0.w hd
          have hxn := hn q (List.mem_of_getElem? hq)
          refine ⟨0, dn, l.set i { x with c := co, b := x.b + 1 }, ?_, Nat.le_succ _, fun W hS hmW => ?_⟩
          · exact gtake_busyW c dn.length base i v l x xs icl inu co a w hm.x ho hb hok hl hx hc hi hw.1 (by omega)
          · subst hc
            subst hi
            refine (hS.busy xs co a i hm.x hm.bc q hq hd (by omega)).mono ?_
            rintro e w' ⟨r, rfl, rfl, hs', hf'⟩
            refine ⟨_, rfl, SS.wide hs', hf', hR.busy hq hd hx co hm.bc, fun p hp => ?_⟩
            rcases List.mem_or_eq_of_mem_set hp with hp | rfl
            · have := hn p hp; omega
            · simp only; omega
        | some y =>
          obtain ⟨g1, _⟩ := hq0.d y hd
          refine same 0 ?_ (fun W hS hmW => ?_)
          · have := gtake_busyD c dn.length base i v l x xs icl inu co a w hm.x ho hb hok hl hx hc hi g1
            rw [show l.set i x = l from by
              apply List.ext_getElem?
              intro j
              by_cases e : i = j
              · subst e
                rw [List.getElem?_set_self (List.getElem?_eq_some_iff.1 hx).1, hx]
              · rw [List.getElem?_set_ne e]] at this
            exact this
          · subst hc
            subst hi
            exact hS.busyDone xs co a i hm.x hm.bc q y hq hd
      · refine same 15 (gtake_noneB c dn.length base v l xs icl inu co a w hm.x ho hl (gnum_no (by rw [hR.n]; exact hu))) (fun W hS hmW => ?_)
        refine hS.busyNone xs icl inu co a hm.x hm.bc (fun e => ?_) hm.bi hm.bn
        by_cases h0 : inu = 0
        · exact .inl h0
        · exact .inr (by
            have : ¬ inu ≤ cs.length := fun hl => hu ⟨e, h0, hl⟩
            omega)
    · refine same 1 (gtake_no c dn.length base v l xs ki icl inu co a w hm.x ho h3 h4) (fun W hS hmW => ?_)
      refine (stake_no d xs ki icl inu co a hm.x h3 h4 W).mono ?_
      rintro e w' ⟨rfl, hf'⟩
      exact ⟨1, rfl, rfl, hf'⟩
end Go.Proofs.Ytkiepcdncegniaa

