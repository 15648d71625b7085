import Derived.Test.YtiknjghcjaaenaaGreatDoorPq3
import Derived.Test.YtiknjghcjaaenaaGreatDoorPq1
import Derived.Test.YtiknjghcjaaenaaGreatDoorKOas
import Derived.Test.YtiknjghcjaaenaaGreatDoorPq2
import Derived.Test.YtiknjghcjaaenaaGreatDoorPq4
namespace Go.Proofs.YtiknjghcjaaenaaGreatDoor
open Go.RowKit Go.Shelf
set_option maxHeartbeats 4000000 in
set_option maxRecDepth 100000 in
theorem gapply_history (so : Option Addr) (sn sc : Nat) (rg rr rn rcap : Nat) (cl nu ac op rc ve wa ow : Nat) (fo : Option Addr) (fn fc : Nat) (rs : ByteArray) (place : Nat) (w : World) (HFo : Hid (FoH w cl nu ac op rc ve wa ow fo fn fc rs true)) (z : Int) (HFd : Hid (FdH w so sn sc ac z)) (hz : ¬ z < 0) (jc : Nat) (HJd : Hid (JdH w so sn sc (some ⟨rg, rr, none⟩) rn rcap cl nu ac op rc ve wa ow fo fn fc rs jc)) (hj : jc = 0) (ho : op = 5) (i xw xo : Nat) (xs : Bool) (xG : List Nat) (xV : List GV) (go : Option Addr) (gn gc : Nat) (vg : Option Addr) (vn vcap : Nat) (hrc : rc = i + 1) (hrn : rn ≤ 256) (hve : ve < 4294967296) (S : List P3) (L : List GC) (T : Nat → Prop) (hst : GSt w T (.slice so sn sc) (.slice (some ⟨rg, rr, none⟩) rn rcap) S L) (hx : L[i]? = some ⟨xw, xo, xs, xG, xV, .slice go gn gc, .slice vg vn vcap⟩) (hone : ∀ y ∈ L, y.one) (hv1 : 1 ≤ vn) (hvn : vn ≤ 64) (hvF : ∀ y ∈ xV, y.v.F.length ≤ 1000) :
  Calls Tryz.prog 12 #[.agg #[.slice so sn sc, .slice (some ⟨rg, rr, none⟩) rn rcap], .agg #[.int .u32 (cl : Nat), .int .u32 (nu : Nat), .int .u32 (ac : Nat), .int .u8 (op : Nat), .int .u32 (rc : Nat), .int .u32 (ve : Nat), .int .u32 (wa : Nat), .int .u32 (ow : Nat), .slice fo fn fc, .string rs], .int .u32 (place : Nat)] w fun e w' => ∃ v ho hn hc, e = .returned (.tuple #[.agg #[.slice so sn sc, v], .agg #[.int .u32 (cl : Nat), .int .u32 (nu : Nat), .int .u8 0, .int .u32 (rc : Nat), .int .u32 (vn : Nat), .slice none 0 0, .slice ho hn hc]]) ∧ OwS w' w.heap.size (.slice ho hn hc) (xV.map fun y : GV => y.v.gsum) ∧ GSt w' (fun k => T k ∨ w.heap.size ≤ k) (.slice so sn sc) v S (L.set i ⟨xw, xo, xs, xG, xV, .slice go gn gc, .slice vg vn vcap⟩) ∧ Fr (fun _ => False) w w' := by
 have o1 : ((op : Int) != 1) = true := by rw [bne_iff_ne]; omega
 have o51 : ((op : Int) == 1) = false := by rw [beq_eq_false_iff_ne]; omega
 have o52 : ((op : Int) == 2) = false := by rw [beq_eq_false_iff_ne]; omega
 have o53 : ((op : Int) == 3) = false := by rw [beq_eq_false_iff_ne]; omega
 have o54 : ((op : Int) == 4) = false := by rw [beq_eq_false_iff_ne]; omega
 have o55 : ((op : Int) == 5) = true := by rw [beq_iff_eq]; omega
 have o56 : ((op : Int) == 6) = false := by rw [beq_eq_false_iff_ne]; omega
 have o57 : ((op : Int) == 7) = false := by rw [beq_eq_false_iff_ne]; omega
 have z1 : decide (z < 0) = false := decide_eq_false (by omega)
 have z2 : ¬ z < 0 := by omega
 have j1 : ((jc : Int) != 0) = false := by rw [bne_eq_false_iff_eq]; omega
 have hln : L.length = rn := by
  obtain ⟨_, _, e⟩ := hst.r.form
  cases e
  rfl
 have hil : i < rn := by rw [← hln]; exact (List.getElem?_eq_some_iff.1 hx).1
 have r1 : ((rc : Int) == 0) = false := by rw [beq_eq_false_iff_ne]; omega
 have r2 : IntKind.i64.wrap (rc : Int) = (rc : Int) := by rw [IntKind.wrap_i64]; omega
 have r3 : ¬ rn < rc := by omega
 have r4 : ¬ (rn : Int) < (rc : Int) := by omega
 have r5 : (rc : Int) - 1 = (i : Int) := by omega
 have r6 : IntKind.i64.wrap (i : Int) = (i : Int) := by rw [IntKind.wrap_i64]; omega
 have r7 : (i : Int) < (rn : Int) := by omega
 have v1 : IntKind.i64.wrap (ve : Int) = (ve : Int) := by have := hve; rw [IntKind.wrap_i64]; omega
 have hxl : xV.length = vn := by
  obtain ⟨_, _, e⟩ := (hst.c _ (List.mem_of_getElem? hx)).v.form
  have h2 := (Value.slice.inj e).2.1
  simp only at h2
  omega
 have HYY := hide (And.intro hxl (And.intro hv1 (And.intro hvn hvF)))
 have v8 : IntKind.u32.wrap (vn : Int) = (vn : Int) := by rw [IntKind.wrap_u32]; omega
 have hat := cgc_at L i _ hx
 obtain ⟨_, _, e0, hcr⟩ := hst.r.at_ (by omega)
 cases e0
 have c0 := hcr (i * 5) _ (by have := hat 0 (by omega); simpa [GC.cs] using this)
 have c1 := hcr (i * 5 + 1) _ (by have := hat 1 (by omega); simpa [GC.cs] using this)
 have c2 := hcr (i * 5 + 2) _ (by have := hat 2 (by omega); simpa [GC.cs] using this)
 have c3 := hcr (i * 5 + 3) _ (by have := hat 3 (by omega); simpa [GC.cs] using this)
 have c4 := hcr (i * 5 + 4) _ (by have := hat 4 (by omega); simpa [GC.cs] using this)
 rw [← Nat.add_assoc] at c1 c2 c3 c4
 have hrgl : rg < w.heap.size := lt_of_cell c0
 have HC5 := hide (And.intro c0 (And.intro c1 (And.intro c2 (And.intro c3 c4))))
 have HG := hide (And.intro hst (And.intro hone (show L.length = rn ∧ i < rn ∧ rn ≤ 256 from ⟨hln, hil, hrn⟩)))
 have HGX := hide (hst.c _ (List.mem_of_getElem? hx))
 have HVE := hide hve
 clear hxl hv1 hvn hvF hone ho hz hj hst hx hrc hrn hve hln hil hat hcr c0 c1 c2 c3 c4
 obtain ⟨W4, hW4, a4⟩ := ab_new w so sn sc (some ⟨rg, rr, none⟩) rn rcap cl nu ac op rc ve wa ow fo fn fc rs
 have A4 := hide a4
 clear a4
 have HRf := hide (fun (co : Nat) W => grefused_any cl nu ac op rc ve wa ow co fo fn fc rs W)
 go_enter Tryz.func12, Tryz.ntmps12
 go_wp2_with fail
 rw [← hW4]
 clear hW4
 refine ((unhide HFo) _ (unhide A4).f).mono ?_
 rintro e w5 ⟨rfl, hf5⟩
 have A5 := hide ((unhide A4).fr hf5)
 clear hf5 A4
 obtain ⟨⟨p0, p1⟩, q0, q1, q2, q3, q4, q5, q6, q7, q8, q9⟩ := (unhide A5).s12
 go_wp2_with fail
 refine ((unhide HFd) _ (unhide A5).f).mono ?_
 rintro e w6 ⟨rfl, hw6⟩
 obtain rfl := hw6.symm
 clear hw6
 clear p0 p1 q0 q1 q2 q3 q4 q5 q6 q7 q8 q9
 obtain ⟨⟨p0, p1⟩, q0, q1, q2, q3, q4, q5, q6, q7, q8, q9⟩ := (unhide A5).s12
 go_wp2_with fail
 refine ((unhide HJd) _ (unhide A5).f).mono ?_
 rintro e w7 ⟨rfl, f7⟩
 have A7 := hide ((unhide A5).fr f7)
 clear f7 A5
 obtain ⟨⟨p0, p1⟩, q0, q1, q2, q3, q4, q5, q6, q7, q8, q9⟩ := (unhide A7).s12
 have l0 := lt_of_block (unhide A7).s
 have l1 := lt_of_block (unhide A7).r
 have f7 := (unhide A7).f
 have c0 := (f7.cell (p := ⟨rg, rr + i * 5, none⟩) hrgl (fun h => h)).trans (unhide HC5).1
 have c1 := (f7.cell (p := ⟨rg, rr + i * 5 + 1, none⟩) hrgl (fun h => h)).trans (unhide HC5).2.1
 have c2 := (f7.cell (p := ⟨rg, rr + i * 5 + 2, none⟩) hrgl (fun h => h)).trans (unhide HC5).2.2.1
 have c3 := (f7.cell (p := ⟨rg, rr + i * 5 + 3, none⟩) hrgl (fun h => h)).trans (unhide HC5).2.2.2.1
 have c4 := (f7.cell (p := ⟨rg, rr + i * 5 + 4, none⟩) hrgl (fun h => h)).trans (unhide HC5).2.2.2.2
 have l5 : rg < w7.heap.size := Nat.lt_of_lt_of_le hrgl f7.size
 clear f7
 have hrd7 := (unhide HGX).v.frS (unhide A7).f (fun _ _ h => h)
 obtain ⟨vgg, vgo, hve0, hvc⟩ := hrd7.at_ (show 0 < xV.length by have h1 := (unhide HYY).1; have h2 := (unhide HYY).2.1; omega)
 subst hve0
 have HVC := hide hvc
 have l6 : vgg < w7.heap.size := by
  have h0 : 0 < xV.length := by have h1 := (unhide HYY).1; have h2 := (unhide HYY).2.1; omega
  have h3 : 0 < (vgc xV).length := by rw [vgc_len]; omega
  exact lt_of_cell (hvc 0 _ (List.getElem?_eq_getElem h3))
 clear hrd7 hvc
 go_wp2_with fail
 clear p0 p1 q0 q1 q2 q3 q4 q5 q6 q7 q8 q9 l0 l1 c0 c1 c2 c3 c4 l5 HRf
 obtain ⟨b9, hb9⟩ : ∃ b9, b9 = w7.heap.size := ⟨_, rfl⟩
 obtain ⟨bx, hbx⟩ : ∃ bx, bx = w7.heap.size + 1 := ⟨_, rfl⟩
 obtain ⟨W2, hW2⟩ : ∃ W2, W2 = (w7.alloc (.cells #[.int .u32 (cl : Nat), .int .u32 (nu : Nat), .int .u8 0, .int .u32 (rc : Nat), .int .u32 (vn : Nat), .slice none 0 0, .slice none 0 0] 45)).alloc (.cells #[.int .u32 (xw : Nat), .int .u32 (xo : Nat), .bool xs, .slice go gn gc, .slice (some ⟨vgg, vgo, none⟩) vn vcap] 78) := ⟨_, rfl⟩
 have f2 : Fr (fun _ => False) w7 W2 := by rw [hW2]; exact (box1 w7 _).alloc _
 have k9 : W2.heap[b9]? = some (.cells #[.int .u32 (cl : Nat), .int .u32 (nu : Nat), .int .u8 0, .int .u32 (rc : Nat), .int .u32 (vn : Nat), .slice none 0 0, .slice none 0 0] 45) := by rw [hW2, hb9]; exact ((box1 _ _).block _ (by simp) (fun h => h)).trans Array.getElem?_push_size
 have kx : W2.heap[bx]? = some (.cells #[.int .u32 (xw : Nat), .int .u32 (xo : Nat), .bool xs, .slice go gn gc, .slice (some ⟨vgg, vgo, none⟩) vn vcap] 78) := by rw [hW2, hbx]; exact heap_two w7 _ _
 have BL := hide (show w.heap.size + 4 ≤ b9 ∧ w.heap.size + 4 ≤ bx ∧ b9 ≠ bx ∧ bx < W2.heap.size ∧ b9 < W2.heap.size by have := lt_of_block (unhide A7).b; have := lt_of_block k9; have := lt_of_block kx; omega)
 have K9 := hide k9
 have KX := hide kx
 have A2 := hide ((unhide A7).fr f2)
 have F2 := hide f2
 have HVL := hide (show vgg < w7.heap.size ∧ vgg ≠ b9 from ⟨l6, by omega⟩)
 rw [← hW2, ← hbx, ← hb9]
 clear hW2 hb9 hbx A7 k9 kx f2 l6
 go_loopw [18] (fun kv WA => ∃ (j : Nat) (ho : Option Addr) (hn hc : Nat), j ≤ vn ∧ kv = .int .i64 (j : Nat) ∧ WA.heap[b9]? = some (.cells #[.int .u32 (cl : Nat), .int .u32 (nu : Nat), .int .u8 0, .int .u32 (rc : Nat), .int .u32 (vn : Nat), .slice none 0 0, .slice ho hn hc] 45) ∧ OwS WA W2.heap.size (.slice ho hn hc) ((xV.take j).map fun y : GV => y.v.gsum) ∧ Fr (fun k => k = b9) W2 WA) (fun kv _ => vn - (intOf kv).toNat)
 case atStart =>
  exact ⟨0, none, 0, 0, Nat.zero_le _, rfl, unhide K9, World.ownsRow_nil _ _ _ _, Fr.refl _ _⟩
 case round =>
  rename World => WA
  obtain ⟨j, ho, hn, hc, hj, rfl, e9, hown, hfr⟩ := hrel
  have ex := (hfr.block bx (unhide BL).2.2.2.1 (fun e => (unhide BL).2.2.1 e.symm)).trans (unhide KX)
  by_cases hlt : j < vn
  ·have hlt2 : j < xV.length := by rw [(unhide HYY).1]; exact hlt
   obtain ⟨P, hPe⟩ : ∃ P, xV[j] = P := ⟨_, rfl⟩
   have hPe2 : xV[j]? = some P := by rw [List.getElem?_eq_getElem hlt2, hPe]
   have hat := vgc_at xV j P hPe2
   have hmem := List.mem_of_getElem? hPe2
   have hF1 := (unhide HYY).2.2.2 P hmem
   obtain ⟨fa, fb, hfv⟩ := ((unhide HGX).f P hmem).form
   have f2A := ((unhide F2).mono (fun _ _ h => h.elim)).trans hfr (fun _ _ h => h)
   have d0 := (f2A.cell (p := ⟨vgg, vgo + (j * 4), none⟩) (unhide HVL).1 (unhide HVL).2).trans ((unhide HVC) (j * 4) _ (by have := hat 0 (by omega); simpa [GV.cs] using this))
   have d1 := (f2A.cell (p := ⟨vgg, vgo + (j * 4 + 1), none⟩) (unhide HVL).1 (unhide HVL).2).trans ((unhide HVC) (j * 4 + 1) _ (by have := hat 1 (by omega); simpa [GV.cs] using this))
   have d2 := (f2A.cell (p := ⟨vgg, vgo + (j * 4 + 2), none⟩) (unhide HVL).1 (unhide HVL).2).trans ((unhide HVC) (j * 4 + 2) _ (by have := hat 2 (by omega); simpa [GV.cs] using this))
   have d3 := (f2A.cell (p := ⟨vgg, vgo + (j * 4 + 3), none⟩) (unhide HVL).1 (unhide HVL).2).trans ((unhide HVC) (j * 4 + 3) _ (by have := hat 3 (by omega); simpa [GV.cs] using this))
   rw [← Nat.add_assoc] at d1 d2 d3
   have hlen : ((xV.take j).map fun y : GV => y.v.gsum).length = j := by simp; omega
   have htk : (xV.take (j + 1)).map (fun y : GV => y.v.gsum) = ((xV.take j).map fun y : GV => y.v.gsum) ++ [P.v.gsum] := by rw [List.take_add_one, hPe2]; simp
   have x4 : WA.cell? ⟨bx, 4, none⟩ = some (.slice (some ⟨vgg, vgo, none⟩) vn vcap) := by simp [World.cell?, ex]
   have a6 : WA.cell? ⟨b9, 6, none⟩ = some (.slice ho hn hc) := by simp [World.cell?, e9]
   have hbl : bx < WA.heap.size := lt_of_block ex
   have h9l : b9 < WA.heap.size := lt_of_block e9
   have hvl : vgg < WA.heap.size := lt_of_cell d0
   have hkl : (j : Int) < (vn : Int) := by omega
   have hgb : vn ≤ 64 := (unhide HYY).2.2.1
   have hl9 : W2.heap.size ≤ WA.heap.size := hfr.size
   have hn9 : ¬ (Value.slice ho hn hc).ownBlock = some b9 := fun e => by have h1 : W2.heap.size ≤ b9 := (hown.lt b9 e).1; have := (unhide BL).2.2.2.2; omega
   obtain ⟨⟨au, ev, F, rd⟩, fv⟩ := P
   simp only at hfv d0 d1 d2 d3 hF1
   subst hfv
   have hwf : IntKind.u32.wrap (F.length : Int) = (F.length : Int) := by rw [IntKind.wrap_u32]; omega
   have hjn : hn = j := by have h1 := hown.1; have h2 := own_formX hown; obtain ⟨_, _, e⟩ := h2; have := (Value.slice.inj e).2.1; omega
   subst hjn
   cases rd
   ·obtain ⟨W5, hW5⟩ : ∃ W5, W5 = ((WA.alloc (.cells #[.int .u32 (au : Nat), .int .u32 (ev : Nat), .slice fa F.length fb, .bool false] 75)).alloc (.cells #[.int .u32 (au : Nat), .int .u32 (ev : Nat), .int .u32 (F.length : Nat), .bool false] 83)).alloc (.cells #[.int .u32 (au : Nat), .int .u32 (ev : Nat), .int .u32 (F.length : Nat), .bool false] 83) := ⟨_, rfl⟩
    have f5 : Fr (fun _ => False) WA W5 := by rw [hW5]; exact ((box1 WA _).alloc _).alloc _
    have e5 : W5.heap[WA.heap.size + 1 + 1]? = some (.cells #[.int .u32 (au : Nat), .int .u32 (ev : Nat), .int .u32 (F.length : Nat), .bool false] 83) := by rw [hW5]; simpa using heap_two (WA.alloc (.cells #[.int .u32 (au : Nat), .int .u32 (ev : Nat), .slice fa F.length fb, .bool false] 75)) (.cells #[.int .u32 (au : Nat), .int .u32 (ev : Nat), .int .u32 (F.length : Nat), .bool false] 83) (.cells #[.int .u32 (au : Nat), .int .u32 (ev : Nat), .int .u32 (F.length : Nat), .bool false] 83)
    have hown5 := ownsRow_of_block hown (fun g hg => f5.block g (hown.lt g hg).2 (fun h => h))
    obtain ⟨ao2, cap2, w2, hr, hown2, hf2⟩ := app_sum W5 W2.heap.size (WA.heap.size + 1 + 1) (.slice ho hn hc) ((xV.take hn).map fun y : GV => y.v.gsum) (VM.gsum ⟨au, ev, F, false⟩) hown5 (by have := f5.size; omega) (by omega) e5
    rw [← htk] at hown2
    rw [hlen] at hr hown2
    have e59 := (f5.block b9 h9l (fun h => h)).trans e9
    have e29 := (hf2.block b9 (lt_of_block e59) hn9).trans e59
    have z6 : w2.frozen? ⟨b9, 6, none⟩ = false := by simp [World.frozen?, e29]
    have y6 : w2.cell? ⟨b9, 6, none⟩ = some (.slice ho hn hc) := by simp [World.cell?, e29]
    have t1 := heap_setCell_same w2 b9 6 _ 45 (.slice ao2 (hn + 1) cap2) e29
    simp only [List.setIfInBounds_toArray, List.set_cons_zero, List.set_cons_succ] at t1
    have g1 := (Fr.refl (fun k => k = b9) w2).setCell (p := ⟨b9, 6, none⟩) (.inl rfl) (.slice ao2 (hn + 1) cap2)
    have r1 := ownsRow_of_block hown2 (fun g hg => g1.block g (hown2.lt g hg).2 (fun e => by have h1 : W2.heap.size ≤ g := (hown2.lt g hg).1; have := (unhide BL).2.2.2.2; omega))
    have hf3 : Fr (fun k => k = b9) W2 (w2.setCell ⟨b9, 6, none⟩ (.slice ao2 (hn + 1) cap2)) := ((hfr.trans (f5.mono (fun _ _ h => h.elim)) (fun _ _ h => h)).trans hf2 (fun k hk hb => by have h1 : W2.heap.size ≤ k := (hown.lt k hb).1; omega)).trans g1 (fun _ _ h => h)
    have HR := hide hr
    have HO := hide (And.intro t1 (And.intro r1 hf3))
    clear hown hown5 hfr hPe hPe2 hr hown2 hf2 hf3 hlen htk ex e9 e59 e29 e5 f5 t1 g1 r1 hlt2 hat hmem f2A hn9 hl9
    go_wp2_with (at_builtin; (try rw [← hW5]); refine wpList_app rfl (.tmp 310) (.tmp 312) 43 43 rfl _ _ _ rfl rfl (unhide HR) ?_)
    go_roundw
    case rel => exact ⟨hn + 1, ao2, hn + 1, cap2, hlt, by go_num, (unhide HO).1, (unhide HO).2.1, (unhide HO).2.2⟩
    case measure => simp [intOf]; omega
   ·obtain ⟨W5, hW5⟩ : ∃ W5, W5 = ((WA.alloc (.cells #[.int .u32 (au : Nat), .int .u32 (ev : Nat), .slice fa F.length fb, .bool true] 75)).alloc (.cells #[.int .u32 (au : Nat), .int .u32 (ev : Nat), .int .u32 0, .bool true] 83)).alloc (.cells #[.int .u32 (au : Nat), .int .u32 (ev : Nat), .int .u32 0, .bool true] 83) := ⟨_, rfl⟩
    have f5 : Fr (fun _ => False) WA W5 := by rw [hW5]; exact ((box1 WA _).alloc _).alloc _
    have e5 : W5.heap[WA.heap.size + 1 + 1]? = some (.cells #[.int .u32 (au : Nat), .int .u32 (ev : Nat), .int .u32 0, .bool true] 83) := by rw [hW5]; simpa using heap_two (WA.alloc (.cells #[.int .u32 (au : Nat), .int .u32 (ev : Nat), .slice fa F.length fb, .bool true] 75)) (.cells #[.int .u32 (au : Nat), .int .u32 (ev : Nat), .int .u32 0, .bool true] 83) (.cells #[.int .u32 (au : Nat), .int .u32 (ev : Nat), .int .u32 0, .bool true] 83)
    have hown5 := ownsRow_of_block hown (fun g hg => f5.block g (hown.lt g hg).2 (fun h => h))
    obtain ⟨ao2, cap2, w2, hr, hown2, hf2⟩ := app_sum W5 W2.heap.size (WA.heap.size + 1 + 1) (.slice ho hn hc) ((xV.take hn).map fun y : GV => y.v.gsum) (VM.gsum ⟨au, ev, F, true⟩) hown5 (by have := f5.size; omega) (by omega) e5
    rw [← htk] at hown2
    rw [hlen] at hr hown2
    have e59 := (f5.block b9 h9l (fun h => h)).trans e9
    have e29 := (hf2.block b9 (lt_of_block e59) hn9).trans e59
    have z6 : w2.frozen? ⟨b9, 6, none⟩ = false := by simp [World.frozen?, e29]
    have y6 : w2.cell? ⟨b9, 6, none⟩ = some (.slice ho hn hc) := by simp [World.cell?, e29]
    have t1 := heap_setCell_same w2 b9 6 _ 45 (.slice ao2 (hn + 1) cap2) e29
    simp only [List.setIfInBounds_toArray, List.set_cons_zero, List.set_cons_succ] at t1
    have g1 := (Fr.refl (fun k => k = b9) w2).setCell (p := ⟨b9, 6, none⟩) (.inl rfl) (.slice ao2 (hn + 1) cap2)
    have r1 := ownsRow_of_block hown2 (fun g hg => g1.block g (hown2.lt g hg).2 (fun e => by have h1 : W2.heap.size ≤ g := (hown2.lt g hg).1; have := (unhide BL).2.2.2.2; omega))
    have hf3 : Fr (fun k => k = b9) W2 (w2.setCell ⟨b9, 6, none⟩ (.slice ao2 (hn + 1) cap2)) := ((hfr.trans (f5.mono (fun _ _ h => h.elim)) (fun _ _ h => h)).trans hf2 (fun k hk hb => by have h1 : W2.heap.size ≤ k := (hown.lt k hb).1; omega)).trans g1 (fun _ _ h => h)
    have HR := hide hr
    have HO := hide (And.intro t1 (And.intro r1 hf3))
    clear hown hown5 hfr hPe hPe2 hr hown2 hf2 hf3 hlen htk ex e9 e59 e29 e5 f5 t1 g1 r1 hlt2 hat hmem f2A hn9 hl9
    go_wp2_with (at_builtin; (try rw [← hW5]); refine wpList_app rfl (.tmp 310) (.tmp 312) 43 43 rfl _ _ _ rfl rfl (unhide HR) ?_)
    go_roundw
    case rel => exact ⟨hn + 1, ao2, hn + 1, cap2, hlt, by go_num, (unhide HO).1, (unhide HO).2.1, (unhide HO).2.2⟩
    case measure => simp [intOf]; omega
  ·obtain rfl : j = vn := by omega
   have hkl : ¬ (j : Int) < (j : Int) := by omega
   rw [← (unhide HYY).1, List.take_length] at hown
   have A8 : Hid (AB w WA (.slice so sn sc) (.slice (some ⟨rg, rr, none⟩) rn rcap) #[.int .u32 (cl : Nat), .int .u32 (nu : Nat), .int .u32 (ac : Nat), .int .u8 (op : Nat), .int .u32 (rc : Nat), .int .u32 (ve : Nat), .int .u32 (wa : Nat), .int .u32 (ow : Nat), .slice fo fn fc, .string rs] #[.slice none 0 0, .slice none 0 0] #[.int .u32 0, .int .u32 0, .int .u8 0, .int .u32 0, .int .u32 0, .slice none 0 0, .slice none 0 0] ∧ WA.heap[b9]? = some (.cells #[.int .u32 (cl : Nat), .int .u32 (nu : Nat), .int .u8 0, .int .u32 (rc : Nat), .int .u32 (j : Nat), .slice none 0 0, .slice ho hn hc] 45) ∧ WA.heap[bx]? = some (.cells #[.int .u32 (xw : Nat), .int .u32 (xo : Nat), .bool xs, .slice go gn gc, .slice (some ⟨vgg, vgo, none⟩) j vcap] 78)) := ⟨(unhide A2).frS hfr (fun k hk => by have := unhide BL; omega), e9, ex⟩
   have HNV := hide (And.intro hown (show w.heap.size + 4 ≤ W2.heap.size by have := (unhide BL); omega))
   have HX1 : Hid (GC.one (⟨xw, xo, xs, xG, xV, .slice go gn gc, .slice (some ⟨vgg, vgo, none⟩) j vcap⟩ : GC)) := ⟨rfl, rfl⟩
   clear hown hfr ex e9 A2 K9 KX F2 HVC HVL
   go_wp2_with fail
   clear hkl hlt
   refine wp_region_noPanic ?_
   refine wp_region_held_drew (S := S74W w so sn sc (some ⟨rg, rr, none⟩) rn rcap cl nu ac op rc ve wa ow fo fn fc rs b9 (.int .u32 (cl : Nat)) (.int .u32 (nu : Nat)) (.int .u8 0) (.int .u32 (rc : Nat)) (.int .u32 (j : Nat)) (.slice none 0 0) (.slice ho hn hc) bx (.int .u32 (xw : Nat)) (.int .u32 (xo : Nat)) (.bool xs) (.slice go gn gc) (.slice (some ⟨vgg, vgo, none⟩) j vcap)) (by kernel_rfl) (((unhide A8).1.fr (Fr.refl _ _).drew).s74 (unhide A8).2.1 (unhide A8).2.2) (fun hHeld => ?_)
   refine wtk (i := 0) (v := ?_) rfl (Or.inl ⟨by rfl, ?_⟩) hHeld ?_
   rotate_left
   ·intro w hSw; dsimp only [S74W, S12W] at hSw; go_simp; (try with_reducible rfl)
   (try simp only [Act.put, nrm])
   refine wtk (i := 1) (v := ?_) rfl (Or.inl ⟨by rfl, ?_⟩) hHeld ?_
   rotate_left
   ·intro w hSw; dsimp only [S74W, S12W] at hSw; go_simp; (try with_reducible rfl)
   (try simp only [Act.put, nrm])
   refine wtk (i := 2) (v := ?_) rfl (Or.inl ⟨by rfl, ?_⟩) hHeld ?_
   rotate_left
   ·intro w hSw; dsimp only [S74W, S12W] at hSw; go_simp; (try with_reducible rfl)
   (try simp only [Act.put, nrm])
   refine wtk (i := 4) (v := ?_) rfl (Or.inl ⟨by rfl, ?_⟩) hHeld ?_
   rotate_left
   ·intro w hSw; dsimp only [S74W, S12W] at hSw; go_simp; (try with_reducible rfl)
   (try simp only [Act.put, nrm])
   refine wpAnyH_ready (rs := [3]) (by kernel_rfl) (by simp) (AllReadyH.cons rfl (fun K hK => ?_) (AllReadyH.nil))
   go_simp
   have HP := hide (gput_any so sn sc (.slice (some ⟨rg, rr, none⟩) rn rcap) L i (⟨xw, xo, xs, xG, xV, .slice go gn gc, .slice (some ⟨vgg, vgo, none⟩) j vcap⟩ : GC) WA.drew ((unhide HG).1.fr ((unhide A8).1.f.trans (Fr.refl _ _).drew (fun _ _ h => h))).r (unhide HG).2.1 (unhide HX1) (by have := (unhide HG).2.2; omega) (by have := (unhide HG).2.2; omega))
   refine (unhide HP).mono ?_
   rintro e w9 ⟨v, rfl, hov, f9⟩
   rw [show putL L i (⟨xw, xo, xs, xG, xV, .slice go gn gc, .slice (some ⟨vgg, vgo, none⟩) j vcap⟩ : GC) = L.set i (⟨xw, xo, xs, xG, xV, .slice go gn gc, .slice (some ⟨vgg, vgo, none⟩) j vcap⟩ : GC) from if_neg (by have := (unhide HG).2.2; omega)] at hov
   obtain ⟨vo, vc, rfl⟩ := own_formX hov
   have hfA9 : Fr (fun _ => False) WA w9 := (Fr.refl (fun _ => False) WA).drew.trans f9 (fun _ _ h => h)
   have B2 := hide ((unhide A8).1.fr hfA9)
   have K2 := hide ((hfA9.block b9 (lt_of_block (unhide A8).2.1) (fun h => h)).trans (unhide A8).2.1)
   have X2 := hide ((hfA9.block bx (lt_of_block (unhide A8).2.2) (fun h => h)).trans (unhide A8).2.2)
   have HOV := hide (And.intro hov hfA9)
   have HZ := hide (show w.heap.size + 4 ≤ WA.heap.size by have := lt_of_block (unhide A8).1.b; omega)
   clear hov f9 HP hfA9
   go_simp
   refine hK.out _ _ ((unhide B2).s74 (unhide K2) (unhide X2)) (fun hHeld => ?_)
   clear hK K
   (try simp only [Act.put, nrm])
   refine wpAnyH_ready (rs := [5]) (by kernel_rfl) (by simp) (AllReadyH.cons rfl (fun K hK => ?_) (AllReadyH.nil))
   obtain ⟨W10, st10, a10, fa10⟩ := (unhide B2).putA (.slice so sn sc) (.slice vo (L.set i (⟨xw, xo, xs, xG, xV, .slice go gn gc, .slice (some ⟨vgg, vgo, none⟩) j vcap⟩ : GC)).length vc) (fun u hu => by simp at hu; rcases hu with rfl | rfl <;> rfl)
   have H10 := hide st10
   have B3 := hide (And.intro a10 fa10)
   have K3 := hide ((fa10.block b9 (lt_of_block (unhide K2)) (fun e => by have := (unhide BL); omega)).trans (unhide K2))
   have X3 := hide ((fa10.block bx (lt_of_block (unhide X2)) (fun e => by have := (unhide BL); omega)).trans (unhide X2))
   clear st10 a10 fa10
   refine step_stN rfl 36 (.tmp 6) (.tmp 327) rfl _ _ (by simp [Act.eval]) (by simp [Act.eval]) (unhide H10) ?_
   refine hK.out _ _ ((unhide B3).1.s74 (unhide K3) (unhide X3)) (fun hHeld => ?_)
   clear hK K
   (try simp only [Act.put])
   refine wpAnyH_ready (rs := [6]) (by kernel_rfl) (by simp) (AllReadyH.cons rfl (fun K hK => ?_) (AllReadyH.nil))
   obtain ⟨W11, st11, a11, fa11⟩ := (unhide B3).1.putB (.int .u32 (cl : Nat)) (.int .u32 (nu : Nat)) (.int .u8 0) (.int .u32 (rc : Nat)) (.int .u32 (j : Nat)) (.slice none 0 0) (.slice ho hn hc) (fun u hu => by simp at hu; rcases hu with rfl | rfl | rfl | rfl | rfl | rfl | rfl <;> rfl)
   have H11 := hide st11
   have B4 := hide (And.intro a11 fa11)
   have K4 := hide ((fa11.block b9 (lt_of_block (unhide K3)) (fun e => by have := (unhide BL); omega)).trans (unhide K3))
   have X4 := hide ((fa11.block bx (lt_of_block (unhide X3)) (fun e => by have := (unhide BL); omega)).trans (unhide X3))
   clear st11 a11 fa11
   refine step_stN rfl 45 (.tmp 7) (.tmp 328) rfl _ _ (by simp [Act.eval]) (by simp [Act.eval]) (unhide H11) ?_
   refine hK.out _ _ ((unhide B4).1.s74 (unhide K4) (unhide X4)) (fun hHeld => ?_)
   clear hK K
   (try simp only [Act.put])
   refine wpAnyH_done (by kernel_rfl) ?_ _
   refine NoPanic.normal ?_
   go_wp2_with fail
   refine bodyPost_ret (results_cells2 rfl _ _ (w.heap.size + 2) (w.heap.size + 3) [.slice so sn sc, .slice vo (L.set i (⟨xw, xo, xs, xG, xV, .slice go gn gc, .slice (some ⟨vgg, vgo, none⟩) j vcap⟩ : GC)).length vc] [.int .u32 (cl : Nat), .int .u32 (nu : Nat), .int .u8 0, .int .u32 (rc : Nat), .int .u32 (j : Nat), .slice none 0 0, .slice ho hn hc] _ _ rfl rfl (unhide B4).1.range.1 (unhide B4).1.range.2 Tryz.underlying36 rfl (by kernel_rfl) Tryz.underlying45 rfl (by kernel_rfl)) rfl ?_
   have hfw := (unhide B4).1.f
   have hfe : Fr (fun k => k = w.heap.size + 2 ∨ k = w.heap.size + 3) WA W11 := (((unhide HOV).2.mono (fun _ _ h => h.elim)).trans ((unhide B3).2.mono (fun _ _ h => .inl h)) (fun _ _ h => h)).trans ((unhide B4).2.mono (fun _ _ h => .inr h)) (fun _ _ h => h)
   have hown := ownsRow_of_block (ownsRow_of_block (unhide HOV).1 (fun g hg => (unhide B3).2.block g ((unhide HOV).1.lt g hg).2 (fun e => by have h1 : WA.heap.size ≤ g := ((unhide HOV).1.lt g hg).1; have := unhide HZ; omega))) (fun g hg => (unhide B4).2.block g (Nat.lt_of_lt_of_le ((unhide HOV).1.lt g hg).2 (unhide B3).2.size) (fun e => by have h1 : WA.heap.size ≤ g := ((unhide HOV).1.lt g hg).1; have := unhide HZ; omega))
   refine ⟨_, _, _, _, rfl, ownsRow_base (ownsRow_of_block (unhide HNV).1 (fun g hg => hfe.block g ((unhide HNV).1.lt g hg).2 (fun e => by have h1 : W2.heap.size ≤ g := ((unhide HNV).1.lt g hg).1; have := (unhide HNV).2; omega))) (by have := (unhide HNV).2; omega), ⟨(unhide HG).1.s.fr hfw, fun k hk => .inl ((unhide HG).1.sb k hk), own_rd hown, fun k hk => .inr (by have h1 : WA.heap.size ≤ k := (own_blkX hown hk).1; have := unhide HZ; omega), fun y hy => ?_⟩, hfw⟩
   rcases List.mem_or_eq_of_mem_set hy with hy | rfl
   ·exact (((unhide HG).1.c y hy).frS hfw (fun _ h => h.elim)).mono (fun k hk => .inl hk)
   ·exact ((unhide HGX).frS hfw (fun _ h => h.elim)).mono (fun k hk => .inl hk)
set_option maxHeartbeats 4000000 in
set_option maxRecDepth 100000 in
theorem gapply_seal (so : Option Addr) (sn sc : Nat) (rg rr rn rcap : Nat) (cl nu ac op rc ve wa ow : Nat) (fo : Option Addr) (fn fc : Nat) (rs : ByteArray) (place : Nat) (w : World) (HFo : Hid (FoH w cl nu ac op rc ve wa ow fo fn fc rs true)) (z : Int) (HFd : Hid (FdH w so sn sc ac z)) (hz : ¬ z < 0) (jc : Nat) (HJd : Hid (JdH w so sn sc (some ⟨rg, rr, none⟩) rn rcap cl nu ac op rc ve wa ow fo fn fc rs jc)) (hj : jc = 0) (ho : op = 6) (i xw xo : Nat) (xs : Bool) (xG : List Nat) (xV : List GV) (go : Option Addr) (gn gc : Nat) (vg : Option Addr) (vn vcap : Nat) (hrc : rc = i + 1) (hrn : rn ≤ 256) (hve : ve < 4294967296) (S : List P3) (L : List GC) (T : Nat → Prop) (hst : GSt w T (.slice so sn sc) (.slice (some ⟨rg, rr, none⟩) rn rcap) S L) (hx : L[i]? = some ⟨xw, xo, xs, xG, xV, .slice go gn gc, .slice vg vn vcap⟩) (hone : ∀ y ∈ L, y.one) :
  Calls Tryz.prog 12 #[.agg #[.slice so sn sc, .slice (some ⟨rg, rr, none⟩) rn rcap], .agg #[.int .u32 (cl : Nat), .int .u32 (nu : Nat), .int .u32 (ac : Nat), .int .u8 (op : Nat), .int .u32 (rc : Nat), .int .u32 (ve : Nat), .int .u32 (wa : Nat), .int .u32 (ow : Nat), .slice fo fn fc, .string rs], .int .u32 (place : Nat)] w fun e w' => ∃ v, e = .returned (.tuple #[.agg #[.slice so sn sc, v], .agg #[.int .u32 (cl : Nat), .int .u32 (nu : Nat), .int .u8 0, .int .u32 (rc : Nat), .int .u32 0, .slice none 0 0, .slice none 0 0]]) ∧ GSt w' (fun k => T k ∨ w.heap.size ≤ k) (.slice so sn sc) v S (L.set i (⟨xw, xo, ((ve : Int) == 1), [], xV, .slice none 0 0, .slice vg vn vcap⟩ : GC)) ∧ Fr (fun _ => False) w w' := by
 have o1 : ((op : Int) != 1) = true := by rw [bne_iff_ne]; omega
 have o61 : ((op : Int) == 1) = false := by rw [beq_eq_false_iff_ne]; omega
 have o62 : ((op : Int) == 2) = false := by rw [beq_eq_false_iff_ne]; omega
 have o63 : ((op : Int) == 3) = false := by rw [beq_eq_false_iff_ne]; omega
 have o64 : ((op : Int) == 4) = false := by rw [beq_eq_false_iff_ne]; omega
 have o65 : ((op : Int) == 5) = false := by rw [beq_eq_false_iff_ne]; omega
 have o66 : ((op : Int) == 6) = true := by rw [beq_iff_eq]; omega
 have o67 : ((op : Int) == 7) = false := by rw [beq_eq_false_iff_ne]; omega
 have z1 : decide (z < 0) = false := decide_eq_false (by omega)
 have z2 : ¬ z < 0 := by omega
 have j1 : ((jc : Int) != 0) = false := by rw [bne_eq_false_iff_eq]; omega
 have hln : L.length = rn := by
  obtain ⟨_, _, e⟩ := hst.r.form
  cases e
  rfl
 have hil : i < rn := by rw [← hln]; exact (List.getElem?_eq_some_iff.1 hx).1
 have r1 : ((rc : Int) == 0) = false := by rw [beq_eq_false_iff_ne]; omega
 have r2 : IntKind.i64.wrap (rc : Int) = (rc : Int) := by rw [IntKind.wrap_i64]; omega
 have r3 : ¬ rn < rc := by omega
 have r4 : ¬ (rn : Int) < (rc : Int) := by omega
 have r5 : (rc : Int) - 1 = (i : Int) := by omega
 have r6 : IntKind.i64.wrap (i : Int) = (i : Int) := by rw [IntKind.wrap_i64]; omega
 have r7 : (i : Int) < (rn : Int) := by omega
 have v1 : IntKind.i64.wrap (ve : Int) = (ve : Int) := by have := hve; rw [IntKind.wrap_i64]; omega
 have hat := cgc_at L i _ hx
 obtain ⟨_, _, e0, hcr⟩ := hst.r.at_ (by omega)
 cases e0
 have c0 := hcr (i * 5) _ (by have := hat 0 (by omega); simpa [GC.cs] using this)
 have c1 := hcr (i * 5 + 1) _ (by have := hat 1 (by omega); simpa [GC.cs] using this)
 have c2 := hcr (i * 5 + 2) _ (by have := hat 2 (by omega); simpa [GC.cs] using this)
 have c3 := hcr (i * 5 + 3) _ (by have := hat 3 (by omega); simpa [GC.cs] using this)
 have c4 := hcr (i * 5 + 4) _ (by have := hat 4 (by omega); simpa [GC.cs] using this)
 rw [← Nat.add_assoc] at c1 c2 c3 c4
 have hrgl : rg < w.heap.size := lt_of_cell c0
 have HC5 := hide (And.intro c0 (And.intro c1 (And.intro c2 (And.intro c3 c4))))
 have HG := hide (And.intro hst (And.intro hone (show L.length = rn ∧ i < rn ∧ rn ≤ 256 from ⟨hln, hil, hrn⟩)))
 have HGX := hide (hst.c _ (List.mem_of_getElem? hx))
 have HVE := hide hve
 clear  hone ho hz hj hst hx hrc hrn hve hln hil hat hcr c0 c1 c2 c3 c4
 obtain ⟨W4, hW4, a4⟩ := ab_new w so sn sc (some ⟨rg, rr, none⟩) rn rcap cl nu ac op rc ve wa ow fo fn fc rs
 have A4 := hide a4
 clear a4
 have HRf := hide (fun (co : Nat) W => grefused_any cl nu ac op rc ve wa ow co fo fn fc rs W)
 go_enter Tryz.func12, Tryz.ntmps12
 go_wp2_with fail
 rw [← hW4]
 clear hW4
 refine ((unhide HFo) _ (unhide A4).f).mono ?_
 rintro e w5 ⟨rfl, hf5⟩
 have A5 := hide ((unhide A4).fr hf5)
 clear hf5 A4
 obtain ⟨⟨p0, p1⟩, q0, q1, q2, q3, q4, q5, q6, q7, q8, q9⟩ := (unhide A5).s12
 go_wp2_with fail
 refine ((unhide HFd) _ (unhide A5).f).mono ?_
 rintro e w6 ⟨rfl, hw6⟩
 obtain rfl := hw6.symm
 clear hw6
 clear p0 p1 q0 q1 q2 q3 q4 q5 q6 q7 q8 q9
 obtain ⟨⟨p0, p1⟩, q0, q1, q2, q3, q4, q5, q6, q7, q8, q9⟩ := (unhide A5).s12
 go_wp2_with fail
 refine ((unhide HJd) _ (unhide A5).f).mono ?_
 rintro e w7 ⟨rfl, f7⟩
 have A7 := hide ((unhide A5).fr f7)
 clear f7 A5
 obtain ⟨⟨p0, p1⟩, q0, q1, q2, q3, q4, q5, q6, q7, q8, q9⟩ := (unhide A7).s12
 have l0 := lt_of_block (unhide A7).s
 have l1 := lt_of_block (unhide A7).r
 have f7 := (unhide A7).f
 have c0 := (f7.cell (p := ⟨rg, rr + i * 5, none⟩) hrgl (fun h => h)).trans (unhide HC5).1
 have c1 := (f7.cell (p := ⟨rg, rr + i * 5 + 1, none⟩) hrgl (fun h => h)).trans (unhide HC5).2.1
 have c2 := (f7.cell (p := ⟨rg, rr + i * 5 + 2, none⟩) hrgl (fun h => h)).trans (unhide HC5).2.2.1
 have c3 := (f7.cell (p := ⟨rg, rr + i * 5 + 3, none⟩) hrgl (fun h => h)).trans (unhide HC5).2.2.2.1
 have c4 := (f7.cell (p := ⟨rg, rr + i * 5 + 4, none⟩) hrgl (fun h => h)).trans (unhide HC5).2.2.2.2
 have l5 : rg < w7.heap.size := Nat.lt_of_lt_of_le hrgl f7.size
 clear f7
 have HX1 : Hid (GC.one (⟨xw, xo, ((ve : Int) == 1), [], xV, .slice none 0 0, .slice vg vn vcap⟩ : GC)) := ⟨rfl, rfl⟩
 go_wp2_with fail
 clear p0 p1 q0 q1 q2 q3 q4 q5 q6 q7 q8 q9 l0 l1 c0 c1 c2 c3 c4 l5 HRf
 obtain ⟨b9, hb9⟩ : ∃ b9, b9 = w7.heap.size := ⟨_, rfl⟩
 obtain ⟨bx, hbx⟩ : ∃ bx, bx = w7.heap.size + 1 := ⟨_, rfl⟩
 obtain ⟨WA, hWA⟩ : ∃ WA, WA = (w7.alloc (.cells #[.int .u32 (cl : Nat), .int .u32 (nu : Nat), .int .u8 0, .int .u32 (rc : Nat), .int .u32 0, .slice none 0 0, .slice none 0 0] 45)).alloc (.cells #[.int .u32 (xw : Nat), .int .u32 (xo : Nat), .bool ((ve : Int) == 1), .slice none 0 0, .slice vg vn vcap] 78) := ⟨_, rfl⟩
 have A8 : Hid (AB w WA (.slice so sn sc) (.slice (some ⟨rg, rr, none⟩) rn rcap) #[.int .u32 (cl : Nat), .int .u32 (nu : Nat), .int .u32 (ac : Nat), .int .u8 (op : Nat), .int .u32 (rc : Nat), .int .u32 (ve : Nat), .int .u32 (wa : Nat), .int .u32 (ow : Nat), .slice fo fn fc, .string rs] #[.slice none 0 0, .slice none 0 0] #[.int .u32 0, .int .u32 0, .int .u8 0, .int .u32 0, .int .u32 0, .slice none 0 0, .slice none 0 0] ∧ WA.heap[b9]? = some (.cells #[.int .u32 (cl : Nat), .int .u32 (nu : Nat), .int .u8 0, .int .u32 (rc : Nat), .int .u32 0, .slice none 0 0, .slice none 0 0] 45) ∧ WA.heap[bx]? = some (.cells #[.int .u32 (xw : Nat), .int .u32 (xo : Nat), .bool ((ve : Int) == 1), .slice none 0 0, .slice vg vn vcap] 78)) := ⟨by rw [hWA]; exact (unhide A7).fr ((box1 w7 _).alloc _), by rw [hWA, hb9]; exact ((box1 _ _).block _ (by simp) (fun h => h)).trans Array.getElem?_push_size, by rw [hWA, hbx]; exact heap_two w7 _ _⟩
 have BL := hide (show w.heap.size + 4 ≤ b9 ∧ w.heap.size + 4 ≤ bx by have := lt_of_block (unhide A7).b; omega)
 rw [← hWA, ← hbx, ← hb9]
 clear hWA hb9 hbx A7
 refine wp_region_noPanic ?_
 refine wp_region_held_drew (S := S74W w so sn sc (some ⟨rg, rr, none⟩) rn rcap cl nu ac op rc ve wa ow fo fn fc rs b9 (.int .u32 (cl : Nat)) (.int .u32 (nu : Nat)) (.int .u8 0) (.int .u32 (rc : Nat)) (.int .u32 0) (.slice none 0 0) (.slice none 0 0) bx (.int .u32 (xw : Nat)) (.int .u32 (xo : Nat)) (.bool ((ve : Int) == 1)) (.slice none 0 0) (.slice vg vn vcap)) (by kernel_rfl) (((unhide A8).1.fr (Fr.refl _ _).drew).s74 (unhide A8).2.1 (unhide A8).2.2) (fun hHeld => ?_)
 refine wtk (i := 0) (v := ?_) rfl (Or.inl ⟨by rfl, ?_⟩) hHeld ?_
 rotate_left
 ·intro w hSw; dsimp only [S74W, S12W] at hSw; go_simp; (try with_reducible rfl)
 (try simp only [Act.put, nrm])
 refine wtk (i := 1) (v := ?_) rfl (Or.inl ⟨by rfl, ?_⟩) hHeld ?_
 rotate_left
 ·intro w hSw; dsimp only [S74W, S12W] at hSw; go_simp; (try with_reducible rfl)
 (try simp only [Act.put, nrm])
 refine wtk (i := 2) (v := ?_) rfl (Or.inl ⟨by rfl, ?_⟩) hHeld ?_
 rotate_left
 ·intro w hSw; dsimp only [S74W, S12W] at hSw; go_simp; (try with_reducible rfl)
 (try simp only [Act.put, nrm])
 refine wtk (i := 4) (v := ?_) rfl (Or.inl ⟨by rfl, ?_⟩) hHeld ?_
 rotate_left
 ·intro w hSw; dsimp only [S74W, S12W] at hSw; go_simp; (try with_reducible rfl)
 (try simp only [Act.put, nrm])
 refine wpAnyH_ready (rs := [3]) (by kernel_rfl) (by simp) (AllReadyH.cons rfl (fun K hK => ?_) (AllReadyH.nil))
 go_simp
 have HP := hide (gput_any so sn sc (.slice (some ⟨rg, rr, none⟩) rn rcap) L i (⟨xw, xo, ((ve : Int) == 1), [], xV, .slice none 0 0, .slice vg vn vcap⟩ : GC) WA.drew ((unhide HG).1.fr ((unhide A8).1.f.trans (Fr.refl _ _).drew (fun _ _ h => h))).r (unhide HG).2.1 (unhide HX1) (by have := (unhide HG).2.2; omega) (by have := (unhide HG).2.2; omega))
 refine (unhide HP).mono ?_
 rintro e w9 ⟨v, rfl, hov, f9⟩
 rw [show putL L i (⟨xw, xo, ((ve : Int) == 1), [], xV, .slice none 0 0, .slice vg vn vcap⟩ : GC) = L.set i (⟨xw, xo, ((ve : Int) == 1), [], xV, .slice none 0 0, .slice vg vn vcap⟩ : GC) from if_neg (by have := (unhide HG).2.2; omega)] at hov
 obtain ⟨vo, vc, rfl⟩ := own_formX hov
 have hfA9 : Fr (fun _ => False) WA w9 := (Fr.refl (fun _ => False) WA).drew.trans f9 (fun _ _ h => h)
 have B2 := hide ((unhide A8).1.fr hfA9)
 have K2 := hide ((hfA9.block b9 (lt_of_block (unhide A8).2.1) (fun h => h)).trans (unhide A8).2.1)
 have X2 := hide ((hfA9.block bx (lt_of_block (unhide A8).2.2) (fun h => h)).trans (unhide A8).2.2)
 have HOV := hide (And.intro hov hfA9)
 have HZ := hide (show w.heap.size + 4 ≤ WA.heap.size by have := lt_of_block (unhide A8).1.b; omega)
 clear hov f9 HP hfA9
 go_simp
 refine hK.out _ _ ((unhide B2).s74 (unhide K2) (unhide X2)) (fun hHeld => ?_)
 clear hK K
 (try simp only [Act.put, nrm])
 refine wpAnyH_ready (rs := [5]) (by kernel_rfl) (by simp) (AllReadyH.cons rfl (fun K hK => ?_) (AllReadyH.nil))
 obtain ⟨W10, st10, a10, fa10⟩ := (unhide B2).putA (.slice so sn sc) (.slice vo (L.set i (⟨xw, xo, ((ve : Int) == 1), [], xV, .slice none 0 0, .slice vg vn vcap⟩ : GC)).length vc) (fun u hu => by simp at hu; rcases hu with rfl | rfl <;> rfl)
 have H10 := hide st10
 have B3 := hide (And.intro a10 fa10)
 have K3 := hide ((fa10.block b9 (lt_of_block (unhide K2)) (fun e => by have := (unhide BL); omega)).trans (unhide K2))
 have X3 := hide ((fa10.block bx (lt_of_block (unhide X2)) (fun e => by have := (unhide BL); omega)).trans (unhide X2))
 clear st10 a10 fa10
 refine step_stN rfl 36 (.tmp 6) (.tmp 327) rfl _ _ (by simp [Act.eval]) (by simp [Act.eval]) (unhide H10) ?_
 refine hK.out _ _ ((unhide B3).1.s74 (unhide K3) (unhide X3)) (fun hHeld => ?_)
 clear hK K
 (try simp only [Act.put])
 refine wpAnyH_ready (rs := [6]) (by kernel_rfl) (by simp) (AllReadyH.cons rfl (fun K hK => ?_) (AllReadyH.nil))
 obtain ⟨W11, st11, a11, fa11⟩ := (unhide B3).1.putB (.int .u32 (cl : Nat)) (.int .u32 (nu : Nat)) (.int .u8 0) (.int .u32 (rc : Nat)) (.int .u32 0) (.slice none 0 0) (.slice none 0 0) (fun u hu => by simp at hu; rcases hu with rfl | rfl | rfl | rfl | rfl | rfl | rfl <;> rfl)
 have H11 := hide st11
 have B4 := hide (And.intro a11 fa11)
 have K4 := hide ((fa11.block b9 (lt_of_block (unhide K3)) (fun e => by have := (unhide BL); omega)).trans (unhide K3))
 have X4 := hide ((fa11.block bx (lt_of_block (unhide X3)) (fun e => by have := (unhide BL); omega)).trans (unhide X3))
 clear st11 a11 fa11
 refine step_stN rfl 45 (.tmp 7) (.tmp 328) rfl _ _ (by simp [Act.eval]) (by simp [Act.eval]) (unhide H11) ?_
 refine hK.out _ _ ((unhide B4).1.s74 (unhide K4) (unhide X4)) (fun hHeld => ?_)
 clear hK K
 (try simp only [Act.put])
 refine wpAnyH_done (by kernel_rfl) ?_ _
 refine NoPanic.normal ?_
 go_wp2_with fail
 refine bodyPost_ret (results_cells2 rfl _ _ (w.heap.size + 2) (w.heap.size + 3) [.slice so sn sc, .slice vo (L.set i (⟨xw, xo, ((ve : Int) == 1), [], xV, .slice none 0 0, .slice vg vn vcap⟩ : GC)).length vc] [.int .u32 (cl : Nat), .int .u32 (nu : Nat), .int .u8 0, .int .u32 (rc : Nat), .int .u32 0, .slice none 0 0, .slice none 0 0] _ _ rfl rfl (unhide B4).1.range.1 (unhide B4).1.range.2 Tryz.underlying36 rfl (by kernel_rfl) Tryz.underlying45 rfl (by kernel_rfl)) rfl ?_
 have hfw := (unhide B4).1.f
 have hfe : Fr (fun k => k = w.heap.size + 2 ∨ k = w.heap.size + 3) WA W11 := (((unhide HOV).2.mono (fun _ _ h => h.elim)).trans ((unhide B3).2.mono (fun _ _ h => .inl h)) (fun _ _ h => h)).trans ((unhide B4).2.mono (fun _ _ h => .inr h)) (fun _ _ h => h)
 have hown := ownsRow_of_block (ownsRow_of_block (unhide HOV).1 (fun g hg => (unhide B3).2.block g ((unhide HOV).1.lt g hg).2 (fun e => by have h1 : WA.heap.size ≤ g := ((unhide HOV).1.lt g hg).1; have := unhide HZ; omega))) (fun g hg => (unhide B4).2.block g (Nat.lt_of_lt_of_le ((unhide HOV).1.lt g hg).2 (unhide B3).2.size) (fun e => by have h1 : WA.heap.size ≤ g := ((unhide HOV).1.lt g hg).1; have := unhide HZ; omega))
 refine ⟨_, rfl, ⟨(unhide HG).1.s.fr hfw, fun k hk => .inl ((unhide HG).1.sb k hk), own_rd hown, fun k hk => .inr (by have h1 : WA.heap.size ≤ k := (own_blkX hown hk).1; have := unhide HZ; omega), fun y hy => ?_⟩, hfw⟩
 rcases List.mem_or_eq_of_mem_set hy with hy | rfl
 ·exact (((unhide HG).1.c y hy).frS hfw (fun _ h => h.elim)).mono (fun k hk => .inl hk)
 ·have hgx := ((unhide HGX).frS hfw (fun _ h => h.elim)).mono (T' := fun k => T k ∨ w.heap.size ≤ k) (fun k hk => .inl hk)
  exact ⟨.inl ⟨none, 0, rfl, rfl⟩, fun k hk => (by obtain ⟨_, _, _, e, _⟩ := hk; cases e), hgx.v, hgx.vb, hgx.f, hgx.fb⟩
theorem app_nat (w : World) (base x : Nat) (v : Value) (l : List Nat) (k : Nat) (h : w.ownsRow base 31 1 v l.length (ncells l)) (hb : base ≤ w.heap.size) (hn : l.length ≤ 1000000000) (hx : w.heap[x]? = some (.cells #[.int .u32 (k : Nat)] 31)) :
  ∃ ao cap w', (Builtin.append_ #[24, 24] 24 #[v, .slice (some ⟨x, 0, none⟩) 1 1]).run Tryz.prog w = .ok (.slice ao (l.length + 1) cap) w' ∧ w'.ownsRow base 31 1 (.slice ao (l.length + 1) cap) (l ++ [k]).length (ncells (l ++ [k])) ∧ Fr (fun g => v.ownBlock = some g) w w' := by
 obtain ⟨i0, hi, hz0, hz1, hz2⟩ := info_parts Tryz.infoU
 obtain ⟨v', w', hr, h2, h3, _, h5⟩ := run_append_own_at (P := Tryz.prog) (w := w) base 24 24 31 i0 (.int .u32 0) 1 4 Tryz.underlying24 hi hz0 hz1 hz2 rfl (by decide) v l.length (ncells l) h ⟨x, 0, none⟩ 1 1 (ncells [k]) rfl (fun j u hu => by
  rw [addr_add, Nat.zero_add]
  simp only [World.cell?, hx]
  simpa [ncells] using hu) (fun u hu => by simp [ncells] at hu; subst hu; rfl) (by simp only [maxLen]; omega) (by omega) hb
 obtain ⟨ao, cap, rfl⟩ := own_formX h2
 exact ⟨ao, cap, w', hr, by rw [List.length_append, List.length_singleton, show ncells (l ++ [k]) = ncells l ++ ncells [k] by simp [ncells]]; exact h2, (Fr.refl _ _).grown h3 (fun g hg => .inl hg)⟩
set_option maxHeartbeats 4000000 in
set_option maxRecDepth 100000 in
theorem gapply_break (so : Option Addr) (sn sc : Nat) (rg rr rn rcap : Nat) (cl nu ac op rc ve wa ow : Nat) (fo : Option Addr) (fn fc : Nat) (rs : ByteArray) (place : Nat) (w : World) (HFo : Hid (FoH w cl nu ac op rc ve wa ow fo fn fc rs true)) (z : Int) (HFd : Hid (FdH w so sn sc ac z)) (hz : ¬ z < 0) (jc : Nat) (HJd : Hid (JdH w so sn sc (some ⟨rg, rr, none⟩) rn rcap cl nu ac op rc ve wa ow fo fn fc rs jc)) (hj : jc = 0) (ho : op = 7) (i xw xo : Nat) (xs : Bool) (xG : List Nat) (xV : List GV) (go : Option Addr) (gn gc : Nat) (vg : Option Addr) (vn vcap : Nat) (hrc : rc = i + 1) (hrn : rn ≤ 256) (hve : ve < 4294967296) (S : List P3) (L : List GC) (T : Nat → Prop) (hst : GSt w T (.slice so sn sc) (.slice (some ⟨rg, rr, none⟩) rn rcap) S L) (hx : L[i]? = some ⟨xw, xo, xs, xG, xV, .slice go gn gc, .slice vg vn vcap⟩) (hone : ∀ y ∈ L, y.one) (hgn : gn ≤ 1000000) :
  Calls Tryz.prog 12 #[.agg #[.slice so sn sc, .slice (some ⟨rg, rr, none⟩) rn rcap], .agg #[.int .u32 (cl : Nat), .int .u32 (nu : Nat), .int .u32 (ac : Nat), .int .u8 (op : Nat), .int .u32 (rc : Nat), .int .u32 (ve : Nat), .int .u32 (wa : Nat), .int .u32 (ow : Nat), .slice fo fn fc, .string rs], .int .u32 (place : Nat)] w fun e w' => ∃ v nv, e = .returned (.tuple #[.agg #[.slice so sn sc, v], .agg #[.int .u32 (cl : Nat), .int .u32 (nu : Nat), .int .u8 0, .int .u32 (rc : Nat), .int .u32 0, .slice none 0 0, .slice none 0 0]]) ∧ GSt w' (fun k => T k ∨ w.heap.size ≤ k) (.slice so sn sc) v S (L.set i (⟨xw, xo, xs, ac :: xG, xV, nv, .slice vg vn vcap⟩ : GC)) ∧ Fr (fun _ => False) w w' := by
 have o1 : ((op : Int) != 1) = true := by rw [bne_iff_ne]; omega
 have o71 : ((op : Int) == 1) = false := by rw [beq_eq_false_iff_ne]; omega
 have o72 : ((op : Int) == 2) = false := by rw [beq_eq_false_iff_ne]; omega
 have o73 : ((op : Int) == 3) = false := by rw [beq_eq_false_iff_ne]; omega
 have o74 : ((op : Int) == 4) = false := by rw [beq_eq_false_iff_ne]; omega
 have o75 : ((op : Int) == 5) = false := by rw [beq_eq_false_iff_ne]; omega
 have o76 : ((op : Int) == 6) = false := by rw [beq_eq_false_iff_ne]; omega
 have o77 : ((op : Int) == 7) = true := by rw [beq_iff_eq]; omega
 have z1 : decide (z < 0) = false := decide_eq_false (by omega)
 have z2 : ¬ z < 0 := by omega
 have j1 : ((jc : Int) != 0) = false := by rw [bne_eq_false_iff_eq]; omega
 have hln : L.length = rn := by
  obtain ⟨_, _, e⟩ := hst.r.form
  cases e
  rfl
 have hil : i < rn := by rw [← hln]; exact (List.getElem?_eq_some_iff.1 hx).1
 have r1 : ((rc : Int) == 0) = false := by rw [beq_eq_false_iff_ne]; omega
 have r2 : IntKind.i64.wrap (rc : Int) = (rc : Int) := by rw [IntKind.wrap_i64]; omega
 have r3 : ¬ rn < rc := by omega
 have r4 : ¬ (rn : Int) < (rc : Int) := by omega
 have r5 : (rc : Int) - 1 = (i : Int) := by omega
 have r6 : IntKind.i64.wrap (i : Int) = (i : Int) := by rw [IntKind.wrap_i64]; omega
 have r7 : (i : Int) < (rn : Int) := by omega
 have v1 : IntKind.i64.wrap (ve : Int) = (ve : Int) := by have := hve; rw [IntKind.wrap_i64]; omega
 have hgl : xG.length = gn := by
  obtain ⟨_, _, e⟩ := (hst.c _ (List.mem_of_getElem? hx)).g.form
  exact (Value.slice.inj e).2.1.symm
 have HYY := hide (And.intro hgl hgn)
 have hat := cgc_at L i _ hx
 obtain ⟨_, _, e0, hcr⟩ := hst.r.at_ (by omega)
 cases e0
 have c0 := hcr (i * 5) _ (by have := hat 0 (by omega); simpa [GC.cs] using this)
 have c1 := hcr (i * 5 + 1) _ (by have := hat 1 (by omega); simpa [GC.cs] using this)
 have c2 := hcr (i * 5 + 2) _ (by have := hat 2 (by omega); simpa [GC.cs] using this)
 have c3 := hcr (i * 5 + 3) _ (by have := hat 3 (by omega); simpa [GC.cs] using this)
 have c4 := hcr (i * 5 + 4) _ (by have := hat 4 (by omega); simpa [GC.cs] using this)
 rw [← Nat.add_assoc] at c1 c2 c3 c4
 have hrgl : rg < w.heap.size := lt_of_cell c0
 have HC5 := hide (And.intro c0 (And.intro c1 (And.intro c2 (And.intro c3 c4))))
 have HG := hide (And.intro hst (And.intro hone (show L.length = rn ∧ i < rn ∧ rn ≤ 256 from ⟨hln, hil, hrn⟩)))
 have HGX := hide (hst.c _ (List.mem_of_getElem? hx))
 have HVE := hide hve
 clear hgl hgn hone ho hz hj hst hx hrc hrn hve hln hil hat hcr c0 c1 c2 c3 c4
 obtain ⟨W4, hW4, a4⟩ := ab_new w so sn sc (some ⟨rg, rr, none⟩) rn rcap cl nu ac op rc ve wa ow fo fn fc rs
 have A4 := hide a4
 clear a4
 have HRf := hide (fun (co : Nat) W => grefused_any cl nu ac op rc ve wa ow co fo fn fc rs W)
 go_enter Tryz.func12, Tryz.ntmps12
 go_wp2_with fail
 rw [← hW4]
 clear hW4
 refine ((unhide HFo) _ (unhide A4).f).mono ?_
 rintro e w5 ⟨rfl, hf5⟩
 have A5 := hide ((unhide A4).fr hf5)
 clear hf5 A4
 obtain ⟨⟨p0, p1⟩, q0, q1, q2, q3, q4, q5, q6, q7, q8, q9⟩ := (unhide A5).s12
 go_wp2_with fail
 refine ((unhide HFd) _ (unhide A5).f).mono ?_
 rintro e w6 ⟨rfl, hw6⟩
 obtain rfl := hw6.symm
 clear hw6
 clear p0 p1 q0 q1 q2 q3 q4 q5 q6 q7 q8 q9
 obtain ⟨⟨p0, p1⟩, q0, q1, q2, q3, q4, q5, q6, q7, q8, q9⟩ := (unhide A5).s12
 go_wp2_with fail
 refine ((unhide HJd) _ (unhide A5).f).mono ?_
 rintro e w7 ⟨rfl, f7⟩
 have A7 := hide ((unhide A5).fr f7)
 clear f7 A5
 obtain ⟨⟨p0, p1⟩, q0, q1, q2, q3, q4, q5, q6, q7, q8, q9⟩ := (unhide A7).s12
 have l0 := lt_of_block (unhide A7).s
 have l1 := lt_of_block (unhide A7).r
 have f7 := (unhide A7).f
 have c0 := (f7.cell (p := ⟨rg, rr + i * 5, none⟩) hrgl (fun h => h)).trans (unhide HC5).1
 have c1 := (f7.cell (p := ⟨rg, rr + i * 5 + 1, none⟩) hrgl (fun h => h)).trans (unhide HC5).2.1
 have c2 := (f7.cell (p := ⟨rg, rr + i * 5 + 2, none⟩) hrgl (fun h => h)).trans (unhide HC5).2.2.1
 have c3 := (f7.cell (p := ⟨rg, rr + i * 5 + 3, none⟩) hrgl (fun h => h)).trans (unhide HC5).2.2.2.1
 have c4 := (f7.cell (p := ⟨rg, rr + i * 5 + 4, none⟩) hrgl (fun h => h)).trans (unhide HC5).2.2.2.2
 have l5 : rg < w7.heap.size := Nat.lt_of_lt_of_le hrgl f7.size
 clear f7
 have hug := (unhide HGX).g.fr (unhide A7).f
 go_wp2_with fail
 clear p0 p1 q0 q1 q2 q3 q4 q5 q6 q7 q8 q9 l0 l1 c0 c1 c2 c3 c4 l5 HRf
 obtain ⟨b9, hb9⟩ : ∃ b9, b9 = w7.heap.size := ⟨_, rfl⟩
 obtain ⟨bx, hbx⟩ : ∃ bx, bx = w7.heap.size + 1 := ⟨_, rfl⟩
 obtain ⟨W2, hW2⟩ : ∃ W2, W2 = (w7.alloc (.cells #[.int .u32 (cl : Nat), .int .u32 (nu : Nat), .int .u8 0, .int .u32 (rc : Nat), .int .u32 0, .slice none 0 0, .slice none 0 0] 45)).alloc (.cells #[.int .u32 (xw : Nat), .int .u32 (xo : Nat), .bool xs, .slice go gn gc, .slice vg vn vcap] 78) := ⟨_, rfl⟩
 have f2 : Fr (fun _ => False) w7 W2 := by rw [hW2]; exact (box1 w7 _).alloc _
 have k9 : W2.heap[b9]? = some (.cells #[.int .u32 (cl : Nat), .int .u32 (nu : Nat), .int .u8 0, .int .u32 (rc : Nat), .int .u32 0, .slice none 0 0, .slice none 0 0] 45) := by rw [hW2, hb9]; exact ((box1 _ _).block _ (by simp) (fun h => h)).trans Array.getElem?_push_size
 have kx : W2.heap[bx]? = some (.cells #[.int .u32 (xw : Nat), .int .u32 (xo : Nat), .bool xs, .slice go gn gc, .slice vg vn vcap] 78) := by rw [hW2, hbx]; exact heap_two w7 _ _
 have BL := hide (show w.heap.size + 4 ≤ b9 ∧ w.heap.size + 4 ≤ bx ∧ b9 ≠ bx ∧ bx < W2.heap.size ∧ b9 < W2.heap.size by have := lt_of_block (unhide A7).b; have := lt_of_block k9; have := lt_of_block kx; omega)
 have K9 := hide k9
 have KX := hide kx
 have A2 := hide ((unhide A7).fr f2)
 have F2 := hide f2
 have HUG := hide (hug.fr f2)
 rw [← hW2, ← hbx, ← hb9]
 have hms : bx + 1 = W2.heap.size := by rw [hW2, hbx]; simp
 (try rw [hms])
 clear hW2 hb9 hbx A7 k9 kx f2 hug hms
 go_loopw [21, 22] (fun av kv wr => ∃ (j : Nat) (ao : Option Addr) (cap : Nat), j ≤ gn ∧ kv = .int .i64 (j : Nat) ∧ av = .slice ao (j + 1) cap ∧ wr.ownsRow W2.heap.size 31 1 (.slice ao (j + 1) cap) (j + 1) (ncells (ac :: xG.take j)) ∧ Fr (fun _ => False) W2 wr) (fun _ kv _ => gn - (intOf kv).toNat)
 case atStart =>
  exact ⟨0, _, 1, Nat.zero_le _, rfl, rfl, ⟨rfl, .inr ⟨W2.heap.size, 1, #[.int .u32 (ac : Nat)], rfl, Nat.le_refl _, Array.getElem?_push_size, Nat.le_refl _, by simp only [maxLen]; omega, rfl, rfl⟩⟩, box1 W2 _⟩
 case round =>
  obtain ⟨j, ao, cap, hj, rfl, rfl, hown, hfr⟩ := hrel
  have ex := (hfr.block bx (unhide BL).2.2.2.1 (fun h => h)).trans (unhide KX)
  have x3 : wr.cell? ⟨bx, 3, none⟩ = some (.slice go gn gc) := by simp [World.cell?, ex]
  have zx : wr.frozen? ⟨bx, 3, none⟩ = false := by simp [World.frozen?, ex]
  have hbl : bx < wr.heap.size := lt_of_block ex
  by_cases hlt : j < gn
  ·have hlt2 : j < xG.length := by rw [(unhide HYY).1]; exact hlt
   obtain ⟨g, o, rfl, cg⟩ := ((unhide HUG).fr hfr).at_ j hlt2
   obtain ⟨P, hPe⟩ : ∃ P, xG[j] = P := ⟨_, rfl⟩
   have hPe2 : xG[j]? = some P := by rw [List.getElem?_eq_getElem hlt2, hPe]
   rw [hPe] at cg
   have hlen : (ac :: xG.take j).length = j + 1 := by have := (unhide HYY).1; simp; omega
   have htk : ac :: xG.take (j + 1) = (ac :: xG.take j) ++ [P] := by rw [List.take_add_one, hPe2]; rfl
   obtain ⟨ao2, cap2, w2, hr, hown2, hf2⟩ := app_nat (wr.alloc (.cells #[.int .u32 (P : Nat)] 31)) W2.heap.size wr.heap.size (.slice ao (j + 1) cap) (ac :: xG.take j) P (by rw [hlen]; exact hown.alloc _) (by have := hfr.size; simp; omega) (by have := (unhide HYY).2; omega) Array.getElem?_push_size
   rw [← htk] at hown2
   rw [hlen] at hr hown2
   rw [show (ac :: xG.take (j + 1)).length = j + 1 + 1 by have := (unhide HYY).1; simp; omega] at hown2
   have hf3 : Fr (fun _ => False) W2 w2 := (hfr.trans (box1 wr _) (fun _ _ h => h)).absorb hf2 (fun k hk => (hown.lt k hk).1)
   have HR := hide hr
   have HO := hide (And.intro hown2 hf3)
   have hkl : (j : Int) < (gn : Int) := by omega
   have hgl : g < wr.heap.size := lt_of_cell cg
   have hgb : gn ≤ 1000000 := (unhide HYY).2
   clear hown hfr hPe hPe2 hr hown2 hf2 hf3 hlen htk ex hlt2
   go_wp2_with (at_builtin; refine wpList_app rfl (.tmp 136) (.tmp 143) 24 24 rfl _ _ _ rfl rfl (unhide HR) ?_)
   go_roundw
   case rel => exact ⟨j + 1, ao2, cap2, hlt, by go_num, rfl, (unhide HO).1, (unhide HO).2⟩
   case measure => simp [intOf]; omega
  ·obtain rfl : j = gn := by omega
   have hkl : ¬ (j : Int) < (j : Int) := by omega
   rw [← (unhide HYY).1, List.take_length] at hown
   rw [(unhide HYY).1] at hown
   obtain ⟨WA, hWA⟩ : ∃ WA, WA = wr.setCell ⟨bx, 3, none⟩ (.slice ao (j + 1) cap) := ⟨_, rfl⟩
   have g1 := (Fr.refl (fun k => k = bx) wr).setCell (p := ⟨bx, 3, none⟩) (.inl rfl) (.slice ao (j + 1) cap)
   rw [← hWA] at g1
   have t1 := heap_setCell_same wr bx 3 _ 78 (.slice ao (j + 1) cap) ex
   simp only [List.setIfInBounds_toArray, List.set_cons_zero, List.set_cons_succ] at t1
   rw [← hWA] at t1
   have e9 := (hfr.block b9 (unhide BL).2.2.2.2 (fun h => h)).trans (unhide K9)
   have u1 := (g1.block b9 (lt_of_block e9) (unhide BL).2.2.1).trans e9
   have r1x := ownsRow_of_block hown (fun g hg => g1.block g (hown.lt g hg).2 (fun e => by have h1 : W2.heap.size ≤ g := (hown.lt g hg).1; have := (unhide BL).2.2.2.1; omega))
   have A8 : Hid (AB w WA (.slice so sn sc) (.slice (some ⟨rg, rr, none⟩) rn rcap) #[.int .u32 (cl : Nat), .int .u32 (nu : Nat), .int .u32 (ac : Nat), .int .u8 (op : Nat), .int .u32 (rc : Nat), .int .u32 (ve : Nat), .int .u32 (wa : Nat), .int .u32 (ow : Nat), .slice fo fn fc, .string rs] #[.slice none 0 0, .slice none 0 0] #[.int .u32 0, .int .u32 0, .int .u8 0, .int .u32 0, .int .u32 0, .slice none 0 0, .slice none 0 0] ∧ WA.heap[b9]? = some (.cells #[.int .u32 (cl : Nat), .int .u32 (nu : Nat), .int .u8 0, .int .u32 (rc : Nat), .int .u32 0, .slice none 0 0, .slice none 0 0] 45) ∧ WA.heap[bx]? = some (.cells #[.int .u32 (xw : Nat), .int .u32 (xo : Nat), .bool xs, .slice ao (j + 1) cap, .slice vg vn vcap] 78)) := ⟨((unhide A2).fr hfr).frS g1 (fun k hk => by have := unhide BL; omega), u1, t1⟩
   have HNV := hide (And.intro r1x (show w.heap.size + 4 ≤ W2.heap.size by have := (unhide BL); omega))
   have HX1 : Hid (GC.one (⟨xw, xo, xs, ac :: xG, xV, .slice ao (j + 1) cap, .slice vg vn vcap⟩ : GC)) := ⟨rfl, rfl⟩
   clear hown hfr ex g1 t1 e9 u1 r1x A2 K9 KX F2 HUG
   go_wp2_with fail
   rw [← hWA]
   clear hWA x3 zx hbl hkl hlt
   refine wp_region_noPanic ?_
   refine wp_region_held_drew (S := S74W w so sn sc (some ⟨rg, rr, none⟩) rn rcap cl nu ac op rc ve wa ow fo fn fc rs b9 (.int .u32 (cl : Nat)) (.int .u32 (nu : Nat)) (.int .u8 0) (.int .u32 (rc : Nat)) (.int .u32 0) (.slice none 0 0) (.slice none 0 0) bx (.int .u32 (xw : Nat)) (.int .u32 (xo : Nat)) (.bool xs) (.slice ao (j + 1) cap) (.slice vg vn vcap)) (by kernel_rfl) (((unhide A8).1.fr (Fr.refl _ _).drew).s74 (unhide A8).2.1 (unhide A8).2.2) (fun hHeld => ?_)
   refine wtk (i := 0) (v := ?_) rfl (Or.inl ⟨by rfl, ?_⟩) hHeld ?_
   rotate_left
   ·intro w hSw; dsimp only [S74W, S12W] at hSw; go_simp; (try with_reducible rfl)
   (try simp only [Act.put, nrm])
   refine wtk (i := 1) (v := ?_) rfl (Or.inl ⟨by rfl, ?_⟩) hHeld ?_
   rotate_left
   ·intro w hSw; dsimp only [S74W, S12W] at hSw; go_simp; (try with_reducible rfl)
   (try simp only [Act.put, nrm])
   refine wtk (i := 2) (v := ?_) rfl (Or.inl ⟨by rfl, ?_⟩) hHeld ?_
   rotate_left
   ·intro w hSw; dsimp only [S74W, S12W] at hSw; go_simp; (try with_reducible rfl)
   (try simp only [Act.put, nrm])
   refine wtk (i := 4) (v := ?_) rfl (Or.inl ⟨by rfl, ?_⟩) hHeld ?_
   rotate_left
   ·intro w hSw; dsimp only [S74W, S12W] at hSw; go_simp; (try with_reducible rfl)
   (try simp only [Act.put, nrm])
   refine wpAnyH_ready (rs := [3]) (by kernel_rfl) (by simp) (AllReadyH.cons rfl (fun K hK => ?_) (AllReadyH.nil))
   go_simp
   have HP := hide (gput_any so sn sc (.slice (some ⟨rg, rr, none⟩) rn rcap) L i (⟨xw, xo, xs, ac :: xG, xV, .slice ao (j + 1) cap, .slice vg vn vcap⟩ : GC) WA.drew ((unhide HG).1.fr ((unhide A8).1.f.trans (Fr.refl _ _).drew (fun _ _ h => h))).r (unhide HG).2.1 (unhide HX1) (by have := (unhide HG).2.2; omega) (by have := (unhide HG).2.2; omega))
   refine (unhide HP).mono ?_
   rintro e w9 ⟨v, rfl, hov, f9⟩
   rw [show putL L i (⟨xw, xo, xs, ac :: xG, xV, .slice ao (j + 1) cap, .slice vg vn vcap⟩ : GC) = L.set i (⟨xw, xo, xs, ac :: xG, xV, .slice ao (j + 1) cap, .slice vg vn vcap⟩ : GC) from if_neg (by have := (unhide HG).2.2; omega)] at hov
   obtain ⟨vo, vc, rfl⟩ := own_formX hov
   have hfA9 : Fr (fun _ => False) WA w9 := (Fr.refl (fun _ => False) WA).drew.trans f9 (fun _ _ h => h)
   have B2 := hide ((unhide A8).1.fr hfA9)
   have K2 := hide ((hfA9.block b9 (lt_of_block (unhide A8).2.1) (fun h => h)).trans (unhide A8).2.1)
   have X2 := hide ((hfA9.block bx (lt_of_block (unhide A8).2.2) (fun h => h)).trans (unhide A8).2.2)
   have HOV := hide (And.intro hov hfA9)
   have HZ := hide (show w.heap.size + 4 ≤ WA.heap.size by have := lt_of_block (unhide A8).1.b; omega)
   clear hov f9 HP hfA9
   go_simp
   refine hK.out _ _ ((unhide B2).s74 (unhide K2) (unhide X2)) (fun hHeld => ?_)
   clear hK K
   (try simp only [Act.put, nrm])
   refine wpAnyH_ready (rs := [5]) (by kernel_rfl) (by simp) (AllReadyH.cons rfl (fun K hK => ?_) (AllReadyH.nil))
   obtain ⟨W10, st10, a10, fa10⟩ := (unhide B2).putA (.slice so sn sc) (.slice vo (L.set i (⟨xw, xo, xs, ac :: xG, xV, .slice ao (j + 1) cap, .slice vg vn vcap⟩ : GC)).length vc) (fun u hu => by simp at hu; rcases hu with rfl | rfl <;> rfl)
   have H10 := hide st10
   have B3 := hide (And.intro a10 fa10)
   have K3 := hide ((fa10.block b9 (lt_of_block (unhide K2)) (fun e => by have := (unhide BL); omega)).trans (unhide K2))
   have X3 := hide ((fa10.block bx (lt_of_block (unhide X2)) (fun e => by have := (unhide BL); omega)).trans (unhide X2))
   clear st10 a10 fa10
   refine step_stN rfl 36 (.tmp 6) (.tmp 327) rfl _ _ (by simp [Act.eval]) (by simp [Act.eval]) (unhide H10) ?_
   refine hK.out _ _ ((unhide B3).1.s74 (unhide K3) (unhide X3)) (fun hHeld => ?_)
   clear hK K
   (try simp only [Act.put])
   refine wpAnyH_ready (rs := [6]) (by kernel_rfl) (by simp) (AllReadyH.cons rfl (fun K hK => ?_) (AllReadyH.nil))
   obtain ⟨W11, st11, a11, fa11⟩ := (unhide B3).1.putB (.int .u32 (cl : Nat)) (.int .u32 (nu : Nat)) (.int .u8 0) (.int .u32 (rc : Nat)) (.int .u32 0) (.slice none 0 0) (.slice none 0 0) (fun u hu => by simp at hu; rcases hu with rfl | rfl | rfl | rfl | rfl | rfl | rfl <;> rfl)
   have H11 := hide st11
   have B4 := hide (And.intro a11 fa11)
   have K4 := hide ((fa11.block b9 (lt_of_block (unhide K3)) (fun e => by have := (unhide BL); omega)).trans (unhide K3))
   have X4 := hide ((fa11.block bx (lt_of_block (unhide X3)) (fun e => by have := (unhide BL); omega)).trans (unhide X3))
   clear st11 a11 fa11
   refine step_stN rfl 45 (.tmp 7) (.tmp 328) rfl _ _ (by simp [Act.eval]) (by simp [Act.eval]) (unhide H11) ?_
   refine hK.out _ _ ((unhide B4).1.s74 (unhide K4) (unhide X4)) (fun hHeld => ?_)
   clear hK K
   (try simp only [Act.put])
   refine wpAnyH_done (by kernel_rfl) ?_ _
   refine NoPanic.normal ?_
   go_wp2_with fail
   refine bodyPost_ret (results_cells2 rfl _ _ (w.heap.size + 2) (w.heap.size + 3) [.slice so sn sc, .slice vo (L.set i (⟨xw, xo, xs, ac :: xG, xV, .slice ao (j + 1) cap, .slice vg vn vcap⟩ : GC)).length vc] [.int .u32 (cl : Nat), .int .u32 (nu : Nat), .int .u8 0, .int .u32 (rc : Nat), .int .u32 0, .slice none 0 0, .slice none 0 0] _ _ rfl rfl (unhide B4).1.range.1 (unhide B4).1.range.2 Tryz.underlying36 rfl (by kernel_rfl) Tryz.underlying45 rfl (by kernel_rfl)) rfl ?_
   have hfw := (unhide B4).1.f
   have hfe : Fr (fun k => k = w.heap.size + 2 ∨ k = w.heap.size + 3) WA W11 := (((unhide HOV).2.mono (fun _ _ h => h.elim)).trans ((unhide B3).2.mono (fun _ _ h => .inl h)) (fun _ _ h => h)).trans ((unhide B4).2.mono (fun _ _ h => .inr h)) (fun _ _ h => h)
   have hown := ownsRow_of_block (ownsRow_of_block (unhide HOV).1 (fun g hg => (unhide B3).2.block g ((unhide HOV).1.lt g hg).2 (fun e => by have h1 : WA.heap.size ≤ g := ((unhide HOV).1.lt g hg).1; have := unhide HZ; omega))) (fun g hg => (unhide B4).2.block g (Nat.lt_of_lt_of_le ((unhide HOV).1.lt g hg).2 (unhide B3).2.size) (fun e => by have h1 : WA.heap.size ≤ g := ((unhide HOV).1.lt g hg).1; have := unhide HZ; omega))
   refine ⟨_, _, rfl, ⟨(unhide HG).1.s.fr hfw, fun k hk => .inl ((unhide HG).1.sb k hk), own_rd hown, fun k hk => .inr (by have h1 : WA.heap.size ≤ k := (own_blkX hown hk).1; have := unhide HZ; omega), fun y hy => ?_⟩, hfw⟩
   rcases List.mem_or_eq_of_mem_set hy with hy | rfl
   ·exact (((unhide HG).1.c y hy).frS hfw (fun _ h => h.elim)).mono (fun k hk => .inl hk)
   ·have hgx := ((unhide HGX).frS hfw (fun _ h => h.elim)).mono (T' := fun k => T k ∨ w.heap.size ≤ k) (fun k hk => .inl hk)
    have hrow := ownsRow_of_block (unhide HNV).1 (fun g hg => hfe.block g ((unhide HNV).1.lt g hg).2 (fun e => by have h1 : W2.heap.size ≤ g := ((unhide HNV).1.lt g hg).1; have := (unhide HNV).2; omega))
    have hrow2 : W11.ownsRow W2.heap.size 31 1 (.slice ao (j + 1) cap) (ac :: xG).length (ncells (ac :: xG)) := by rw [List.length_cons, (unhide HYY).1]; exact hrow
    refine ⟨own_us hrow2, fun k hk => .inr ?_, hgx.v, hgx.vb, hgx.f, hgx.fb⟩
    have := (own_blkX hrow2 hk).1
    have := (unhide HNV).2
    omega
theorem slice_one {v : Value} (h : ∃ xo n xc, v = .slice xo n xc) : v.oneCell' = true := by
 obtain ⟨_, _, _, rfl⟩ := h
 rfl
theorem GCt.one {w : World} {T : Nat → Prop} {x : GC} (h : GCt w T x) : x.one ∧ ∀ y ∈ x.V, y.one := by
 refine ⟨⟨slice_one ?_, slice_one ?_⟩, fun y hy => slice_one ?_⟩
 ·obtain ⟨a, b, e⟩ := h.g.form; exact ⟨a, _, b, e⟩
 ·obtain ⟨a, b, e⟩ := h.v.form; exact ⟨a, _, b, e⟩
 ·obtain ⟨a, b, e⟩ := (h.f y hy).form; exact ⟨a, _, b, e⟩
structure GOk (n : Nat) (L : List GC) : Prop where
 l : L.length ≤ 256
 c : ∀ x ∈ L, x.G.length ≤ n ∧ 1 ≤ x.V.length ∧ x.V.length ≤ 64 ∧ ∀ y ∈ x.V, y.v.F.length ≤ 32 ∧ ∀ f ∈ y.v.F, f.u < 256
theorem GOk.up {n : Nat} {L : List GC} (h : GOk n L) : GOk (n + 1) L := ⟨h.l, fun x hx => by have := h.c x hx; exact ⟨by omega, this.2⟩⟩
theorem GOk.set {n i : Nat} {L : List GC} (h : GOk n L) {x : GC} (hx : x.G.length ≤ n + 1 ∧ 1 ≤ x.V.length ∧ x.V.length ≤ 64 ∧ ∀ y ∈ x.V, y.v.F.length ≤ 32 ∧ ∀ f ∈ y.v.F, f.u < 256) : GOk (n + 1) (L.set i x) :=
 ⟨by simpa using h.l, fun y hy => by
  rcases List.mem_or_eq_of_mem_set hy with hy | rfl
  ·exact h.up.c y hy
  ·exact hx⟩
def GM (S : List P3) (L : List GC) : RM := ⟨S, L.map GC.cm⟩
def GPost (w : World) (T : Nat → Prop) (sv : Value) (S : List P3) (n : Nat) (cl nu : Nat) (X : RM × RA) (e : Ending) (w' : World) : Prop :=
 ∃ rv' L' fo fn fc ho hn hc, e = .returned (.tuple #[.agg #[sv, rv'], .agg #[.int .u32 (cl : Nat), .int .u32 (nu : Nat), .int .u8 (X.2.co : Nat), .int .u32 (X.2.rc : Nat), .int .u32 (X.2.ve : Nat), .slice fo fn fc, .slice ho hn hc]]) ∧ GSt w' (fun k => T k ∨ w.heap.size ≤ k) sv rv' S L' ∧ GM S L' = X.1 ∧ GOk (n + 1) L' ∧ Fds w' (.slice fo fn fc) X.2.F ∧ Sms w' (.slice ho hn hc) X.2.H ∧ (∀ k, Blk (.slice fo fn fc) k ∨ Blk (.slice ho hn hc) k → T k ∨ w.heap.size ≤ k) ∧ Fr (fun _ => False) w w'
theorem gfds_nil (w : World) : Fds w (.slice none 0 0) [] := .inl ⟨none, 0, rfl, rfl⟩
theorem sms_nil (w : World) : Sms w (.slice none 0 0) [] := .inl ⟨none, 0, rfl, rfl⟩
theorem blk_nil {k : Nat} : ¬ Blk (.slice none 0 0) k := fun h => by obtain ⟨_, _, _, e, _⟩ := h; cases e
theorem blk_two {Q : Prop} {k : Nat} (h : Blk (.slice none 0 0) k ∨ Blk (.slice none 0 0) k) : Q := h.elim (fun h => (blk_nil h).elim) (fun h => (blk_nil h).elim)
theorem GPost.no {w w' : World} {T : Nat → Prop} {sv rv : Value} {S : List P3} {L : List GC} {n cl nu co : Nat} {e : Ending} (hst : GSt w T sv rv S L) (hk : GOk n L) (he : e = .returned (.tuple #[.agg #[sv, rv], .agg #[.int .u32 (cl : Nat), .int .u32 (nu : Nat), .int .u8 (co : Nat), .int .u32 0, .int .u32 0, .slice none 0 0, .slice none 0 0]])) (hf : Fr (fun _ => False) w w') : GPost w T sv S n cl nu (GM S L, RA.no co) e w' :=
 ⟨rv, L, none, 0, 0, none, 0, 0, he, (hst.fr hf).mono (fun _ h => .inl h), rfl, hk.up, gfds_nil _, sms_nil _, fun _ h => blk_two h, hf⟩
theorem GPost.put {w w' : World} {T : Nat → Prop} {sv rv : Value} {S : List P3} {L' : List GC} {n cl nu rc ve : Nat} {vz : Int} {e : Ending} (hk : GOk (n + 1) L') (hz : vz = (ve : Int)) (he : e = .returned (.tuple #[.agg #[sv, rv], .agg #[.int .u32 (cl : Nat), .int .u32 (nu : Nat), .int .u8 0, .int .u32 (rc : Nat), .int .u32 vz, .slice none 0 0, .slice none 0 0]])) (hst : GSt w' (fun k => T k ∨ w.heap.size ≤ k) sv rv S L') (hf : Fr (fun _ => False) w w') : GPost w T sv S n cl nu (GM S L', ⟨0, rc, ve, [], []⟩) e w' :=
 ⟨rv, L', none, 0, 0, none, 0, 0, by rw [he, hz]; rfl, hst, rfl, hk, gfds_nil _, sms_nil _, fun _ h => blk_two h, hf⟩
theorem GM_set (S : List P3) (L : List GC) (i : Nat) (x : GC) : GM S (L.set i x) = ⟨S, (GM S L).C.set i x.cm⟩ := by
 unfold GM
 rw [List.map_set]
theorem cm_get (L : List GC) (i : Nat) : (L.map GC.cm)[i]? = (L[i]?).map GC.cm := List.getElem?_map ..
theorem fndI_neg {S : List P3} {k : Nat} (h : (perso S k).isSome = false) : fndI S k < 0 := by
 rcases fnd_cases S k with ⟨h1, _⟩ | ⟨j, hj, h1, h2, _⟩
 ·unfold fndI; rw [h1]; simp
 ·rw [h2] at h; cases h
theorem fndI_pos {S : List P3} {k : Nat} (h : ¬ (perso S k).isSome = false) : ¬ fndI S k < 0 := by
 rcases fnd_cases S k with ⟨_, h1⟩ | ⟨j, hj, h1, h2, _⟩
 ·rw [h1] at h; simp at h
 ·unfold fndI; rw [h1]; simp
theorem bub_mem : ∀ (k : Nat) (L : List F5) (f : F5), f ∈ bub k L → f ∈ L
 | 0, L, f, h => h
 | k + 1, L, f, h => by
  unfold bub at h
  split at h
  ·rename_i x y hx hy
   split at h
   ·rcases List.mem_or_eq_of_mem_set (bub_mem k _ f h) with h1 | rfl
    ·rcases List.mem_or_eq_of_mem_set h1 with h2 | rfl
     ·exact h2
     ·exact List.mem_of_getElem? hy
    ·exact List.mem_of_getElem? hx
   ·exact h
  ·exact h
theorem srtN_mem : ∀ {m i : Nat} {L : List F5} {f : F5}, f ∈ srtN m i L → f ∈ L
 | 0, i, L, f, h => h
 | m + 1, i, L, f, h => by
  unfold srtN at h
  exact bub_mem _ _ _ (srtN_mem h)
theorem gmrg_mem {l m : List F5} {f : F5} (h : f ∈ gmrg l m) : f ∈ l ∨ f ∈ m := by
 unfold gmrg at h
 rcases List.mem_append.1 h with h | h
 ·exact .inl (List.mem_filter.1 h).1
 ·exact .inr (keptF_mem h)
theorem set_same_gc {L : List GC} {i : Nat} {x : GC} (h : L[i]? = some x) : L.set i x = L := by
 apply List.ext_getElem?
 intro j
 by_cases hj : i = j
 ·subst hj
  rw [List.getElem?_set_self (List.getElem?_eq_some_iff.1 h).1, h]
 ·rw [List.getElem?_set_ne hj]
theorem gjud_2 (so : Option Addr) (sc rg rr rcap i xw xo : Nat) (xs : Bool) (xG : List Nat) (xV : List GV) (go : Option Addr) (gn gc : Nat) (vv : Value) (cl nu ac ve wa ow : Nat) (fo : Option Addr) (fc : Nat) (rs : ByteArray) (S : List P3) (L : List GC) (F : List F5) (T : Nat → Prop) (w : World) (hst : GSt w T (.slice so S.length sc) (.slice (some ⟨rg, rr, none⟩) L.length rcap) S L) (hxi : L[i]? = some ⟨xw, xo, xs, xG, xV, .slice go gn gc, vv⟩) (hL : L.length ≤ 256) (hS : S.length ≤ 140737488355328) (hG : xG.length ≤ 140737488355328) (hF : Fds w (.slice fo F.length fc) F) (hFl : F.length ≤ 140737488355328) :
  Calls Tryz.prog 26 #[.agg #[.slice so S.length sc, .slice (some ⟨rg, rr, none⟩) L.length rcap], .agg #[.int .u32 (cl : Nat), .int .u32 (nu : Nat), .int .u32 (ac : Nat), .int .u8 2, .int .u32 ((i + 1 : Nat) : Int), .int .u32 (ve : Nat), .int .u32 (wa : Nat), .int .u32 (ow : Nat), .slice fo F.length fc, .string rs]] w fun e w' => e = .returned (.int .u8 ((amCode S ac ⟨xw, xo, xs, xG, xV.map GV.v⟩ F : Nat) : Int)) ∧ Fr (fun _ => False) w w' := by
 have hx := hst.c _ (List.mem_of_getElem? hxi)
 have hat := cgc_at L i _ hxi
 have hil : i < L.length := (List.getElem?_eq_some_iff.1 hxi).1
 obtain ⟨_, _, e0, hcr⟩ := hst.r.at_ (by omega)
 cases e0
 have c0 := hcr (i * 5) _ (by have := hat 0 (by omega); simpa [GC.cs] using this)
 have c1 := hcr (i * 5 + 1) _ (by have := hat 1 (by omega); simpa [GC.cs] using this)
 have c2 := hcr (i * 5 + 2) _ (by have := hat 2 (by omega); simpa [GC.cs] using this)
 have c3 := hcr (i * 5 + 3) _ (by have := hat 3 (by omega); simpa [GC.cs] using this)
 rw [← Nat.add_assoc] at c1 c2 c3
 rw [am_code]
 exact gjudged_2 so S.length sc rg rr L.length rcap i xw xo xs go gn gc cl nu ac ve wa ow fo F.length fc rs _ w (fun W hW => (gamend_any _ S xw xo xs _ xG ac _ F W (hst.s.fr hW) hS ((hx.g).fr hW) hG (hF.fr hW) hFl).mono fun e w' h => ⟨h.1, hW.trans h.2 (fun _ _ h => h)⟩) hil (by omega) c0 c1 c2 c3
theorem gjud_3 (so : Option Addr) (sc rg rr rcap i xw xo : Nat) (xs : Bool) (xG : List Nat) (xV : List GV) (go : Option Addr) (gn gc : Nat) (vv : Value) (cl nu ac ve wa ow : Nat) (fo : Option Addr) (fc : Nat) (rs : ByteArray) (S : List P3) (L : List GC) (F : List F5) (T : Nat → Prop) (w : World) (hst : GSt w T (.slice so S.length sc) (.slice (some ⟨rg, rr, none⟩) L.length rcap) S L) (hxi : L[i]? = some ⟨xw, xo, xs, xG, xV, .slice go gn gc, vv⟩) (hL : L.length ≤ 256) (hS : S.length ≤ 140737488355328) (hG : xG.length ≤ 140737488355328) :
  Calls Tryz.prog 26 #[.agg #[.slice so S.length sc, .slice (some ⟨rg, rr, none⟩) L.length rcap], .agg #[.int .u32 (cl : Nat), .int .u32 (nu : Nat), .int .u32 (ac : Nat), .int .u8 3, .int .u32 ((i + 1 : Nat) : Int), .int .u32 (ve : Nat), .int .u32 (wa : Nat), .int .u32 (ow : Nat), .slice fo F.length fc, .string rs]] w fun e w' => e = .returned (.int .u8 ((rdCode S ac ⟨xw, xo, xs, xG, xV.map GV.v⟩ : Nat) : Int)) ∧ Fr (fun _ => False) w w' := by
 have hx := hst.c _ (List.mem_of_getElem? hxi)
 have hat := cgc_at L i _ hxi
 have hil : i < L.length := (List.getElem?_eq_some_iff.1 hxi).1
 obtain ⟨_, _, e0, hcr⟩ := hst.r.at_ (by omega)
 cases e0
 have c0 := hcr (i * 5) _ (by have := hat 0 (by omega); simpa [GC.cs] using this)
 have c1 := hcr (i * 5 + 1) _ (by have := hat 1 (by omega); simpa [GC.cs] using this)
 have c2 := hcr (i * 5 + 2) _ (by have := hat 2 (by omega); simpa [GC.cs] using this)
 have c3 := hcr (i * 5 + 3) _ (by have := hat 3 (by omega); simpa [GC.cs] using this)
 rw [← Nat.add_assoc] at c1 c2 c3
 rw [rd_code]
 exact gjudged_3 so S.length sc rg rr L.length rcap i xw xo xs go gn gc cl nu ac ve wa ow fo F.length fc rs _ w (fun W hW => (gread_any _ S xw xo xs _ xG ac W (hst.s.fr hW) hS ((hx.g).fr hW) hG).mono fun e w' h => ⟨h.1, hW.trans h.2 (fun _ _ h => h)⟩) hil (by omega) c0 c1 c2 c3
theorem gjud_4 (so : Option Addr) (sc rg rr rcap i xw xo : Nat) (xs : Bool) (xG : List Nat) (xV : List GV) (go : Option Addr) (gn gc : Nat) (vv : Value) (cl nu ac ve wa ow : Nat) (fo : Option Addr) (fc : Nat) (rs : ByteArray) (S : List P3) (L : List GC) (F : List F5) (T : Nat → Prop) (w : World) (hst : GSt w T (.slice so S.length sc) (.slice (some ⟨rg, rr, none⟩) L.length rcap) S L) (hxi : L[i]? = some ⟨xw, xo, xs, xG, xV, .slice go gn gc, vv⟩) (hL : L.length ≤ 256) (hS : S.length ≤ 140737488355328) :
  Calls Tryz.prog 26 #[.agg #[.slice so S.length sc, .slice (some ⟨rg, rr, none⟩) L.length rcap], .agg #[.int .u32 (cl : Nat), .int .u32 (nu : Nat), .int .u32 (ac : Nat), .int .u8 4, .int .u32 ((i + 1 : Nat) : Int), .int .u32 (ve : Nat), .int .u32 (wa : Nat), .int .u32 (ow : Nat), .slice fo F.length fc, .string rs]] w fun e w' => e = .returned (.int .u8 ((reCode S ac ⟨xw, xo, xs, xG, xV.map GV.v⟩ : Nat) : Int)) ∧ Fr (fun _ => False) w w' := by
 have hx := hst.c _ (List.mem_of_getElem? hxi)
 have hat := cgc_at L i _ hxi
 have hil : i < L.length := (List.getElem?_eq_some_iff.1 hxi).1
 obtain ⟨_, _, e0, hcr⟩ := hst.r.at_ (by omega)
 cases e0
 have c0 := hcr (i * 5) _ (by have := hat 0 (by omega); simpa [GC.cs] using this)
 have c1 := hcr (i * 5 + 1) _ (by have := hat 1 (by omega); simpa [GC.cs] using this)
 have c2 := hcr (i * 5 + 2) _ (by have := hat 2 (by omega); simpa [GC.cs] using this)
 have c3 := hcr (i * 5 + 3) _ (by have := hat 3 (by omega); simpa [GC.cs] using this)
 rw [← Nat.add_assoc] at c1 c2 c3
 rw [re_code]
 exact gjudged_4 so S.length sc rg rr L.length rcap i xw xo xs go gn gc cl nu ac ve wa ow fo F.length fc rs _ w (fun W hW => (gredact_any _ S xw xo xs _ ac W (hst.s.fr hW) hS).mono fun e w' h => ⟨h.1, hW.trans h.2 (fun _ _ h => h)⟩) hil (by omega) c0 c1 c2 c3
theorem gjud_5 (so : Option Addr) (sc rg rr rcap i xw xo : Nat) (xs : Bool) (xG : List Nat) (xV : List GV) (go : Option Addr) (gn gc : Nat) (vv : Value) (cl nu ac ve wa ow : Nat) (fo : Option Addr) (fc : Nat) (rs : ByteArray) (S : List P3) (L : List GC) (F : List F5) (T : Nat → Prop) (w : World) (hst : GSt w T (.slice so S.length sc) (.slice (some ⟨rg, rr, none⟩) L.length rcap) S L) (hxi : L[i]? = some ⟨xw, xo, xs, xG, xV, .slice go gn gc, vv⟩) (hL : L.length ≤ 256) (hS : S.length ≤ 140737488355328) (hG : xG.length ≤ 140737488355328) :
  Calls Tryz.prog 26 #[.agg #[.slice so S.length sc, .slice (some ⟨rg, rr, none⟩) L.length rcap], .agg #[.int .u32 (cl : Nat), .int .u32 (nu : Nat), .int .u32 (ac : Nat), .int .u8 5, .int .u32 ((i + 1 : Nat) : Int), .int .u32 (ve : Nat), .int .u32 (wa : Nat), .int .u32 (ow : Nat), .slice fo F.length fc, .string rs]] w fun e w' => e = .returned (.int .u8 ((hiCode S ac ⟨xw, xo, xs, xG, xV.map GV.v⟩ : Nat) : Int)) ∧ Fr (fun _ => False) w w' := by
 have hx := hst.c _ (List.mem_of_getElem? hxi)
 have hat := cgc_at L i _ hxi
 have hil : i < L.length := (List.getElem?_eq_some_iff.1 hxi).1
 obtain ⟨_, _, e0, hcr⟩ := hst.r.at_ (by omega)
 cases e0
 have c0 := hcr (i * 5) _ (by have := hat 0 (by omega); simpa [GC.cs] using this)
 have c1 := hcr (i * 5 + 1) _ (by have := hat 1 (by omega); simpa [GC.cs] using this)
 have c2 := hcr (i * 5 + 2) _ (by have := hat 2 (by omega); simpa [GC.cs] using this)
 have c3 := hcr (i * 5 + 3) _ (by have := hat 3 (by omega); simpa [GC.cs] using this)
 rw [← Nat.add_assoc] at c1 c2 c3
 rw [hi_code]
 exact gjudged_5 so S.length sc rg rr L.length rcap i xw xo xs go gn gc cl nu ac ve wa ow fo F.length fc rs _ w (fun W hW => (ghistory_any _ S xw xo xs _ xG ac W (hst.s.fr hW) hS ((hx.g).fr hW) hG).mono fun e w' h => ⟨h.1, hW.trans h.2 (fun _ _ h => h)⟩) hil (by omega) c0 c1 c2 c3
theorem gjud_6 (so : Option Addr) (sc rg rr rcap i xw xo : Nat) (xs : Bool) (xG : List Nat) (xV : List GV) (go : Option Addr) (gn gc : Nat) (vv : Value) (cl nu ac ve wa ow : Nat) (fo : Option Addr) (fc : Nat) (rs : ByteArray) (S : List P3) (L : List GC) (F : List F5) (T : Nat → Prop) (w : World) (hst : GSt w T (.slice so S.length sc) (.slice (some ⟨rg, rr, none⟩) L.length rcap) S L) (hxi : L[i]? = some ⟨xw, xo, xs, xG, xV, .slice go gn gc, vv⟩) (hL : L.length ≤ 256) (hS : S.length ≤ 140737488355328) :
  Calls Tryz.prog 26 #[.agg #[.slice so S.length sc, .slice (some ⟨rg, rr, none⟩) L.length rcap], .agg #[.int .u32 (cl : Nat), .int .u32 (nu : Nat), .int .u32 (ac : Nat), .int .u8 6, .int .u32 ((i + 1 : Nat) : Int), .int .u32 (ve : Nat), .int .u32 (wa : Nat), .int .u32 (ow : Nat), .slice fo F.length fc, .string rs]] w fun e w' => e = .returned (.int .u8 ((seCode S ac ⟨xw, xo, xs, xG, xV.map GV.v⟩ : Nat) : Int)) ∧ Fr (fun _ => False) w w' := by
 have hx := hst.c _ (List.mem_of_getElem? hxi)
 have hat := cgc_at L i _ hxi
 have hil : i < L.length := (List.getElem?_eq_some_iff.1 hxi).1
 obtain ⟨_, _, e0, hcr⟩ := hst.r.at_ (by omega)
 cases e0
 have c0 := hcr (i * 5) _ (by have := hat 0 (by omega); simpa [GC.cs] using this)
 have c1 := hcr (i * 5 + 1) _ (by have := hat 1 (by omega); simpa [GC.cs] using this)
 have c2 := hcr (i * 5 + 2) _ (by have := hat 2 (by omega); simpa [GC.cs] using this)
 have c3 := hcr (i * 5 + 3) _ (by have := hat 3 (by omega); simpa [GC.cs] using this)
 rw [← Nat.add_assoc] at c1 c2 c3
 rw [se_code]
 exact gjudged_6 so S.length sc rg rr L.length rcap i xw xo xs go gn gc cl nu ac ve wa ow fo F.length fc rs _ w (fun W hW => (gseal_any _ S xw xo xs _ ac W (hst.s.fr hW) hS).mono fun e w' h => ⟨h.1, hW.trans h.2 (fun _ _ h => h)⟩) hil (by omega) c0 c1 c2 c3
theorem gjud_7 (so : Option Addr) (sc rg rr rcap i xw xo : Nat) (xs : Bool) (xG : List Nat) (xV : List GV) (go : Option Addr) (gn gc : Nat) (vv : Value) (cl nu ac ve wa ow : Nat) (fo : Option Addr) (fc : Nat) (rs : ByteArray) (S : List P3) (L : List GC) (F : List F5) (T : Nat → Prop) (w : World) (hst : GSt w T (.slice so S.length sc) (.slice (some ⟨rg, rr, none⟩) L.length rcap) S L) (hxi : L[i]? = some ⟨xw, xo, xs, xG, xV, .slice go gn gc, vv⟩) (hL : L.length ≤ 256) (hS : S.length ≤ 140737488355328) :
  Calls Tryz.prog 26 #[.agg #[.slice so S.length sc, .slice (some ⟨rg, rr, none⟩) L.length rcap], .agg #[.int .u32 (cl : Nat), .int .u32 (nu : Nat), .int .u32 (ac : Nat), .int .u8 7, .int .u32 ((i + 1 : Nat) : Int), .int .u32 (ve : Nat), .int .u32 (wa : Nat), .int .u32 (ow : Nat), .slice fo F.length fc, .string rs]] w fun e w' => e = .returned (.int .u8 ((brCode S ac ⟨xw, xo, xs, xG, xV.map GV.v⟩ rs : Nat) : Int)) ∧ Fr (fun _ => False) w w' := by
 have hx := hst.c _ (List.mem_of_getElem? hxi)
 have hat := cgc_at L i _ hxi
 have hil : i < L.length := (List.getElem?_eq_some_iff.1 hxi).1
 obtain ⟨_, _, e0, hcr⟩ := hst.r.at_ (by omega)
 cases e0
 have c0 := hcr (i * 5) _ (by have := hat 0 (by omega); simpa [GC.cs] using this)
 have c1 := hcr (i * 5 + 1) _ (by have := hat 1 (by omega); simpa [GC.cs] using this)
 have c2 := hcr (i * 5 + 2) _ (by have := hat 2 (by omega); simpa [GC.cs] using this)
 have c3 := hcr (i * 5 + 3) _ (by have := hat 3 (by omega); simpa [GC.cs] using this)
 rw [← Nat.add_assoc] at c1 c2 c3
 rw [br_code]
 exact gjudged_7 so S.length sc rg rr L.length rcap i xw xo xs go gn gc cl nu ac ve wa ow fo F.length fc rs _ w (fun W hW => (gbreak_any _ S xw xo xs _ ac rs W (hst.s.fr hW) hS).mono fun e w' h => ⟨h.1, hW.trans h.2 (fun _ _ h => h)⟩) hil (by omega) c0 c1 c2 c3
theorem gjud_1 (so : Option Addr) (sc : Nat) (ro : Option Addr) (rn rcap rc : Nat) (cl nu ac ve wa ow : Nat) (fo : Option Addr) (fn fc : Nat) (rs : ByteArray) (S : List P3) (w : World) (hs : Stf w (.slice so S.length sc) S) (hS : S.length ≤ 140737488355328) :
  Calls Tryz.prog 26 #[.agg #[.slice so S.length sc, .slice ro rn rcap], .agg #[.int .u32 (cl : Nat), .int .u32 (nu : Nat), .int .u32 (ac : Nat), .int .u8 1, .int .u32 (rc : Nat), .int .u32 (ve : Nat), .int .u32 (wa : Nat), .int .u32 (ow : Nat), .slice fo fn fc, .string rs]] w fun e w' => e = .returned (.int .u8 ((crCode S ac wa ow : Nat) : Int)) ∧ Fr (fun _ => False) w w' := by
 rw [cr_code]
 exact gjudged_1 so S.length sc ro rn rcap rc cl nu ac ve wa ow fo fn fc rs _ w (fun W hW => (gcreate_any _ S ac wa ow W (hs.fr hW) hS).mono fun e w' h => ⟨h.1, hW.trans h.2 (fun _ _ h => h)⟩)
set_option maxHeartbeats 4000000 in
set_option maxRecDepth 100000 in
theorem gapply_any (sv rv : Value) (S : List P3) (L : List GC) (T : Nat → Prop) (n : Nat) (r : RQ) (F : List F5) (pl : Nat) (w : World) (hst : GSt w T sv rv S L) (hk : GOk n L) (hn : n ≤ 1000000) (hS : S.length ≤ 140737488355328) (hF : Fds w r.fv F) (hFT : ∀ k, Blk r.fv k → T k) (hFl : F.length ≤ 140737488355328) (hv : ∀ f ∈ F, f.v < 4294967296 ∧ f.u < 256) (hve : r.ve < 4294967296) (hrb : r.rc < 4294967296) (X : RM × RA) (hX : (GM S L).gstep r F pl = X) :
  Calls Tryz.prog 12 #[.agg #[sv, rv], r.v, .int .u32 (pl : Nat)] w fun e w' => GPost w T sv S n r.cl r.nu X e w' := by
 subst hX
 obtain ⟨so, sc, rfl⟩ := hst.s.form
 obtain ⟨ro, rcap, rfl⟩ := hst.r.form
 obtain ⟨cl, nu, ac, op, rc, ve, wa, ow, fv, rs⟩ := r
 simp only at hF hFT hve hrb
 obtain ⟨fo, fc, rfl⟩ := hF.form
 simp only [RQ.v]
 have hFo : ∀ b, RQ.frm ⟨cl, nu, ac, op, rc, ve, wa, ow, .slice fo F.length fc, rs⟩ F = b → ∀ W, Fr (fun _ => False) w W → Calls Tryz.prog 23 #[.agg #[.int .u32 (cl : Nat), .int .u32 (nu : Nat), .int .u32 (ac : Nat), .int .u8 (op : Nat), .int .u32 (rc : Nat), .int .u32 (ve : Nat), .int .u32 (wa : Nat), .int .u32 (ow : Nat), .slice fo F.length fc, .string rs]] W fun e w' => e = .returned (.bool b) ∧ Fr (fun _ => False) W w' := fun b hb W hW => by
  rw [← hb]
  exact gformed_any cl nu ac op rc ve wa ow _ rs F W (hF.fr hW) hFl hv hve
 have hFd : ∀ W, Fr (fun _ => False) w W → Calls Tryz.prog 25 #[.slice so S.length sc, .int .u32 (ac : Nat)] W fun e w' => e = .returned (.int .i64 (fndI S ac)) ∧ w' = W := fun W hW => gfind_any _ S ac W (hst.s.fr hW) hS
 unfold RM.gstep
 by_cases h1 : RQ.frm ⟨cl, nu, ac, op, rc, ve, wa, ow, .slice fo F.length fc, rs⟩ F = false
 ·rw [if_pos h1]
  exact (gapply_early so S.length sc ro L.length rcap cl nu ac op rc ve wa ow fo F.length fc rs pl w false (hFo _ h1) _ hFd 0 (fun h => by cases h) hrb 2 (fun _ => rfl) (fun h => by cases h) (fun h => by cases h) (fun h => by cases h)).mono fun e w' h => GPost.no hst hk h.1 h.2
 rw [if_neg h1]
 have h1' : RQ.frm ⟨cl, nu, ac, op, rc, ve, wa, ow, .slice fo F.length fc, rs⟩ F = true := by simpa using h1
 have HFo := hFo _ h1'
 obtain ⟨hF32, hFg⟩ := RQ.frm_good h1' hv
 show Calls _ _ _ _ fun e w' => GPost _ _ _ _ _ _ _ (if (perso S ac).isSome = false then _ else _) _ _
 by_cases h2 : (perso S ac).isSome = false
 ·rw [if_pos h2]
  have hz := fndI_neg h2
  exact (gapply_early so S.length sc ro L.length rcap cl nu ac op rc ve wa ow fo F.length fc rs pl w true HFo _ hFd 0 (fun _ h => absurd hz h) hrb 1 (fun h => by cases h) (fun _ _ => rfl) (fun _ h => absurd hz h) (fun _ h => absurd hz h)).mono fun e w' h => GPost.no hst hk h.1 h.2
 rw [if_neg h2]
 have hz := fndI_pos h2
 simp only
 by_cases h3 : op = 1
 ·rw [if_pos h3]
  subst h3
  unfold RM.create
  have hJ : ∀ jc, crCode S ac wa ow = jc → ∀ W, Fr (fun _ => False) w W → Calls Tryz.prog 26 #[.agg #[.slice so S.length sc, .slice ro L.length rcap], .agg #[.int .u32 (cl : Nat), .int .u32 (nu : Nat), .int .u32 (ac : Nat), .int .u8 (1 : Nat), .int .u32 (rc : Nat), .int .u32 (ve : Nat), .int .u32 (wa : Nat), .int .u32 (ow : Nat), .slice fo F.length fc, .string rs]] W fun e w' => e = .returned (.int .u8 (jc : Nat)) ∧ Fr (fun _ => False) W w' := fun jc e W hW => by
   rw [← e]
   exact gjud_1 so sc ro L.length rcap rc cl nu ac ve wa ow fo F.length fc rs S W (hst.s.fr hW) hS
  show Calls _ _ _ _ fun e w' => GPost _ _ _ _ _ _ _ (if crCode S ac wa ow ≠ 0 then _ else _) _ _
  by_cases a1 : crCode S ac wa ow ≠ 0
  ·rw [if_pos a1]
   exact (gapply_early so S.length sc ro L.length rcap cl nu ac 1 rc ve wa ow fo F.length fc rs pl w true HFo _ hFd _ (fun _ _ _ => hJ _ rfl) hrb _ (fun h => by cases h) (fun _ h => absurd h hz) (fun _ _ h => absurd rfl h) (fun _ _ _ => ⟨a1, rfl⟩)).mono fun e w' h => GPost.no hst hk h.1 h.2
  rw [if_neg a1]
  have a1' : crCode S ac wa ow = 0 := by omega
  have hlen : (GM S L).C.length = L.length := by simp [GM]
  rw [hlen]
  by_cases a2 : 256 ≤ L.length
  ·rw [if_pos a2]
   refine (gapply_create so S.length sc ro L.length rcap cl nu ac 1 rc ve wa ow fo F.length fc rs pl w HFo _ hFd hz _ (hJ _ a1') rfl rfl hk.l S L T F hst hF hFT (fun y hy => (hst.c y hy).one.1)).mono ?_
   rintro e w' (⟨_, h⟩ | ⟨h, _⟩)
   ·exact GPost.no hst hk h.1 h.2
   ·have := hk.l
    omega
  rw [if_neg a2]
  refine (gapply_create so S.length sc ro L.length rcap cl nu ac 1 rc ve wa ow fo F.length fc rs pl w HFo _ hFd hz _ (hJ _ a1') rfl rfl hk.l S L T F hst hF hFT (fun y hy => (hst.c y hy).one.1)).mono ?_
  rintro e w' (⟨h, _⟩ | ⟨_, v, vb, he, hg, hf⟩)
  ·omega
  refine ⟨v, _, none, 0, 0, none, 0, 0, ?_, hg, ?_, ?_, gfds_nil _, sms_nil _, fun _ h => blk_two h, hf⟩
  ·rw [he]; rfl
  ·simp [GM, GC.cm]
  ·refine ⟨by simp; omega, fun x hx => ?_⟩
   rcases List.mem_append.1 hx with hx | hx
   ·exact hk.up.c x hx
   ·rw [List.mem_singleton] at hx
    subst hx
    refine ⟨by simp, by simp, by simp, fun y hy => ?_⟩
    simp at hy
    subst hy
    exact ⟨hF32, fun f hf => (hFg f hf).2.2.2⟩
 rw [if_neg h3]
 by_cases h4 : rc = 0
 ·rw [if_pos h4]
  exact (gapply_early so S.length sc ro L.length rcap cl nu ac op rc ve wa ow fo F.length fc rs pl w true HFo _ hFd 0 (fun _ _ h => by omega) hrb 3 (fun h => by cases h) (fun _ h => absurd h hz) (fun _ _ _ _ => rfl) (fun _ _ h => by omega)).mono fun e w' h => GPost.no hst hk h.1 h.2
 rw [if_neg h4]
 obtain ⟨i, rfl⟩ : ∃ i, rc = i + 1 := ⟨rc - 1, by omega⟩
 have hget : (GM S L).C[i + 1 - 1]? = (L[i]?).map GC.cm := by
  rw [Nat.add_sub_cancel]
  exact cm_get L i
 cases hxi : L[i]? with
 | none =>
  rw [hget, hxi]
  have hil : L.length ≤ i := List.getElem?_eq_none_iff.1 hxi
  exact (gapply_early so S.length sc ro L.length rcap cl nu ac op (i + 1) ve wa ow fo F.length fc rs pl w true HFo _ hFd 0 (fun _ _ h => by omega) hrb 3 (fun h => by cases h) (fun _ h => absurd h hz) (fun _ _ _ _ => rfl) (fun _ _ h => by omega)).mono fun e w' h => GPost.no hst hk h.1 h.2
 | some x =>
  rw [hget, hxi]
  simp only [Option.map_some]
  have hil : i < L.length := (List.getElem?_eq_some_iff.1 hxi).1
  obtain ⟨rg, rr, rfl, _⟩ := hst.r.at_ (by omega)
  obtain ⟨hG, hV1, hV64, hVF⟩ := hk.c x (List.mem_of_getElem? hxi)
  have hxc := hst.c x (List.mem_of_getElem? hxi)
  have hxo := hxc.one
  have hgf := hxc.g.form
  have hvf := hxc.v.form
  have hone : ∀ y ∈ L, y.one := fun y hy => (hst.c y hy).one.1
  obtain ⟨xw, xo, xs, xG, xV, gvv, vvv⟩ := x
  obtain ⟨go, gc, hgf⟩ := hgf
  obtain ⟨vg, vcap, hvf⟩ := hvf
  simp only at hgf hvf hG hV1 hV64 hVF hxo
  subst hgf hvf
  have hfG : xG.length ≤ 140737488355328 := by omega
  obtain ⟨c, hc⟩ : ∃ c, GC.cm ⟨xw, xo, xs, xG, xV, .slice go xG.length gc, .slice vg xV.length vcap⟩ = c := ⟨_, rfl⟩
  rw [hc]
  have hcl : c.V.length = xV.length := by rw [← hc]; simp [GC.cm]
  have hcV : ∀ m : Nat, c.V[m]? = (xV[m]?).map GV.v := fun m => by rw [← hc]; exact List.getElem?_map ..
  unfold RM.gop
  simp only
  by_cases o2 : op = 2
  ·rw [if_pos o2]
   subst o2
   unfold RM.gamend
   have hJ : ∀ jc, amCode S ac c F = jc → ∀ W, Fr (fun _ => False) w W → Calls Tryz.prog 26 #[.agg #[.slice so S.length sc, .slice (some ⟨rg, rr, none⟩) L.length rcap], .agg #[.int .u32 (cl : Nat), .int .u32 (nu : Nat), .int .u32 (ac : Nat), .int .u8 (2 : Nat), .int .u32 ((i + 1 : Nat) : Int), .int .u32 (ve : Nat), .int .u32 (wa : Nat), .int .u32 (ow : Nat), .slice fo F.length fc, .string rs]] W fun e w' => e = .returned (.int .u8 (jc : Nat)) ∧ Fr (fun _ => False) W w' := fun jc e W hW => by
    rw [← e, ← hc]
    exact gjud_2 so sc rg rr rcap i xw xo xs xG xV go xG.length gc _ cl nu ac ve wa ow fo fc rs S L F T W (hst.fr hW) hxi hk.l hS hfG (hF.fr hW) hFl
   show Calls _ _ _ _ fun e w' => GPost _ _ _ _ _ _ _ (if amCode S ac c F ≠ 0 then _ else _) _ _
   by_cases a1 : amCode S ac c F ≠ 0
   ·rw [if_pos a1]
    exact (gapply_early so S.length sc (some ⟨rg, rr, none⟩) L.length rcap cl nu ac 2 (i + 1) ve wa ow fo F.length fc rs pl w true HFo _ hFd _ (fun _ _ _ => hJ _ rfl) hrb _ (fun h => by cases h) (fun _ h => absurd h hz) (fun _ _ _ h => by omega) (fun _ _ _ => ⟨a1, rfl⟩)).mono fun e w' h => GPost.no hst hk h.1 h.2
   rw [if_neg a1]
   have a1' : amCode S ac c F = 0 := by omega
   have HJ := hJ _ a1'
   dsimp only
   (try rw [hcl])
   obtain ⟨m, hm⟩ : ∃ m, xV.length = m + 1 := ⟨xV.length - 1, by omega⟩
   obtain ⟨y, hy⟩ : ∃ y, xV[m]? = some y := ⟨_, List.getElem?_eq_getElem (by omega)⟩
   have hnow : CM.gnow c = if y.v.rd then [] else y.v.F := by
    unfold CM.gnow
    rw [hcl, hm, Nat.add_sub_cancel, hcV, hy]
    rfl
   have hyF := hVF y (List.mem_of_getElem? hy)
   have hyf := (hxc.f y (List.mem_of_getElem? hy)).form
   obtain ⟨⟨au, ev, G, rd⟩, fv2⟩ := y
   simp only at hnow hyF hyf
   obtain ⟨fa, fb, rfl⟩ := hyf
   obtain ⟨O, hO⟩ : ∃ O, CM.gnow c = O := ⟨_, rfl⟩
   have hOt : rd = true → O = [] := fun h => by rw [← hO, hnow, h]; rfl
   have hOf : rd = false → O = G := fun h => by rw [← hO, hnow, h]; rfl
   have hu : ∀ f ∈ G ++ F, f.u < 256 := fun f hf => (List.mem_append.1 hf).elim (hyF.2 f) (fun h => (hv f h).2)
   have hOu : ∀ f ∈ O, f.u < 256 := fun f hf => by
    cases rd
    ·rw [hOf rfl] at hf; exact hyF.2 f hf
    ·rw [hOt rfl] at hf; cases hf
   have hnew : CM.gnew c F = srtN (gmrg O F).length 0 (gmrg O F) := by
    unfold CM.gnew
    rw [hO]
   rw [hnew, hO]
   refine ((gapply_amend so S.length sc rg rr L.length rcap cl nu ac 2 (i + 1) ve wa ow fo F.length fc rs pl w HFo _ hFd hz _ HJ rfl rfl i xw xo xs xG xV go xG.length gc vg xV.length vcap rfl hk.l hve S L T hst hxi hone m au ev G rd fa G.length fb hm hy O hOt hOf hV64 F hF (by omega) (by omega) hu hxo.2)).mono ?_
   rintro e w' (⟨k1, h⟩ | ⟨k0, k1, h⟩ | ⟨k0, k1, h⟩ | ⟨k0, k1, k2, k3, h⟩ | ⟨k0, k1, k2, k3, v, nv, fv2, he, hg, hf⟩)
   ·rw [if_pos k1]
    exact GPost.no hst hk h.1 h.2
   ·rw [if_neg (by omega), if_pos (by omega)]
    exact GPost.no hst hk h.1 h.2
   ·rw [if_neg (by omega), if_neg (by omega), if_pos k1]
    exact GPost.no hst hk h.1 h.2
   ·rw [if_neg (by omega), if_neg (by omega), if_neg (by omega), if_pos k3]
    exact GPost.no hst hk h.1 h.2
   ·rw [if_neg (by omega), if_neg (by omega), if_neg (by omega), if_neg (by rw [k3]; simp)]
    have hp := GPost.put (n := n) (rc := i + 1) (ve := xV.length + 1) (hk.set (i := i) (x := ⟨xw, xo, xs, xG, xV ++ [⟨⟨ac, pl, srtN (gmrg O F).length 0 (gmrg O F), false⟩, fv2⟩], .slice go xG.length gc, nv⟩) ⟨by simp only; omega, by simp, by simp; omega, fun y hy => ?_⟩) (by simp) he hg hf
    ·rw [GM_set] at hp
     (subst hc; simpa [GC.cm, GM] using hp)
    ·rcases List.mem_append.1 hy with hy | hy
     ·exact hVF y hy
     ·rw [List.mem_singleton] at hy
      subst hy
      refine ⟨by simp only; omega, fun f hf => ?_⟩
      rcases gmrg_mem (srtN_mem hf) with h6 | h6
      ·exact hOu f h6
      ·exact (hv f h6).2
  rw [if_neg o2]
  by_cases o3 : op = 3
  ·rw [if_pos o3]
   subst o3
   unfold RM.read
   have hJ : ∀ jc, rdCode S ac c = jc → ∀ W, Fr (fun _ => False) w W → Calls Tryz.prog 26 #[.agg #[.slice so S.length sc, .slice (some ⟨rg, rr, none⟩) L.length rcap], .agg #[.int .u32 (cl : Nat), .int .u32 (nu : Nat), .int .u32 (ac : Nat), .int .u8 (3 : Nat), .int .u32 ((i + 1 : Nat) : Int), .int .u32 (ve : Nat), .int .u32 (wa : Nat), .int .u32 (ow : Nat), .slice fo F.length fc, .string rs]] W fun e w' => e = .returned (.int .u8 (jc : Nat)) ∧ Fr (fun _ => False) W w' := fun jc e W hW => by
    rw [← e, ← hc]
    exact gjud_3 so sc rg rr rcap i xw xo xs xG xV go xG.length gc _ cl nu ac ve wa ow fo fc rs S L F T W (hst.fr hW) hxi hk.l hS hfG
   show Calls _ _ _ _ fun e w' => GPost _ _ _ _ _ _ _ (if rdCode S ac c ≠ 0 then _ else _) _ _
   by_cases a1 : rdCode S ac c ≠ 0
   ·rw [if_pos a1]
    exact (gapply_early so S.length sc (some ⟨rg, rr, none⟩) L.length rcap cl nu ac 3 (i + 1) ve wa ow fo F.length fc rs pl w true HFo _ hFd _ (fun _ _ _ => hJ _ rfl) hrb _ (fun h => by cases h) (fun _ h => absurd h hz) (fun _ _ _ h => by omega) (fun _ _ _ => ⟨a1, rfl⟩)).mono fun e w' h => GPost.no hst hk h.1 h.2
   rw [if_neg a1]
   have a1' : rdCode S ac c = 0 := by omega
   have HJ := hJ _ a1'
   dsimp only
   (try rw [hcl])
   obtain ⟨N, hNe⟩ : ∃ N, (if ve = 0 then xV.length else ve) = N := ⟨_, rfl⟩
   have hvn : RQ.vn ⟨cl, nu, ac, 3, i + 1, ve, wa, ow, .slice fo F.length fc, rs⟩ c = N := by unfold RQ.vn; rw [← hNe, hcl]
   rw [hvn]
   have hN0 : ve = 0 → N = xV.length := fun h => by rw [← hNe, if_pos h]
   have hN1 : ¬ ve = 0 → N = ve := fun h => by rw [← hNe, if_neg h]
   have hNp : ¬ N = 0 := by
    by_cases h0 : ve = 0
    ·have := hN0 h0
     omega
    ·have := hN1 h0
     omega
   rw [if_neg hNp]
   obtain ⟨m, hm⟩ : ∃ m, N = m + 1 := ⟨N - 1, by omega⟩
   have hcg : c.V[N - 1]? = (xV[m]?).map GV.v := by rw [hcV, hm, Nat.add_sub_cancel]
   rw [hcg]
   have hNv : xV.length < ve ↔ xV.length ≤ m := by
    by_cases h0 : ve = 0
    ·have := hN0 h0
     omega
    ·have := hN1 h0
     omega
   rcases Nat.lt_or_ge m xV.length with hml | hml
   ·obtain ⟨y, hy⟩ : ∃ y, xV[m]? = some y := ⟨_, List.getElem?_eq_getElem hml⟩
    have hyf := (hxc.f y (List.mem_of_getElem? hy))
    have hyb := (hxc.fb y (List.mem_of_getElem? hy))
    rw [hy]
    simp only [Option.map_some]
    obtain ⟨⟨au, ev, O, rd⟩, fv2⟩ := y
    simp only at hyf hyb
    obtain ⟨fa, fb, rfl⟩ := hyf.form
    refine ((gapply_read so S.length sc rg rr L.length rcap cl nu ac 3 (i + 1) ve wa ow fo F.length fc rs pl w HFo _ hFd hz _ HJ rfl rfl i xw xo xs xG xV go xG.length gc vg xV.length vcap rfl hk.l hve S L T hst hxi hone m au ev O rd fa O.length fb N hN0 hN1 (fun _ => ⟨hm, hy⟩) hV64)).mono ?_
    rintro e w' (⟨k1, h⟩ | ⟨k1, k2, h⟩ | ⟨k1, k2, v, he, hg, hf⟩)
    ·omega
    ·rw [if_pos k2]
     exact GPost.no hst hk h.1 h.2
    ·rw [if_neg (by rw [k2]; simp)]
     rw [set_same_gc hxi] at hg
     exact ⟨v, L, _, _, _, none, 0, 0, he, hg, rfl, hk.up, hyf.fr hf, sms_nil _, fun k h => h.elim (fun h => .inl (hyb k h)) (fun h => (blk_nil h).elim), hf⟩
   ·rw [List.getElem?_eq_none hml]
    simp only [Option.map_none]
    refine ((gapply_read so S.length sc rg rr L.length rcap cl nu ac 3 (i + 1) ve wa ow fo F.length fc rs pl w HFo _ hFd hz _ HJ rfl rfl i xw xo xs xG xV go xG.length gc vg xV.length vcap rfl hk.l hve S L T hst hxi hone m 0 0 [] false none 0 0 N hN0 hN1 (fun h => by omega) hV64)).mono ?_
    rintro e w' (⟨k1, h⟩ | ⟨k1, k2, h⟩ | ⟨k1, k2, v, he, hg, hf⟩)
    ·exact GPost.no hst hk h.1 h.2
    ·omega
    ·omega
  rw [if_neg o3]
  by_cases o4 : op = 4
  ·rw [if_pos o4]
   subst o4
   unfold RM.gredact
   have hJ : ∀ jc, reCode S ac c = jc → ∀ W, Fr (fun _ => False) w W → Calls Tryz.prog 26 #[.agg #[.slice so S.length sc, .slice (some ⟨rg, rr, none⟩) L.length rcap], .agg #[.int .u32 (cl : Nat), .int .u32 (nu : Nat), .int .u32 (ac : Nat), .int .u8 (4 : Nat), .int .u32 ((i + 1 : Nat) : Int), .int .u32 (ve : Nat), .int .u32 (wa : Nat), .int .u32 (ow : Nat), .slice fo F.length fc, .string rs]] W fun e w' => e = .returned (.int .u8 (jc : Nat)) ∧ Fr (fun _ => False) W w' := fun jc e W hW => by
    rw [← e, ← hc]
    exact gjud_4 so sc rg rr rcap i xw xo xs xG xV go xG.length gc _ cl nu ac ve wa ow fo fc rs S L F T W (hst.fr hW) hxi hk.l hS
   show Calls _ _ _ _ fun e w' => GPost _ _ _ _ _ _ _ (if reCode S ac c ≠ 0 then _ else _) _ _
   by_cases a1 : reCode S ac c ≠ 0
   ·rw [if_pos a1]
    exact (gapply_early so S.length sc (some ⟨rg, rr, none⟩) L.length rcap cl nu ac 4 (i + 1) ve wa ow fo F.length fc rs pl w true HFo _ hFd _ (fun _ _ _ => hJ _ rfl) hrb _ (fun h => by cases h) (fun _ h => absurd h hz) (fun _ _ _ h => by omega) (fun _ _ _ => ⟨a1, rfl⟩)).mono fun e w' h => GPost.no hst hk h.1 h.2
   rw [if_neg a1]
   have a1' : reCode S ac c = 0 := by omega
   have HJ := hJ _ a1'
   dsimp only
   (try rw [hcl])
   by_cases z0 : ve = 0
   ·rw [if_pos z0]
    refine ((gapply_redact so S.length sc rg rr L.length rcap cl nu ac 4 (i + 1) ve wa ow fo F.length fc rs pl w HFo _ hFd hz _ HJ rfl rfl i xw xo xs xG xV go xG.length gc vg xV.length vcap rfl hk.l hve S L T hst hxi hone 0 0 0 [] false none 0 0 (fun _ h => absurd z0 h) hV64 hxo.2)).mono ?_
    rintro e w' (⟨_, h⟩ | ⟨k0, _⟩ | ⟨k0, _⟩)
    ·exact GPost.no hst hk h.1 h.2
    ·exact absurd z0 k0
    ·exact absurd z0 k0
   rw [if_neg z0]
   rcases Nat.lt_or_ge xV.length ve with hlt | hge
   ·rw [hcV, List.getElem?_eq_none (by omega)]
    simp only [Option.map_none]
    refine ((gapply_redact so S.length sc rg rr L.length rcap cl nu ac 4 (i + 1) ve wa ow fo F.length fc rs pl w HFo _ hFd hz _ HJ rfl rfl i xw xo xs xG xV go xG.length gc vg xV.length vcap rfl hk.l hve S L T hst hxi hone 0 0 0 [] false none 0 0 (fun h _ => by omega) hV64 hxo.2)).mono ?_
    rintro e w' (⟨_, h⟩ | ⟨_, k0, _⟩ | ⟨_, k0, _⟩)
    ·exact GPost.no hst hk h.1 h.2
    ·exact absurd hlt k0
    ·exact absurd hlt k0
   obtain ⟨m, hm⟩ : ∃ m, ve = m + 1 := ⟨ve - 1, by omega⟩
   obtain ⟨y, hy⟩ : ∃ y, xV[m]? = some y := ⟨_, List.getElem?_eq_getElem (by omega)⟩
   have hyf := (hxc.f y (List.mem_of_getElem? hy))
   have hyF := hVF y (List.mem_of_getElem? hy)
   have hcg : c.V[ve - 1]? = (xV[m]?).map GV.v := by rw [hcV, hm, Nat.add_sub_cancel]
   rw [hcg, hy]
   simp only [Option.map_some]
   obtain ⟨⟨au, ev, O, rd⟩, fv2⟩ := y
   simp only at hyf hyF
   obtain ⟨fa, fb, rfl⟩ := hyf.form
   refine ((gapply_redact so S.length sc rg rr L.length rcap cl nu ac 4 (i + 1) ve wa ow fo F.length fc rs pl w HFo _ hFd hz _ HJ rfl rfl i xw xo xs xG xV go xG.length gc vg xV.length vcap rfl hk.l hve S L T hst hxi hone m au ev O rd fa O.length fb (fun _ _ => ⟨hm, hy⟩) hV64 hxo.2)).mono ?_
   rintro e w' (⟨k0, _⟩ | ⟨_, _, k2, h⟩ | ⟨_, _, k2, v, nv, he, hg, hf⟩)
   ·omega
   ·rw [if_pos k2]
    exact GPost.no hst hk h.1 h.2
   ·rw [if_neg (by rw [k2]; simp)]
    have hp := GPost.put (n := n) (rc := i + 1) (ve := ve) (hk.set (i := i) (x := ⟨xw, xo, xs, xG, xV.set m ⟨⟨au, ev, O, true⟩, .slice fa O.length fb⟩, .slice go xG.length gc, nv⟩) ⟨by simp only; omega, by simpa using hV1, by simpa using hV64, fun y hy => ?_⟩) rfl he hg hf
    ·rw [GM_set] at hp
     have hv1 : ve - 1 = m := by omega
     rw [hv1]
     (subst hc; simpa [GC.cm, GM, List.map_set] using hp)
    ·rcases List.mem_or_eq_of_mem_set hy with hy | rfl
     ·exact hVF y hy
     ·exact hyF
  rw [if_neg o4]
  by_cases o5 : op = 5
  ·rw [if_pos o5]
   subst o5
   unfold RM.ghistory
   have hJ : ∀ jc, hiCode S ac c = jc → ∀ W, Fr (fun _ => False) w W → Calls Tryz.prog 26 #[.agg #[.slice so S.length sc, .slice (some ⟨rg, rr, none⟩) L.length rcap], .agg #[.int .u32 (cl : Nat), .int .u32 (nu : Nat), .int .u32 (ac : Nat), .int .u8 (5 : Nat), .int .u32 ((i + 1 : Nat) : Int), .int .u32 (ve : Nat), .int .u32 (wa : Nat), .int .u32 (ow : Nat), .slice fo F.length fc, .string rs]] W fun e w' => e = .returned (.int .u8 (jc : Nat)) ∧ Fr (fun _ => False) W w' := fun jc e W hW => by
    rw [← e, ← hc]
    exact gjud_5 so sc rg rr rcap i xw xo xs xG xV go xG.length gc _ cl nu ac ve wa ow fo fc rs S L F T W (hst.fr hW) hxi hk.l hS hfG
   show Calls _ _ _ _ fun e w' => GPost _ _ _ _ _ _ _ (if hiCode S ac c ≠ 0 then _ else _) _ _
   by_cases a1 : hiCode S ac c ≠ 0
   ·rw [if_pos a1]
    exact (gapply_early so S.length sc (some ⟨rg, rr, none⟩) L.length rcap cl nu ac 5 (i + 1) ve wa ow fo F.length fc rs pl w true HFo _ hFd _ (fun _ _ _ => hJ _ rfl) hrb _ (fun h => by cases h) (fun _ h => absurd h hz) (fun _ _ _ h => by omega) (fun _ _ _ => ⟨a1, rfl⟩)).mono fun e w' h => GPost.no hst hk h.1 h.2
   rw [if_neg a1]
   have a1' : hiCode S ac c = 0 := by omega
   have HJ := hJ _ a1'
   dsimp only
   (try rw [hcl])
   refine ((gapply_history so S.length sc rg rr L.length rcap cl nu ac 5 (i + 1) ve wa ow fo F.length fc rs pl w HFo _ hFd hz _ HJ rfl rfl i xw xo xs xG xV go xG.length gc vg xV.length vcap rfl hk.l hve S L T hst hxi hone hV1 hV64 (fun y hy => by have := (hVF y hy).1; omega))).mono ?_
   rintro e w' ⟨v, ho, hn', hcp, he, hos, hg, hf⟩
   rw [set_same_gc hxi] at hg
   refine ⟨v, L, none, 0, 0, ho, hn', hcp, he, hg, rfl, hk.up, gfds_nil _, ?_, fun k h => h.elim (fun h => (blk_nil h).elim) (fun h => .inr (own_blkX hos h).1), hf⟩
   have := hos.sms
   rw [← hc]
   simpa [GC.cm, Function.comp_def] using this
  rw [if_neg o5]
  by_cases o6 : op = 6
  ·rw [if_pos o6]
   subst o6
   unfold RM.seal
   have hJ : ∀ jc, seCode S ac c = jc → ∀ W, Fr (fun _ => False) w W → Calls Tryz.prog 26 #[.agg #[.slice so S.length sc, .slice (some ⟨rg, rr, none⟩) L.length rcap], .agg #[.int .u32 (cl : Nat), .int .u32 (nu : Nat), .int .u32 (ac : Nat), .int .u8 (6 : Nat), .int .u32 ((i + 1 : Nat) : Int), .int .u32 (ve : Nat), .int .u32 (wa : Nat), .int .u32 (ow : Nat), .slice fo F.length fc, .string rs]] W fun e w' => e = .returned (.int .u8 (jc : Nat)) ∧ Fr (fun _ => False) W w' := fun jc e W hW => by
    rw [← e, ← hc]
    exact gjud_6 so sc rg rr rcap i xw xo xs xG xV go xG.length gc _ cl nu ac ve wa ow fo fc rs S L F T W (hst.fr hW) hxi hk.l hS
   show Calls _ _ _ _ fun e w' => GPost _ _ _ _ _ _ _ (if seCode S ac c ≠ 0 then _ else _) _ _
   by_cases a1 : seCode S ac c ≠ 0
   ·rw [if_pos a1]
    exact (gapply_early so S.length sc (some ⟨rg, rr, none⟩) L.length rcap cl nu ac 6 (i + 1) ve wa ow fo F.length fc rs pl w true HFo _ hFd _ (fun _ _ _ => hJ _ rfl) hrb _ (fun h => by cases h) (fun _ h => absurd h hz) (fun _ _ _ h => by omega) (fun _ _ _ => ⟨a1, rfl⟩)).mono fun e w' h => GPost.no hst hk h.1 h.2
   rw [if_neg a1]
   have a1' : seCode S ac c = 0 := by omega
   have HJ := hJ _ a1'
   dsimp only
   (try rw [hcl])
   refine ((gapply_seal so S.length sc rg rr L.length rcap cl nu ac 6 (i + 1) ve wa ow fo F.length fc rs pl w HFo _ hFd hz _ HJ rfl rfl i xw xo xs xG xV go xG.length gc vg xV.length vcap rfl hk.l hve S L T hst hxi hone)).mono ?_
   rintro e w' ⟨v, he, hg, hf⟩
   have hp := GPost.put (n := n) (rc := i + 1) (ve := 0) (hk.set (i := i) (x := ⟨xw, xo, ((ve : Int) == 1), [], xV, .slice none 0 0, .slice vg xV.length vcap⟩) ⟨by simp, hV1, hV64, hVF⟩) rfl he hg hf
   rw [GM_set] at hp
   have hb : ((ve : Int) == 1) = decide (ve = 1) := by
    rw [Bool.eq_iff_iff, beq_iff_eq, decide_eq_true_iff]
    omega
   rw [hb] at hp
   (subst hc; simpa [GC.cm, GM] using hp)
  rw [if_neg o6]
  have o7 : op = 7 := by
   unfold RQ.frm at h1'
   simp only at h1'
   rw [if_neg h3, if_neg o2, if_neg o3, if_neg o4, if_neg o5, if_neg o6] at h1'
   by_cases o7 : op = 7
   ·exact o7
   ·rw [if_neg o7] at h1'; cases h1'
  ·subst o7
   unfold RM.gbreak
   have hJ : ∀ jc, brCode S ac c rs = jc → ∀ W, Fr (fun _ => False) w W → Calls Tryz.prog 26 #[.agg #[.slice so S.length sc, .slice (some ⟨rg, rr, none⟩) L.length rcap], .agg #[.int .u32 (cl : Nat), .int .u32 (nu : Nat), .int .u32 (ac : Nat), .int .u8 (7 : Nat), .int .u32 ((i + 1 : Nat) : Int), .int .u32 (ve : Nat), .int .u32 (wa : Nat), .int .u32 (ow : Nat), .slice fo F.length fc, .string rs]] W fun e w' => e = .returned (.int .u8 (jc : Nat)) ∧ Fr (fun _ => False) W w' := fun jc e W hW => by
    rw [← e, ← hc]
    exact gjud_7 so sc rg rr rcap i xw xo xs xG xV go xG.length gc _ cl nu ac ve wa ow fo fc rs S L F T W (hst.fr hW) hxi hk.l hS
   show Calls _ _ _ _ fun e w' => GPost _ _ _ _ _ _ _ (if brCode S ac c rs ≠ 0 then _ else _) _ _
   by_cases a1 : brCode S ac c rs ≠ 0
   ·rw [if_pos a1]
    exact (gapply_early so S.length sc (some ⟨rg, rr, none⟩) L.length rcap cl nu ac 7 (i + 1) ve wa ow fo F.length fc rs pl w true HFo _ hFd _ (fun _ _ _ => hJ _ rfl) hrb _ (fun h => by cases h) (fun _ h => absurd h hz) (fun _ _ _ h => by omega) (fun _ _ _ => ⟨a1, rfl⟩)).mono fun e w' h => GPost.no hst hk h.1 h.2
   rw [if_neg a1]
   have a1' : brCode S ac c rs = 0 := by omega
   have HJ := hJ _ a1'
   dsimp only
   (try rw [hcl])
   refine ((gapply_break so S.length sc rg rr L.length rcap cl nu ac 7 (i + 1) ve wa ow fo F.length fc rs pl w HFo _ hFd hz _ HJ rfl rfl i xw xo xs xG xV go xG.length gc vg xV.length vcap rfl hk.l hve S L T hst hxi hone (by omega))).mono ?_
   rintro e w' ⟨v, nv, he, hg, hf⟩
   have hp := GPost.put (n := n) (rc := i + 1) (ve := 0) (hk.set (i := i) (x := ⟨xw, xo, xs, ac :: xG, xV, nv, .slice vg xV.length vcap⟩) ⟨by simp; omega, hV1, hV64, hVF⟩) rfl he hg hf
   rw [GM_set] at hp
   (subst hc; simpa [GC.cm, GM] using hp)
theorem Us.blt {w : World} {x : Value} {l : List Nat} (h : Us w x l) {k : Nat} (hk : Blk x k) : k < w.heap.size := by
 obtain ⟨o, n, c, rfl, h0⟩ := hk
 obtain ⟨xo, xc, e⟩ := h.form
 cases e
 obtain ⟨g, o', e, c0⟩ := h.at_ 0 h0
 cases e
 exact lt_of_cell c0
theorem Fds.blt {w : World} {x : Value} {l : List F5} (h : Fds w x l) {k : Nat} (hk : Blk x k) : k < w.heap.size := by
 obtain ⟨o, n, c, rfl, h0⟩ := hk
 obtain ⟨xo, xc, e⟩ := h.form
 cases e
 obtain ⟨g, o', e, c0, _⟩ := h.at_ 0 h0
 cases e
 exact lt_of_cell c0
theorem Sms.blt {w : World} {x : Value} {l : List SM} (h : Sms w x l) {k : Nat} (hk : Blk x k) : k < w.heap.size := by
 obtain ⟨o, n, c, rfl, h0⟩ := hk
 obtain ⟨xo, xc, e⟩ := h.form
 cases e
 obtain ⟨g, o', e, c0, _⟩ := h.at_ 0 h0
 cases e
 exact lt_of_cell c0
theorem Stf.blt {w : World} {x : Value} {l : List P3} (h : Stf w x l) {k : Nat} (hk : Blk x k) : k < w.heap.size := by
 obtain ⟨o, n, c, rfl, h0⟩ := hk
 obtain ⟨xo, xc, e⟩ := h.form
 cases e
 obtain ⟨g, o', e, c0, _⟩ := h.at_ 0 h0
 cases e
 exact lt_of_cell c0
theorem Rd.blt {w : World} {z n : Nat} {x : Value} {xs : List Value} (h : Rd w z x n xs) (hz : 0 < z) {k : Nat} (hk : Blk x k) : k < w.heap.size := by
 obtain ⟨o, m, c, rfl, h0⟩ := hk
 obtain ⟨xo, xc, e⟩ := h.form
 cases e
 obtain ⟨g, o', e, hc⟩ := h.at_ h0
 cases e
 have h1 := h.1
 have h2 : 0 < xs.length := by rw [h1]; exact Nat.mul_pos h0 hz
 exact lt_of_cell (hc 0 _ (List.getElem?_eq_getElem h2))
theorem GSt.bnd {w : World} {T : Nat → Prop} {sv rv : Value} {S : List P3} {L : List GC} (h : GSt w T sv rv S L) : GSt w (fun k => T k ∧ k < w.heap.size) sv rv S L :=
 ⟨h.s, fun k hk => ⟨h.sb k hk, h.s.blt hk⟩, h.r, fun k hk => ⟨h.rb k hk, h.r.blt (by omega) hk⟩, fun x hx => ⟨(h.c x hx).g, fun k hk => ⟨(h.c x hx).gb k hk, (h.c x hx).g.blt hk⟩, (h.c x hx).v, fun k hk => ⟨(h.c x hx).vb k hk, (h.c x hx).v.blt (by omega) hk⟩, (h.c x hx).f, fun y hy k hk => ⟨(h.c x hx).fb y hy k hk, ((h.c x hx).f y hy).blt hk⟩⟩⟩
structure GR (w : World) (T : Nat → Prop) (sv rv : Value) (n : Nat) (s : RM) (L : List GC) : Prop where
 g : GSt w T sv rv s.S L
 m : MRel s (GM s.S L)
 k : GOk n L
 o : s.Ok
 r : s.Srt
theorem GR.frS {w w' : World} {T S' : Nat → Prop} {sv rv : Value} {n : Nat} {s : RM} {L : List GC} (h : GR w T sv rv n s L) (hf : Fr S' w w') (hS : ∀ k, S' k → ¬ T k) : GR w' T sv rv n s L := ⟨h.g.frS hf hS, h.m, h.k, h.o, h.r⟩
theorem GR.fr {w w' : World} {T : Nat → Prop} {sv rv : Value} {n : Nat} {s : RM} {L : List GC} (h : GR w T sv rv n s L) (hf : Fr (fun _ => False) w w') : GR w' T sv rv n s L := h.frS hf (fun _ h => h.elim)
theorem step_S (s : RM) (r : RQ) (F : List F5) (pl : Nat) : (s.step r F pl).1.S = s.S := by
 unfold RM.step
 split
 ·rfl
 split
 ·rfl
 split
 ·unfold RM.create
  split
  ·rfl
  split <;> rfl
 split
 ·rfl
 split
 ·rfl
 rename_i c _
 unfold RM.op
 split
 ·unfold RM.amend
  split
  ·rfl
  split
  ·rfl
  split
  ·rfl
  split
  ·rfl
  split <;> rfl
 split
 ·unfold RM.read
  split
  ·rfl
  split
  ·rfl
  split
  ·rfl
  split <;> rfl
 split
 ·unfold RM.redact
  split
  ·rfl
  split
  ·rfl
  split
  ·rfl
  split <;> rfl
 split
 ·unfold RM.history
  split <;> rfl
 split
 ·unfold RM.seal
  split <;> rfl
 unfold RM.break
 split <;> rfl
def PGo (p : RQ × List F5) : Prop := PGood p ∧ p.1.ve < 4294967296 ∧ p.1.rc < 4294967296 ∧ p.2.length ≤ 1048576
theorem gapply_R (sv rv : Value) (s : RM) (L : List GC) (T : Nat → Prop) (n : Nat) (r : RQ) (F : List F5) (pl : Nat) (w : World) (h : GR w T sv rv n s L) (hn : n ≤ 1000000) (hF : Fds w r.fv F) (hFT : ∀ k, Blk r.fv k → T k) (hp : PGo (r, F)) (X : RM × RA) (hX : s.step r F pl = X) :
  Calls Tryz.prog 12 #[.agg #[sv, rv], r.v, .int .u32 (pl : Nat)] w fun e w' => ∃ rv' L' fo fn fc ho hn hc, e = .returned (.tuple #[.agg #[sv, rv'], .agg #[.int .u32 (r.cl : Nat), .int .u32 (r.nu : Nat), .int .u8 (X.2.co : Nat), .int .u32 (X.2.rc : Nat), .int .u32 (X.2.ve : Nat), .slice fo fn fc, .slice ho hn hc]]) ∧ rv'.oneCell' = true ∧ GR w' (fun k => (T k ∨ w.heap.size ≤ k) ∧ k < w'.heap.size) sv rv' (n + 1) X.1 L' ∧ Fds w' (.slice fo fn fc) X.2.F ∧ Sms w' (.slice ho hn hc) X.2.H ∧ (∀ k, Blk (.slice fo fn fc) k ∨ Blk (.slice ho hn hc) k → (T k ∨ w.heap.size ≤ k) ∧ k < w'.heap.size) ∧ Fr (fun _ => False) w w' := by
 subst hX
 obtain ⟨e2, hm2, hs2⟩ := gstep_rel h.m h.o h.r r F pl
 have hSl := h.o.S
 refine (gapply_any sv rv s.S L T n r F pl w h.g h.k hn hSl hF hFT hp.1.2.1 hp.1.2.2 hp.2.1 hp.2.2.1 _ rfl).mono ?_
 rintro e w' ⟨rv', L', fo, fn, fc, ho, hn', hc, he, hg, hL, hk, hf1, hf2, hb, hf⟩
 rw [e2] at he hf1 hf2
 rw [← hL] at hm2
 have hSS := step_S s r F pl
 refine ⟨rv', L', fo, fn, fc, ho, hn', hc, he, slice_one (by obtain ⟨a, b, e⟩ := hg.r.form; exact ⟨a, _, b, e⟩), ⟨?_, ?_, hk, h.o.step r F pl hp.1.2.2 hp.1.1, hs2⟩, hf1, hf2, fun k hk' => ⟨hb k hk', hk'.elim hf1.blt hf2.blt⟩, hf⟩
 ·rw [hSS]; exact hg.bnd
 ·rw [hSS]; exact hm2
end Go.Proofs.YtiknjghcjaaenaaGreatDoor
namespace Go.Proofs.YtiknjghcjaaenaaGreatDoor
open Go.ChangeShapes Go.WideShapes Go.ChangeAt Go.RowKit Go.Deep
set_option maxRecDepth 100000
theorem rq_of_trodP {H : Type} {enc : TypeId × Value → H} {W : World} {fuel : Nat} {cs : List Value} {x : DataW H × List MemPlace} (h : DataW.trod enc Tryz.prog W 0 (fun _ => true) true fuel 41 cs = some x) :
  ∃ (s : RQ) (F : List F5), cs = [.int .u32 (s.cl : Nat), .int .u32 (s.nu : Nat), .int .u32 (s.ac : Nat), .int .u8 (s.op : Nat), .int .u32 (s.rc : Nat), .int .u32 (s.ve : Nat), .int .u32 (s.wa : Nat), .int .u32 (s.ow : Nat), s.fv, .string s.rs] ∧ FdC W W.heap.size s.fv F ∧ (s.ac < 4294967296 ∧ s.ve < 4294967296 ∧ s.rc < 4294967296) ∧ (∀ f ∈ F, f.v < 4294967296 ∧ f.u < 256) ∧ F.length + 1 ≤ Rows.uptoBulk x.1 ∧ 2 ≤ Rows.uptoBulk x.1 := by
 obtain ⟨xs, n, _, rfl, hl, hlen, hf⟩ := DataW.trod_struct Tryz.underlying41 h
 rw [Tryz.cellsRq] at hl
 have h0 := hf 0 _ rfl
 have h1 := hf 1 _ rfl
 have h2 := hf 2 _ rfl
 have h3 := hf 3 _ rfl
 have h4 := hf 4 _ rfl
 have h5 := hf 5 _ rfl
 have h6 := hf 6 _ rfl
 have h7 := hf 7 _ rfl
 have h8 := hf 8 _ rfl
 match cs, hl with
 | [c0, c1, c2, c3, c4, c5, c6, c7, c8, c9], _ =>
  match xs, hlen with
  | [y0, y1, y2, y3, y4, y5, y6, y7, y8], _ =>
   simp [Tryz.cellsU32, Tryz.cellsU8, Tryz.cellsId, Tryz.cellsSlf, Tryz.cellsStr] at h0 h1 h2 h3 h4 h5 h6 h7 h8
   obtain ⟨cl, nu, e0⟩ := id_of_trod h0
   obtain ⟨ac, e1, q1, w1⟩ := DataW.trod_int Tryz.underlying31 h1
   obtain ⟨op, e2, q2, w2⟩ := DataW.trod_int Tryz.underlying5 h2
   obtain ⟨rc, e3, q3, w3⟩ := DataW.trod_int Tryz.underlying31 h3
   obtain ⟨ve, e4, q4, w4⟩ := DataW.trod_int Tryz.underlying31 h4
   obtain ⟨wa, e5, q5, w5⟩ := DataW.trod_int Tryz.underlying31 h5
   obtain ⟨ow, e6, q6, w6⟩ := DataW.trod_int Tryz.underlying31 h6
   obtain ⟨F, hF, hFb, bF⟩ := fdc_of_trod h7
   obtain ⟨rs, e8, q8, _⟩ := DataW.trod_string Tryz.underlying9 h8
   simp only [List.cons.injEq, and_true] at e0 e1 e2 e3 e4 e5 e6 e8
   obtain ⟨rfl, rfl⟩ := e0
   subst e1 e2 e3 e4 e5 e6 e8
   obtain ⟨ac, rfl, hac⟩ := nat_u32 w1
   obtain ⟨op, rfl, _⟩ := nat_u8 w2
   obtain ⟨rc, rfl, hrc⟩ := nat_u32 w3
   obtain ⟨ve, rfl, hve⟩ := nat_u32 w4
   obtain ⟨wa, rfl, _⟩ := nat_u32 w5
   obtain ⟨ow, rfl, _⟩ := nat_u32 w6
   refine ⟨⟨cl, nu, ac, op, rc, ve, wa, ow, c8, rs⟩, F, rfl, hF, ⟨hac, hve, hrc⟩, hFb, ?_, ?_⟩
   ·have := bulk_in ([y0, y1, y2, y3, y4, y5, y6, y7, y8].map (·.1)) y7.1 (by simp)
    simp only [Rows.uptoBulk]
    omega
   ·have h9 := bulk_len ([y0, y1, y2, y3, y4, y5, y6, y7, y8].map (·.1))
    simp only [List.length_map, List.length_cons, List.length_nil] at h9
    simp only [Rows.uptoBulk]
    omega
theorem rqs_of_trodP {H : Type} {enc : TypeId × Value → H} {W : World} {fuel : Nat} {v : Value} {x : DataW H × List MemPlace} (hf : DataW.trod enc Tryz.prog W 0 (fun _ => true) true fuel 23 [v] = some x) (hbk : Rows.uptoBulk x.1 ≤ 1048576) :
  ∃ A : List (RQ × List F5), Rqs W v A ∧ (∀ p ∈ A, PGo p) ∧ 2 * A.length + 1 ≤ Rows.uptoBulk x.1 := by
 rcases open_slice Tryz.underlying23 hf with ⟨hcs, hx⟩ | ⟨a, len', cap', m, n, D, Pl, hcs, _, hl, hm, hmm, hx, hel⟩
 ·simp only [List.cons.injEq, and_true] at hcs
  subst hcs
  exact ⟨[], ⟨.inl ⟨none, 0, rfl, rfl⟩, fun p hp => (by cases hp)⟩, fun p hp => (by cases hp), bulk_pos _⟩
 ·simp only [List.cons.injEq, and_true] at hcs
  subst hcs
  subst hx
  simp only [if_true] at hmm
  subst hmm
  have hp : ∀ i, ∃ s : RQ × List F5, i < m → (∀ j, j < 10 → W.cell? ((a.add (i * 10)).add j) = [Value.int .u32 ((s.1).cl : Nat), .int .u32 ((s.1).nu : Nat), .int .u32 ((s.1).ac : Nat), .int .u8 ((s.1).op : Nat), .int .u32 ((s.1).rc : Nat), .int .u32 ((s.1).ve : Nat), .int .u32 ((s.1).wa : Nat), .int .u32 ((s.1).ow : Nat), (s.1).fv, .string (s.1).rs][j]?) ∧ FdC W W.heap.size s.1.fv s.2 ∧ (s.1.ac < 4294967296 ∧ s.1.ve < 4294967296 ∧ s.1.rc < 4294967296) ∧ (∀ f ∈ s.2, f.v < 4294967296 ∧ f.u < 256) ∧ s.2.length + 1 ≤ Rows.uptoBulk (D i) ∧ 2 ≤ Rows.uptoBulk (D i) := fun i => by
   by_cases hi : i < m
   ·obtain ⟨cs', h1, h2⟩ := hel i hi
    rw [Tryz.cellsRq] at h1
    obtain ⟨_, hlen, hcell⟩ := World.cells?_some h1
    obtain ⟨s, F, rfl, r1, r2, r3, r4, r5⟩ := rq_of_trodP h2
    exact ⟨(s, F), fun _ => ⟨hcell, r1, r2, r3, r4, r5⟩⟩
   ·exact ⟨(⟨0, 0, 0, 0, 0, 0, 0, 0, .slice none 0 0, ByteArray.empty⟩, []), fun h => absurd h hi⟩
  obtain ⟨Q, hQ⟩ : ∃ Q : Nat → RQ × List F5, ∀ i, i < m → (∀ j, j < 10 → W.cell? ((a.add (i * 10)).add j) = [Value.int .u32 (((Q i).1).cl : Nat), .int .u32 (((Q i).1).nu : Nat), .int .u32 (((Q i).1).ac : Nat), .int .u8 (((Q i).1).op : Nat), .int .u32 (((Q i).1).rc : Nat), .int .u32 (((Q i).1).ve : Nat), .int .u32 (((Q i).1).wa : Nat), .int .u32 (((Q i).1).ow : Nat), ((Q i).1).fv, .string ((Q i).1).rs][j]?) ∧ FdC W W.heap.size (Q i).1.fv (Q i).2 ∧ ((Q i).1.ac < 4294967296 ∧ (Q i).1.ve < 4294967296 ∧ (Q i).1.rc < 4294967296) ∧ (∀ f ∈ (Q i).2, f.v < 4294967296 ∧ f.u < 256) ∧ (Q i).2.length + 1 ≤ Rows.uptoBulk (D i) ∧ 2 ≤ Rows.uptoBulk (D i) := ⟨fun i => Classical.choose (hp i), fun i => Classical.choose_spec (hp i)⟩
  have hbulk := bulk_two ((List.range len').map D) (fun d hd => by
   obtain ⟨i, hi, rfl⟩ := List.mem_map.1 hd
   have hi' : i < len' := by simpa using hi
   exact (hQ i (by omega)).2.2.2.2.2)
  have hd : Rows.uptoBulkAll ((List.range len').map D) + 1 ≤ Rows.uptoBulk (DataW.slice ((List.range len').map D) ((List.range (m - len')).map fun j => D (len' + j)) : DataW H) := by
   simp only [Rows.uptoBulk]; omega
  have hin : ∀ p ∈ (List.range len').map Q, FdC W W.heap.size p.1.fv p.2 ∧ PGo p := fun p hp => by
   obtain ⟨i, hi, rfl⟩ := List.mem_map.1 hp
   have hi' : i < len' := by simpa using hi
   obtain ⟨_, r1, r2, r3, r4, _⟩ := hQ i (by omega)
   have hb := bulk_in ((List.range len').map D) (D i) (List.mem_map.2 ⟨i, hi, rfl⟩)
   simp only at hbk
   exact ⟨r1, ⟨r2.1, by omega, r3⟩, r2.2.1, r2.2.2, by omega⟩
  refine ⟨(List.range len').map Q, ⟨?_, fun p hp => (hin p hp).1⟩, fun p hp => (hin p hp).2, by simp at hbulk ⊢; omega⟩
  by_cases h0 : len' = 0
  ·subst h0
   exact .inl ⟨some a, m, by simp, by simp⟩
  ·have hc0 := (hQ 0 (by omega)).1 0 (by decide)
   obtain ⟨g, o, sp⟩ := a
   have hsp : sp = none := by simpa [Addr.add] using World.cell?_spot hc0
   subst hsp
   refine .inr ⟨g, o, m, by simp, fun j hj => ?_⟩
   have hj' : j < len' := by simpa using hj
   have hq := (hQ j (by omega)).1
   have e : ∀ i, ((⟨g, o, none⟩ : Addr).add (j * 10)).add i = ⟨g, o + j * 10 + i, none⟩ := fun i => by rw [addr_add, addr_add]
   have q0 := hq 0 (by decide)
   have q1 := hq 1 (by decide)
   have q2 := hq 2 (by decide)
   have q3 := hq 3 (by decide)
   have q4 := hq 4 (by decide)
   have q5 := hq 5 (by decide)
   have q6 := hq 6 (by decide)
   have q7 := hq 7 (by decide)
   have q8 := hq 8 (by decide)
   have q9 := hq 9 (by decide)
   rw [e] at q0 q1 q2 q3 q4 q5 q6 q7 q8 q9
   simp at q0 q1 q2 q3 q4 q5 q6 q7 q8 q9
   simp only [List.getElem_map, List.getElem_range]
   exact ⟨q0, q1, q2, q3, q4, q5, q6, q7, q8, q9⟩
theorem play_of_readingP {H : Type} {enc : TypeId × Value → H} {W : World} {base : Nat} {v : Value} {d : DataW H} {p : List MemPlace} (hval : Value.okWide Tryz.prog W .any base 26 v) (h : DataW.Trod enc Tryz.prog W 0 (fun _ => true) true 26 v d p) (hbk : Rows.uptoBulk d ≤ 1048576) :
  ∃ (sv rv pv : Value) (S : List P3) (l : List (RQ × List F5)) (pl : List Nat), v = .agg #[sv, rv, pv] ∧ Stf W sv S ∧ Rqs W rv l ∧ Us W pv pl ∧ (∀ p ∈ l, PGo p) ∧ 2 * S.length ≤ Rows.uptoBulk d ∧ 2 * l.length + 1 ≤ Rows.uptoBulk d := by
 obtain ⟨cs, rfl, hsz⟩ := okWide_struct Tryz.underlying26 hval
 obtain ⟨fuel, hf0⟩ := h
 obtain ⟨xs, n, _, hx, hl, hlen, hfs⟩ := DataW.trod_struct Tryz.underlying26 hf0
 rw [Tryz.cellsPlay] at hl
 simp only [Prod.mk.injEq] at hx
 obtain ⟨rfl, -⟩ := hx
 have h0 := hfs 0 _ rfl
 have h1 := hfs 1 _ rfl
 have h2 := hfs 2 _ rfl
 have hc : (Value.agg cs).cells.toList = cs.toList := rfl
 rw [hc] at hl h0 h1 h2
 obtain ⟨l⟩ := cs
 simp only at hl h0 h1 h2
 match l, hl with
 | [c0, c1, c2], _ =>
  match xs, hlen with
  | [y0, y1, y2], _ =>
   simp [Tryz.cellsSls, Tryz.cellsSlq, Tryz.cellsSlu] at h0 h1 h2
   have hbi : ∀ y : DataW H, y ∈ [y0, y1, y2].map (·.1) → Rows.uptoBulk y ≤ Rows.uptoBulk (DataW.agg ([y0, y1, y2].map (·.1)) : DataW H) := fun y hy => by
    have := bulk_in _ y hy
    simp only [Rows.uptoBulk]
    omega
   have b0 := hbi y0.1 (by simp)
   have b1 := hbi y1.1 (by simp)
   obtain ⟨S, hS, _⟩ := stf_of_trod h0
   have bS := stf_len h0 hS
   obtain ⟨l, hq, hp, bl⟩ := rqs_of_trodP h1 (by omega)
   obtain ⟨pl, hu, _⟩ := us_of_trod h2
   exact ⟨c0, c1, c2, S, l, pl, rfl, hS, hq, hu, hp, by omega, by omega⟩
end Go.Proofs.YtiknjghcjaaenaaGreatDoor
namespace Go.Proofs.YtiknjghcjaaenaaGreatDoor
open Go.RowKit Go.Shelf
structure AnsL (w : World) (base : Nat) (T : Nat → Prop) (l : List (RQ × List F5)) (xs : List RA) (ov : Value) (al0 : List AN) : Prop where
 o : w.ownsRow base 45 7 ov al0.length (acells al0)
 ot : ∀ g, ov.ownBlock = some g → ¬ T g
 n : al0.length = xs.length
 a : ∀ (i : Nat) (a : AN), al0[i]? = some a → ∃ (p : RQ × List F5) (x : RA), l[i]? = some p ∧ xs[i]? = some x ∧ AnOk w base T p.1 a x
structure AI (w wr : World) (b : Nat) (y : Value) (l : List (RQ × List F5)) (s0 : RM) (j : Nat) (ov : Value) (T : Nat → Prop) (al0 : List AN) : Prop where
 r : RsB wr b T (endM s0 0 (l.take j))
 t : ∀ k, T k → w.heap.size ≤ k ∧ k < wr.heap.size
 q : Rqs wr y l
 lo : ∀ k, Rqb y l k → k < w.heap.size
 u : GU wr
 uv : 1 < w.heap.size
 al : AnsL wr w.heap.size T l (runM s0 0 (l.take j)) ov al0
 f : Fr (fun _ => False) w wr
theorem AI.step {w wr W : World} {b j : Nat} {y ov : Value} {l : List (RQ × List F5)} {s0 : RM} {T : Nat → Prop} {al0 : List AN} (h : AI w wr b y l s0 j ov T al0) (hf : Fr (fun _ => False) wr W) : AI w W b y l s0 j ov T al0 :=
 ⟨h.r.fr hf, fun k hk => ⟨(h.t k hk).1, Nat.lt_of_lt_of_le (h.t k hk).2 hf.size⟩, h.q.fr hf, h.lo, h.u.fr hf, h.uv, ⟨ownsRow_of_block h.al.o (fun g hg => hf.block g (h.al.o.lt g hg).2 (fun h => h)), h.al.ot, h.al.n, fun i a ha => by
  obtain ⟨p, x, h1, h2, h3⟩ := h.al.a i a ha
  exact ⟨p, x, h1, h2, h3.frS hf (fun _ _ h => h) (fun _ _ h => h)⟩⟩, h.f.trans hf (fun _ _ h => h)⟩
theorem AI.next {w W8 w3 : World} {b j : Nat} {y ov : Value} {l : List (RQ × List F5)} {s0 : RM} {T T' : Nat → Prop} {al0 : List AN} {p : RQ × List F5} {X : RM × RA} {fv hv : Value} (h : AI w W8 b y l s0 j ov T al0) (hp : l[j]? = some p) (hX : (endM s0 0 (l.take j)).step p.1 p.2 j = X) (hf : Fr T W8 w3)
  (hr : RsB w3 b T' X.1) (k2 : ∀ k, T' k → T k ∨ W8.heap.size ≤ k) (k3 : ∀ k, T' k → k < w3.heap.size) (hof : OwF w3 W8.heap.size fv X.2.F) (hos : OwS w3 W8.heap.size hv X.2.H) (tf : ∀ g, fv.ownBlock = some g → ¬ T' g) (th : ∀ g, hv.ownBlock = some g → ¬ T' g) (hfo : fv.oneCell' = true) (hho : hv.oneCell' = true) (hl : l.length ≤ 1000000000) :
  ∃ ao cap w7, (Builtin.append_ #[58, 58] 58 #[ov, .slice (some ⟨w3.heap.size, 0, none⟩) 1 1]).run Tryz.prog (w3.alloc (.cells (AN.mk p.1.cl p.1.nu X.2.co X.2.rc X.2.ve fv hv).cs.toArray 45)) = .ok (.slice ao (al0.length + 1) cap) w7 ∧ AI w w7 b y l s0 (j + 1) (.slice ao (al0.length + 1) cap) T' (al0 ++ [AN.mk p.1.cl p.1.nu X.2.co X.2.rc X.2.ve fv hv]) := by
 have hj : j < l.length := (List.getElem?_eq_some_iff.1 hp).1
 have hs := h.f.size
 have hs3 := hf.size
 have htk : (l.take j).length = j := by simp; omega
 have hasl : al0.length = j := by rw [h.al.n, runM_len, htk]
 have ho3 : w3.ownsRow w.heap.size 45 7 ov al0.length (acells al0) := ownsRow_of_block h.al.o (fun g hg => hf.block g (h.al.o.lt g hg).2 (h.al.ot g hg))
 obtain ⟨Wd, hWd⟩ : ∃ Wd, Wd = w3.alloc (.cells (AN.mk p.1.cl p.1.nu X.2.co X.2.rc X.2.ve fv hv).cs.toArray 45) := ⟨_, rfl⟩
 have f3d : Fr (fun _ => False) w3 Wd := by rw [hWd]; exact box1 w3 _
 have hod : Wd.ownsRow w.heap.size 45 7 ov al0.length (acells al0) := by rw [hWd]; exact ho3.alloc _
 obtain ⟨ao, cap, w7, hr7, ho7, hf7, hn7⟩ := app_ans Wd w.heap.size w3.heap.size ov al0 (AN.mk p.1.cl p.1.nu X.2.co X.2.rc X.2.ve fv hv) hod (by have := f3d.size; omega) (by omega) (by rw [hWd]; exact Array.getElem?_push_size) (fun u hu => by
  simp only [AN.cs, List.mem_cons, List.not_mem_nil, or_false] at hu
  rcases hu with rfl | rfl | rfl | rfl | rfl | rfl | rfl
  ·rfl
  ·rfl
  ·rfl
  ·rfl
  ·rfl
  ·exact hfo
  ·exact hho)
 have hovn : ∀ g, ov.ownBlock = some g → g < W8.heap.size := fun g hg => (h.al.o.lt g hg).2
 have hov' : ∀ g, ov.ownBlock = some g → ¬ T' g := fun g hg hT => by
  rcases k2 g hT with h1 | h1
  ·exact h.al.ot g hg h1
  ·have := hovn g hg; omega
 have f37 : Fr (fun g => ov.ownBlock = some g) w3 w7 := (f3d.mono (fun _ _ h => h.elim)).trans hf7 (fun _ _ h => h)
 have hs7 := f37.size
 have hrun : runM s0 0 (l.take (j + 1)) = runM s0 0 (l.take j) ++ [X.2] ∧ endM s0 0 (l.take (j + 1)) = X.1 := by
  have e : l.take (j + 1) = l.take j ++ [p] := by rw [List.take_add_one, hp]; rfl
  obtain ⟨h1, h2⟩ := runM_snoc (l.take j) s0 0 p
  rw [htk, Nat.zero_add, hX] at h1 h2
  rw [e]
  exact ⟨h1, h2⟩
 refine ⟨ao, cap, w7, by rw [← hWd]; exact hr7, ⟨?_, fun k hk => ⟨?_, Nat.lt_of_lt_of_le (k3 k hk) hs7⟩, ?_, h.lo, ?_, h.uv, ⟨ho7, fun g hg hT => ?_, ?_, ?_⟩, ?_⟩⟩
 ·rw [hrun.2]
  exact hr.frS f37 (fun k hk hT => hov' k hk hT)
 ·rcases k2 k hk with h1 | h1
  ·exact (h.t k h1).1
  ·omega
 ·refine (h.q.frS hf (fun k hk hT => by have := h.lo k hk; have := (h.t k hT).1; omega)).frS f37 (fun k hk hov => by have := h.lo k hk; have := (h.al.o.lt k hov).1; omega)
 ·exact (h.u.frT hf (fun hT => by have := (h.t _ hT).1; have := h.uv; omega)).frT f37 (fun hov => by have := (h.al.o.lt _ hov).1; have := h.uv; omega)
 ·rcases hn7 g hg with h1 | h1
  ·exact hov' g h1 hT
  ·have := k3 g hT
   have := f3d.size
   omega
 ·rw [hrun.1]
  simp [h.al.n]
 ·intro i a ha
  by_cases hi : i < al0.length
  ·rw [List.getElem?_append_left hi] at ha
   obtain ⟨p', x, h1, h2, h3⟩ := h.al.a i a ha
   refine ⟨p', x, h1, ?_, ?_⟩
   ·rw [hrun.1, List.getElem?_append_left (by rw [← h.al.n]; exact hi)]
    exact h2
   ·have h4 := h3.frS (T' := T') hf (fun g hg => hg.elim (h3.tf g) (h3.th g)) (fun g hg hT => (k2 g hT).resolve_right (by omega))
    refine h4.frS f37 (fun g hg hov => ?_) (fun _ _ h => h)
    rcases hg with hg | hg
    ·exact own_ne h4.f ho3 (by decide) g hg hov
    ·exact own_ne h4.h ho3 (by decide) g hg hov
  ·have hi2 : i = al0.length := by
    have := (List.getElem?_eq_some_iff.1 ha).1
    simp at this
    omega
   subst hi2
   rw [List.getElem?_append_right (Nat.le_refl _), Nat.sub_self] at ha
   simp at ha
   subst ha
   refine ⟨p, X.2, by rw [hasl]; exact hp, ?_, ?_⟩
   ·rw [hrun.1, h.al.n, List.getElem?_append_right (Nat.le_refl _), Nat.sub_self]
    rfl
   ·have hk : AnOk w3 w.heap.size T' p.1 (AN.mk p.1.cl p.1.nu X.2.co X.2.rc X.2.ve fv hv) X.2 := ⟨⟨rfl, rfl, rfl, rfl, rfl⟩, ownsRow_base hof hs, ownsRow_base hos hs, tf, th⟩
    refine hk.frS f37 (fun g hg hov => ?_) (fun _ _ h => h)
    rcases hg with hg | hg
    ·exact own_ne hof ho3 (by decide) g hg hov
    ·exact own_ne hos ho3 (by decide) g hg hov
 ·exact (h.f.absorb hf (fun k hk => (h.t k hk).1)).absorb f37 (fun k hk => (h.al.o.lt k hk).1)
structure GQ (w : World) (T : Nat → Prop) (sv rv : Value) (n : Nat) (X : RM × RA) (L : List GC) (fv hv : Value) : Prop where
 g : GR w T sv rv n X.1 L
 f : Fds w fv X.2.F
 h : Sms w hv X.2.H
 b : ∀ k, Blk fv k ∨ Blk hv k → T k
 lt : ∀ k, T k → k < w.heap.size
theorem Sms.frB {w w' : World} {x : Value} {l : List SM} {S : Nat → Prop} (h : Sms w x l) (hf : Fr S w w') (hS : ∀ k, Blk x k → ¬ S k) : Sms w' x l := by
 rcases h with h | ⟨g, o, c, h1, h2⟩
 ·exact .inl h
 ·rcases Nat.eq_zero_or_pos l.length with h0 | h0
  ·refine .inl ⟨some ⟨g, o, none⟩, c, by rw [h1, h0], List.length_eq_zero_iff.1 h0⟩
  ·refine .inr ⟨g, o, c, h1, fun j hj => ?_⟩
   obtain ⟨c0, c1, c2, c3⟩ := h2 j hj
   have hg : g < w.heap.size := lt_of_cell c0
   have hn : ¬ S g := hS g ⟨o, _, c, h1, h0⟩
   exact ⟨(hf.cell (p := ⟨g, _, none⟩) hg hn).trans c0, (hf.cell (p := ⟨g, _, none⟩) hg hn).trans c1, (hf.cell (p := ⟨g, _, none⟩) hg hn).trans c2, (hf.cell (p := ⟨g, _, none⟩) hg hn).trans c3⟩
theorem GQ.frS {w w' : World} {T S : Nat → Prop} {sv rv : Value} {n : Nat} {X : RM × RA} {L : List GC} {fv hv : Value} (h : GQ w T sv rv n X L fv hv) (hf : Fr S w w') (hS : ∀ k, S k → ¬ T k) : GQ w' T sv rv n X L fv hv :=
 ⟨h.g.frS hf hS, h.f.frB hf (fun k hk hs => hS k hs (h.b k (.inl hk))), h.h.frB hf (fun k hk hs => hS k hs (h.b k (.inr hk))), h.b, fun k hk => Nat.lt_of_lt_of_le (h.lt k hk) hf.size⟩
theorem GQ.fr {w w' : World} {T : Nat → Prop} {sv rv : Value} {n : Nat} {X : RM × RA} {L : List GC} {fv hv : Value} (h : GQ w T sv rv n X L fv hv) (hf : Fr (fun _ => False) w w') : GQ w' T sv rv n X L fv hv := h.frS hf (fun _ h => h.elim)
def QPost (w : World) (T : Nat → Prop) (sv : Value) (n cl nu : Nat) (X : RM × RA) (e : Ending) (w' : World) : Prop :=
 ∃ rv' L' fo fn fc ho hn hc T1, e = .returned (.tuple #[.agg #[sv, rv'], .agg #[.int .u32 (cl : Nat), .int .u32 (nu : Nat), .int .u8 (X.2.co : Nat), .int .u32 (X.2.rc : Nat), .int .u32 (X.2.ve : Nat), .slice fo fn fc, .slice ho hn hc]]) ∧ rv'.oneCell' = true ∧ GQ w' T1 sv rv' (n + 1) X L' (.slice fo fn fc) (.slice ho hn hc) ∧ (∀ k, T1 k → (T k ∨ w.heap.size ≤ k) ∧ k < w'.heap.size) ∧ (∀ k, T k → k < w.heap.size → T1 k) ∧ Fr (fun _ => False) w w'
theorem gapply_Q (sv rv : Value) (s : RM) (L : List GC) (T : Nat → Prop) (n : Nat) (r : RQ) (F : List F5) (pl : Nat) (w : World) (h : GR w T sv rv n s L) (hn : n ≤ 1000000) (hF : Fds w r.fv F) (hFT : ∀ k, Blk r.fv k → T k) (hp : PGo (r, F)) (X : RM × RA) (hX : s.step r F pl = X) :
  Calls Tryz.prog 12 #[.agg #[sv, rv], r.v, .int .u32 (pl : Nat)] w fun e w' => QPost w T sv n r.cl r.nu X e w' := by
 refine (gapply_R sv rv s L T n r F pl w h hn hF hFT hp X hX).mono ?_
 rintro e w' ⟨rv', L', fo, fn, fc, ho, hn', hc, he, h1, hg, hf1, hf2, hb, hf⟩
 exact ⟨rv', L', fo, fn, fc, ho, hn', hc, _, he, h1, ⟨hg, hf1, hf2, hb, fun k hk => hk.2⟩, fun k hk => hk, fun k hk hl => ⟨.inl hk, Nat.lt_of_lt_of_le hl hf.size⟩, hf⟩
structure AnG (w : World) (T : Nat → Prop) (r : RQ) (a : AN) (x : RA) : Prop where
 e : a.cl = r.cl ∧ a.nu = r.nu ∧ a.co = x.co ∧ a.rc = x.rc ∧ a.ve = x.ve
 f : Fds w a.fv x.F
 h : Sms w a.hv x.H
 t : ∀ k, Blk a.fv k ∨ Blk a.hv k → T k
theorem AnG.frS {w w' : World} {T T' S : Nat → Prop} {r : RQ} {a : AN} {x : RA} (h : AnG w T r a x) (hf : Fr S w w') (hS : ∀ k, S k → ¬ T k) (hT : ∀ k, T k → T' k) : AnG w' T' r a x :=
 ⟨h.e, h.f.frB hf (fun k hk hs => hS k hs (h.t k (.inl hk))), h.h.frB hf (fun k hk hs => hS k hs (h.t k (.inr hk))), fun k hk => hT k (h.t k hk)⟩
structure AnsG (w : World) (base : Nat) (T : Nat → Prop) (l : List (RQ × List F5)) (xs : List RA) (ov : Value) (al : List AN) : Prop where
 o : w.ownsRow base 45 7 ov al.length (acells al)
 n : al.length = xs.length
 a : ∀ (i : Nat) (a : AN), al[i]? = some a → ∃ (p : RQ × List F5) (x : RA), l[i]? = some p ∧ xs[i]? = some x ∧ AnG w T p.1 a x
theorem AnsG.frS {w w' : World} {base : Nat} {T T' S : Nat → Prop} {l : List (RQ × List F5)} {xs : List RA} {ov : Value} {al : List AN} (h : AnsG w base T l xs ov al) (hf : Fr S w w') (hS : ∀ k, S k → ¬ T k) (ho : ∀ g, ov.ownBlock = some g → ¬ S g) (hT : ∀ k, T k → T' k) : AnsG w' base T' l xs ov al :=
 ⟨ownsRow_of_block h.o (fun g hg => hf.block g (h.o.lt g hg).2 (ho g hg)), h.n, fun i a ha => by
  obtain ⟨p, x, h1, h2, h3⟩ := h.a i a ha
  exact ⟨p, x, h1, h2, h3.frS hf hS hT⟩⟩
structure GI (w wr : World) (sv rv yv ov : Value) (S : List P3) (l : List (RQ × List F5)) (j : Nat) (T : Nat → Prop) (al : List AN) (L : List GC) : Prop where
 b : wr.heap[w.heap.size]? = some (.cells #[sv, rv] 36)
 g : GR wr T sv rv j (endM ⟨S, []⟩ 0 (l.take j)) L
 t : ∀ k, T k → k < wr.heap.size ∧ k ≠ w.heap.size ∧ ¬ ov.ownBlock = some k
 q : Rqs wr yv l
 qt : ∀ k, Rqb yv l k → T k
 al : AnsG wr (w.heap.size + 1) T l (runM ⟨S, []⟩ 0 (l.take j)) ov al
 f : Fr (fun _ => False) w wr
structure GJ (w wx : World) (sv rv rv' yv ov : Value) (S : List P3) (l : List (RQ × List F5)) (j : Nat) (T : Nat → Prop) (al : List AN) (L : List GC) (z8 z9 : Nat) (p : RQ × List F5) (a : AN) (X : RM × RA) : Prop where
 b : wx.heap[w.heap.size]? = some (.cells #[sv, rv] 36)
 k8 : wx.heap[z8]? = some (.cells #[sv, rv'] 36)
 k9 : wx.heap[z9]? = some (.cells a.cs.toArray 45)
 n8 : z8 ≠ w.heap.size
 n9 : z9 ≠ w.heap.size
 g : GR wx T sv rv' (j + 1) X.1 L
 t : ∀ k, T k → k < wx.heap.size ∧ k ≠ w.heap.size ∧ ¬ ov.ownBlock = some k
 q : Rqs wx yv l
 qt : ∀ k, Rqb yv l k → T k
 al : AnsG wx (w.heap.size + 1) T l (runM ⟨S, []⟩ 0 (l.take j)) ov al
 an : AnG wx T p.1 a X.2
 f : Fr (fun _ => False) w wx
theorem GI.after {w wr wx : World} {sv rv rv' yv ov fv hv : Value} {S : List P3} {l : List (RQ × List F5)} {j : Nat} {T T1 : Nat → Prop} {al : List AN} {L L' : List GC} {z8 z9 : Nat} {p : RQ × List F5} {X : RM × RA} {sz : Nat}
  (h : GI w wr sv rv yv ov S l j T al L) (hf : Fr (fun _ => False) wr wx) (hq : GQ wx T1 sv rv' (j + 1) X L' fv hv) (ht1 : ∀ k, T1 k → (T k ∨ sz ≤ k) ∧ k < wx.heap.size) (hsz : wr.heap.size ≤ sz) (ht2 : ∀ k, T k → T1 k) (h8 : wr.heap.size ≤ z8 ∧ wx.heap[z8]? = some (.cells #[sv, rv'] 36)) (h9 : wr.heap.size ≤ z9 ∧ wx.heap[z9]? = some (.cells (AN.mk p.1.cl p.1.nu X.2.co X.2.rc X.2.ve fv hv).cs.toArray 45)) :
  GJ w wx sv rv rv' yv ov S l j T1 al L' z8 z9 p (AN.mk p.1.cl p.1.nu X.2.co X.2.rc X.2.ve fv hv) X := by
 have hb := lt_of_block h.b
 refine ⟨(hf.block _ hb (fun h => h)).trans h.b, h8.2, h9.2, by omega, by omega, hq.g, fun k hk => ?_, h.q.fr hf, fun k hk => ht2 k (h.qt k hk), h.al.frS hf (fun _ h => h.elim) (fun _ _ h => h) ht2, ⟨⟨rfl, rfl, rfl, rfl, rfl⟩, hq.f, hq.h, hq.b⟩, h.f.trans hf (fun _ _ h => h)⟩
 obtain ⟨h1, h2⟩ := ht1 k hk
 rcases h1 with h1 | h1
 ·obtain ⟨h3, h4, h5⟩ := h.t k h1
  exact ⟨h2, h4, h5⟩
 ·refine ⟨h2, by omega, fun e => ?_⟩
  have := (h.al.o.lt k e).2
  omega
theorem GJ.next {w wx : World} {sv rv rv' yv ov : Value} {S : List P3} {l : List (RQ × List F5)} {j : Nat} {T : Nat → Prop} {al : List AN} {L : List GC} {z8 z9 : Nat} {p : RQ × List F5} {a : AN} {X : RM × RA} (h : GJ w wx sv rv rv' yv ov S l j T al L z8 z9 p a X) (hp : l[j]? = some p) (hX : (endM ⟨S, []⟩ 0 (l.take j)).step p.1 p.2 j = X) (hl : l.length ≤ 1000000000) (ha : ∀ u ∈ a.cs, u.oneCell' = true) :
  ∃ ao cap w7, (Builtin.append_ #[58, 58] 58 #[ov, .slice (some ⟨wx.heap.size, 0, none⟩) 1 1]).run Tryz.prog (((wx.setCell ⟨w.heap.size, 0, none⟩ sv).setCell ⟨w.heap.size, 1, none⟩ rv').alloc (.cells a.cs.toArray 45)) = .ok (.slice ao (al.length + 1) cap) w7 ∧ GI w w7 sv rv' yv (.slice ao (al.length + 1) cap) S l (j + 1) T (al ++ [a]) L := by
 obtain ⟨W5, hW5⟩ : ∃ W5, W5 = (wx.setCell ⟨w.heap.size, 0, none⟩ sv).setCell ⟨w.heap.size, 1, none⟩ rv' := ⟨_, rfl⟩
 have f5 : Fr (fun k => k = w.heap.size) wx W5 := by
  rw [hW5]
  exact ((Fr.refl (fun k => k = w.heap.size) wx).setCell (p := ⟨w.heap.size, 0, none⟩) (.inl rfl) sv).setCell (p := ⟨w.heap.size, 1, none⟩) (.inl rfl) rv'
 have hsz5 : W5.heap.size = wx.heap.size := by rw [hW5]; simp
 have b5 : W5.heap[w.heap.size]? = some (.cells #[sv, rv'] 36) := by
  have k0 := heap_setCell_same wx w.heap.size 0 _ 36 sv h.b
  have k1 := heap_setCell_same _ w.heap.size 1 _ 36 rv' k0
  simp only [List.setIfInBounds_toArray, List.set_cons_zero, List.set_cons_succ] at k1
  rw [hW5]
  exact k1
 rw [← hW5]
 have hb := lt_of_block h.b
 have hj : j < l.length := (List.getElem?_eq_some_iff.1 hp).1
 have htk : (l.take j).length = j := by simp; omega
 have hasl : al.length = j := by rw [h.al.n, runM_len, htk]
 have al5 := h.al.frS f5 (T' := T) (fun k hk ht => by have := (h.t k ht).2.1; omega) (fun g hg e => by have h1 : w.heap.size + 1 ≤ g := (h.al.o.lt g hg).1; omega) (fun _ h => h)
 obtain ⟨Wd, hWd⟩ : ∃ Wd, Wd = W5.alloc (.cells a.cs.toArray 45) := ⟨_, rfl⟩
 have f5d : Fr (fun _ => False) W5 Wd := by rw [hWd]; exact box1 W5 _
 have ald := al5.frS f5d (T' := T) (fun _ h => h.elim) (fun _ _ h => h) (fun _ h => h)
 obtain ⟨ao, cap, w7, hr7, ho7, hf7, hn7⟩ := app_ans Wd (w.heap.size + 1) wx.heap.size ov al a ald.o (by have := f5d.size; omega) (by omega) (by rw [hWd, ← hsz5]; exact Array.getElem?_push_size) ha
 refine ⟨ao, cap, w7, by rw [← hWd]; exact hr7, ?_⟩
 have hrun : runM ⟨S, []⟩ 0 (l.take (j + 1)) = runM ⟨S, []⟩ 0 (l.take j) ++ [X.2] ∧ endM ⟨S, []⟩ 0 (l.take (j + 1)) = X.1 := by
  have e : l.take (j + 1) = l.take j ++ [p] := by rw [List.take_add_one, hp]; rfl
  obtain ⟨h1, h2⟩ := runM_snoc (l.take j) ⟨S, []⟩ 0 p
  rw [htk, Nat.zero_add, hX] at h1 h2
  rw [e]
  exact ⟨h1, h2⟩
 have hlo : ∀ g, ov.ownBlock = some g → w.heap.size + 1 ≤ g := fun g hg => (h.al.o.lt g hg).1
 have f57 : Fr (fun g => ov.ownBlock = some g) W5 w7 := (f5d.mono (fun _ _ h => h.elim)).trans hf7 (fun _ _ h => h)
 have hs7 := f57.size
 have hT5 : ∀ k, k = w.heap.size → ¬ T k := fun k hk ht => (h.t k ht).2.1 hk
 have hT7 : ∀ k, ov.ownBlock = some k → ¬ T k := fun k hk ht => (h.t k ht).2.2 hk
 refine ⟨(f57.block _ (by omega) (fun e => by have := hlo _ e; omega)).trans b5, ?_, fun k hk => ⟨?_, (h.t k hk).2.1, fun e => ?_⟩, ?_, h.qt, ⟨ho7, ?_, fun i a' ha' => ?_⟩, ?_⟩
 ·rw [hrun.2]
  exact (h.g.frS f5 hT5).frS f57 hT7
 ·have := (h.t k hk).1
  omega
 ·rcases hn7 k e with h1 | h1
  ·exact hT7 k h1 hk
  ·have := (h.t k hk).1
   have := f5d.size
   omega
 ·exact (h.q.frS f5 (fun k hk e => hT5 k e (h.qt k hk))).frS f57 (fun k hk e => hT7 k e (h.qt k hk))
 ·rw [hrun.1]
  simp [h.al.n]
 ·by_cases hi : i < al.length
  ·rw [List.getElem?_append_left hi] at ha'
   obtain ⟨p', x, h1, h2, h3⟩ := al5.a i a' ha'
   refine ⟨p', x, h1, ?_, h3.frS f57 hT7 (fun _ h => h)⟩
   rw [hrun.1, List.getElem?_append_left (by rw [← h.al.n]; exact hi)]
   exact h2
  ·have hi2 : i = al.length := by
    have := (List.getElem?_eq_some_iff.1 ha').1
    simp at this
    omega
   subst hi2
   rw [List.getElem?_append_right (Nat.le_refl _), Nat.sub_self] at ha'
   simp at ha'
   subst ha'
   refine ⟨p, X.2, by rw [hasl]; exact hp, ?_, (h.an.frS f5 hT5 (fun _ h => h)).frS f57 hT7 (fun _ h => h)⟩
   rw [hrun.1, h.al.n, List.getElem?_append_right (Nat.le_refl _), Nat.sub_self]
   rfl
 ·exact (h.f.absorb f5 (fun k hk => by omega)).absorb f57 (fun k hk => by have := hlo k hk; omega)
structure SH where
 wa : Nat
 ow : Nat
 sl : Bool
 gv : Value
 G : List Nat
def ShC (c : CM) (x : SH) : Prop := x.wa = c.wa ∧ x.ow = c.ow ∧ x.sl = c.sl ∧ ∀ k, k ∈ x.G ↔ k ∈ c.G
def Shs (C : List CM) (L : List SH) : Prop := L.length = C.length ∧ ∀ (i : Nat) (c : CM) (x : SH), C[i]? = some c → L[i]? = some x → ShC c x
theorem Shs.app {C : List CM} {L : List SH} {c : CM} {x : SH} (h : Shs C L) (hx : ShC c x) : Shs (C ++ [c]) (L ++ [x]) := by
 refine ⟨by simp [h.1], fun i c' x' hc hx' => ?_⟩
 rcases Nat.lt_trichotomy i C.length with hi | hi | hi
 ·rw [List.getElem?_append_left hi] at hc
  rw [List.getElem?_append_left (by rw [h.1]; exact hi)] at hx'
  exact h.2 i c' x' hc hx'
 ·subst hi
  rw [List.getElem?_append_right (Nat.le_refl _)] at hc
  rw [List.getElem?_append_right (by rw [h.1]; exact Nat.le_refl _), h.1] at hx'
  simp at hc hx'
  subst hc hx'
  exact hx
 ·rw [List.getElem?_eq_none (by simp; omega)] at hc
  cases hc
theorem Shs.set {C : List CM} {L : List SH} {c : CM} {x : SH} (h : Shs C L) (i : Nat) (hx : ShC c x) : Shs (C.set i c) (L.set i x) := by
 refine ⟨by simp [h.1], fun j c' x' hc hx' => ?_⟩
 by_cases hij : i = j
 ·subst hij
  have h1 : i < C.length := by
   have := (List.getElem?_eq_some_iff.1 hc).1
   simpa using this
  rw [List.getElem?_set_self h1] at hc
  rw [List.getElem?_set_self (by rw [h.1]; exact h1)] at hx'
  cases hc
  cases hx'
  exact hx
 ·rw [List.getElem?_set_ne hij] at hc hx'
  exact h.2 j c' x' hc hx'
theorem Shs.at_ {C : List CM} {L : List SH} (h : Shs C L) {i : Nat} {c : CM} (hc : C[i]? = some c) : ∃ x, L[i]? = some x ∧ ShC c x := by
 have h1 : i < L.length := by rw [h.1]; exact (List.getElem?_eq_some_iff.1 hc).1
 exact ⟨L[i], List.getElem?_eq_getElem h1, h.2 i c _ hc (List.getElem?_eq_getElem h1)⟩
def shcells : List SH → List Value
 | [] => []
 | x :: r => .int .u32 (x.wa : Nat) :: .int .u32 (x.ow : Nat) :: .bool x.sl :: x.gv :: shcells r
theorem shcells_at : ∀ (L : List SH) (k : Nat) (x : SH), L[k]? = some x → (shcells L)[k * 4]? = some (.int .u32 (x.wa : Nat)) ∧ (shcells L)[k * 4 + 1]? = some (.int .u32 (x.ow : Nat)) ∧ (shcells L)[k * 4 + 2]? = some (.bool x.sl) ∧ (shcells L)[k * 4 + 3]? = some x.gv
 | [], k, x, h => by simp at h
 | y :: r, 0, x, h => by
  simp at h
  subst h
  simp [shcells]
 | y :: r, k + 1, x, h => by
  rw [List.getElem?_cons_succ] at h
  obtain ⟨h0, h1, h2, h3⟩ := shcells_at r k x h
  simp only [shcells]
  rw [show (k + 1) * 4 = k * 4 + 1 + 1 + 1 + 1 by omega]
  exact ⟨h0, h1, h2, h3⟩
structure RP (w wr : World) (bs : Nat) (Ts : Nat → Prop) (ss : RM) (sv rv pv : Value) (S : List P3) (l : List (RQ × List F5)) (pl : List Nat) : Prop where
 rs : RsB wr bs Ts ss
 ts : ∀ k, Ts k → w.heap.size + 1 ≤ k ∧ k < wr.heap.size
 b : wr.heap[w.heap.size]? = some (.cells #[sv, rv, pv] 26)
 st : Stf wr sv S
 so : ∀ g o n c, sv = .slice (some ⟨g, o, none⟩) n c → 0 < n → g < w.heap.size
 q : Rqs wr rv l
 lo : ∀ k, Rqb rv l k → k < w.heap.size
 p : Us wr pv pl
 po : ∀ g o n c, pv = .slice (some ⟨g, o, none⟩) n c → 0 < n → g < w.heap.size
 u : GU wr
 uv : 1 < w.heap.size
 f : Fr (fun _ => False) w wr
theorem RP.frS {w W W' : World} {bs : Nat} {Ts S' : Nat → Prop} {ss : RM} {sv rv pv : Value} {S : List P3} {l : List (RQ × List F5)} {pl : List Nat} (h : RP w W bs Ts ss sv rv pv S l pl) (hf : Fr S' W W') (h1 : ∀ k, S' k → w.heap.size < k ∧ ¬ Ts k) : RP w W' bs Ts ss sv rv pv S l pl := by
 have hs := hf.size
 have hlow : ∀ k, k ≤ w.heap.size → ¬ S' k := fun k hk hS => by have := (h1 k hS).1; omega
 exact ⟨h.rs.frS hf (fun k hk => (h1 k hk).2), fun k hk => ⟨(h.ts k hk).1, Nat.lt_of_lt_of_le (h.ts k hk).2 hs⟩, (hf.block _ (lt_of_block h.b) (hlow _ (Nat.le_refl _))).trans h.b, h.st.frM hf (fun g o n c e h0 => hlow g (by have := h.so g o n c e h0; omega)), h.so, h.q.frS hf (fun k hk => hlow k (by have := h.lo k hk; omega)), h.lo, h.p.frS hf (fun g o n c e h0 => hlow g (by have := h.po g o n c e h0; omega)), h.po, h.u.frT hf (hlow _ (by have := h.uv; omega)), h.uv, h.f.absorb hf (fun k hk => by have := (h1 k hk).1; omega)⟩
theorem RP.fr {w W W' : World} {bs : Nat} {Ts : Nat → Prop} {ss : RM} {sv rv pv : Value} {S : List P3} {l : List (RQ × List F5)} {pl : List Nat} (h : RP w W bs Ts ss sv rv pv S l pl) (hf : Fr (fun _ => False) W W') : RP w W' bs Ts ss sv rv pv S l pl := h.frS hf (fun _ h => h.elim)
theorem RP.goS {w W W' : World} {bs : Nat} {Ts T' : Nat → Prop} {ss s' : RM} {sv rv pv : Value} {S : List P3} {l : List (RQ × List F5)} {pl : List Nat} (h : RP w W bs Ts ss sv rv pv S l pl) (hf : Fr Ts W W') (hr : RsB W' bs T' s') (k2 : ∀ k, T' k → Ts k ∨ W.heap.size ≤ k) (k3 : ∀ k, T' k → k < W'.heap.size) : RP w W' bs T' s' sv rv pv S l pl := by
 have hb := lt_of_block h.b
 have hlow : ∀ k, k ≤ w.heap.size → ¬ Ts k := fun k hk hT => by have := (h.ts k hT).1; omega
 refine ⟨hr, fun k hk => ⟨?_, k3 k hk⟩, (hf.block _ hb (hlow _ (Nat.le_refl _))).trans h.b, h.st.frM hf (fun g o n c e h0 => hlow g (by have := h.so g o n c e h0; omega)), h.so, h.q.frS hf (fun k hk => hlow k (by have := h.lo k hk; omega)), h.lo, h.p.frS hf (fun g o n c e h0 => hlow g (by have := h.po g o n c e h0; omega)), h.po, h.u.frT hf (hlow _ (by have := h.uv; omega)), h.uv, h.f.absorb hf (fun k hk => by have := (h.ts k hk).1; omega)⟩
 rcases k2 k hk with h1 | h1
 ·exact (h.ts k h1).1
 ·omega
theorem RP.apply {w W : World} {bs : Nat} {Ts : Nat → Prop} {ss : RM} {sv rv pv : Value} {S : List P3} {l : List (RQ × List F5)} {pl : List Nat} (h : RP w W bs Ts ss sv rv pv S l pl) {p : RQ × List F5} (hp : p ∈ l) (hok : ss.Ok) (hg : PGood p) (n : Nat) (X : RM × RA) (hX : ss.step p.1 p.2 n = X) :
  Calls Tryz.prog 10 #[.pointer (some ⟨bs, 0, none⟩), p.1.v, .int .u32 (n : Nat)] W fun e w' => ∃ fo fn fc ho hn hc, e = .returned (.agg #[.int .u32 (p.1.cl : Nat), .int .u32 (p.1.nu : Nat), .int .u8 (X.2.co : Nat), .int .u32 (X.2.rc : Nat), .int .u32 (X.2.ve : Nat), .slice fo fn fc, .slice ho hn hc]) ∧ ∃ T', RP w w' bs T' X.1 sv rv pv S l pl ∧ Fr Ts W w' ∧ (∀ k, T' k → Ts k ∨ W.heap.size ≤ k) ∧ OwF w' W.heap.size (.slice fo fn fc) X.2.F ∧ OwS w' W.heap.size (.slice ho hn hc) X.2.H := by
 refine (apply_C bs Ts ss p.1 p.2 n W h.rs (fun k hk => (h.ts k hk).2) hok (h.q.d p hp) hg.2.1 hg.2.2 h.u X hX).mono ?_
 rintro e w' ⟨fo, fn, fc, ho, hn, hc, he, o1, o2, hf, T', k1, k2, k3, k4, k5⟩
 exact ⟨fo, fn, fc, ho, hn, hc, he, T', h.goS hf k1 k2 k3, hf, k2, o1, o2⟩
theorem RP.cells {w W : World} {bs : Nat} {Ts : Nat → Prop} {ss : RM} {sv pv : Value} {S : List P3} {g o n c : Nat} {l : List (RQ × List F5)} {pl : List Nat} (h : RP w W bs Ts ss sv (.slice (some ⟨g, o, none⟩) n c) pv S l pl) {j : Nat} {p : RQ × List F5} (hj : l[j]? = some p) : (W.cell? ⟨w.heap.size, 0, none⟩ = some sv ∧ W.cell? ⟨w.heap.size, 1, none⟩ = some (.slice (some ⟨g, o, none⟩) n c) ∧ W.cell? ⟨w.heap.size, 2, none⟩ = some pv) ∧ R10 W g (o + j * 10) p.1 := by
 refine ⟨⟨by simp [World.cell?, h.b], by simp [World.cell?, h.b], by simp [World.cell?, h.b]⟩, ?_⟩
 obtain ⟨hl, hp⟩ := List.getElem?_eq_some_iff.1 hj
 obtain ⟨g', o', e, r⟩ := h.q.at_ j hl
 cases e
 rw [← hp]
 exact r
structure ShA (W : World) (base : Nat) (T : Nat → Prop) (v : Value) (L : List SH) (j : Nat) : Prop where
 row : W.ownsRow base 73 4 v L.length (shcells L)
 nt : ∀ g, v.ownBlock = some g → ¬ T g
 g : ∀ x ∈ L, W.ownsRow base 31 1 x.gv x.G.length (ncells x.G)
 gt : ∀ x ∈ L, ∀ g, x.gv.ownBlock = some g → ¬ T g
 gl : ∀ x ∈ L, x.G.length ≤ j
theorem ShA.ne {W : World} {base : Nat} {T : Nat → Prop} {v : Value} {L : List SH} {j : Nat} (h : ShA W base T v L j) {x : SH} (hx : x ∈ L) {g : Nat} (hg : x.gv.ownBlock = some g) : v.ownBlock ≠ some g := fun e => own_ne h.row (h.g x hx) (by decide) g e hg
theorem ShA.frS {W W' : World} {base : Nat} {T T' S : Nat → Prop} {v : Value} {L : List SH} {j : Nat} (h : ShA W base T v L j) (hf : Fr S W W') (h1 : ∀ k, S k → T k ∨ W.heap.size ≤ k) (h2 : ∀ k, T' k → T k ∨ W.heap.size ≤ k) : ShA W' base T' v L j := by
 refine ⟨ownsRow_of_block h.row (fun g hg => hf.block g (h.row.lt g hg).2 (fun hs => (h1 g hs).elim (h.nt g hg) (fun h3 => by have := (h.row.lt g hg).2; omega))), fun g hg ht => (h2 g ht).elim (h.nt g hg) (fun h3 => by have := (h.row.lt g hg).2; omega), fun x hx => ownsRow_of_block (h.g x hx) (fun g hg => hf.block g ((h.g x hx).lt g hg).2 (fun hs => (h1 g hs).elim (h.gt x hx g hg) (fun h3 => by have := ((h.g x hx).lt g hg).2; omega))), fun x hx g hg ht => (h2 g ht).elim (h.gt x hx g hg) (fun h3 => by have := ((h.g x hx).lt g hg).2; omega), h.gl⟩
theorem ShA.fr {W W' : World} {base : Nat} {T : Nat → Prop} {v : Value} {L : List SH} {j : Nat} (h : ShA W base T v L j) (hf : Fr (fun _ => False) W W') : ShA W' base T v L j := h.frS hf (fun _ h => h.elim) (fun _ h => .inl h)
theorem ShA.more {W : World} {base : Nat} {T : Nat → Prop} {v : Value} {L : List SH} {j k : Nat} (h : ShA W base T v L j) (hk : j ≤ k) : ShA W base T v L k := ⟨h.row, h.nt, h.g, h.gt, fun x hx => Nat.le_trans (h.gl x hx) hk⟩
theorem ShA.cells {W : World} {base : Nat} {T : Nat → Prop} {v : Value} {L : List SH} {j : Nat} (h : ShA W base T v L j) {k : Nat} {x : SH} (hx : L[k]? = some x) : ∃ g cap, v = .slice (some ⟨g, 0, none⟩) L.length cap ∧ g < W.heap.size ∧ base ≤ g ∧ (W.cell? ⟨g, k * 4, none⟩ = some (.int .u32 (x.wa : Nat)) ∧ W.cell? ⟨g, k * 4 + 1, none⟩ = some (.int .u32 (x.ow : Nat)) ∧ W.cell? ⟨g, k * 4 + 2, none⟩ = some (.bool x.sl) ∧ W.cell? ⟨g, k * 4 + 3, none⟩ = some x.gv) ∧ ∀ i, W.frozen? ⟨g, i, none⟩ = false := by
 have hk : k < L.length := (List.getElem?_eq_some_iff.1 hx).1
 obtain ⟨g, cap, e, _, _⟩ := h.row.form (by omega)
 obtain ⟨h0, h1, h2, h3⟩ := shcells_at L k x hx
 have hr := h.row
 rw [e] at hr
 have hlt := hr.lt g rfl
 exact ⟨g, cap, e, hlt.2, hlt.1, ⟨(hr.cellAt _ (by omega)).trans h0, (hr.cellAt _ (by omega)).trans h1, (hr.cellAt _ (by omega)).trans h2, (hr.cellAt _ (by omega)).trans h3⟩, fun i => hr.frozenAt i⟩
end Go.Proofs.YtiknjghcjaaenaaGreatDoor
