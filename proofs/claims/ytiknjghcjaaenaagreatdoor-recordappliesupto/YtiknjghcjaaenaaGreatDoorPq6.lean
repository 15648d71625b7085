import Derived.Test.YtiknjghcjaaenaaGreatDoorKOcc
import Derived.Test.YtiknjghcjaaenaaGreatDoorPq1
import Derived.Test.YtiknjghcjaaenaaGreatDoorKOan
import Derived.Test.YtiknjghcjaaenaaGreatDoorPq5
import Derived.Test.YtiknjghcjaaenaaGreatDoorPq4
import Derived.Test.YtiknjghcjaaenaaGreatDoorPq2
import Derived.Deep.Cut
import Derived.Deep.CutRange
namespace Go.Proofs.YtiknjghcjaaenaaGreatDoor
open Go.RowKit Go.Shelf
theorem req_put {W : World} {g : Nat} {z0 z1 z2 z3 z4 z5 z6 z7 z8 z9 : Value} (hb : W.heap[g]? = some (.cells #[z0, z1, z2, z3, z4, z5, z6, z7, z8, z9] 41)) (r : RQ) (hf : r.fv.oneCell' = true) :
  ∃ W8, (Instr.storeAt 41 (.pointer (some ⟨g, 0, none⟩)) (.agg r.cs)).run Tryz.prog W = .ok () W8 ∧ W8.heap[g]? = some (.cells r.cs 41) ∧ Fr (fun k => k = g) W W8 := by
 obtain ⟨c0, c1, c2, c3, c4, c5, c6, c7, c8, c9⟩ := r
 simp only [RQ.cs] at hf ⊢
 generalize he : ([.int .u32 (c0 : Nat), .int .u32 (c1 : Nat), .int .u32 (c2 : Nat), .int .u8 (c3 : Nat), .int .u32 (c4 : Nat), .int .u32 (c5 : Nat), .int .u32 (c6 : Nat), .int .u32 (c7 : Nat), c8, .string c9] : List Value) = cs
 have h1 : ∀ v ∈ cs, v.oneCell' = true := by
  rw [← he]
  intro v hv
  simp at hv
  rcases hv with rfl | rfl | rfl | rfl | rfl | rfl | rfl | rfl | rfl | rfl <;> first | rfl | exact hf
 have hr := run_storeAt_mid (P := Tryz.prog) W g 0 41 cs.toArray (fun i hi => by
  have hi : i < cs.length := by simpa using hi
  rw [← he] at hi
  simp only [List.length_cons, List.length_nil] at hi
  refine ⟨?_, by simp [World.frozen?, hb]⟩
  rcases i with _ | _ | _ | _ | _ | _ | _ | _ | _ | _ | i
  ·simp [World.cell?, hb]
  ·simp [World.cell?, hb]
  ·simp [World.cell?, hb]
  ·simp [World.cell?, hb]
  ·simp [World.cell?, hb]
  ·simp [World.cell?, hb]
  ·simp [World.cell?, hb]
  ·simp [World.cell?, hb]
  ·simp [World.cell?, hb]
  ·simp [World.cell?, hb]
  ·omega) (by rw [← he]; kernel_rfl) (all_oneCell_toArray h1)
 refine ⟨W.setCells g 0 cs, hr, ?_, ?_⟩
 ·rw [← he]
  have k0 := heap_setCell_same W g 0 #[z0, z1, z2, z3, z4, z5, z6, z7, z8, z9] 41 (.int .u32 (c0 : Nat)) hb
  have k1 := heap_setCell_same _ g 1 _ 41 (.int .u32 (c1 : Nat)) k0
  have k2 := heap_setCell_same _ g 2 _ 41 (.int .u32 (c2 : Nat)) k1
  have k3 := heap_setCell_same _ g 3 _ 41 (.int .u8 (c3 : Nat)) k2
  have k4 := heap_setCell_same _ g 4 _ 41 (.int .u32 (c4 : Nat)) k3
  have k5 := heap_setCell_same _ g 5 _ 41 (.int .u32 (c5 : Nat)) k4
  have k6 := heap_setCell_same _ g 6 _ 41 (.int .u32 (c6 : Nat)) k5
  have k7 := heap_setCell_same _ g 7 _ 41 (.int .u32 (c7 : Nat)) k6
  have k8 := heap_setCell_same _ g 8 _ 41 c8 k7
  have k9 := heap_setCell_same _ g 9 _ 41 (.string c9) k8
  simp only [List.setIfInBounds_toArray, List.set_cons_zero, List.set_cons_succ] at k9
  exact k9
 ·rw [← he]
  have f0 := (Fr.refl (fun k => k = g) W).setCell (p := ⟨g, 0, none⟩) (.inl rfl) (.int .u32 (c0 : Nat))
  have f1 := f0.setCell (p := ⟨g, 1, none⟩) (.inl rfl) (.int .u32 (c1 : Nat))
  have f2 := f1.setCell (p := ⟨g, 2, none⟩) (.inl rfl) (.int .u32 (c2 : Nat))
  have f3 := f2.setCell (p := ⟨g, 3, none⟩) (.inl rfl) (.int .u8 (c3 : Nat))
  have f4 := f3.setCell (p := ⟨g, 4, none⟩) (.inl rfl) (.int .u32 (c4 : Nat))
  have f5 := f4.setCell (p := ⟨g, 5, none⟩) (.inl rfl) (.int .u32 (c5 : Nat))
  have f6 := f5.setCell (p := ⟨g, 6, none⟩) (.inl rfl) (.int .u32 (c6 : Nat))
  have f7 := f6.setCell (p := ⟨g, 7, none⟩) (.inl rfl) (.int .u32 (c7 : Nat))
  have f8 := f7.setCell (p := ⟨g, 8, none⟩) (.inl rfl) c8
  exact f8.setCell (p := ⟨g, 9, none⟩) (.inl rfl) (.string c9)
theorem eql_id (a b : Nat) (w : World) : (binOp .eql 38 (.agg #[.int .u32 (a : Nat), .int .u32 (b : Nat)]) (.agg #[.int .u32 (a : Nat), .int .u32 (b : Nat)])).run Tryz.prog w = .ok (.bool true) w := by
 rw [run_eql_struct, show (10000 : Nat) = 9999 + 1 from rfl, run_equalIn_agg _ 9999 _ _ _ Tryz.fields_id Tryz.held_id]
 simp [Program.fieldsOf, Tryz.underlying38, Op.eqFields, go_sem]
def mkF : F5 := ⟨⟨#[109, 97, 114, 107]⟩, 0, ⟨#[]⟩, 0, 0⟩
structure Mkd (w : World) (base : Nat) (x : Value) (F : List F5) : Prop where
 o : ∃ g cap, x = .slice (some ⟨g, 0, none⟩) F.length cap ∧ F.length + 2 ≤ cap ∧ OwF w base (.slice (some ⟨g, 0, none⟩) (F.length + 2) cap) (F ++ [mkF, mkF])
theorem Mkd.fds {w : World} {base : Nat} {x : Value} {F : List F5} (h : Mkd w base x F) : Fds w x F := by
 obtain ⟨g, cap, rfl, _, ho⟩ := h.o
 refine .inr ⟨g, 0, cap, rfl, fun j hj => ?_⟩
 obtain ⟨g', o', e, c0, c1, c2, c3, c4⟩ := ho.fds.at_ j (by simp; omega)
 cases e
 rw [List.getElem_append_left hj] at c0 c1 c2 c3 c4
 exact ⟨c0, c1, c2, c3, c4⟩
theorem Mkd.own {w : World} {base : Nat} {x : Value} {F : List F5} (h : Mkd w base x F) {g : Nat} (hg : x.ownBlock = some g) : base ≤ g ∧ g < w.heap.size := by
 obtain ⟨g', cap, rfl, _, ho⟩ := h.o
 exact ho.lt g hg
theorem Mkd.frS {w w' : World} {base : Nat} {x : Value} {F : List F5} {S : Nat → Prop} (h : Mkd w base x F) (hf : Fr S w w') (hS : ∀ g, x.ownBlock = some g → ¬ S g) : Mkd w' base x F := by
 obtain ⟨g, cap, rfl, hc, ho⟩ := h.o
 exact ⟨g, cap, rfl, hc, ho.fr hf (fun k hk => hS k hk)⟩
theorem Mkd.fr {w w' : World} {base : Nat} {x : Value} {F : List F5} (h : Mkd w base x F) (hf : Fr (fun _ => False) w w') : Mkd w' base x F := h.frS hf (fun _ _ h => h)
theorem Mkd.fdc {w : World} {base : Nat} {x : Value} {F : List F5} (h : Mkd w base x F) : FdC w w.heap.size x F := by
 refine ⟨h.fds, fun g o n c e h0 => (h.own (by rw [e]; rfl)).2, fun xo n c e => ?_, fun n c e => ?_⟩
 ·obtain ⟨g, cap, rfl, hc, _⟩ := h.o
  cases e
  omega
 ·obtain ⟨g, cap, rfl, hc, _⟩ := h.o
  cases e
theorem app_marks (w : World) (base : Nat) (v : Value) (l : List F5) (h : OwF w base v l) (hb : base ≤ w.heap.size) (hl : l.length ≤ 1000000000) :
  ∃ g cap w', (Builtin.append_ #[39, 39] 39 #[v, .slice (some ⟨w.heap.size, 0, none⟩) 2 2]).run Tryz.prog (w.alloc (.cells #[.string ⟨#[109, 97, 114, 107]⟩, .int .u8 0, .string ⟨#[]⟩, .float .f32 0, .int .u8 0, .string ⟨#[109, 97, 114, 107]⟩, .int .u8 0, .string ⟨#[]⟩, .float .f32 0, .int .u8 0] 55)) = .ok (.slice (some ⟨g, 0, none⟩) (l.length + 2) cap) w' ∧ OwF w' base (.slice (some ⟨g, 0, none⟩) (l.length + 2) cap) (l ++ [mkF, mkF]) ∧ l.length + 2 ≤ cap ∧ Fr (fun g => v.ownBlock = some g) w w' := by
 obtain ⟨i0, hi, hz0, hz1, hz2⟩ := info_parts Tryz.infoFl
 have hb' := ownsRow_of_block (w' := w.alloc (.cells #[.string ⟨#[109, 97, 114, 107]⟩, .int .u8 0, .string ⟨#[]⟩, .float .f32 0, .int .u8 0, .string ⟨#[109, 97, 114, 107]⟩, .int .u8 0, .string ⟨#[]⟩, .float .f32 0, .int .u8 0] 55)) h (fun g hg => Below.heap_alloc _ _ _ (h.lt g hg).2)
 obtain ⟨v', w', hr, h2, h3, _, h5⟩ := run_append_own_at (P := Tryz.prog) (w := w.alloc (.cells #[.string ⟨#[109, 97, 114, 107]⟩, .int .u8 0, .string ⟨#[]⟩, .float .f32 0, .int .u8 0, .string ⟨#[109, 97, 114, 107]⟩, .int .u8 0, .string ⟨#[]⟩, .float .f32 0, .int .u8 0] 55)) base 39 39 55 i0 (.agg #[.string ⟨#[]⟩, .int .u8 0, .string ⟨#[]⟩, .float .f32 0, .int .u8 0]) 5 48 Tryz.underlying39 hi hz0 hz1 hz2 rfl (by decide) v l.length (fcells l) hb' ⟨w.heap.size, 0, none⟩ 2 2 (fcells [mkF, mkF]) (by rw [fcells_len]; rfl) (fun j u hu => by
  rw [addr_add, World.cell?_alloc_at _ _ _ _ rfl]; simpa [fcells, mkF] using hu) (fcells_one _) (by simp only [maxLen]; omega) (by omega) (by simp; omega)
 have h6 : OwF w' base v' (l ++ [mkF, mkF]) := by
  unfold OwF
  rw [fcells_cat, List.length_append]
  exact h2
 rcases h2.2 with ⟨_, h0⟩ | ⟨g, cap, cur, rfl, _, _, hcap, _⟩
 ·omega
 exact ⟨g, cap, w', hr, h6, hcap, ((box1 w _).mono (fun _ _ h => h.elim)).grown h3 (fun g hg => .inl hg)⟩
set_option maxHeartbeats 8000000 in
set_option maxRecDepth 100000 in
theorem copied_any (cl nu ac op rc ve wa ow : Nat) (x : Value) (rs : ByteArray) (F : List F5) (w : World) (hx : Fds w x F) (hl : F.length ≤ 1048576) :
  Calls Tryz.prog 9 #[.agg #[.int .u32 (cl : Nat), .int .u32 (nu : Nat), .int .u32 (ac : Nat), .int .u8 (op : Nat), .int .u32 (rc : Nat), .int .u32 (ve : Nat), .int .u32 (wa : Nat), .int .u32 (ow : Nat), x, .string rs]] w fun e w' => ∃ y, e = .returned (.agg #[.int .u32 (cl : Nat), .int .u32 (nu : Nat), .int .u32 (ac : Nat), .int .u8 (op : Nat), .int .u32 (rc : Nat), .int .u32 (ve : Nat), .int .u32 (wa : Nat), .int .u32 (ow : Nat), y, .string rs]) ∧ Mkd w' w.heap.size y F ∧ Fr (fun _ => False) w w' := by
 obtain ⟨xo, xc, rfl⟩ := hx.form
 have HX := hide hx
 clear hx
 obtain ⟨W1, hW1⟩ : ∃ W1, W1 = (w.alloc (.cells #[.int .u32 (cl : Nat), .int .u32 (nu : Nat), .int .u32 (ac : Nat), .int .u8 (op : Nat), .int .u32 (rc : Nat), .int .u32 (ve : Nat), .int .u32 (wa : Nat), .int .u32 (ow : Nat), .slice xo F.length xc, .string rs] 41)).alloc (.cells #[.int .u32 0, .int .u32 0, .int .u32 0, .int .u8 0, .int .u32 0, .int .u32 0, .int .u32 0, .int .u32 0, .slice none 0 0, .string ⟨#[]⟩] 41) := ⟨_, rfl⟩
 have hk1 : W1.heap[w.heap.size]? = some (.cells #[.int .u32 (cl : Nat), .int .u32 (nu : Nat), .int .u32 (ac : Nat), .int .u8 (op : Nat), .int .u32 (rc : Nat), .int .u32 (ve : Nat), .int .u32 (wa : Nat), .int .u32 (ow : Nat), .slice xo F.length xc, .string rs] 41) := by rw [hW1]; exact ((box1 _ _).block _ (by simp) (fun h => h)).trans Array.getElem?_push_size
 have hk2 : W1.heap[w.heap.size + 1]? = some (.cells #[.int .u32 0, .int .u32 0, .int .u32 0, .int .u8 0, .int .u32 0, .int .u32 0, .int .u32 0, .int .u32 0, .slice none 0 0, .string ⟨#[]⟩] 41) := by
  rw [hW1]
  have e : w.heap.size + 1 = (w.alloc (.cells #[.int .u32 (cl : Nat), .int .u32 (nu : Nat), .int .u32 (ac : Nat), .int .u8 (op : Nat), .int .u32 (rc : Nat), .int .u32 (ve : Nat), .int .u32 (wa : Nat), .int .u32 (ow : Nat), .slice xo F.length xc, .string rs] 41)).heap.size := by simp
  rw [e]
  exact Array.getElem?_push_size
 have hf1 : Fr (fun _ => False) w W1 := by rw [hW1]; exact (box1 w _).trans (box1 _ _) (fun _ _ h => h)
 have hs1 : W1.heap.size = w.heap.size + 2 := by rw [hW1]; simp
 have H1 := hide (And.intro hk1 (And.intro hk2 (And.intro hf1 hs1)))
 clear hk1 hk2 hf1 hs1
 go_enter Tryz.func9, Tryz.ntmps9
 go_wp2_with fail
 rw [← hW1]
 clear hW1
 go_loopw [3, 4] (fun av iv wr => ∃ (j : Nat) (ao : Option Addr) (cap : Nat), j ≤ F.length ∧ iv = .int .i64 (j : Nat) ∧ av = .slice ao j cap ∧ OwF wr (w.heap.size + 2) (.slice ao j cap) (F.take j) ∧ Fr (fun _ => False) W1 wr) (fun _ iv _ => F.length - (intOf iv).toNat)
 case atStart => exact ⟨0, none, 0, Nat.zero_le _, rfl, rfl, World.ownsRow_nil _ _ _ _, Fr.refl _ _⟩
 case round =>
  obtain ⟨j, ao, cap, hj, rfl, rfl, hown, hfr⟩ := hrel
  have hlen : (F.take j).length = j := by simp; omega
  have hkb := (hfr.block _ (lt_of_block (unhide H1).1) (fun h => h)).trans (unhide H1).1
  have b8 : wr.cell? ⟨w.heap.size, 8, none⟩ = some (.slice xo F.length xc) := by simp [World.cell?, hkb]
  by_cases hlt : j < F.length
  ·obtain ⟨g, o, rfl, c0, c1, c2, c3, c4⟩ := (((unhide HX).fr (unhide H1).2.2.1).fr hfr).at_ j hlt
   obtain ⟨P, hPe⟩ : ∃ P, F[j] = P := ⟨_, rfl⟩
   rw [hPe] at c0 c1 c2 c3 c4
   have htk : F.take (j + 1) = F.take j ++ [P] := by rw [List.take_add_one, List.getElem?_eq_getElem hlt, hPe]; rfl
   obtain ⟨ao2, cap2, w2, hr, hown2, hf2, _⟩ := app_fld wr (w.heap.size + 2) (.slice ao j cap) (F.take j) P hown (by have := hfr.size; have := (unhide H1).2.2.2; omega) (by omega)
   rw [hlen] at hr hown2
   rw [← htk] at hown2
   have hf3 : Fr (fun _ => False) W1 w2 := hfr.absorb hf2 (fun k hk => by have := (hown.lt k hk).1; have := (unhide H1).2.2.2; omega)
   have HR := hide hr
   have HO := hide (And.intro hown2 hf3)
   obtain ⟨pn, pk, pt, pv, pu⟩ := P
   simp only at c0 c1 c2 c3 c4 HR
   have hkl : (j : Int) < (F.length : Int) := by omega
   clear hown hfr hPe htk hr hown2 hf2 hf3 hlen hkb
   go_wp2_with (at_builtin; refine wpList_app rfl (.tmp 12) (.tmp 18) 39 39 rfl _ _ _ rfl rfl (unhide HR) ?_)
   go_roundw
   case rel => exact ⟨j + 1, ao2, cap2, hlt, by go_num, rfl, (unhide HO).1, (unhide HO).2⟩
   case measure => simp [intOf]; omega
  ·obtain rfl : j = F.length := by omega
   rw [List.take_length] at hown
   obtain ⟨g, cap2, w2, hr, hown2, hcap, hf2⟩ := app_marks wr (w.heap.size + 2) (.slice ao F.length cap) F hown (by have := hfr.size; have := (unhide H1).2.2.2; omega) (by omega)
   have hf3 : Fr (fun _ => False) W1 w2 := hfr.absorb hf2 (fun k hk => by have := (hown.lt k hk).1; have := (unhide H1).2.2.2; omega)
   have hm2 : OwF w2 (w.heap.size + 2) (.slice (some ⟨g, 0, none⟩) (F.length + 2) cap2) (F ++ [mkF, mkF]) := hown2
   have k1 := (hf3.block _ (lt_of_block (unhide H1).1) (fun h => h)).trans (unhide H1).1
   have k2 := (hf3.block _ (lt_of_block (unhide H1).2.1) (fun h => h)).trans (unhide H1).2.1
   -- r.Fields is stored
   obtain ⟨w3, hw3⟩ : ∃ w3, w3 = w2.setCell ⟨w.heap.size, 8, none⟩ (.slice (some ⟨g, 0, none⟩) F.length cap2) := ⟨_, rfl⟩
   have hf23 : Fr (fun k => k = w.heap.size) w2 w3 := by rw [hw3]; exact (Fr.refl (fun k => k = w.heap.size) w2).setCell (p := ⟨w.heap.size, 8, none⟩) (.inl rfl) _
   have k3 : w3.heap[w.heap.size]? = some (.cells #[.int .u32 (cl : Nat), .int .u32 (nu : Nat), .int .u32 (ac : Nat), .int .u8 (op : Nat), .int .u32 (rc : Nat), .int .u32 (ve : Nat), .int .u32 (wa : Nat), .int .u32 (ow : Nat), .slice (some ⟨g, 0, none⟩) F.length cap2, .string rs] 41) := by
    have := heap_setCell_same w2 w.heap.size 8 _ 41 (.slice (some ⟨g, 0, none⟩) F.length cap2) k1
    rw [hw3]
    simp only [List.setIfInBounds_toArray, List.set_cons_zero, List.set_cons_succ] at this
    exact this
   have k4 := (hf23.block (w.heap.size + 1) (lt_of_block k2) (by omega)).trans k2
   obtain ⟨w4, hst, k5, hf34⟩ := req_put k4 ⟨cl, nu, ac, op, rc, ve, wa, ow, .slice (some ⟨g, 0, none⟩) F.length cap2, rs⟩ rfl
   have hg := hm2.lt g rfl
   have hm4 : Mkd w4 w.heap.size (.slice (some ⟨g, 0, none⟩) F.length cap2) F := by
    refine ⟨g, cap2, rfl, hcap, ?_⟩
    have h1 := (hm2.fr hf23 (fun k hk => by have e : g = k := Option.some.inj hk; omega)).fr hf34 (fun k hk => by have e : g = k := Option.some.inj hk; omega)
    exact ownsRow_base h1 (by omega)
   have hf4 : Fr (fun _ => False) w w4 := (((unhide H1).2.2.1.trans hf3 (fun _ _ h => h)).absorb hf23 (fun k hk => by omega)).absorb hf34 (fun k hk => by omega)
   have HR := hide hr
   rw [hw3] at hst
   have HST := hide hst
   have H4 := hide (And.intro hm4 (And.intro hf4 k5))
   have D2 : ∀ i, w2.cell? ⟨w.heap.size, i, none⟩ = (#[.int .u32 (cl : Nat), .int .u32 (nu : Nat), .int .u32 (ac : Nat), .int .u8 (op : Nat), .int .u32 (rc : Nat), .int .u32 (ve : Nat), .int .u32 (wa : Nat), .int .u32 (ow : Nat), .slice xo F.length xc, .string rs] : Array Value)[i]? := fun i => by simp [World.cell?, k1]
   have d0 := D2 0
   have d1 := D2 1
   have d2 := D2 2
   have d3 := D2 3
   have d4 := D2 4
   have d5 := D2 5
   have d6 := D2 6
   have d7 := D2 7
   have d8 := D2 8
   have d9 := D2 9
   simp only [List.getElem?_toArray, List.getElem?_cons_zero, List.getElem?_cons_succ] at d0 d1 d2 d3 d4 d5 d6 d7 d8 d9
   have z8 : w2.frozen? ⟨w.heap.size, 8, none⟩ = false := by simp [World.frozen?, k1]
   have hsl : (F.length : Int) ≤ (cap2 : Int) := by omega
   clear hown hfr hr hown2 hf2 hf3 hlen hkb hm2 k1 k2 k3 k4 hst k5 hf34 hf23 hm4 hf4 D2 hcap hg hw3
   go_wp2_with (first | (at_builtin; refine wpList_app rfl (.tmp 20) (.tmp 23) 39 39 rfl _ _ _ rfl rfl (unhide HR) ?_) | (refine wpList_stN rfl 41 (.tmp 2) (.tmp 29) rfl _ _ rfl rfl (unhide HST) ?_))
   refine bodyPost_ret (results_cell_mid rfl _ _ (w.heap.size + 1) 0 [.int .u32 (cl : Nat), .int .u32 (nu : Nat), .int .u32 (ac : Nat), .int .u8 (op : Nat), .int .u32 (rc : Nat), .int .u32 (ve : Nat), .int .u32 (wa : Nat), .int .u32 (ow : Nat), .slice (some ⟨g, 0, none⟩) F.length cap2, .string rs] _ rfl (range_of_block (unhide H4).2.2) Tryz.underlying41 rfl (by kernel_rfl)) rfl ?_
   exact ⟨_, rfl, (unhide H4).1, (unhide H4).2.1⟩
set_option maxHeartbeats 4000000 in
set_option maxRecDepth 100000 in
theorem sameR_any (cl nu ac op rc ve wa ow : Nat) (x y : Value) (rs : ByteArray) (F : List F5) (w : World) (hx : Fds w x F) (hy : Fds w y F) (hl : F.length ≤ 140737488355328) :
  Calls Tryz.prog 30 #[.agg #[.int .u32 (cl : Nat), .int .u32 (nu : Nat), .int .u32 (ac : Nat), .int .u8 (op : Nat), .int .u32 (rc : Nat), .int .u32 (ve : Nat), .int .u32 (wa : Nat), .int .u32 (ow : Nat), x, .string rs], .agg #[.int .u32 (cl : Nat), .int .u32 (nu : Nat), .int .u32 (ac : Nat), .int .u8 (op : Nat), .int .u32 (rc : Nat), .int .u32 (ve : Nat), .int .u32 (wa : Nat), .int .u32 (ow : Nat), y, .string rs]] w fun e w' => e = .returned (.bool true) ∧ Fr (fun _ => False) w w' := by
 have HSF : Hid (∀ W, Fr (fun _ => False) w W → Calls Tryz.prog 31 #[x, y] W fun e w' => e = .returned (.bool true) ∧ ∃ q, w' = W.drewN q) := fun W hW => sameF_any x y F W (hx.fr hW) (hy.fr hW) hl
 obtain ⟨xo, xc, rfl⟩ := hx.form
 obtain ⟨yo, yc, rfl⟩ := hy.form
 have hni := eql_id cl nu
 have hse : ∀ W, (binOp .eql 9 (.string rs) (.string rs)).run Tryz.prog W = .ok (.bool true) W := fun W => by rw [Tryz.eqlS]; simp
 clear hx hy
 go_enter Tryz.func30, Tryz.ntmps30
 go_wp2_with fail
 refine ((unhide HSF) _ ((Fr.refl _ _).alloc _ |>.alloc _)).mono ?_
 rintro e w2 ⟨rfl, q, rfl⟩
 go_wp2_with fail
 go_ret
 exact ⟨rfl, ((Fr.refl _ _).alloc _ |>.alloc _).drewN q⟩
theorem own_box {w : World} {base e z n g t : Nat} {v : Value} {xs : List Value} {c : Array Value} (h : w.ownsRow base e z v n xs) (hb : w.heap[g]? = some (.cells c t)) (ht : e ≠ t) : ¬ v.ownBlock = some g := fun hg => by
 rcases h.2 with ⟨rfl, _⟩ | ⟨g', cap, cur, rfl, _, h1, _⟩
 ·cases hg
 ·cases hg
  rw [hb] at h1
  exact ht (by injection h1 with h1; injection h1 with _ h1; exact h1.symm)
theorem Mkd.box {w : World} {base g t : Nat} {x : Value} {F : List F5} {c : Array Value} (h : Mkd w base x F) (hb : w.heap[g]? = some (.cells c t)) (ht : 55 ≠ t) : ¬ x.ownBlock = some g := by
 obtain ⟨g', cap, rfl, _, ho⟩ := h.o
 exact own_box (v := .slice (some ⟨g', 0, none⟩) (F.length + 2) cap) ho hb ht
structure AP (w wr : World) (bs : Nat) (Ts : Nat → Prop) (s : RM) (sv rv pv : Value) (S : List P3) (l : List (RQ × List F5)) (pl : List Nat) (z6 : Nat) (rv6 : Value) (T : Nat → Prop) (n : Nat) (L : List GC) : Prop where
 p : RP w wr bs Ts s sv rv pv S l pl
 zb : wr.heap[z6]? = some (.cells #[sv, rv6] 36)
 zn : w.heap.size < z6 ∧ ¬ Ts z6
 g : GR wr T sv rv6 n s L
 t : ∀ k, T k → k < wr.heap.size ∧ k ≠ z6 ∧ ¬ Ts k ∧ k ≠ w.heap.size
 qt : ∀ k, Rqb rv l k → T k
section
variable {w W W' : World} {bs : Nat} {Ts T' : Nat → Prop} {s : RM} {X : RM × RA} {sv rv pv : Value} {S : List P3} {l : List (RQ × List F5)} {pl : List Nat} {z6 : Nat} {rv6 : Value} {T : Nat → Prop} {n : Nat} {L : List GC} {zr : Nat} {r : RQ} {F : List F5} {base bg : Nat} {gfv ghv : Value}
theorem AP.fr (h : AP w W bs Ts s sv rv pv S l pl z6 rv6 T n L) (hf : Fr (fun _ => False) W W') : AP w W' bs Ts s sv rv pv S l pl z6 rv6 T n L :=
 ⟨h.p.fr hf, (hf.block _ (lt_of_block h.zb) (fun h => h)).trans h.zb, h.zn, h.g.fr hf, fun k hk => ⟨Nat.lt_of_lt_of_le (h.t k hk).1 hf.size, (h.t k hk).2⟩, h.qt⟩
structure AQ (w W : World) (bs : Nat) (Ts : Nat → Prop) (s : RM) (sv rv pv : Value) (S : List P3) (l : List (RQ × List F5)) (pl : List Nat) (z6 : Nat) (rv6 : Value) (T : Nat → Prop) (n : Nat) (L : List GC) (zr : Nat) (r : RQ) (F : List F5) (base : Nat) : Prop where
 a : AP w W bs Ts s sv rv pv S l pl z6 rv6 T n L
 rk : W.heap[zr]? = some (.cells r.cs 41)
 rn : w.heap.size < zr ∧ ¬ Ts zr ∧ ¬ T zr
 m : Mkd W base r.fv F
 oy : ∀ g, r.fv.ownBlock = some g → w.heap.size < g ∧ ¬ Ts g ∧ ¬ T g
theorem AQ.fr (h : AQ w W bs Ts s sv rv pv S l pl z6 rv6 T n L zr r F base) (hf : Fr (fun _ => False) W W') : AQ w W' bs Ts s sv rv pv S l pl z6 rv6 T n L zr r F base :=
 ⟨h.a.fr hf, (hf.block _ (lt_of_block h.rk) (fun h => h)).trans h.rk, h.rn, h.m.fr hf, h.oy⟩
theorem AQ.mk' {w1 : World} (h : AP w W bs Ts s sv rv pv S l pl z6 rv6 T n L) (f1 : Fr (fun _ => False) W w1) (hm : Mkd w1 W.heap.size r.fv F) (f2 : Fr (fun _ => False) w1 W') (hk : W'.heap[w1.heap.size]? = some (.cells r.cs 41)) : AQ w W' bs Ts s sv rv pv S l pl z6 rv6 T n L w1.heap.size r F W.heap.size := by
 have hb := lt_of_block h.p.b
 have hs := f1.size
 refine ⟨(h.fr f1).fr f2, hk, ⟨by omega, fun e => ?_, fun e => ?_⟩, hm.fr f2, fun g hg => ?_⟩
 ·have := (h.p.ts _ e).2
  omega
 ·have := (h.t _ e).1
  omega
 ·have h1 := (hm.own hg).1
  refine ⟨by omega, fun e => ?_, fun e => ?_⟩
  ·have := (h.p.ts _ e).2
   omega
  ·have := (h.t _ e).1
   omega
structure AO (w W : World) (bs : Nat) (Ts : Nat → Prop) (s : RM) (X : RM × RA) (sv rv pv : Value) (S : List P3) (l : List (RQ × List F5)) (pl : List Nat) (z6 : Nat) (rv6 : Value) (T : Nat → Prop) (n : Nat) (L : List GC) (zr : Nat) (r : RQ) (F : List F5) (base : Nat) (gfv ghv : Value) (bg : Nat) : Prop where
 p : RP w W bs Ts X.1 sv rv pv S l pl
 zb : W.heap[z6]? = some (.cells #[sv, rv6] 36)
 zn : w.heap.size < z6 ∧ ¬ Ts z6
 g : GR W T sv rv6 n s L
 t : ∀ k, T k → k < W.heap.size ∧ k ≠ z6 ∧ ¬ Ts k ∧ k ≠ w.heap.size ∧ ¬ r.fv.ownBlock = some k ∧ ¬ gfv.ownBlock = some k ∧ ¬ ghv.ownBlock = some k
 qt : ∀ k, Rqb rv l k → T k
 rk : W.heap[zr]? = some (.cells r.cs 41)
 m : Mkd W base r.fv F
 oy : ∀ g, r.fv.ownBlock = some g → w.heap.size < g ∧ ¬ Ts g
 gf : OwF W bg gfv X.2.F
 gh : OwS W bg ghv X.2.H
 og : ∀ g, (gfv.ownBlock = some g ∨ ghv.ownBlock = some g) → w.heap.size < g ∧ ¬ Ts g ∧ ¬ r.fv.ownBlock = some g
theorem AO.fr (h : AO w W bs Ts s X sv rv pv S l pl z6 rv6 T n L zr r F base gfv ghv bg) (hf : Fr (fun _ => False) W W') : AO w W' bs Ts s X sv rv pv S l pl z6 rv6 T n L zr r F base gfv ghv bg :=
 ⟨h.p.fr hf, (hf.block _ (lt_of_block h.zb) (fun h => h)).trans h.zb, h.zn, h.g.fr hf, fun k hk => ⟨Nat.lt_of_lt_of_le (h.t k hk).1 hf.size, (h.t k hk).2⟩, h.qt, (hf.block _ (lt_of_block h.rk) (fun h => h)).trans h.rk, h.m.fr hf, h.oy, ownsRow_of_block h.gf (fun g hg => hf.block g (h.gf.lt g hg).2 (fun h => h)), ownsRow_of_block h.gh (fun g hg => hf.block g (h.gh.lt g hg).2 (fun h => h)), h.og⟩
theorem AQ.apply (h : AQ w W bs Ts s sv rv pv S l pl z6 rv6 T n L zr r F base) (hf : Fr Ts W W') (k1 : RsB W' bs T' X.1) (k2 : ∀ k, T' k → Ts k ∨ W.heap.size ≤ k) (k3 : ∀ k, T' k → k < W'.heap.size) (o1 : OwF W' W.heap.size gfv X.2.F) (o2 : OwS W' W.heap.size ghv X.2.H) (tf : ∀ g, gfv.ownBlock = some g → ¬ T' g) (th : ∀ g, ghv.ownBlock = some g → ¬ T' g) :
  AO w W' bs T' s X sv rv pv S l pl z6 rv6 T n L zr r F base gfv ghv W.heap.size := by
 have hs := hf.size
 have hb := lt_of_block h.a.p.b
 have hz := lt_of_block h.a.zb
 refine ⟨h.a.p.goS hf k1 k2 k3, (hf.block _ hz h.a.zn.2).trans h.a.zb, ⟨h.a.zn.1, fun e => ?_⟩, h.a.g.frS hf (fun k hk ht => (h.a.t k ht).2.2.1 hk), fun k hk => ?_, h.a.qt, (hf.block _ (lt_of_block h.rk) h.rn.2.1).trans h.rk, h.m.frS hf (fun g hg => (h.oy g hg).2.1), fun g hg => ⟨(h.oy g hg).1, fun e => ?_⟩, o1, o2, fun g hg => ?_⟩
 ·rcases k2 _ e with h1 | h1
  ·exact h.a.zn.2 h1
  ·omega
 ·obtain ⟨t1, t2, t3, t4⟩ := h.a.t k hk
  refine ⟨by omega, t2, fun e => ?_, t4, fun e => (h.oy k e).2.2 hk, fun e => ?_, fun e => ?_⟩
  ·rcases k2 _ e with h1 | h1
   ·exact t3 h1
   ·omega
  ·have h1 : W.heap.size ≤ k := (o1.lt k e).1
   omega
  ·have h1 : W.heap.size ≤ k := (o2.lt k e).1
   omega
 ·rcases k2 _ e with h1 | h1
  ·exact (h.oy g hg).2.1 h1
  ·have := (h.m.own hg).2
   omega
 ·have h1 : W.heap.size ≤ g := hg.elim (fun e => (o1.lt g e).1) (fun e => (o2.lt g e).1)
  refine ⟨by omega, hg.elim (tf g) (th g), fun e => ?_⟩
  have := (h.m.own e).2
  omega
theorem AO.finish {wx w5 : World} {T1 : Nat → Prop} {rv' wfv whv : Value} {L' : List GC} {sz : Nat} (h : AO w W bs Ts s X sv rv pv S l pl z6 rv6 T n L zr r F base gfv ghv bg) (fx : Fr (fun _ => False) W wx) (hq : GQ wx T1 sv rv' (n + 1) X L' wfv whv) (ht1 : ∀ k, T1 k → (T k ∨ sz ≤ k) ∧ k < wx.heap.size) (hsz : W.heap.size ≤ sz) (ht2 : ∀ k, T k → T1 k) (f5 : Fr (fun k => r.fv.ownBlock = some k ∨ gfv.ownBlock = some k ∨ ghv.ownBlock = some k) wx w5) :
  AP w ((w5.setCell ⟨z6, 0, none⟩ sv).setCell ⟨z6, 1, none⟩ rv') bs Ts X.1 sv rv pv S l pl z6 rv' T1 (n + 1) L' := by
 obtain ⟨W6, hW6⟩ : ∃ W6, W6 = (w5.setCell ⟨z6, 0, none⟩ sv).setCell ⟨z6, 1, none⟩ rv' := ⟨_, rfl⟩
 have f6 : Fr (fun k => k = z6) w5 W6 := by
  rw [hW6]
  exact ((Fr.refl (fun k => k = z6) w5).setCell (p := ⟨z6, 0, none⟩) (.inl rfl) sv).setCell (p := ⟨z6, 1, none⟩) (.inl rfl) rv'
 have hsx := fx.size
 have hs5 := f5.size
 have hs6 := f6.size
 have hzl := lt_of_block h.zb
 have hbl := lt_of_block h.p.b
 have hown : ∀ k, (r.fv.ownBlock = some k ∨ gfv.ownBlock = some k ∨ ghv.ownBlock = some k) → w.heap.size < k ∧ ¬ Ts k ∧ k ≠ z6 ∧ k < W.heap.size := fun k hk => by
  rcases hk with e | e | e
  ·exact ⟨(h.oy k e).1, (h.oy k e).2, fun he => h.m.box h.zb (by decide) (he ▸ e), (h.m.own e).2⟩
  ·exact ⟨(h.og k (.inl e)).1, (h.og k (.inl e)).2.1, fun he => own_box h.gf h.zb (by decide) (he ▸ e), (h.gf.lt k e).2⟩
  ·exact ⟨(h.og k (.inr e)).1, (h.og k (.inr e)).2.1, fun he => own_box h.gh h.zb (by decide) (he ▸ e), (h.gh.lt k e).2⟩
 have hT1 : ∀ k, T1 k → k < wx.heap.size ∧ k ≠ z6 ∧ ¬ Ts k ∧ k ≠ w.heap.size ∧ ¬ (r.fv.ownBlock = some k ∨ gfv.ownBlock = some k ∨ ghv.ownBlock = some k) := fun k hk => by
  obtain ⟨h1, h2⟩ := ht1 k hk
  rcases h1 with h1 | h1
  ·obtain ⟨_, t2, t3, t4, t5, t6, t7⟩ := h.t k h1
   exact ⟨h2, t2, t3, t4, fun e => e.elim t5 (fun e => e.elim t6 t7)⟩
  ·refine ⟨h2, by omega, fun e => ?_, by omega, fun e => ?_⟩
   ·have := (h.p.ts k e).2
    omega
   ·have := (hown k e).2.2.2
    omega
 have z5 : w5.heap[z6]? = some (.cells #[sv, rv6] 36) := (f5.block _ (by omega) (fun e => (hown _ e).2.2.1 rfl)).trans ((fx.block _ hzl (fun h => h)).trans h.zb)
 have z7 : W6.heap[z6]? = some (.cells #[sv, rv'] 36) := by
  have k0 := heap_setCell_same w5 z6 0 _ 36 sv z5
  have k1 := heap_setCell_same _ z6 1 _ 36 rv' k0
  simp only [List.setIfInBounds_toArray, List.set_cons_zero, List.set_cons_succ] at k1
  rw [hW6]
  exact k1
 rw [← hW6]
 refine ⟨((h.p.fr fx).frS f5 (fun k hk => ⟨(hown k hk).1, (hown k hk).2.1⟩)).frS f6 (fun k hk => by rw [hk]; exact h.zn), z7, h.zn, (hq.g.frS f5 (fun k hk ht => (hT1 k ht).2.2.2.2 hk)).frS f6 (fun k hk ht => (hT1 k ht).2.1 hk), fun k hk => ?_, fun k hk => ht2 k (h.qt k hk)⟩
 obtain ⟨t1, t2, t3, t4, _⟩ := hT1 k hk
 exact ⟨by omega, t2, t3, t4⟩
end
theorem step_fv (s : RM) (cl nu ac op rc ve wa ow : Nat) (x y : Value) (rs : ByteArray) (F : List F5) (pl : Nat) : s.step ⟨cl, nu, ac, op, rc, ve, wa, ow, x, rs⟩ F pl = s.step ⟨cl, nu, ac, op, rc, ve, wa, ow, y, rs⟩ F pl := rfl
theorem sum_put {W : World} {base g cap n : Nat} {xs : List Value} (h : W.ownsRow base 83 4 (.slice (some ⟨g, 0, none⟩) n cap) n xs) (k : Nat) (hk : k < n) :
  ∃ W8 xs', (Instr.storeAt 83 (.pointer (some ⟨g, k * 4, none⟩)) (.agg #[.int .u32 99, .int .u32 0, .int .u32 0, .bool false])).run Tryz.prog W = .ok () W8 ∧ W8.ownsRow base 83 4 (.slice (some ⟨g, 0, none⟩) n cap) n xs' ∧ Fr (fun i => i = g) W W8 := by
 refine ⟨W.setCells g (k * 4) [.int .u32 99, .int .u32 0, .int .u32 0, .bool false], (((xs.set (k * 4) (.int .u32 99)).set (k * 4 + 1) (.int .u32 0)).set (k * 4 + 1 + 1) (.int .u32 0)).set (k * 4 + 1 + 1 + 1) (.bool false), run_storeAt_mid W g (k * 4) 83 #[.int .u32 99, .int .u32 0, .int .u32 0, .bool false] (fun j hj => ?_) (by kernel_rfl) (all_oneCell_toArray (cs := [.int .u32 99, .int .u32 0, .int .u32 0, .bool false]) (fun u hu => by simp at hu; rcases hu with rfl | rfl | rfl <;> rfl)), ?_, ?_⟩
 rotate_left
 ·have h0 := own_set h rfl (k * 4) (.int .u32 99)
  have h1 := own_set h0 rfl (k * 4 + 1) (.int .u32 0)
  have h2 := own_set h1 rfl (k * 4 + 1 + 1) (.int .u32 0)
  exact own_set h2 rfl (k * 4 + 1 + 1 + 1) (.bool false)
 ·have h0 := (Fr.refl (fun i => i = g) W).setCell (p := ⟨g, k * 4, none⟩) (.inl rfl) (.int .u32 99)
  have h1 := h0.setCell (p := ⟨g, k * 4 + 1, none⟩) (.inl rfl) (.int .u32 0)
  have h2 := h1.setCell (p := ⟨g, k * 4 + 1 + 1, none⟩) (.inl rfl) (.int .u32 0)
  exact h2.setCell (p := ⟨g, k * 4 + 1 + 1 + 1, none⟩) (.inl rfl) (.bool false)
 ·have hj : j < 4 := hj
  refine ⟨?_, h.frozenAt _⟩
  rw [h.cellAt _ (by omega)]
  have hl := h.1
  rw [List.getElem?_eq_getElem (by omega)]
  rfl
set_option maxHeartbeats 4000000 in
set_option maxRecDepth 100000 in
theorem spoil_any (cl nu co rc ve : Nat) (fo : Option Addr) (fc : Nat) (ho : Option Addr) (hc : Nat) (F : List F5) (H : List SM) (base : Nat) (w : World) (hb : base ≤ w.heap.size) (hF : OwF w base (.slice fo F.length fc) F) (hH : OwS w base (.slice ho H.length hc) H) (hlF : F.length ≤ 1000) (hlH : H.length ≤ 1000) :
  Calls Tryz.prog 16 #[.agg #[.int .u32 (cl : Nat), .int .u32 (nu : Nat), .int .u8 (co : Nat), .int .u32 (rc : Nat), .int .u32 (ve : Nat), .slice fo F.length fc, .slice ho H.length hc]] w fun e w' => e = .returned (.tuple #[]) ∧ Fr (fun k => (Value.slice fo F.length fc).ownBlock = some k ∨ (Value.slice ho H.length hc).ownBlock = some k) w w' := by
 obtain ⟨B, hB⟩ : ∃ B, B = w.heap.size := ⟨_, rfl⟩
 obtain ⟨W1, hW1⟩ : ∃ W1, W1 = w.alloc (.cells #[.int .u32 (cl : Nat), .int .u32 (nu : Nat), .int .u8 (co : Nat), .int .u32 (rc : Nat), .int .u32 (ve : Nat), .slice fo F.length fc, .slice ho H.length hc] 45) := ⟨_, rfl⟩
 have f1 : Fr (fun _ => False) w W1 := by rw [hW1]; exact box1 w _
 have kB : W1.heap[B]? = some (.cells #[.int .u32 (cl : Nat), .int .u32 (nu : Nat), .int .u8 (co : Nat), .int .u32 (rc : Nat), .int .u32 (ve : Nat), .slice fo F.length fc, .slice ho H.length hc] 45) := by rw [hW1, hB]; exact Array.getElem?_push_size
 have hne : ∀ g, (Value.slice fo F.length fc).ownBlock = some g → (Value.slice ho H.length hc).ownBlock ≠ some g := own_ne hF hH (by decide)
 have hbF : ∀ g, (Value.slice fo F.length fc).ownBlock = some g → g < B := fun g hg => by rw [hB]; exact (hF.lt g hg).2
 have hbH : ∀ g, (Value.slice ho H.length hc).ownBlock = some g → g < B := fun g hg => by rw [hB]; exact (hH.lt g hg).2
 have HF1 := hide (ownsRow_of_block hF (fun g hg => f1.block g (hF.lt g hg).2 (fun h => h)))
 have HH1 := hide (ownsRow_of_block hH (fun g hg => f1.block g (hH.lt g hg).2 (fun h => h)))
 have HB := hide (And.intro hne (And.intro hbF (And.intro hbH (show base ≤ B ∧ B < W1.heap.size from ⟨by omega, lt_of_block kB⟩))))
 have KB := hide kB
 have F1 := hide f1
 clear hF hH hne hbF hbH kB f1
 go_enter Tryz.func16, Tryz.ntmps16
 go_wp2_with fail
 rw [← hW1, ← hB]
 clear hW1 hB
 go_loopw [2] (fun iv wr => ∃ (j : Nat) (F' : List F5), j ≤ F.length ∧ iv = .int .i64 (j : Nat) ∧ F'.length = F.length ∧ OwF wr base (.slice fo F.length fc) F' ∧ Fr (fun k => (Value.slice fo F.length fc).ownBlock = some k) W1 wr) (fun iv _ => F.length - (intOf iv).toNat)
 case atStart => exact ⟨0, F, Nat.zero_le _, rfl, rfl, unhide HF1, Fr.refl _ _⟩
 case round =>
  obtain ⟨j, F', hj, rfl, hl', hown, hfr⟩ := hrel
  have kb := (hfr.block B (unhide HB).2.2.2.2 (fun e => by have := (unhide HB).2.1 B e; omega)).trans (unhide KB)
  have b5 : wr.cell? ⟨B, 5, none⟩ = some (.slice fo F.length fc) := by simp [World.cell?, kb]
  by_cases hlt : j < F.length
  ·have hown' : wr.ownsRow base 55 5 (.slice fo F.length fc) F'.length (fcells F') := hown
   rw [hl'] at hown'
   obtain ⟨g, cap, he, _, _⟩ := hown'.form (by omega)
   cases he
   clear hown'
   obtain ⟨w2, hs, ho2, hf2⟩ := fld_put hown hl'.symm j (by omega) ⟨⟨#[115, 112, 111, 105, 108, 116]⟩, 9, ⟨#[]⟩, 0, 0⟩
   have HS := hide hs
   have HO := hide (And.intro ho2 (hfr.trans (hf2.mono (fun k _ hk => by show some g = some k; rw [hk])) (fun _ _ h => h)))
   have hkl : (j : Int) < (F.length : Int) := by omega
   have hlen := hide hl'
   have hlt' := hide hlt
   clear hs ho2 hf2 hown hfr kb hl' hj hlt
   go_wp2_with (refine wpList_stN rfl 55 (.tmp 17) (.tmp 16) rfl _ _ rfl rfl (unhide HS) ?_)
   go_roundw
   case rel => exact ⟨j + 1, _, unhide hlt', by go_num, by rw [List.length_set]; exact unhide hlen, (unhide HO).1, (unhide HO).2⟩
   case measure => have := unhide hlt'; simp [intOf]; omega
  ·obtain rfl : j = F.length := by omega
   have hkl : ¬ (F.length : Int) < (F.length : Int) := by omega
   have HO := hide (And.intro hown (And.intro hfr hl'))
   clear hown hfr kb hl' hj
   go_wp2_with fail
   clear b5 hkl hlt
   rename World => wq
   go_loopw [3, 4] (fun av iv wr => ∃ (j : Nat) (F2 : List F5) (ao : Option Addr) (an cap : Nat), j ≤ 20 ∧ iv = .int .i64 (j : Nat) ∧ av = .slice ao an cap ∧ an = F2.length ∧ F2.length ≤ 1000 + j ∧ OwF wr base (.slice ao an cap) F2 ∧ (∀ g, (Value.slice ao an cap).ownBlock = some g → (Value.slice fo F.length fc).ownBlock = some g ∨ W1.heap.size ≤ g) ∧ Fr (fun k => (Value.slice fo F.length fc).ownBlock = some k) W1 wr) (fun _ iv _ => 20 - (intOf iv).toNat)
   case atStart => exact ⟨0, _, fo, F.length, fc, by omega, rfl, rfl, (unhide HO).2.2.symm, by have := (unhide HO).2.2; omega, (unhide HO).1, fun g hg => .inl hg, (unhide HO).2.1⟩
   case round =>
    obtain ⟨j, F2, ao, an, cap, hj, rfl, rfl, han, hl2, hown, hob, hfr⟩ := hrel
    have kb := (hfr.block B (unhide HB).2.2.2.2 (fun e => by have := (unhide HB).2.1 B e; omega)).trans (unhide KB)
    by_cases hlt : j < 20
    ·obtain ⟨ao2, cap2, w2, hr, hown2, hf2, hn2⟩ := app_fld wr base (.slice ao an cap) F2 ⟨⟨#[115, 112, 111, 105, 108, 116]⟩, 0, ⟨#[]⟩, 0, 0⟩ hown (by have := hfr.size; have := (unhide HB).2.2.2; omega) (by omega)
     rw [← han] at hr hown2 hn2
     have HR := hide hr
     have hf3 : Fr (fun k => (Value.slice fo F.length fc).ownBlock = some k) W1 w2 := hfr.trans hf2 (fun i hi h => (hob i h).resolve_right (by omega))
     have HO2 := hide (And.intro hown2 (And.intro hf3 (And.intro (show ∀ g, (Value.slice ao2 (an + 1) cap2).ownBlock = some g → (Value.slice fo F.length fc).ownBlock = some g ∨ W1.heap.size ≤ g from fun g hg => (hn2 g hg).elim (hob g) (fun h => .inr (Nat.le_trans hfr.size h))) (And.intro han hl2))))
     have hkl : (j : Int) < 20 := by omega
     have hlt' := hide hlt
     clear hr hown2 hf2 hn2 hf3 hown hfr kb han hl2 hob hj hlt
     go_wp2_with (at_builtin; refine wpList_app rfl (.tmp 24) (.tmp 26) 39 39 rfl _ _ _ rfl rfl (unhide HR) ?_)
     go_roundw
     case rel => exact ⟨j + 1, _, ao2, an + 1, cap2, unhide hlt', by go_num, rfl, by have := (unhide HO2).2.2.2.1; simp; omega, by have := (unhide HO2).2.2.2.2; simp; omega, (unhide HO2).1, (unhide HO2).2.2.1, (unhide HO2).2.1⟩
     case measure => have := unhide hlt'; simp [intOf]; omega
    ·have hkl : ¬ (j : Int) < 20 := by omega
     have HO3 := hide hfr
     clear hown hob kb hj hl2 han HO
     go_wp2_with fail
     clear hlt hkl
     rename World => wp
     go_loopw [5] (fun iv wr => ∃ (j : Nat) (xs : List Value), j ≤ H.length ∧ iv = .int .i64 (j : Nat) ∧ wr.ownsRow base 83 4 (.slice ho H.length hc) H.length xs ∧ Fr (fun k => (Value.slice fo F.length fc).ownBlock = some k ∨ (Value.slice ho H.length hc).ownBlock = some k) W1 wr) (fun iv _ => H.length - (intOf iv).toNat)
     case atStart => exact ⟨0, _, Nat.zero_le _, rfl, ownsRow_of_block (unhide HH1) (fun g hg => (unhide HO3).block g ((unhide HH1).lt g hg).2 (fun e => (unhide HB).1 g e hg)), (unhide HO3).mono (fun _ _ h => .inl h)⟩
     case round =>
      obtain ⟨j, xs, hj, rfl, hown, hfr⟩ := hrel
      have kb := (hfr.block B (unhide HB).2.2.2.2 (fun e => e.elim (fun e => by have := (unhide HB).2.1 B e; omega) (fun e => by have := (unhide HB).2.2.1 B e; omega))).trans (unhide KB)
      have b6 : wr.cell? ⟨B, 6, none⟩ = some (.slice ho H.length hc) := by simp [World.cell?, kb]
      by_cases hlt : j < H.length
      ·obtain ⟨g, cap, he, _, _⟩ := hown.form (by omega)
       cases he
       obtain ⟨w2, xs2, hs, ho2, hf2⟩ := sum_put hown j hlt
       have HS := hide hs
       have HO := hide (And.intro ho2 (hfr.trans (hf2.mono (fun k _ hk => .inr (by show some g = some k; rw [hk]))) (fun _ _ h => h)))
       have hkl : (j : Int) < (H.length : Int) := by omega
       have hlt' := hide hlt
       clear hs ho2 hf2 hown hfr kb hj hlt HO3
       go_wp2_with (refine wpList_stN rfl 83 (.tmp 39) (.tmp 38) rfl _ _ rfl rfl (unhide HS) ?_)
       go_roundw
       case rel => exact ⟨j + 1, _, unhide hlt', by go_num, (unhide HO).1, (unhide HO).2⟩
       case measure => have := unhide hlt'; simp [intOf]; omega
      ·obtain rfl : j = H.length := by omega
       have hkl : ¬ (H.length : Int) < (H.length : Int) := by omega
       have HO := hide hfr
       clear hown hfr kb hj
       go_wp2_with fail
       go_end0
       exact ⟨rfl, ((unhide F1).mono (fun _ _ h => h.elim)).trans (unhide HO) (fun _ _ h => h)⟩
set_option maxHeartbeats 2000000 in
set_option maxRecDepth 100000 in
theorem marked_any (cl nu ac op rc ve wa ow : Nat) (g cap : Nat) (base : Nat) (x : Value) (rs : ByteArray) (F : List F5) (w : World) (hm : Mkd w base (.slice (some ⟨g, 0, none⟩) F.length cap) F) (hx : Fds w x F) (hl : F.length ≤ 1048576) :
  Calls Tryz.prog 13 #[.agg #[.int .u32 (cl : Nat), .int .u32 (nu : Nat), .int .u32 (ac : Nat), .int .u8 (op : Nat), .int .u32 (rc : Nat), .int .u32 (ve : Nat), .int .u32 (wa : Nat), .int .u32 (ow : Nat), .slice (some ⟨g, 0, none⟩) F.length cap, .string rs], .agg #[.int .u32 (cl : Nat), .int .u32 (nu : Nat), .int .u32 (ac : Nat), .int .u8 (op : Nat), .int .u32 (rc : Nat), .int .u32 (ve : Nat), .int .u32 (wa : Nat), .int .u32 (ow : Nat), x, .string rs]] w fun e w' => e = .returned (.bool true) ∧ Fr (fun _ => False) w w' := by
 have HSR := hide (fun W (hW : Fr (fun _ => False) w W) => sameR_any cl nu ac op rc ve wa ow (.slice (some ⟨g, 0, none⟩) F.length cap) x rs F W ((hm.fr hW).fds) (hx.fr hW) (by omega))
 obtain ⟨xo, xc, rfl⟩ := hx.form
 obtain ⟨g', cap', e, hcap, ho⟩ := hm.o
 cases e
 obtain ⟨_, _, e1, m0, _⟩ := ho.fds.at_ F.length (by simp)
 cases e1
 obtain ⟨_, _, e2, m1, _⟩ := ho.fds.at_ (F.length + 1) (by simp)
 cases e2
 rw [show (F ++ [mkF, mkF])[F.length] = mkF by simp, Nat.zero_add] at m0
 rw [show (F ++ [mkF, mkF])[F.length + 1] = mkF by simp [List.getElem_append_right], Nat.zero_add] at m1
 have hgl : g < w.heap.size := lt_of_cell m0
 obtain ⟨W1, hW1⟩ : ∃ W1, W1 = (w.alloc (.cells #[.int .u32 (cl : Nat), .int .u32 (nu : Nat), .int .u32 (ac : Nat), .int .u8 (op : Nat), .int .u32 (rc : Nat), .int .u32 (ve : Nat), .int .u32 (wa : Nat), .int .u32 (ow : Nat), .slice (some ⟨g, 0, none⟩) F.length cap, .string rs] 41)).alloc (.cells #[.int .u32 (cl : Nat), .int .u32 (nu : Nat), .int .u32 (ac : Nat), .int .u8 (op : Nat), .int .u32 (rc : Nat), .int .u32 (ve : Nat), .int .u32 (wa : Nat), .int .u32 (ow : Nat), .slice xo F.length xc, .string rs] 41) := ⟨_, rfl⟩
 have F1 : Hid (Fr (fun _ => False) w W1) := by rw [hW1]; exact (box1 w _).trans (box1 _ _) (fun _ _ h => h)
 have k1 : W1.heap[w.heap.size]? = some (.cells #[.int .u32 (cl : Nat), .int .u32 (nu : Nat), .int .u32 (ac : Nat), .int .u8 (op : Nat), .int .u32 (rc : Nat), .int .u32 (ve : Nat), .int .u32 (wa : Nat), .int .u32 (ow : Nat), .slice (some ⟨g, 0, none⟩) F.length cap, .string rs] 41) := by rw [hW1]; exact ((box1 _ _).block _ (by simp) (fun h => h)).trans Array.getElem?_push_size
 have a8 : W1.cell? ⟨w.heap.size, 8, none⟩ = some (.slice (some ⟨g, 0, none⟩) F.length cap) := by simp [World.cell?, k1]
 have hl1 : w.heap.size < W1.heap.size := lt_of_block k1
 have c1 : (F.length : Int) + 1 < (cap : Int) := by omega
 have c2 : (F.length : Int) + 2 ≤ (cap : Int) := by omega
 have M0 := hide m0
 have M1 := hide m1
 simp only [mkF] at M0 M1
 clear hm hx ho m0 m1 hcap k1
 go_enter Tryz.func13, Tryz.ntmps13
 go_wp2_with fail
 rw [← hW1]
 clear hW1
 refine ((unhide HSR) _ (unhide F1)).mono ?_
 rintro e w2 ⟨rfl, hf2⟩
 have F2 := hide ((unhide F1).trans hf2 (fun _ _ h => h))
 have p8 := (hf2.cell (p := ⟨w.heap.size, 8, none⟩) hl1 (fun h => h)).trans a8
 have m0 := ((unhide F2).cell (p := ⟨g, F.length * 5, none⟩) hgl (fun h => h)).trans (unhide M0)
 have m1 := ((unhide F2).cell (p := ⟨g, (F.length + 1) * 5, none⟩) hgl (fun h => h)).trans (unhide M1)
 clear hf2 a8 HSR
 go_wp2_with fail
 go_ret
 exact ⟨rfl, unhide F2⟩
theorem AO.frBox {w W W' : World} {bs : Nat} {Ts : Nat → Prop} {s : RM} {X : RM × RA} {sv rv pv : Value} {S : List P3} {l : List (RQ × List F5)} {pl : List Nat} {z6 : Nat} {rv6 : Value} {T : Nat → Prop} {n : Nat} {L : List GC} {zr : Nat} {r : RQ} {F : List F5} {base bg zg : Nat} {gfv ghv : Value} {c : Array Value} (h : AO w W bs Ts s X sv rv pv S l pl z6 rv6 T n L zr r F base gfv ghv bg) (hf : Fr (fun k => k = zg) W W') (hz : (w.heap.size < zg) ∧ ¬ Ts zg) (hb : W.heap[zg]? = some (.cells c 45)) (ht : ¬ T zg) : AO w W' bs Ts s X sv rv pv S l pl z6 rv6 T n L zr r F base gfv ghv bg := by
 have hne : ∀ {g t : Nat} {d : Array Value}, W.heap[g]? = some (.cells d t) → 45 ≠ t → ¬ g = zg := fun {g t d} hg hn e => by
  rw [e, hb] at hg
  exact hn (by injection hg with hg; injection hg with _ hg)
 refine ⟨h.p.frS hf (fun k hk => by rw [hk]; exact hz), (hf.block _ (lt_of_block h.zb) (hne h.zb (by decide))).trans h.zb, h.zn, h.g.frS hf (fun k hk ht' => ht (hk ▸ ht')), fun k hk => ⟨Nat.lt_of_lt_of_le (h.t k hk).1 hf.size, (h.t k hk).2⟩, h.qt, (hf.block _ (lt_of_block h.rk) (hne h.rk (by decide))).trans h.rk, h.m.frS hf (fun g hg e => h.m.box hb (by decide) (e ▸ hg)), h.oy, ownsRow_of_block h.gf (fun g hg => hf.block g (h.gf.lt g hg).2 (fun e => own_box h.gf hb (by decide) (e ▸ hg))), ownsRow_of_block h.gh (fun g hg => hf.block g (h.gh.lt g hg).2 (fun e => own_box h.gh hb (by decide) (e ▸ hg))), h.og⟩
theorem stf_put3 {W : World} {base g cap n : Nat} {xs : List Value} (h : W.ownsRow base 33 3 (.slice (some ⟨g, 0, none⟩) n cap) n xs) (k : Nat) (hk : k < n) :
  ∃ W8 xs', (Instr.storeAt 33 (.pointer (some ⟨g, k * 3, none⟩)) (.agg #[.int .u32 99, .int .u32 3, .int .u32 0])).run Tryz.prog W = .ok () W8 ∧ W8.ownsRow base 33 3 (.slice (some ⟨g, 0, none⟩) n cap) n xs' ∧ Fr (fun i => i = g) W W8 := by
 refine ⟨W.setCells g (k * 3) [.int .u32 99, .int .u32 3, .int .u32 0], ((xs.set (k * 3) (.int .u32 99)).set (k * 3 + 1) (.int .u32 3)).set (k * 3 + 1 + 1) (.int .u32 0), run_storeAt_mid W g (k * 3) 33 #[.int .u32 99, .int .u32 3, .int .u32 0] (fun j hj => ?_) (by kernel_rfl) (all_oneCell_toArray (cs := [.int .u32 99, .int .u32 3, .int .u32 0]) (fun u hu => by simp at hu; rcases hu with rfl | rfl | rfl <;> rfl)), ?_, ?_⟩
 rotate_left
 ·have h0 := own_set h rfl (k * 3) (.int .u32 99)
  have h1 := own_set h0 rfl (k * 3 + 1) (.int .u32 3)
  exact own_set h1 rfl (k * 3 + 1 + 1) (.int .u32 0)
 ·have h0 := (Fr.refl (fun i => i = g) W).setCell (p := ⟨g, k * 3, none⟩) (.inl rfl) (.int .u32 99)
  have h1 := h0.setCell (p := ⟨g, k * 3 + 1, none⟩) (.inl rfl) (.int .u32 3)
  exact h1.setCell (p := ⟨g, k * 3 + 1 + 1, none⟩) (.inl rfl) (.int .u32 0)
 ·have hj : j < 3 := hj
  refine ⟨?_, h.frozenAt _⟩
  rw [h.cellAt _ (by omega)]
  have hl := h.1
  rw [List.getElem?_eq_getElem (by omega)]
  rfl
set_option maxHeartbeats 16000000 in
set_option maxRecDepth 100000 in
theorem rapplies_any (sv rv pv : Value) (S : List P3) (l : List (RQ × List F5)) (pl : List Nat) (w : World) (hs : Stf w sv S) (hS : S.length ≤ 1000000) (hq : Rqs w rv l) (hl : l.length ≤ 1000000) (hp : Us w pv pl) (hg : GU w) (hpg : ∀ p ∈ l, PGo p) :
  Calls Tryz.prog 3 #[.agg #[sv, rv, pv]] w fun e w' => e = .returned (.bool true) ∧ Fr (fun _ => False) w w' := by
 obtain ⟨so, sc, rfl⟩ := hs.form
 obtain ⟨ro, rc0, rfl⟩ := hq.form
 obtain ⟨po, pc, rfl⟩ := hp.form
 have HQ := hide (And.intro hs (And.intro hq (And.intro hp (And.intro hg (And.intro hpg (And.intro hS hl))))))
 obtain ⟨W1, hW1⟩ : ∃ W1, W1 = w.alloc (.cells #[.slice so S.length sc, .slice ro l.length rc0, .slice po pl.length pc] 26) := ⟨_, rfl⟩
 have hb1 : W1.heap[w.heap.size]? = some (.cells #[.slice so S.length sc, .slice ro l.length rc0, .slice po pl.length pc] 26) := by rw [hW1]; exact Array.getElem?_push_size
 have hf1 : Fr (fun _ => False) w W1 := by rw [hW1]; exact box1 w _
 have H1 := hide (And.intro hb1 hf1)
 clear hs hq hp hg hpg hb1 hf1
 go_enter Tryz.func3, Tryz.ntmps3
 go_wp2_with fail
 rw [← hW1]
 clear hW1
 refine (awake11 W1 ((unhide HQ).2.2.2.1.fr (unhide H1).2)).mono ?_
 rintro e w2 ⟨rfl, hf2⟩
 have H2 := hide (And.intro ((hf2.block _ (lt_of_block (unhide H1).1) (fun h => h)).trans (unhide H1).1) ((unhide H1).2.trans hf2 (fun _ _ h => h)))
 clear hf2 H1
 have b0 : w2.cell? ⟨w.heap.size, 0, none⟩ = some (.slice so S.length sc) := by simp [World.cell?, (unhide H2).1]
 go_wp2_with fail
 refine (staff_any _ S w2 ((unhide HQ).1.fr (unhide H2).2) hS).mono ?_
 rintro e w3 ⟨v, rfl, ho3, hf3⟩
 have HN3 := hide (new_B v S w3 (own_stf ho3) (own_z ho3) hS)
 have H3 := hide (And.intro ((hf3.block _ (lt_of_block (unhide H2).1) (fun h => h)).trans (unhide H2).1) ((unhide H2).2.trans hf3 (fun _ _ h => h)))
 obtain ⟨vo, vc, rfl⟩ := own_formX ho3
 have HO3 := hide (And.intro ho3 hf3.size)
 clear hf3 b0 ho3
 go_wp2_with fail
 refine (unhide HN3).mono ?_
 rintro e w4 ⟨bs, rfl, hb4, hf4⟩
 have hlo3 := lt_of_block (unhide H3).1
 have HI0 : Hid (RP w w4 bs (fun k => w3.heap.size ≤ k ∧ k < w4.heap.size) ⟨S, []⟩ (.slice so S.length sc) (.slice ro l.length rc0) (.slice po pl.length pc) S l pl) := by
  have h6 := (unhide H3).2.trans hf4 (fun _ _ h => h)
  exact ⟨hb4, fun k hk => ⟨by omega, hk.2⟩, (hf4.block _ hlo3 (fun h => h)).trans (unhide H3).1, (unhide HQ).1.fr h6, fun g o n c e h0 => (unhide HQ).1.ltg e h0, (unhide HQ).2.1.fr h6, fun k hk => (unhide HQ).2.1.lt hk, (unhide HQ).2.2.1.fr h6, (unhide HQ).2.2.1.lt, (unhide HQ).2.2.2.1.fr h6, lt_of_cell ((unhide HQ).2.2.2.1 0 (by omega)), h6⟩
 have HR4 : Hid (w4.ownsRow w2.heap.size 33 3 (.slice vo S.length vc) S.length (pcells S)) := ownsRow_of_block (unhide HO3).1 (fun g hg => hf4.block g ((unhide HO3).1.lt g hg).2 (fun h => h))
 have HV3 : Hid (∀ g, (Value.slice vo S.length vc).ownBlock = some g → w.heap.size < g ∧ g < w3.heap.size) := fun g hg => by
  have h1 := (unhide HO3).1.lt g hg
  have h2 := lt_of_block (unhide H2).1
  exact ⟨by omega, h1.2⟩
 have H34 := hide hf4.size
 clear hb4 hf4 HN3 H3 hlo3 HO3 H2
 go_wp2_with fail
 go_loopw [5] (fun kv wr => ∃ (j : Nat) (xs : List Value), j ≤ S.length ∧ kv = .int .i64 (j : Nat) ∧ wr.ownsRow w2.heap.size 33 3 (.slice vo S.length vc) S.length xs ∧ Fr (fun k => (Value.slice vo S.length vc).ownBlock = some k) w4 wr) (fun kv _ => S.length - (intOf kv).toNat)
 case atStart => exact ⟨0, _, Nat.zero_le _, rfl, unhide HR4, Fr.refl _ _⟩
 case round =>
  obtain ⟨j, xs, hj, rfl, hown, hfr⟩ := hrel
  rename World => wa
  by_cases hlt : j < S.length
  ·obtain ⟨g, cap, he, _, _⟩ := hown.form (by omega)
   cases he
   obtain ⟨w5, xs5, hs5, ho5, hf5⟩ := stf_put3 hown j hlt
   have HS := hide hs5
   have HO := hide (And.intro ho5 (hfr.trans (hf5.mono (fun k _ hk => by show some g = some k; rw [hk])) (fun _ _ h => h)))
   have hkl : (j : Int) < (S.length : Int) := by omega
   clear hs5 ho5 hf5 hown hfr hj
   go_wp2_with (refine wpList_stN rfl 33 (.tmp 31) (.tmp 30) rfl _ _ rfl rfl (unhide HS) ?_)
   go_roundw
   case rel => exact ⟨j + 1, _, hlt, by go_num, (unhide HO).1, (unhide HO).2⟩
   case measure => simp [intOf]; omega
  ·have hkl : ¬ (j : Int) < (S.length : Int) := by omega
   have hrp : RP w wa bs (fun k => w3.heap.size ≤ k ∧ k < w4.heap.size) ⟨S, []⟩ (.slice so S.length sc) (.slice ro l.length rc0) (.slice po pl.length pc) S l pl := (unhide HI0).frS hfr (fun k hk => ⟨((unhide HV3) k hk).1, fun h => by have := ((unhide HV3) k hk).2; omega⟩)
   have b0 : wa.cell? ⟨w.heap.size, 0, none⟩ = some (.slice so S.length sc) := by simp [World.cell?, hrp.b]
   have hbl : w.heap.size < wa.heap.size := lt_of_block hrp.b
   obtain ⟨z6, hz6⟩ : ∃ z6, z6 = wa.heap.size := ⟨_, rfl⟩
   obtain ⟨W6, hW6⟩ : ∃ W6, W6 = wa.alloc (.cells #[.slice so S.length sc, .slice none 0 0] 36) := ⟨_, rfl⟩
   have f6 : Fr (fun _ => False) wa W6 := by rw [hW6]; exact box1 wa _
   have HA0 : Hid (AP w W6 bs (fun k => w3.heap.size ≤ k ∧ k < w4.heap.size) ⟨S, []⟩ (.slice so S.length sc) (.slice ro l.length rc0) (.slice po pl.length pc) S l pl z6 (.slice none 0 0) (fun k => Blk (.slice so S.length sc) k ∨ Rqb (.slice ro l.length rc0) l k) 0 []) := by
    have h34 := unhide H34
    have h4a := hfr.size
    have hlo : ∀ k, (Blk (.slice so S.length sc) k ∨ Rqb (.slice ro l.length rc0) l k) → k < w.heap.size := fun k hk => hk.elim (fun h => (unhide HQ).1.blt h) (fun h => (unhide HQ).2.1.lt h)
    refine ⟨hrp.fr f6, by rw [hW6, hz6]; exact Array.getElem?_push_size, ⟨by omega, fun e => by omega⟩, ⟨⟨hrp.st.fr f6, fun k hk => .inl hk, ⟨rfl, .inl ⟨none, 0, rfl, rfl⟩⟩, fun k hk => (blk_nil hk).elim, fun x hx => (by cases hx)⟩, ⟨rfl, rfl, fun i c d hc => (by simp at hc)⟩, ⟨by simp, fun x hx => (by cases hx)⟩, ⟨by show S.length ≤ _; omega, by show 0 ≤ 256; omega, fun c hc => (by cases hc)⟩, ⟨fun c hc => (by cases hc)⟩⟩, fun k hk => ?_, fun k hk => .inr hk⟩
    have h1 := hlo k hk
    have h2 := f6.size
    exact ⟨by omega, by omega, fun e => by have := (hrp.ts k e).1; omega, by omega⟩
   clear hown hfr hrp f6 HI0 HR4 HV3 H34
   go_wp2_with fail
   rw [← hW6]
   (try rw [← hz6])
   clear hW6 hz6 b0 hbl hkl hlt
   go_loopw [7] (fun kv wr => ∃ j : Nat, j ≤ l.length ∧ kv = .int .i64 (j : Nat) ∧ ∃ Ts s rv6 T L, AP w wr bs Ts s (.slice so S.length sc) (.slice ro l.length rc0) (.slice po pl.length pc) S l pl z6 rv6 T j L) (fun kv _ => l.length - (intOf kv).toNat)
   case atStart => exact ⟨0, Nat.zero_le _, rfl, _, _, _, _, _, unhide HA0⟩
   case round =>
    clear HA0
    obtain ⟨j, hj, rfl, Ts, s, rv6, T, L, hi⟩ := hrel
    rename World => wm
    by_cases hlt : j < l.length
    ·obtain ⟨p, hpe⟩ : ∃ p, l[j] = p := ⟨_, rfl⟩
     have hpe2 : l[j]? = some p := by rw [List.getElem?_eq_getElem hlt, hpe]
     obtain ⟨g, o, rfl, hr0⟩ := hi.p.q.at_ j hlt
     clear hr0
     have hpm : p ∈ l := List.mem_of_getElem? hpe2
     have hgo := (unhide HQ).2.2.2.2.1 p hpm
     have hlb : l.length ≤ 1000000 := (unhide HQ).2.2.2.2.2.2
     have hfd := hi.p.q.d p hpm
     obtain ⟨r6, c6, rfl⟩ := hi.g.g.r.form
     obtain ⟨⟨cl, nu, ac, op, rc, ve, wa', ow, fv, rs⟩, F⟩ := p
     obtain ⟨xo2, xc2, rfl⟩ : ∃ xo2 xc2, fv = .slice xo2 F.length xc2 := hfd.f.form
     obtain ⟨pn, hpn⟩ : ∃ pn, plc pl j = pn := ⟨_, rfl⟩
     obtain ⟨X, hX⟩ : ∃ X, s.step ⟨cl, nu, ac, op, rc, ve, wa', ow, .slice xo2 F.length xc2, rs⟩ F pn = X := ⟨_, rfl⟩
     have HSt : Hid (X.2.F.length ≤ 32 ∧ X.2.H.length ≤ 64) := by rw [← hX]; exact step_short hi.g.o _ _ _
     obtain ⟨⟨b0, b1, b2⟩, hcs⟩ := hi.p.cells hpe2
     obtain ⟨c0, c1, c2, c3, c4, c5, c6', c7, c8, c9⟩ := hcs
     simp only at c0 c1 c2 c3 c4 c5 c6' c7 c8 c9
     have hkl : (j : Int) < (l.length : Int) := by omega
     have HPl : Hid (∀ W, Us W (.slice po pl.length pc) pl → Calls Tryz.prog 11 #[.agg #[.slice so S.length sc, .slice (some ⟨g, o, none⟩) l.length rc0, .slice po pl.length pc], .int .i64 (j : Nat)] W fun e w' => e = .returned (.int .u32 (pn : Nat)) ∧ Fr (fun _ => False) W w') := fun W h => by rw [← hpn]; exact place_any _ _ _ pl j W h (by omega) ⟨_, _, _, rfl⟩ ⟨_, _, _, rfl⟩
     have HI := hide hi
     have HF := hide (And.intro hfd.f (And.intro hgo (And.intro hpm hpe2)))
     have HXX := hide hX
     have hlt' := hide hlt
     clear hi hfd hgo hpm hpe hpe2 hX hpn hj hlt
     go_wp2_with fail
     refine (copied_any cl nu ac op rc ve wa' ow _ rs F wm (unhide HF).1 (unhide HF).2.1.2.2.2).mono ?_
     rintro e w5 ⟨y, rfl, hmk, hf5⟩
     obtain ⟨yg, yc, rfl, _, _⟩ := hmk.o
     obtain ⟨W1, hst, hk1, hf6⟩ := req_put (W := w5.alloc (.cells #[.int .u32 0, .int .u32 0, .int .u32 0, .int .u8 0, .int .u32 0, .int .u32 0, .int .u32 0, .int .u32 0, .slice none 0 0, .string ⟨#[]⟩] 41)) (g := w5.heap.size) Array.getElem?_push_size (⟨cl, nu, ac, op, rc, ve, wa', ow, .slice (some ⟨yg, 0, none⟩) F.length yc, rs⟩ : RQ) rfl
     have hj1 := AQ.mk' (W' := W1) (r := (⟨cl, nu, ac, op, rc, ve, wa', ow, .slice (some ⟨yg, 0, none⟩) F.length yc, rs⟩ : RQ)) (unhide HI) hf5 hmk ((box1 w5 _).absorb hf6 (fun k hk => by omega)) hk1
     obtain ⟨zr, hzr⟩ : ∃ zr, zr = w5.heap.size := ⟨_, rfl⟩
     obtain ⟨by0, hby0⟩ : ∃ by0, by0 = wm.heap.size := ⟨_, rfl⟩
     rw [← hzr, ← hby0] at hj1
     simp only [RQ.cs] at hst
     have HST := hide hst
     have HJ := hide hj1
     clear hst hk1 hf6 hj1 hmk hf5 c0 c1 c2 c3 c4 c5 c6' c7 c8 c9 b0 b1 b2
     go_wp2_with (refine wpList_stN rfl 41 (.tmp 8) (.tmp 47) rfl _ _ rfl rfl (unhide HST) ?_)
     (try simp only [Act.put])
     (try rw [← hzr])
     clear HST hzr hby0
     have HS13 : Hid (∀ W : World, W.heap[w.heap.size]? = some (.cells #[.slice so S.length sc, .slice (some ⟨g, o, none⟩) l.length rc0, .slice po pl.length pc] 26) → W.heap[zr]? = some (.cells (⟨cl, nu, ac, op, rc, ve, wa', ow, .slice (some ⟨yg, 0, none⟩) F.length yc, rs⟩ : RQ).cs 41) → W.cell? ⟨w.heap.size, 0, none⟩ = some (.slice so S.length sc) ∧ W.cell? ⟨w.heap.size, 1, none⟩ = some (.slice (some ⟨g, o, none⟩) l.length rc0) ∧ W.cell? ⟨w.heap.size, 2, none⟩ = some (.slice po pl.length pc) ∧ W.cell? ⟨zr, 0, none⟩ = some (.int .u32 (cl : Nat)) ∧ W.cell? ⟨zr, 1, none⟩ = some (.int .u32 (nu : Nat)) ∧ W.cell? ⟨zr, 2, none⟩ = some (.int .u32 (ac : Nat)) ∧ W.cell? ⟨zr, 3, none⟩ = some (.int .u8 (op : Nat)) ∧ W.cell? ⟨zr, 4, none⟩ = some (.int .u32 (rc : Nat)) ∧ W.cell? ⟨zr, 5, none⟩ = some (.int .u32 (ve : Nat)) ∧ W.cell? ⟨zr, 6, none⟩ = some (.int .u32 (wa' : Nat)) ∧ W.cell? ⟨zr, 7, none⟩ = some (.int .u32 (ow : Nat)) ∧ W.cell? ⟨zr, 8, none⟩ = some (.slice (some ⟨yg, 0, none⟩) F.length yc) ∧ W.cell? ⟨zr, 9, none⟩ = some (.string rs)) := fun W h1 h2 => by
      simp only [RQ.cs] at h2
      refine ⟨?_, ?_, ?_, ?_, ?_, ?_, ?_, ?_, ?_, ?_, ?_, ?_, ?_⟩ <;> simp [World.cell?, h1, h2]
     have HAp : Hid (∀ W, AQ w W bs Ts s (.slice so S.length sc) (.slice (some ⟨g, o, none⟩) l.length rc0) (.slice po pl.length pc) S l pl z6 (.slice r6 L.length c6) T j L zr (⟨cl, nu, ac, op, rc, ve, wa', ow, .slice (some ⟨yg, 0, none⟩) F.length yc, rs⟩ : RQ) F by0 → Calls Tryz.prog 10 #[.pointer (some ⟨bs, 0, none⟩), .agg #[.int .u32 (cl : Nat), .int .u32 (nu : Nat), .int .u32 (ac : Nat), .int .u8 (op : Nat), .int .u32 (rc : Nat), .int .u32 (ve : Nat), .int .u32 (wa' : Nat), .int .u32 (ow : Nat), .slice (some ⟨yg, 0, none⟩) F.length yc, .string rs], .int .u32 (pn : Nat)] W fun e w' => ∃ gfo gfn gfc gho ghn ghc, e = .returned (.agg #[.int .u32 (cl : Nat), .int .u32 (nu : Nat), .int .u8 (X.2.co : Nat), .int .u32 (X.2.rc : Nat), .int .u32 (X.2.ve : Nat), .slice gfo gfn gfc, .slice gho ghn ghc]) ∧ OwF w' W.heap.size (.slice gfo gfn gfc) X.2.F ∧ OwS w' W.heap.size (.slice gho ghn ghc) X.2.H ∧ Fr Ts W w' ∧ ∃ T', RsB w' bs T' X.1 ∧ (∀ k, T' k → Ts k ∨ W.heap.size ≤ k) ∧ (∀ k, T' k → k < w'.heap.size) ∧ (∀ g, (Value.slice gfo gfn gfc).ownBlock = some g → ¬ T' g) ∧ (∀ g, (Value.slice gho ghn ghc).ownBlock = some g → ¬ T' g)) := fun W h =>
      apply_C bs Ts s (⟨cl, nu, ac, op, rc, ve, wa', ow, .slice (some ⟨yg, 0, none⟩) F.length yc, rs⟩ : RQ) F pn W h.a.p.rs (fun k hk => (h.a.p.ts k hk).2) h.a.g.o h.m.fdc (unhide HF).2.1.1.2.1 (unhide HF).2.1.1.2.2 h.a.p.u X ((step_fv s cl nu ac op rc ve wa' ow _ _ rs F pn).trans (unhide HXX))
     go_upto_region 16 with fail
     go_cut [9] from 35 to 103 (fun s9 wx => ∃ zg gfo gfc gho ghc T2 bg, s9 = .pointer (some ⟨zg, 0, none⟩) ∧ AO w wx bs T2 s X (.slice so S.length sc) (.slice (some ⟨g, o, none⟩) l.length rc0) (.slice po pl.length pc) S l pl z6 (.slice r6 L.length c6) T j L zr (⟨cl, nu, ac, op, rc, ve, wa', ow, .slice (some ⟨yg, 0, none⟩) F.length yc, rs⟩ : RQ) F by0 (.slice gfo X.2.F.length gfc) (.slice gho X.2.H.length ghc) bg ∧ w.heap.size < zg ∧ wx.heap[zg]? = some (.cells #[.int .u32 (cl : Nat), .int .u32 (nu : Nat), .int .u8 (X.2.co : Nat), .int .u32 (X.2.rc : Nat), .int .u32 (X.2.ve : Nat), .slice gfo X.2.F.length gfc, .slice gho X.2.H.length ghc] 45))
     case first =>
      refine wp_region_noPanic ?_
      refine wp_region_held_drew (S := (fun W => W.cell? ⟨w.heap.size, 0, none⟩ = some (.slice so S.length sc) ∧ W.cell? ⟨w.heap.size, 1, none⟩ = some (.slice (some ⟨g, o, none⟩) l.length rc0) ∧ W.cell? ⟨w.heap.size, 2, none⟩ = some (.slice po pl.length pc) ∧ W.cell? ⟨zr, 0, none⟩ = some (.int .u32 (cl : Nat)) ∧ W.cell? ⟨zr, 1, none⟩ = some (.int .u32 (nu : Nat)) ∧ W.cell? ⟨zr, 2, none⟩ = some (.int .u32 (ac : Nat)) ∧ W.cell? ⟨zr, 3, none⟩ = some (.int .u8 (op : Nat)) ∧ W.cell? ⟨zr, 4, none⟩ = some (.int .u32 (rc : Nat)) ∧ W.cell? ⟨zr, 5, none⟩ = some (.int .u32 (ve : Nat)) ∧ W.cell? ⟨zr, 6, none⟩ = some (.int .u32 (wa' : Nat)) ∧ W.cell? ⟨zr, 7, none⟩ = some (.int .u32 (ow : Nat)) ∧ W.cell? ⟨zr, 8, none⟩ = some (.slice (some ⟨yg, 0, none⟩) F.length yc) ∧ W.cell? ⟨zr, 9, none⟩ = some (.string rs))) (by kernel_rfl) ((unhide HS13) _ ((unhide HJ).fr (Fr.refl _ _).drew).a.p.b ((unhide HJ).fr (Fr.refl _ _).drew).rk) (fun hHeld => ?_)
      refine wtk2 (i := 0) rfl hHeld ?_
      (try simp only [Act.put, nrm])
      refine wtk2 (i := 1) rfl hHeld ?_
      (try simp only [Act.put, nrm])
      refine wtk2 (i := 2) rfl hHeld ?_
      (try simp only [Act.put, nrm])
      refine wtk2 (i := 3) rfl hHeld ?_
      (try simp only [Act.put, nrm])
      obtain ⟨W0, hW0⟩ : ∃ W0, W0 = W1.drew := ⟨_, rfl⟩
      rw [← hW0]
      have R0 := hide ((unhide HJ).fr (show Fr (fun _ => False) W1 W0 by rw [hW0]; exact (Fr.refl _ _).drew))
      clear hW0
      refine wpAnyH_ready (rs := [4, 6]) (by kernel_rfl) (by simp) (AllReadyH.cons rfl (fun K hK => ?_) (AllReadyH.cons rfl (fun K hK => ?_) (AllReadyH.nil)))
      focus
       go_simp
       refine ((unhide HPl) _ (unhide R0).a.p.p).mono ?_
       rintro e w3 ⟨rfl, fpl⟩
       have R3 := hide ((unhide R0).fr fpl)
       clear fpl
       go_simp
       refine hK.out _ _ ((unhide HS13) _ (And.intro (unhide R3).a.p.b (unhide R3).rk).1 (And.intro (unhide R3).a.p.b (unhide R3).rk).2) (fun hHeld => ?_)
       clear hK K
       (try simp only [Act.put, nrm])
       refine wpAnyH_ready (rs := [5, 6]) (by kernel_rfl) (by simp) (AllReadyH.cons rfl (fun K hK => ?_) (AllReadyH.cons rfl (fun K hK => ?_) (AllReadyH.nil)))
       focus
        go_simp
        refine ((unhide HAp) _ (unhide R3)).mono ?_
        rintro e w4 ⟨gfo, gfn, gfc, gho, ghn, ghc, rfl, hgf, hgh, f4, T2, k1, k2, k3, k4, k5⟩
        obtain rfl : gfn = X.2.F.length := by obtain ⟨_, _, e⟩ := own_formX hgf; exact (Value.slice.inj e).2.1
        obtain rfl : ghn = X.2.H.length := by obtain ⟨_, _, e⟩ := own_formX hgh; exact (Value.slice.inj e).2.1
        have R4 := hide ((unhide R3).apply f4 k1 k2 k3 hgf hgh k4 k5)
        clear f4 k1 k2 k3 k4 k5 hgf hgh
        go_simp
        refine hK.out _ _ ((unhide HS13) _ (And.intro (unhide R4).p.b (unhide R4).rk).1 (And.intro (unhide R4).p.b (unhide R4).rk).2) (fun hHeld => ?_)
        clear hK K
        (try simp only [Act.put, nrm])
        refine wpAnyH_ready (rs := [6]) (by kernel_rfl) (by simp) (AllReadyH.cons rfl (fun K hK => ?_) AllReadyH.nil)
        go_simp
        obtain ⟨w5, hnw⟩ : ∃ w5, w5 = w4.alloc (.cells #[.int .u32 0, .int .u32 0, .int .u8 0, .int .u32 0, .int .u32 0, .slice none 0 0, .slice none 0 0] 45) := ⟨_, rfl⟩
        obtain ⟨zg, hzg⟩ : ∃ zg, zg = w4.heap.size := ⟨_, rfl⟩
        have fal : Fr (fun _ => False) w4 w5 := by rw [hnw]; exact box1 _ _
        have HKA : Hid ((w.heap.size < zg ∧ ¬ T2 zg ∧ ¬ T zg) ∧ w5.heap[zg]? = some (.cells #[.int .u32 0, .int .u32 0, .int .u8 0, .int .u32 0, .int .u32 0, .slice none 0 0, .slice none 0 0] 45)) := ⟨⟨by have := lt_of_block (unhide R4).p.b; omega, fun e => by have := ((unhide R4).p.ts _ e).2; omega, fun e => by have := ((unhide R4).t _ e).1; omega⟩, by rw [hnw, hzg]; exact Array.getElem?_push_size⟩
        replace R4 := hide ((unhide R4).fr fal)
        rw [← hnw, ← hzg]
        clear hnw hzg fal
        refine hK.out _ _ ((unhide HS13) _ (And.intro (unhide R4).p.b (unhide R4).rk).1 (And.intro (unhide R4).p.b (unhide R4).rk).2) (fun hHeld => ?_)
        clear hK K
        (try simp only [Act.put, nrm])
        refine wpAnyH_ready (rs := [7]) (by kernel_rfl) (by simp) (AllReadyH.cons rfl (fun K hK => ?_) AllReadyH.nil)
        obtain ⟨W8, st8, k8, f8⟩ := ans_put (unhide HKA).2 (.int .u32 (cl : Nat)) (.int .u32 (nu : Nat)) (.int .u8 (X.2.co : Nat)) (.int .u32 (X.2.rc : Nat)) (.int .u32 (X.2.ve : Nat)) (.slice gfo X.2.F.length gfc) (.slice gho X.2.H.length ghc) (fun u hu => by simp at hu; rcases hu with rfl | rfl | rfl | rfl | rfl | rfl | rfl <;> rfl)
        have HST := hide st8
        have HO8 := hide (AO.frBox (unhide R4) f8 ⟨(unhide HKA).1.1, (unhide HKA).1.2.1⟩ (unhide HKA).2 (unhide HKA).1.2.2)
        have HK8 := hide (And.intro (unhide HKA).1.1 k8)
        clear st8 f8 k8
        refine step_stN rfl 45 (.tmp 9) (.tmp 53) rfl _ _ (by simp [Act.eval]) (by simp [Act.eval]) (unhide HST) ?_
        refine hK.out _ _ ((unhide HS13) _ (unhide HO8).p.b (unhide HO8).rk) (fun hHeld => ?_)
        clear hK K
        (try simp only [Act.put])
        refine wpAnyH_done (by kernel_rfl) ?_ _
        refine NoPanic.normal ?_
        go_wp2_with fail
        go_meet
        case rel => exact ⟨zg, gfo, gfc, gho, ghc, T2, _, rfl, unhide HO8, (unhide HK8).1, (unhide HK8).2⟩
       focus
        go_simp
        obtain ⟨w5, hnw⟩ : ∃ w5, w5 = w3.alloc (.cells #[.int .u32 0, .int .u32 0, .int .u8 0, .int .u32 0, .int .u32 0, .slice none 0 0, .slice none 0 0] 45) := ⟨_, rfl⟩
        obtain ⟨zg, hzg⟩ : ∃ zg, zg = w3.heap.size := ⟨_, rfl⟩
        have fal : Fr (fun _ => False) w3 w5 := by rw [hnw]; exact box1 _ _
        have HKA : Hid ((w.heap.size < zg ∧ ¬ Ts zg ∧ ¬ T zg) ∧ w5.heap[zg]? = some (.cells #[.int .u32 0, .int .u32 0, .int .u8 0, .int .u32 0, .int .u32 0, .slice none 0 0, .slice none 0 0] 45)) := ⟨⟨by have := lt_of_block (unhide R3).a.p.b; omega, fun e => by have := ((unhide R3).a.p.ts _ e).2; omega, fun e => by have := ((unhide R3).a.t _ e).1; omega⟩, by rw [hnw, hzg]; exact Array.getElem?_push_size⟩
        replace R3 := hide ((unhide R3).fr fal)
        rw [← hnw, ← hzg]
        clear hnw hzg fal
        refine hK.out _ _ ((unhide HS13) _ (And.intro (unhide R3).a.p.b (unhide R3).rk).1 (And.intro (unhide R3).a.p.b (unhide R3).rk).2) (fun hHeld => ?_)
        clear hK K
        (try simp only [Act.put, nrm])
        refine wpAnyH_ready (rs := [5]) (by kernel_rfl) (by simp) (AllReadyH.cons rfl (fun K hK => ?_) AllReadyH.nil)
        go_simp
        refine ((unhide HAp) _ (unhide R3)).mono ?_
        rintro e w4 ⟨gfo, gfn, gfc, gho, ghn, ghc, rfl, hgf, hgh, f4, T2, k1, k2, k3, k4, k5⟩
        obtain rfl : gfn = X.2.F.length := by obtain ⟨_, _, e⟩ := own_formX hgf; exact (Value.slice.inj e).2.1
        obtain rfl : ghn = X.2.H.length := by obtain ⟨_, _, e⟩ := own_formX hgh; exact (Value.slice.inj e).2.1
        have R4 := hide ((unhide R3).apply f4 k1 k2 k3 hgf hgh k4 k5)
        replace HKA : Hid ((w.heap.size < zg ∧ ¬ T2 zg ∧ ¬ T zg) ∧ w4.heap[zg]? = some (.cells #[.int .u32 0, .int .u32 0, .int .u8 0, .int .u32 0, .int .u32 0, .slice none 0 0, .slice none 0 0] 45)) := ⟨⟨(unhide HKA).1.1, fun e => (k2 zg e).elim (unhide HKA).1.2.1 (fun h => by have := lt_of_block (unhide HKA).2; omega), (unhide HKA).1.2.2⟩, (f4.block zg (lt_of_block (unhide HKA).2) (unhide HKA).1.2.1).trans (unhide HKA).2⟩
        clear f4 k1 k2 k3 k4 k5 hgf hgh
        go_simp
        refine hK.out _ _ ((unhide HS13) _ (And.intro (unhide R4).p.b (unhide R4).rk).1 (And.intro (unhide R4).p.b (unhide R4).rk).2) (fun hHeld => ?_)
        clear hK K
        (try simp only [Act.put, nrm])
        refine wpAnyH_ready (rs := [7]) (by kernel_rfl) (by simp) (AllReadyH.cons rfl (fun K hK => ?_) AllReadyH.nil)
        obtain ⟨W8, st8, k8, f8⟩ := ans_put (unhide HKA).2 (.int .u32 (cl : Nat)) (.int .u32 (nu : Nat)) (.int .u8 (X.2.co : Nat)) (.int .u32 (X.2.rc : Nat)) (.int .u32 (X.2.ve : Nat)) (.slice gfo X.2.F.length gfc) (.slice gho X.2.H.length ghc) (fun u hu => by simp at hu; rcases hu with rfl | rfl | rfl | rfl | rfl | rfl | rfl <;> rfl)
        have HST := hide st8
        have HO8 := hide (AO.frBox (unhide R4) f8 ⟨(unhide HKA).1.1, (unhide HKA).1.2.1⟩ (unhide HKA).2 (unhide HKA).1.2.2)
        have HK8 := hide (And.intro (unhide HKA).1.1 k8)
        clear st8 f8 k8
        refine step_stN rfl 45 (.tmp 9) (.tmp 53) rfl _ _ (by simp [Act.eval]) (by simp [Act.eval]) (unhide HST) ?_
        refine hK.out _ _ ((unhide HS13) _ (unhide HO8).p.b (unhide HO8).rk) (fun hHeld => ?_)
        clear hK K
        (try simp only [Act.put])
        refine wpAnyH_done (by kernel_rfl) ?_ _
        refine NoPanic.normal ?_
        go_wp2_with fail
        go_meet
        case rel => exact ⟨zg, gfo, gfc, gho, ghc, T2, _, rfl, unhide HO8, (unhide HK8).1, (unhide HK8).2⟩
      focus
       go_simp
       obtain ⟨w3, hnw⟩ : ∃ w3, w3 = W0.alloc (.cells #[.int .u32 0, .int .u32 0, .int .u8 0, .int .u32 0, .int .u32 0, .slice none 0 0, .slice none 0 0] 45) := ⟨_, rfl⟩
       obtain ⟨zg, hzg⟩ : ∃ zg, zg = W0.heap.size := ⟨_, rfl⟩
       have fal : Fr (fun _ => False) W0 w3 := by rw [hnw]; exact box1 _ _
       have HKA : Hid ((w.heap.size < zg ∧ ¬ Ts zg ∧ ¬ T zg) ∧ w3.heap[zg]? = some (.cells #[.int .u32 0, .int .u32 0, .int .u8 0, .int .u32 0, .int .u32 0, .slice none 0 0, .slice none 0 0] 45)) := ⟨⟨by have := lt_of_block (unhide R0).a.p.b; omega, fun e => by have := ((unhide R0).a.p.ts _ e).2; omega, fun e => by have := ((unhide R0).a.t _ e).1; omega⟩, by rw [hnw, hzg]; exact Array.getElem?_push_size⟩
       replace R0 := hide ((unhide R0).fr fal)
       rw [← hnw, ← hzg]
       clear hnw hzg fal
       refine hK.out _ _ ((unhide HS13) _ (And.intro (unhide R0).a.p.b (unhide R0).rk).1 (And.intro (unhide R0).a.p.b (unhide R0).rk).2) (fun hHeld => ?_)
       clear hK K
       (try simp only [Act.put, nrm])
       refine wpAnyH_ready (rs := [4]) (by kernel_rfl) (by simp) (AllReadyH.cons rfl (fun K hK => ?_) AllReadyH.nil)
       go_simp
       refine ((unhide HPl) _ (unhide R0).a.p.p).mono ?_
       rintro e w5 ⟨rfl, fpl⟩
       have R3 := hide ((unhide R0).fr fpl)
       replace HKA := hide (And.intro (unhide HKA).1 ((fpl.block zg (lt_of_block (unhide HKA).2) (fun h => h)).trans (unhide HKA).2))
       clear fpl
       go_simp
       refine hK.out _ _ ((unhide HS13) _ (And.intro (unhide R3).a.p.b (unhide R3).rk).1 (And.intro (unhide R3).a.p.b (unhide R3).rk).2) (fun hHeld => ?_)
       clear hK K
       (try simp only [Act.put, nrm])
       refine wpAnyH_ready (rs := [5]) (by kernel_rfl) (by simp) (AllReadyH.cons rfl (fun K hK => ?_) AllReadyH.nil)
       go_simp
       refine ((unhide HAp) _ (unhide R3)).mono ?_
       rintro e w4 ⟨gfo, gfn, gfc, gho, ghn, ghc, rfl, hgf, hgh, f4, T2, k1, k2, k3, k4, k5⟩
       obtain rfl : gfn = X.2.F.length := by obtain ⟨_, _, e⟩ := own_formX hgf; exact (Value.slice.inj e).2.1
       obtain rfl : ghn = X.2.H.length := by obtain ⟨_, _, e⟩ := own_formX hgh; exact (Value.slice.inj e).2.1
       have R4 := hide ((unhide R3).apply f4 k1 k2 k3 hgf hgh k4 k5)
       replace HKA : Hid ((w.heap.size < zg ∧ ¬ T2 zg ∧ ¬ T zg) ∧ w4.heap[zg]? = some (.cells #[.int .u32 0, .int .u32 0, .int .u8 0, .int .u32 0, .int .u32 0, .slice none 0 0, .slice none 0 0] 45)) := ⟨⟨(unhide HKA).1.1, fun e => (k2 zg e).elim (unhide HKA).1.2.1 (fun h => by have := lt_of_block (unhide HKA).2; omega), (unhide HKA).1.2.2⟩, (f4.block zg (lt_of_block (unhide HKA).2) (unhide HKA).1.2.1).trans (unhide HKA).2⟩
       clear f4 k1 k2 k3 k4 k5 hgf hgh
       go_simp
       refine hK.out _ _ ((unhide HS13) _ (And.intro (unhide R4).p.b (unhide R4).rk).1 (And.intro (unhide R4).p.b (unhide R4).rk).2) (fun hHeld => ?_)
       clear hK K
       (try simp only [Act.put, nrm])
       refine wpAnyH_ready (rs := [7]) (by kernel_rfl) (by simp) (AllReadyH.cons rfl (fun K hK => ?_) AllReadyH.nil)
       obtain ⟨W8, st8, k8, f8⟩ := ans_put (unhide HKA).2 (.int .u32 (cl : Nat)) (.int .u32 (nu : Nat)) (.int .u8 (X.2.co : Nat)) (.int .u32 (X.2.rc : Nat)) (.int .u32 (X.2.ve : Nat)) (.slice gfo X.2.F.length gfc) (.slice gho X.2.H.length ghc) (fun u hu => by simp at hu; rcases hu with rfl | rfl | rfl | rfl | rfl | rfl | rfl <;> rfl)
       have HST := hide st8
       have HO8 := hide (AO.frBox (unhide R4) f8 ⟨(unhide HKA).1.1, (unhide HKA).1.2.1⟩ (unhide HKA).2 (unhide HKA).1.2.2)
       have HK8 := hide (And.intro (unhide HKA).1.1 k8)
       clear st8 f8 k8
       refine step_stN rfl 45 (.tmp 9) (.tmp 53) rfl _ _ (by simp [Act.eval]) (by simp [Act.eval]) (unhide HST) ?_
       refine hK.out _ _ ((unhide HS13) _ (unhide HO8).p.b (unhide HO8).rk) (fun hHeld => ?_)
       clear hK K
       (try simp only [Act.put])
       refine wpAnyH_done (by kernel_rfl) ?_ _
       refine NoPanic.normal ?_
       go_wp2_with fail
       go_meet
       case rel => exact ⟨zg, gfo, gfc, gho, ghc, T2, _, rfl, unhide HO8, (unhide HK8).1, (unhide HK8).2⟩
     case rest =>
      obtain ⟨zg, gfo, gfc, gho, ghc, T2, bg, rfl, ho, hzg, hkg⟩ := hcut
      obtain ⟨wr, hwr⟩ : ∃ wr, wr = wc := ⟨_, rfl⟩
      subst hwr
      have HO := hide ho
      have HKG := hide (And.intro hzg hkg)
      have HA : Hid (∀ W, Fr (fun _ => False) wr W → Calls Tryz.prog 12 #[.agg #[.slice so S.length sc, .slice r6 L.length c6], .agg #[.int .u32 (cl : Nat), .int .u32 (nu : Nat), .int .u32 (ac : Nat), .int .u8 (op : Nat), .int .u32 (rc : Nat), .int .u32 (ve : Nat), .int .u32 (wa' : Nat), .int .u32 (ow : Nat), .slice xo2 F.length xc2, .string rs], .int .u32 (pn : Nat)] W fun e w' => QPost W T (.slice so S.length sc) j cl nu X e w') := fun W hW =>
       gapply_Q _ _ s L T j ⟨cl, nu, ac, op, rc, ve, wa', ow, .slice xo2 F.length xc2, rs⟩ F pn W ((unhide HO).g.fr hW) (by have := unhide hlt'; omega) ((((unhide HO).p.q.fr hW).d _ (unhide HF).2.2.1).f) (fun k hk => (unhide HO).qt k (.inr ⟨_, (unhide HF).2.2.1, hk⟩)) (unhide HF).2.1 X (unhide HXX)
      have HT : Hid (∀ k, T k → k < wr.heap.size) := fun k hk => ((unhide HO).t k hk).1
      have HIB : Hid (∀ W, Fr (fun _ => False) wr W → W.cell? ⟨g, o + j * 10, none⟩ = some (.int .u32 (cl : Nat)) ∧ W.cell? ⟨g, o + j * 10 + 1, none⟩ = some (.int .u32 (nu : Nat)) ∧ W.cell? ⟨g, o + j * 10 + 2, none⟩ = some (.int .u32 (ac : Nat)) ∧ W.cell? ⟨g, o + j * 10 + 3, none⟩ = some (.int .u8 (op : Nat)) ∧ W.cell? ⟨g, o + j * 10 + 4, none⟩ = some (.int .u32 (rc : Nat)) ∧ W.cell? ⟨g, o + j * 10 + 5, none⟩ = some (.int .u32 (ve : Nat)) ∧ W.cell? ⟨g, o + j * 10 + 6, none⟩ = some (.int .u32 (wa' : Nat)) ∧ W.cell? ⟨g, o + j * 10 + 7, none⟩ = some (.int .u32 (ow : Nat)) ∧ W.cell? ⟨g, o + j * 10 + 8, none⟩ = some (.slice xo2 F.length xc2) ∧ W.cell? ⟨g, o + j * 10 + 9, none⟩ = some (.string rs)) := fun W hW => ((unhide HO).p.fr hW).cells (unhide HF).2.2.2 |>.2
      have HS : Hid (∀ W, Fr (fun _ => False) wr W → W.cell? ⟨z6, 0, none⟩ = some (.slice so S.length sc) ∧ W.cell? ⟨z6, 1, none⟩ = some (.slice r6 L.length c6) ∧ W.cell? ⟨w.heap.size, 0, none⟩ = some (.slice so S.length sc) ∧ W.cell? ⟨w.heap.size, 1, none⟩ = some (.slice (some ⟨g, o, none⟩) l.length rc0) ∧ W.cell? ⟨w.heap.size, 2, none⟩ = some (.slice po pl.length pc) ∧ W.cell? ⟨g, o + j * 10, none⟩ = some (.int .u32 (cl : Nat)) ∧ W.cell? ⟨g, o + j * 10 + 1, none⟩ = some (.int .u32 (nu : Nat)) ∧ W.cell? ⟨g, o + j * 10 + 2, none⟩ = some (.int .u32 (ac : Nat)) ∧ W.cell? ⟨g, o + j * 10 + 3, none⟩ = some (.int .u8 (op : Nat)) ∧ W.cell? ⟨g, o + j * 10 + 4, none⟩ = some (.int .u32 (rc : Nat)) ∧ W.cell? ⟨g, o + j * 10 + 5, none⟩ = some (.int .u32 (ve : Nat)) ∧ W.cell? ⟨g, o + j * 10 + 6, none⟩ = some (.int .u32 (wa' : Nat)) ∧ W.cell? ⟨g, o + j * 10 + 7, none⟩ = some (.int .u32 (ow : Nat)) ∧ W.cell? ⟨g, o + j * 10 + 8, none⟩ = some (.slice xo2 F.length xc2) ∧ W.cell? ⟨g, o + j * 10 + 9, none⟩ = some (.string rs)) := fun W hW => by
       have h1 := ((unhide HO).fr hW).zb
       have h2 := ((unhide HO).fr hW).p.b
       have h3 := (unhide HIB) W hW
       refine ⟨?_, ?_, ?_, ?_, ?_, h3⟩ <;> simp [World.cell?, h1, h2]
      clear ho hzg hkg HJ HAp HS13
      go_upto_region 17 with fail
      go_cut [10, 11] from 35 to 103 (fun s10 s11 wx => ∃ zA zB rv' L' T1 fo fn fc ho hn hc sz, s10 = .pointer (some ⟨zA, 0, none⟩) ∧ s11 = .pointer (some ⟨zB, 0, none⟩) ∧ Fr (fun _ => False) wr wx ∧ GQ wx T1 (.slice so S.length sc) rv' (j + 1) X L' (.slice fo fn fc) (.slice ho hn hc) ∧ (∀ k, T1 k → (T k ∨ sz ≤ k) ∧ k < wx.heap.size) ∧ wr.heap.size ≤ sz ∧ (∀ k, T k → T1 k) ∧ wx.heap[zA]? = some (.cells #[.slice so S.length sc, rv'] 36) ∧ wx.heap[zB]? = some (.cells #[.int .u32 (cl : Nat), .int .u32 (nu : Nat), .int .u8 (X.2.co : Nat), .int .u32 (X.2.rc : Nat), .int .u32 (X.2.ve : Nat), .slice fo fn fc, .slice ho hn hc] 45))
      case first =>
       refine wp_region_noPanic ?_
       refine wp_region_held_drew (S := (fun W => W.cell? ⟨z6, 0, none⟩ = some (.slice so S.length sc) ∧ W.cell? ⟨z6, 1, none⟩ = some (.slice r6 L.length c6) ∧ W.cell? ⟨w.heap.size, 0, none⟩ = some (.slice so S.length sc) ∧ W.cell? ⟨w.heap.size, 1, none⟩ = some (.slice (some ⟨g, o, none⟩) l.length rc0) ∧ W.cell? ⟨w.heap.size, 2, none⟩ = some (.slice po pl.length pc) ∧ W.cell? ⟨g, o + j * 10, none⟩ = some (.int .u32 (cl : Nat)) ∧ W.cell? ⟨g, o + j * 10 + 1, none⟩ = some (.int .u32 (nu : Nat)) ∧ W.cell? ⟨g, o + j * 10 + 2, none⟩ = some (.int .u32 (ac : Nat)) ∧ W.cell? ⟨g, o + j * 10 + 3, none⟩ = some (.int .u8 (op : Nat)) ∧ W.cell? ⟨g, o + j * 10 + 4, none⟩ = some (.int .u32 (rc : Nat)) ∧ W.cell? ⟨g, o + j * 10 + 5, none⟩ = some (.int .u32 (ve : Nat)) ∧ W.cell? ⟨g, o + j * 10 + 6, none⟩ = some (.int .u32 (wa' : Nat)) ∧ W.cell? ⟨g, o + j * 10 + 7, none⟩ = some (.int .u32 (ow : Nat)) ∧ W.cell? ⟨g, o + j * 10 + 8, none⟩ = some (.slice xo2 F.length xc2) ∧ W.cell? ⟨g, o + j * 10 + 9, none⟩ = some (.string rs))) (by kernel_rfl) ((unhide HS) _ (Fr.refl _ _).drew) (fun hHeld => ?_)
       refine wtk2 (i := 0) rfl hHeld ?_
       (try simp only [Act.put, nrm])
       refine wtk2 (i := 1) rfl hHeld ?_
       (try simp only [Act.put, nrm])
       refine wtk2 (i := 2) rfl hHeld ?_
       (try simp only [Act.put, nrm])
       refine wtk2 (i := 3) rfl hHeld ?_
       (try simp only [Act.put, nrm])
       refine wtk2 (i := 4) rfl hHeld ?_
       (try simp only [Act.put, nrm])
       refine wtk2 (i := 5) rfl hHeld ?_
       (try simp only [Act.put, nrm])
       refine wtk2 (i := 6) rfl hHeld ?_
       (try simp only [Act.put, nrm])
       refine wtk2 (i := 7) rfl hHeld ?_
       (try simp only [Act.put, nrm])
       obtain ⟨W0, hW0⟩ : ∃ W0, W0 = wr.drew := ⟨_, rfl⟩
       rw [← hW0]
       have fk0 : Fr (fun _ => False) wr W0 := by rw [hW0]; exact (Fr.refl _ _).drew
       clear hW0
       refine wpAnyH_ready (rs := [8, 13, 14]) (by kernel_rfl) (by simp) (AllReadyH.cons rfl (fun K hK => ?_) (AllReadyH.cons rfl (fun K hK => ?_) (AllReadyH.cons rfl (fun K hK => ?_) (AllReadyH.nil))))
       focus
        go_simp
        refine ((unhide HPl) _ (((unhide HO).fr fk0).p.p)).mono ?_
        rintro e wk1 ⟨rfl, gk1⟩
        have fk1 := fk0.trans gk1 (fun _ _ h => h)
        go_simp
        refine hK.out _ _ ((unhide HS) _ fk1) (fun hHeld => ?_)
        clear hK K
        (try simp only [Act.put, nrm])
        refine wpAnyH_ready (rs := [9, 13, 14]) (by kernel_rfl) (by simp) (AllReadyH.cons rfl (fun K hK => ?_) (AllReadyH.cons rfl (fun K hK => ?_) (AllReadyH.cons rfl (fun K hK => ?_) (AllReadyH.nil))))
        focus
         go_simp
         refine ((unhide HA) wk1 fk1).mono ?_
         rintro e wk2 ⟨rv', L', fo, fn, fc, ho, hn, hc, T1, rfl, hone', hrr, ht1, ht2, gk2⟩
         have fk2 := fk1.trans gk2 (fun _ _ h => h)
         have HSZ := hide (fk1.size)
         have HRR := hide hrr
         have HT1 := hide ht1
         have HT2 := hide (show ∀ k, T k → T1 k from fun k hk => ht2 k hk (Nat.lt_of_lt_of_le ((unhide HT) k hk) fk1.size))
         have HONE := hide hone'
         clear hrr ht1 ht2 hone'
         go_simp
         refine hK.out _ _ ((unhide HS) _ fk2) (fun hHeld => ?_)
         clear hK K
         (try simp only [Act.put, nrm])
         refine wtk2 (i := 10) rfl hHeld ?_
         (try simp only [Act.put, nrm])
         refine wtk2 (i := 11) rfl hHeld ?_
         (try simp only [Act.put, nrm])
         refine wtk2 (i := 12) rfl hHeld ?_
         (try simp only [Act.put, nrm])
         refine wpAnyH_ready (rs := [13, 14]) (by kernel_rfl) (by simp) (AllReadyH.cons rfl (fun K hK => ?_) (AllReadyH.cons rfl (fun K hK => ?_) (AllReadyH.nil)))
         focus
          go_simp
          obtain ⟨wk3, hwk3⟩ : ∃ wk3, wk3 = wk2.alloc (.cells #[.slice none 0 0, .slice none 0 0] 36) := ⟨_, rfl⟩
          obtain ⟨zA, hzA⟩ : ∃ zA, zA = wk2.heap.size := ⟨_, rfl⟩
          have gk3 : Fr (fun _ => False) wk2 wk3 := by rw [hwk3]; exact box1 _ _
          have fk3 := fk2.trans gk3 (fun _ _ h => h)
          have HKA : Hid (wr.heap.size ≤ zA ∧ wk3.heap[zA]? = some (.cells #[.slice none 0 0, .slice none 0 0] 36)) := ⟨by rw [hzA]; exact fk2.size, by rw [hwk3, hzA]; exact Array.getElem?_push_size⟩
          have HNA : Hid (¬ T1 zA) := fun h => by
           have h1 := (unhide HRR).lt zA h
           omega
          replace HRR := hide ((unhide HRR).fr gk3)
          rw [← hwk3, ← hzA]
          clear hwk3 hzA
          refine hK.out _ _ ((unhide HS) _ fk3) (fun hHeld => ?_)
          clear hK K
          (try simp only [Act.put, nrm])
          refine wpAnyH_ready (rs := [14]) (by kernel_rfl) (by simp) (AllReadyH.cons rfl (fun K hK => ?_) (AllReadyH.nil))
          go_simp
          obtain ⟨wk4, hwk4⟩ : ∃ wk4, wk4 = wk3.alloc (.cells #[.int .u32 0, .int .u32 0, .int .u8 0, .int .u32 0, .int .u32 0, .slice none 0 0, .slice none 0 0] 45) := ⟨_, rfl⟩
          obtain ⟨zB, hzB⟩ : ∃ zB, zB = wk3.heap.size := ⟨_, rfl⟩
          have gk4 : Fr (fun _ => False) wk3 wk4 := by rw [hwk4]; exact box1 _ _
          have fk4 := fk3.trans gk4 (fun _ _ h => h)
          have HKB : Hid (wr.heap.size ≤ zB ∧ wk4.heap[zB]? = some (.cells #[.int .u32 0, .int .u32 0, .int .u8 0, .int .u32 0, .int .u32 0, .slice none 0 0, .slice none 0 0] 45)) := ⟨by rw [hzB]; exact fk3.size, by rw [hwk4, hzB]; exact Array.getElem?_push_size⟩
          have HNE : Hid (zA ≠ zB) := by have h1 := lt_of_block (unhide HKA).2; show zA ≠ zB; omega
          replace HKA := hide (And.intro (unhide HKA).1 ((gk4.block zA (lt_of_block (unhide HKA).2) (fun h => h)).trans (unhide HKA).2))
          have HNB : Hid (¬ T1 zB) := fun h => by
           have h1 := (unhide HRR).lt zB h
           omega
          replace HRR := hide ((unhide HRR).fr gk4)
          rw [← hwk4, ← hzB]
          clear hwk4 hzB
          refine hK.out _ _ ((unhide HS) _ fk4) (fun hHeld => ?_)
          clear hK K
          (try simp only [Act.put, nrm])
         rotate_left
         focus
          go_simp
          obtain ⟨wk3, hwk3⟩ : ∃ wk3, wk3 = wk2.alloc (.cells #[.int .u32 0, .int .u32 0, .int .u8 0, .int .u32 0, .int .u32 0, .slice none 0 0, .slice none 0 0] 45) := ⟨_, rfl⟩
          obtain ⟨zB, hzB⟩ : ∃ zB, zB = wk2.heap.size := ⟨_, rfl⟩
          have gk3 : Fr (fun _ => False) wk2 wk3 := by rw [hwk3]; exact box1 _ _
          have fk3 := fk2.trans gk3 (fun _ _ h => h)
          have HKB : Hid (wr.heap.size ≤ zB ∧ wk3.heap[zB]? = some (.cells #[.int .u32 0, .int .u32 0, .int .u8 0, .int .u32 0, .int .u32 0, .slice none 0 0, .slice none 0 0] 45)) := ⟨by rw [hzB]; exact fk2.size, by rw [hwk3, hzB]; exact Array.getElem?_push_size⟩
          have HNB : Hid (¬ T1 zB) := fun h => by
           have h1 := (unhide HRR).lt zB h
           omega
          replace HRR := hide ((unhide HRR).fr gk3)
          rw [← hwk3, ← hzB]
          clear hwk3 hzB
          refine hK.out _ _ ((unhide HS) _ fk3) (fun hHeld => ?_)
          clear hK K
          (try simp only [Act.put, nrm])
          refine wpAnyH_ready (rs := [13]) (by kernel_rfl) (by simp) (AllReadyH.cons rfl (fun K hK => ?_) (AllReadyH.nil))
          go_simp
          obtain ⟨wk4, hwk4⟩ : ∃ wk4, wk4 = wk3.alloc (.cells #[.slice none 0 0, .slice none 0 0] 36) := ⟨_, rfl⟩
          obtain ⟨zA, hzA⟩ : ∃ zA, zA = wk3.heap.size := ⟨_, rfl⟩
          have gk4 : Fr (fun _ => False) wk3 wk4 := by rw [hwk4]; exact box1 _ _
          have fk4 := fk3.trans gk4 (fun _ _ h => h)
          have HKA : Hid (wr.heap.size ≤ zA ∧ wk4.heap[zA]? = some (.cells #[.slice none 0 0, .slice none 0 0] 36)) := ⟨by rw [hzA]; exact fk3.size, by rw [hwk4, hzA]; exact Array.getElem?_push_size⟩
          have HNE : Hid (zA ≠ zB) := by have h1 := lt_of_block (unhide HKB).2; show zA ≠ zB; omega
          replace HKB := hide (And.intro (unhide HKB).1 ((gk4.block zB (lt_of_block (unhide HKB).2) (fun h => h)).trans (unhide HKB).2))
          have HNA : Hid (¬ T1 zA) := fun h => by
           have h1 := (unhide HRR).lt zA h
           omega
          replace HRR := hide ((unhide HRR).fr gk4)
          rw [← hwk4, ← hzA]
          clear hwk4 hzA
          refine hK.out _ _ ((unhide HS) _ fk4) (fun hHeld => ?_)
          clear hK K
          (try simp only [Act.put, nrm])
        rotate_left 2
        focus
         go_simp
         obtain ⟨wk2, hwk2⟩ : ∃ wk2, wk2 = wk1.alloc (.cells #[.slice none 0 0, .slice none 0 0] 36) := ⟨_, rfl⟩
         obtain ⟨zA, hzA⟩ : ∃ zA, zA = wk1.heap.size := ⟨_, rfl⟩
         have gk2 : Fr (fun _ => False) wk1 wk2 := by rw [hwk2]; exact box1 _ _
         have fk2 := fk1.trans gk2 (fun _ _ h => h)
         have HKA : Hid (wr.heap.size ≤ zA ∧ wk2.heap[zA]? = some (.cells #[.slice none 0 0, .slice none 0 0] 36)) := ⟨by rw [hzA]; exact fk1.size, by rw [hwk2, hzA]; exact Array.getElem?_push_size⟩
         rw [← hwk2, ← hzA]
         clear hwk2 hzA
         refine hK.out _ _ ((unhide HS) _ fk2) (fun hHeld => ?_)
         clear hK K
         (try simp only [Act.put, nrm])
         refine wpAnyH_ready (rs := [9, 14]) (by kernel_rfl) (by simp) (AllReadyH.cons rfl (fun K hK => ?_) (AllReadyH.cons rfl (fun K hK => ?_) (AllReadyH.nil)))
         focus
          go_simp
          refine ((unhide HA) wk2 fk2).mono ?_
          rintro e wk3 ⟨rv', L', fo, fn, fc, ho, hn, hc, T1, rfl, hone', hrr, ht1, ht2, gk3⟩
          have fk3 := fk2.trans gk3 (fun _ _ h => h)
          have HSZ := hide (fk2.size)
          have HRR := hide hrr
          have HT1 := hide ht1
          have HT2 := hide (show ∀ k, T k → T1 k from fun k hk => ht2 k hk (Nat.lt_of_lt_of_le ((unhide HT) k hk) fk2.size))
          have HONE := hide hone'
          clear hrr ht1 ht2 hone'
          go_simp
          refine hK.out _ _ ((unhide HS) _ fk3) (fun hHeld => ?_)
          clear hK K
          (try simp only [Act.put, nrm])
          refine wtk2 (i := 10) rfl hHeld ?_
          (try simp only [Act.put, nrm])
          refine wtk2 (i := 11) rfl hHeld ?_
          (try simp only [Act.put, nrm])
          refine wtk2 (i := 12) rfl hHeld ?_
          (try simp only [Act.put, nrm])
          have HNA : Hid (¬ T1 zA) := fun h => by
           have h1 := (unhide HT1) zA h
           have h2 := lt_of_block (unhide HKA).2
           have h3 := (unhide HKA).1
           rcases h1.1 with h4 | h4
           ·have h5 := (unhide HT) zA h4
            omega
           ·omega
          replace HKA := hide (And.intro (unhide HKA).1 ((gk3.block zA (lt_of_block (unhide HKA).2) (fun h => h)).trans (unhide HKA).2))
          refine wpAnyH_ready (rs := [14]) (by kernel_rfl) (by simp) (AllReadyH.cons rfl (fun K hK => ?_) (AllReadyH.nil))
          go_simp
          obtain ⟨wk4, hwk4⟩ : ∃ wk4, wk4 = wk3.alloc (.cells #[.int .u32 0, .int .u32 0, .int .u8 0, .int .u32 0, .int .u32 0, .slice none 0 0, .slice none 0 0] 45) := ⟨_, rfl⟩
          obtain ⟨zB, hzB⟩ : ∃ zB, zB = wk3.heap.size := ⟨_, rfl⟩
          have gk4 : Fr (fun _ => False) wk3 wk4 := by rw [hwk4]; exact box1 _ _
          have fk4 := fk3.trans gk4 (fun _ _ h => h)
          have HKB : Hid (wr.heap.size ≤ zB ∧ wk4.heap[zB]? = some (.cells #[.int .u32 0, .int .u32 0, .int .u8 0, .int .u32 0, .int .u32 0, .slice none 0 0, .slice none 0 0] 45)) := ⟨by rw [hzB]; exact fk3.size, by rw [hwk4, hzB]; exact Array.getElem?_push_size⟩
          have HNE : Hid (zA ≠ zB) := by have h1 := lt_of_block (unhide HKA).2; show zA ≠ zB; omega
          replace HKA := hide (And.intro (unhide HKA).1 ((gk4.block zA (lt_of_block (unhide HKA).2) (fun h => h)).trans (unhide HKA).2))
          have HNB : Hid (¬ T1 zB) := fun h => by
           have h1 := (unhide HRR).lt zB h
           omega
          replace HRR := hide ((unhide HRR).fr gk4)
          rw [← hwk4, ← hzB]
          clear hwk4 hzB
          refine hK.out _ _ ((unhide HS) _ fk4) (fun hHeld => ?_)
          clear hK K
          (try simp only [Act.put, nrm])
         rotate_left
         focus
          go_simp
          obtain ⟨wk3, hwk3⟩ : ∃ wk3, wk3 = wk2.alloc (.cells #[.int .u32 0, .int .u32 0, .int .u8 0, .int .u32 0, .int .u32 0, .slice none 0 0, .slice none 0 0] 45) := ⟨_, rfl⟩
          obtain ⟨zB, hzB⟩ : ∃ zB, zB = wk2.heap.size := ⟨_, rfl⟩
          have gk3 : Fr (fun _ => False) wk2 wk3 := by rw [hwk3]; exact box1 _ _
          have fk3 := fk2.trans gk3 (fun _ _ h => h)
          have HKB : Hid (wr.heap.size ≤ zB ∧ wk3.heap[zB]? = some (.cells #[.int .u32 0, .int .u32 0, .int .u8 0, .int .u32 0, .int .u32 0, .slice none 0 0, .slice none 0 0] 45)) := ⟨by rw [hzB]; exact fk2.size, by rw [hwk3, hzB]; exact Array.getElem?_push_size⟩
          have HNE : Hid (zA ≠ zB) := by have h1 := lt_of_block (unhide HKA).2; show zA ≠ zB; omega
          replace HKA := hide (And.intro (unhide HKA).1 ((gk3.block zA (lt_of_block (unhide HKA).2) (fun h => h)).trans (unhide HKA).2))
          rw [← hwk3, ← hzB]
          clear hwk3 hzB
          refine hK.out _ _ ((unhide HS) _ fk3) (fun hHeld => ?_)
          clear hK K
          (try simp only [Act.put, nrm])
          refine wpAnyH_ready (rs := [9]) (by kernel_rfl) (by simp) (AllReadyH.cons rfl (fun K hK => ?_) (AllReadyH.nil))
          go_simp
          refine ((unhide HA) wk3 fk3).mono ?_
          rintro e wk4 ⟨rv', L', fo, fn, fc, ho, hn, hc, T1, rfl, hone', hrr, ht1, ht2, gk4⟩
          have fk4 := fk3.trans gk4 (fun _ _ h => h)
          have HSZ := hide (fk3.size)
          have HRR := hide hrr
          have HT1 := hide ht1
          have HT2 := hide (show ∀ k, T k → T1 k from fun k hk => ht2 k hk (Nat.lt_of_lt_of_le ((unhide HT) k hk) fk3.size))
          have HONE := hide hone'
          clear hrr ht1 ht2 hone'
          go_simp
          refine hK.out _ _ ((unhide HS) _ fk4) (fun hHeld => ?_)
          clear hK K
          (try simp only [Act.put, nrm])
          refine wtk2 (i := 10) rfl hHeld ?_
          (try simp only [Act.put, nrm])
          refine wtk2 (i := 11) rfl hHeld ?_
          (try simp only [Act.put, nrm])
          refine wtk2 (i := 12) rfl hHeld ?_
          (try simp only [Act.put, nrm])
          have HNA : Hid (¬ T1 zA) := fun h => by
           have h1 := (unhide HT1) zA h
           have h2 := lt_of_block (unhide HKA).2
           have h3 := (unhide HKA).1
           rcases h1.1 with h4 | h4
           ·have h5 := (unhide HT) zA h4
            omega
           ·omega
          replace HKA := hide (And.intro (unhide HKA).1 ((gk4.block zA (lt_of_block (unhide HKA).2) (fun h => h)).trans (unhide HKA).2))
          have HNB : Hid (¬ T1 zB) := fun h => by
           have h1 := (unhide HT1) zB h
           have h2 := lt_of_block (unhide HKB).2
           have h3 := (unhide HKB).1
           rcases h1.1 with h4 | h4
           ·have h5 := (unhide HT) zB h4
            omega
           ·omega
          replace HKB := hide (And.intro (unhide HKB).1 ((gk4.block zB (lt_of_block (unhide HKB).2) (fun h => h)).trans (unhide HKB).2))
        rotate_left 2
        focus
         go_simp
         obtain ⟨wk2, hwk2⟩ : ∃ wk2, wk2 = wk1.alloc (.cells #[.int .u32 0, .int .u32 0, .int .u8 0, .int .u32 0, .int .u32 0, .slice none 0 0, .slice none 0 0] 45) := ⟨_, rfl⟩
         obtain ⟨zB, hzB⟩ : ∃ zB, zB = wk1.heap.size := ⟨_, rfl⟩
         have gk2 : Fr (fun _ => False) wk1 wk2 := by rw [hwk2]; exact box1 _ _
         have fk2 := fk1.trans gk2 (fun _ _ h => h)
         have HKB : Hid (wr.heap.size ≤ zB ∧ wk2.heap[zB]? = some (.cells #[.int .u32 0, .int .u32 0, .int .u8 0, .int .u32 0, .int .u32 0, .slice none 0 0, .slice none 0 0] 45)) := ⟨by rw [hzB]; exact fk1.size, by rw [hwk2, hzB]; exact Array.getElem?_push_size⟩
         rw [← hwk2, ← hzB]
         clear hwk2 hzB
         refine hK.out _ _ ((unhide HS) _ fk2) (fun hHeld => ?_)
         clear hK K
         (try simp only [Act.put, nrm])
         refine wpAnyH_ready (rs := [9, 13]) (by kernel_rfl) (by simp) (AllReadyH.cons rfl (fun K hK => ?_) (AllReadyH.cons rfl (fun K hK => ?_) (AllReadyH.nil)))
         focus
          go_simp
          refine ((unhide HA) wk2 fk2).mono ?_
          rintro e wk3 ⟨rv', L', fo, fn, fc, ho, hn, hc, T1, rfl, hone', hrr, ht1, ht2, gk3⟩
          have fk3 := fk2.trans gk3 (fun _ _ h => h)
          have HSZ := hide (fk2.size)
          have HRR := hide hrr
          have HT1 := hide ht1
          have HT2 := hide (show ∀ k, T k → T1 k from fun k hk => ht2 k hk (Nat.lt_of_lt_of_le ((unhide HT) k hk) fk2.size))
          have HONE := hide hone'
          clear hrr ht1 ht2 hone'
          go_simp
          refine hK.out _ _ ((unhide HS) _ fk3) (fun hHeld => ?_)
          clear hK K
          (try simp only [Act.put, nrm])
          refine wtk2 (i := 10) rfl hHeld ?_
          (try simp only [Act.put, nrm])
          refine wtk2 (i := 11) rfl hHeld ?_
          (try simp only [Act.put, nrm])
          refine wtk2 (i := 12) rfl hHeld ?_
          (try simp only [Act.put, nrm])
          have HNB : Hid (¬ T1 zB) := fun h => by
           have h1 := (unhide HT1) zB h
           have h2 := lt_of_block (unhide HKB).2
           have h3 := (unhide HKB).1
           rcases h1.1 with h4 | h4
           ·have h5 := (unhide HT) zB h4
            omega
           ·omega
          replace HKB := hide (And.intro (unhide HKB).1 ((gk3.block zB (lt_of_block (unhide HKB).2) (fun h => h)).trans (unhide HKB).2))
          refine wpAnyH_ready (rs := [13]) (by kernel_rfl) (by simp) (AllReadyH.cons rfl (fun K hK => ?_) (AllReadyH.nil))
          go_simp
          obtain ⟨wk4, hwk4⟩ : ∃ wk4, wk4 = wk3.alloc (.cells #[.slice none 0 0, .slice none 0 0] 36) := ⟨_, rfl⟩
          obtain ⟨zA, hzA⟩ : ∃ zA, zA = wk3.heap.size := ⟨_, rfl⟩
          have gk4 : Fr (fun _ => False) wk3 wk4 := by rw [hwk4]; exact box1 _ _
          have fk4 := fk3.trans gk4 (fun _ _ h => h)
          have HKA : Hid (wr.heap.size ≤ zA ∧ wk4.heap[zA]? = some (.cells #[.slice none 0 0, .slice none 0 0] 36)) := ⟨by rw [hzA]; exact fk3.size, by rw [hwk4, hzA]; exact Array.getElem?_push_size⟩
          have HNE : Hid (zA ≠ zB) := by have h1 := lt_of_block (unhide HKB).2; show zA ≠ zB; omega
          replace HKB := hide (And.intro (unhide HKB).1 ((gk4.block zB (lt_of_block (unhide HKB).2) (fun h => h)).trans (unhide HKB).2))
          have HNA : Hid (¬ T1 zA) := fun h => by
           have h1 := (unhide HRR).lt zA h
           omega
          replace HRR := hide ((unhide HRR).fr gk4)
          rw [← hwk4, ← hzA]
          clear hwk4 hzA
          refine hK.out _ _ ((unhide HS) _ fk4) (fun hHeld => ?_)
          clear hK K
          (try simp only [Act.put, nrm])
         rotate_left
         focus
          go_simp
          obtain ⟨wk3, hwk3⟩ : ∃ wk3, wk3 = wk2.alloc (.cells #[.slice none 0 0, .slice none 0 0] 36) := ⟨_, rfl⟩
          obtain ⟨zA, hzA⟩ : ∃ zA, zA = wk2.heap.size := ⟨_, rfl⟩
          have gk3 : Fr (fun _ => False) wk2 wk3 := by rw [hwk3]; exact box1 _ _
          have fk3 := fk2.trans gk3 (fun _ _ h => h)
          have HKA : Hid (wr.heap.size ≤ zA ∧ wk3.heap[zA]? = some (.cells #[.slice none 0 0, .slice none 0 0] 36)) := ⟨by rw [hzA]; exact fk2.size, by rw [hwk3, hzA]; exact Array.getElem?_push_size⟩
          have HNE : Hid (zA ≠ zB) := by have h1 := lt_of_block (unhide HKB).2; show zA ≠ zB; omega
          replace HKB := hide (And.intro (unhide HKB).1 ((gk3.block zB (lt_of_block (unhide HKB).2) (fun h => h)).trans (unhide HKB).2))
          rw [← hwk3, ← hzA]
          clear hwk3 hzA
          refine hK.out _ _ ((unhide HS) _ fk3) (fun hHeld => ?_)
          clear hK K
          (try simp only [Act.put, nrm])
          refine wpAnyH_ready (rs := [9]) (by kernel_rfl) (by simp) (AllReadyH.cons rfl (fun K hK => ?_) (AllReadyH.nil))
          go_simp
          refine ((unhide HA) wk3 fk3).mono ?_
          rintro e wk4 ⟨rv', L', fo, fn, fc, ho, hn, hc, T1, rfl, hone', hrr, ht1, ht2, gk4⟩
          have fk4 := fk3.trans gk4 (fun _ _ h => h)
          have HSZ := hide (fk3.size)
          have HRR := hide hrr
          have HT1 := hide ht1
          have HT2 := hide (show ∀ k, T k → T1 k from fun k hk => ht2 k hk (Nat.lt_of_lt_of_le ((unhide HT) k hk) fk3.size))
          have HONE := hide hone'
          clear hrr ht1 ht2 hone'
          go_simp
          refine hK.out _ _ ((unhide HS) _ fk4) (fun hHeld => ?_)
          clear hK K
          (try simp only [Act.put, nrm])
          refine wtk2 (i := 10) rfl hHeld ?_
          (try simp only [Act.put, nrm])
          refine wtk2 (i := 11) rfl hHeld ?_
          (try simp only [Act.put, nrm])
          refine wtk2 (i := 12) rfl hHeld ?_
          (try simp only [Act.put, nrm])
          have HNA : Hid (¬ T1 zA) := fun h => by
           have h1 := (unhide HT1) zA h
           have h2 := lt_of_block (unhide HKA).2
           have h3 := (unhide HKA).1
           rcases h1.1 with h4 | h4
           ·have h5 := (unhide HT) zA h4
            omega
           ·omega
          replace HKA := hide (And.intro (unhide HKA).1 ((gk4.block zA (lt_of_block (unhide HKA).2) (fun h => h)).trans (unhide HKA).2))
          have HNB : Hid (¬ T1 zB) := fun h => by
           have h1 := (unhide HT1) zB h
           have h2 := lt_of_block (unhide HKB).2
           have h3 := (unhide HKB).1
           rcases h1.1 with h4 | h4
           ·have h5 := (unhide HT) zB h4
            omega
           ·omega
          replace HKB := hide (And.intro (unhide HKB).1 ((gk4.block zB (lt_of_block (unhide HKB).2) (fun h => h)).trans (unhide HKB).2))
       rotate_left 6
       focus
        go_simp
        obtain ⟨wk1, hwk1⟩ : ∃ wk1, wk1 = W0.alloc (.cells #[.slice none 0 0, .slice none 0 0] 36) := ⟨_, rfl⟩
        obtain ⟨zA, hzA⟩ : ∃ zA, zA = W0.heap.size := ⟨_, rfl⟩
        have gk1 : Fr (fun _ => False) W0 wk1 := by rw [hwk1]; exact box1 _ _
        have fk1 := fk0.trans gk1 (fun _ _ h => h)
        have HKA : Hid (wr.heap.size ≤ zA ∧ wk1.heap[zA]? = some (.cells #[.slice none 0 0, .slice none 0 0] 36)) := ⟨by rw [hzA]; exact fk0.size, by rw [hwk1, hzA]; exact Array.getElem?_push_size⟩
        rw [← hwk1, ← hzA]
        clear hwk1 hzA
        refine hK.out _ _ ((unhide HS) _ fk1) (fun hHeld => ?_)
        clear hK K
        (try simp only [Act.put, nrm])
        refine wpAnyH_ready (rs := [8, 14]) (by kernel_rfl) (by simp) (AllReadyH.cons rfl (fun K hK => ?_) (AllReadyH.cons rfl (fun K hK => ?_) (AllReadyH.nil)))
        focus
         go_simp
         refine ((unhide HPl) _ (((unhide HO).fr fk1).p.p)).mono ?_
         rintro e wk2 ⟨rfl, gk2⟩
         have fk2 := fk1.trans gk2 (fun _ _ h => h)
         replace HKA := hide (And.intro (unhide HKA).1 ((gk2.block zA (lt_of_block (unhide HKA).2) (fun h => h)).trans (unhide HKA).2))
         go_simp
         refine hK.out _ _ ((unhide HS) _ fk2) (fun hHeld => ?_)
         clear hK K
         (try simp only [Act.put, nrm])
         refine wpAnyH_ready (rs := [9, 14]) (by kernel_rfl) (by simp) (AllReadyH.cons rfl (fun K hK => ?_) (AllReadyH.cons rfl (fun K hK => ?_) (AllReadyH.nil)))
         focus
          go_simp
          refine ((unhide HA) wk2 fk2).mono ?_
          rintro e wk3 ⟨rv', L', fo, fn, fc, ho, hn, hc, T1, rfl, hone', hrr, ht1, ht2, gk3⟩
          have fk3 := fk2.trans gk3 (fun _ _ h => h)
          have HSZ := hide (fk2.size)
          have HRR := hide hrr
          have HT1 := hide ht1
          have HT2 := hide (show ∀ k, T k → T1 k from fun k hk => ht2 k hk (Nat.lt_of_lt_of_le ((unhide HT) k hk) fk2.size))
          have HONE := hide hone'
          clear hrr ht1 ht2 hone'
          go_simp
          refine hK.out _ _ ((unhide HS) _ fk3) (fun hHeld => ?_)
          clear hK K
          (try simp only [Act.put, nrm])
          refine wtk2 (i := 10) rfl hHeld ?_
          (try simp only [Act.put, nrm])
          refine wtk2 (i := 11) rfl hHeld ?_
          (try simp only [Act.put, nrm])
          refine wtk2 (i := 12) rfl hHeld ?_
          (try simp only [Act.put, nrm])
          have HNA : Hid (¬ T1 zA) := fun h => by
           have h1 := (unhide HT1) zA h
           have h2 := lt_of_block (unhide HKA).2
           have h3 := (unhide HKA).1
           rcases h1.1 with h4 | h4
           ·have h5 := (unhide HT) zA h4
            omega
           ·omega
          replace HKA := hide (And.intro (unhide HKA).1 ((gk3.block zA (lt_of_block (unhide HKA).2) (fun h => h)).trans (unhide HKA).2))
          refine wpAnyH_ready (rs := [14]) (by kernel_rfl) (by simp) (AllReadyH.cons rfl (fun K hK => ?_) (AllReadyH.nil))
          go_simp
          obtain ⟨wk4, hwk4⟩ : ∃ wk4, wk4 = wk3.alloc (.cells #[.int .u32 0, .int .u32 0, .int .u8 0, .int .u32 0, .int .u32 0, .slice none 0 0, .slice none 0 0] 45) := ⟨_, rfl⟩
          obtain ⟨zB, hzB⟩ : ∃ zB, zB = wk3.heap.size := ⟨_, rfl⟩
          have gk4 : Fr (fun _ => False) wk3 wk4 := by rw [hwk4]; exact box1 _ _
          have fk4 := fk3.trans gk4 (fun _ _ h => h)
          have HKB : Hid (wr.heap.size ≤ zB ∧ wk4.heap[zB]? = some (.cells #[.int .u32 0, .int .u32 0, .int .u8 0, .int .u32 0, .int .u32 0, .slice none 0 0, .slice none 0 0] 45)) := ⟨by rw [hzB]; exact fk3.size, by rw [hwk4, hzB]; exact Array.getElem?_push_size⟩
          have HNE : Hid (zA ≠ zB) := by have h1 := lt_of_block (unhide HKA).2; show zA ≠ zB; omega
          replace HKA := hide (And.intro (unhide HKA).1 ((gk4.block zA (lt_of_block (unhide HKA).2) (fun h => h)).trans (unhide HKA).2))
          have HNB : Hid (¬ T1 zB) := fun h => by
           have h1 := (unhide HRR).lt zB h
           omega
          replace HRR := hide ((unhide HRR).fr gk4)
          rw [← hwk4, ← hzB]
          clear hwk4 hzB
          refine hK.out _ _ ((unhide HS) _ fk4) (fun hHeld => ?_)
          clear hK K
          (try simp only [Act.put, nrm])
         rotate_left
         focus
          go_simp
          obtain ⟨wk3, hwk3⟩ : ∃ wk3, wk3 = wk2.alloc (.cells #[.int .u32 0, .int .u32 0, .int .u8 0, .int .u32 0, .int .u32 0, .slice none 0 0, .slice none 0 0] 45) := ⟨_, rfl⟩
          obtain ⟨zB, hzB⟩ : ∃ zB, zB = wk2.heap.size := ⟨_, rfl⟩
          have gk3 : Fr (fun _ => False) wk2 wk3 := by rw [hwk3]; exact box1 _ _
          have fk3 := fk2.trans gk3 (fun _ _ h => h)
          have HKB : Hid (wr.heap.size ≤ zB ∧ wk3.heap[zB]? = some (.cells #[.int .u32 0, .int .u32 0, .int .u8 0, .int .u32 0, .int .u32 0, .slice none 0 0, .slice none 0 0] 45)) := ⟨by rw [hzB]; exact fk2.size, by rw [hwk3, hzB]; exact Array.getElem?_push_size⟩
          have HNE : Hid (zA ≠ zB) := by have h1 := lt_of_block (unhide HKA).2; show zA ≠ zB; omega
          replace HKA := hide (And.intro (unhide HKA).1 ((gk3.block zA (lt_of_block (unhide HKA).2) (fun h => h)).trans (unhide HKA).2))
          rw [← hwk3, ← hzB]
          clear hwk3 hzB
          refine hK.out _ _ ((unhide HS) _ fk3) (fun hHeld => ?_)
          clear hK K
          (try simp only [Act.put, nrm])
          refine wpAnyH_ready (rs := [9]) (by kernel_rfl) (by simp) (AllReadyH.cons rfl (fun K hK => ?_) (AllReadyH.nil))
          go_simp
          refine ((unhide HA) wk3 fk3).mono ?_
          rintro e wk4 ⟨rv', L', fo, fn, fc, ho, hn, hc, T1, rfl, hone', hrr, ht1, ht2, gk4⟩
          have fk4 := fk3.trans gk4 (fun _ _ h => h)
          have HSZ := hide (fk3.size)
          have HRR := hide hrr
          have HT1 := hide ht1
          have HT2 := hide (show ∀ k, T k → T1 k from fun k hk => ht2 k hk (Nat.lt_of_lt_of_le ((unhide HT) k hk) fk3.size))
          have HONE := hide hone'
          clear hrr ht1 ht2 hone'
          go_simp
          refine hK.out _ _ ((unhide HS) _ fk4) (fun hHeld => ?_)
          clear hK K
          (try simp only [Act.put, nrm])
          refine wtk2 (i := 10) rfl hHeld ?_
          (try simp only [Act.put, nrm])
          refine wtk2 (i := 11) rfl hHeld ?_
          (try simp only [Act.put, nrm])
          refine wtk2 (i := 12) rfl hHeld ?_
          (try simp only [Act.put, nrm])
          have HNA : Hid (¬ T1 zA) := fun h => by
           have h1 := (unhide HT1) zA h
           have h2 := lt_of_block (unhide HKA).2
           have h3 := (unhide HKA).1
           rcases h1.1 with h4 | h4
           ·have h5 := (unhide HT) zA h4
            omega
           ·omega
          replace HKA := hide (And.intro (unhide HKA).1 ((gk4.block zA (lt_of_block (unhide HKA).2) (fun h => h)).trans (unhide HKA).2))
          have HNB : Hid (¬ T1 zB) := fun h => by
           have h1 := (unhide HT1) zB h
           have h2 := lt_of_block (unhide HKB).2
           have h3 := (unhide HKB).1
           rcases h1.1 with h4 | h4
           ·have h5 := (unhide HT) zB h4
            omega
           ·omega
          replace HKB := hide (And.intro (unhide HKB).1 ((gk4.block zB (lt_of_block (unhide HKB).2) (fun h => h)).trans (unhide HKB).2))
        rotate_left 2
        focus
         go_simp
         obtain ⟨wk2, hwk2⟩ : ∃ wk2, wk2 = wk1.alloc (.cells #[.int .u32 0, .int .u32 0, .int .u8 0, .int .u32 0, .int .u32 0, .slice none 0 0, .slice none 0 0] 45) := ⟨_, rfl⟩
         obtain ⟨zB, hzB⟩ : ∃ zB, zB = wk1.heap.size := ⟨_, rfl⟩
         have gk2 : Fr (fun _ => False) wk1 wk2 := by rw [hwk2]; exact box1 _ _
         have fk2 := fk1.trans gk2 (fun _ _ h => h)
         have HKB : Hid (wr.heap.size ≤ zB ∧ wk2.heap[zB]? = some (.cells #[.int .u32 0, .int .u32 0, .int .u8 0, .int .u32 0, .int .u32 0, .slice none 0 0, .slice none 0 0] 45)) := ⟨by rw [hzB]; exact fk1.size, by rw [hwk2, hzB]; exact Array.getElem?_push_size⟩
         have HNE : Hid (zA ≠ zB) := by have h1 := lt_of_block (unhide HKA).2; show zA ≠ zB; omega
         replace HKA := hide (And.intro (unhide HKA).1 ((gk2.block zA (lt_of_block (unhide HKA).2) (fun h => h)).trans (unhide HKA).2))
         rw [← hwk2, ← hzB]
         clear hwk2 hzB
         refine hK.out _ _ ((unhide HS) _ fk2) (fun hHeld => ?_)
         clear hK K
         (try simp only [Act.put, nrm])
         refine wpAnyH_ready (rs := [8]) (by kernel_rfl) (by simp) (AllReadyH.cons rfl (fun K hK => ?_) (AllReadyH.nil))
         go_simp
         refine ((unhide HPl) _ (((unhide HO).fr fk2).p.p)).mono ?_
         rintro e wk3 ⟨rfl, gk3⟩
         have fk3 := fk2.trans gk3 (fun _ _ h => h)
         replace HKA := hide (And.intro (unhide HKA).1 ((gk3.block zA (lt_of_block (unhide HKA).2) (fun h => h)).trans (unhide HKA).2))
         replace HKB := hide (And.intro (unhide HKB).1 ((gk3.block zB (lt_of_block (unhide HKB).2) (fun h => h)).trans (unhide HKB).2))
         go_simp
         refine hK.out _ _ ((unhide HS) _ fk3) (fun hHeld => ?_)
         clear hK K
         (try simp only [Act.put, nrm])
         refine wpAnyH_ready (rs := [9]) (by kernel_rfl) (by simp) (AllReadyH.cons rfl (fun K hK => ?_) (AllReadyH.nil))
         go_simp
         refine ((unhide HA) wk3 fk3).mono ?_
         rintro e wk4 ⟨rv', L', fo, fn, fc, ho, hn, hc, T1, rfl, hone', hrr, ht1, ht2, gk4⟩
         have fk4 := fk3.trans gk4 (fun _ _ h => h)
         have HSZ := hide (fk3.size)
         have HRR := hide hrr
         have HT1 := hide ht1
         have HT2 := hide (show ∀ k, T k → T1 k from fun k hk => ht2 k hk (Nat.lt_of_lt_of_le ((unhide HT) k hk) fk3.size))
         have HONE := hide hone'
         clear hrr ht1 ht2 hone'
         go_simp
         refine hK.out _ _ ((unhide HS) _ fk4) (fun hHeld => ?_)
         clear hK K
         (try simp only [Act.put, nrm])
         refine wtk2 (i := 10) rfl hHeld ?_
         (try simp only [Act.put, nrm])
         refine wtk2 (i := 11) rfl hHeld ?_
         (try simp only [Act.put, nrm])
         refine wtk2 (i := 12) rfl hHeld ?_
         (try simp only [Act.put, nrm])
         have HNA : Hid (¬ T1 zA) := fun h => by
          have h1 := (unhide HT1) zA h
          have h2 := lt_of_block (unhide HKA).2
          have h3 := (unhide HKA).1
          rcases h1.1 with h4 | h4
          ·have h5 := (unhide HT) zA h4
           omega
          ·omega
         replace HKA := hide (And.intro (unhide HKA).1 ((gk4.block zA (lt_of_block (unhide HKA).2) (fun h => h)).trans (unhide HKA).2))
         have HNB : Hid (¬ T1 zB) := fun h => by
          have h1 := (unhide HT1) zB h
          have h2 := lt_of_block (unhide HKB).2
          have h3 := (unhide HKB).1
          rcases h1.1 with h4 | h4
          ·have h5 := (unhide HT) zB h4
           omega
          ·omega
         replace HKB := hide (And.intro (unhide HKB).1 ((gk4.block zB (lt_of_block (unhide HKB).2) (fun h => h)).trans (unhide HKB).2))
       rotate_left 3
       focus
        go_simp
        obtain ⟨wk1, hwk1⟩ : ∃ wk1, wk1 = W0.alloc (.cells #[.int .u32 0, .int .u32 0, .int .u8 0, .int .u32 0, .int .u32 0, .slice none 0 0, .slice none 0 0] 45) := ⟨_, rfl⟩
        obtain ⟨zB, hzB⟩ : ∃ zB, zB = W0.heap.size := ⟨_, rfl⟩
        have gk1 : Fr (fun _ => False) W0 wk1 := by rw [hwk1]; exact box1 _ _
        have fk1 := fk0.trans gk1 (fun _ _ h => h)
        have HKB : Hid (wr.heap.size ≤ zB ∧ wk1.heap[zB]? = some (.cells #[.int .u32 0, .int .u32 0, .int .u8 0, .int .u32 0, .int .u32 0, .slice none 0 0, .slice none 0 0] 45)) := ⟨by rw [hzB]; exact fk0.size, by rw [hwk1, hzB]; exact Array.getElem?_push_size⟩
        rw [← hwk1, ← hzB]
        clear hwk1 hzB
        refine hK.out _ _ ((unhide HS) _ fk1) (fun hHeld => ?_)
        clear hK K
        (try simp only [Act.put, nrm])
        refine wpAnyH_ready (rs := [8, 13]) (by kernel_rfl) (by simp) (AllReadyH.cons rfl (fun K hK => ?_) (AllReadyH.cons rfl (fun K hK => ?_) (AllReadyH.nil)))
        focus
         go_simp
         refine ((unhide HPl) _ (((unhide HO).fr fk1).p.p)).mono ?_
         rintro e wk2 ⟨rfl, gk2⟩
         have fk2 := fk1.trans gk2 (fun _ _ h => h)
         replace HKB := hide (And.intro (unhide HKB).1 ((gk2.block zB (lt_of_block (unhide HKB).2) (fun h => h)).trans (unhide HKB).2))
         go_simp
         refine hK.out _ _ ((unhide HS) _ fk2) (fun hHeld => ?_)
         clear hK K
         (try simp only [Act.put, nrm])
         refine wpAnyH_ready (rs := [9, 13]) (by kernel_rfl) (by simp) (AllReadyH.cons rfl (fun K hK => ?_) (AllReadyH.cons rfl (fun K hK => ?_) (AllReadyH.nil)))
         focus
          go_simp
          refine ((unhide HA) wk2 fk2).mono ?_
          rintro e wk3 ⟨rv', L', fo, fn, fc, ho, hn, hc, T1, rfl, hone', hrr, ht1, ht2, gk3⟩
          have fk3 := fk2.trans gk3 (fun _ _ h => h)
          have HSZ := hide (fk2.size)
          have HRR := hide hrr
          have HT1 := hide ht1
          have HT2 := hide (show ∀ k, T k → T1 k from fun k hk => ht2 k hk (Nat.lt_of_lt_of_le ((unhide HT) k hk) fk2.size))
          have HONE := hide hone'
          clear hrr ht1 ht2 hone'
          go_simp
          refine hK.out _ _ ((unhide HS) _ fk3) (fun hHeld => ?_)
          clear hK K
          (try simp only [Act.put, nrm])
          refine wtk2 (i := 10) rfl hHeld ?_
          (try simp only [Act.put, nrm])
          refine wtk2 (i := 11) rfl hHeld ?_
          (try simp only [Act.put, nrm])
          refine wtk2 (i := 12) rfl hHeld ?_
          (try simp only [Act.put, nrm])
          have HNB : Hid (¬ T1 zB) := fun h => by
           have h1 := (unhide HT1) zB h
           have h2 := lt_of_block (unhide HKB).2
           have h3 := (unhide HKB).1
           rcases h1.1 with h4 | h4
           ·have h5 := (unhide HT) zB h4
            omega
           ·omega
          replace HKB := hide (And.intro (unhide HKB).1 ((gk3.block zB (lt_of_block (unhide HKB).2) (fun h => h)).trans (unhide HKB).2))
          refine wpAnyH_ready (rs := [13]) (by kernel_rfl) (by simp) (AllReadyH.cons rfl (fun K hK => ?_) (AllReadyH.nil))
          go_simp
          obtain ⟨wk4, hwk4⟩ : ∃ wk4, wk4 = wk3.alloc (.cells #[.slice none 0 0, .slice none 0 0] 36) := ⟨_, rfl⟩
          obtain ⟨zA, hzA⟩ : ∃ zA, zA = wk3.heap.size := ⟨_, rfl⟩
          have gk4 : Fr (fun _ => False) wk3 wk4 := by rw [hwk4]; exact box1 _ _
          have fk4 := fk3.trans gk4 (fun _ _ h => h)
          have HKA : Hid (wr.heap.size ≤ zA ∧ wk4.heap[zA]? = some (.cells #[.slice none 0 0, .slice none 0 0] 36)) := ⟨by rw [hzA]; exact fk3.size, by rw [hwk4, hzA]; exact Array.getElem?_push_size⟩
          have HNE : Hid (zA ≠ zB) := by have h1 := lt_of_block (unhide HKB).2; show zA ≠ zB; omega
          replace HKB := hide (And.intro (unhide HKB).1 ((gk4.block zB (lt_of_block (unhide HKB).2) (fun h => h)).trans (unhide HKB).2))
          have HNA : Hid (¬ T1 zA) := fun h => by
           have h1 := (unhide HRR).lt zA h
           omega
          replace HRR := hide ((unhide HRR).fr gk4)
          rw [← hwk4, ← hzA]
          clear hwk4 hzA
          refine hK.out _ _ ((unhide HS) _ fk4) (fun hHeld => ?_)
          clear hK K
          (try simp only [Act.put, nrm])
         rotate_left
         focus
          go_simp
          obtain ⟨wk3, hwk3⟩ : ∃ wk3, wk3 = wk2.alloc (.cells #[.slice none 0 0, .slice none 0 0] 36) := ⟨_, rfl⟩
          obtain ⟨zA, hzA⟩ : ∃ zA, zA = wk2.heap.size := ⟨_, rfl⟩
          have gk3 : Fr (fun _ => False) wk2 wk3 := by rw [hwk3]; exact box1 _ _
          have fk3 := fk2.trans gk3 (fun _ _ h => h)
          have HKA : Hid (wr.heap.size ≤ zA ∧ wk3.heap[zA]? = some (.cells #[.slice none 0 0, .slice none 0 0] 36)) := ⟨by rw [hzA]; exact fk2.size, by rw [hwk3, hzA]; exact Array.getElem?_push_size⟩
          have HNE : Hid (zA ≠ zB) := by have h1 := lt_of_block (unhide HKB).2; show zA ≠ zB; omega
          replace HKB := hide (And.intro (unhide HKB).1 ((gk3.block zB (lt_of_block (unhide HKB).2) (fun h => h)).trans (unhide HKB).2))
          rw [← hwk3, ← hzA]
          clear hwk3 hzA
          refine hK.out _ _ ((unhide HS) _ fk3) (fun hHeld => ?_)
          clear hK K
          (try simp only [Act.put, nrm])
          refine wpAnyH_ready (rs := [9]) (by kernel_rfl) (by simp) (AllReadyH.cons rfl (fun K hK => ?_) (AllReadyH.nil))
          go_simp
          refine ((unhide HA) wk3 fk3).mono ?_
          rintro e wk4 ⟨rv', L', fo, fn, fc, ho, hn, hc, T1, rfl, hone', hrr, ht1, ht2, gk4⟩
          have fk4 := fk3.trans gk4 (fun _ _ h => h)
          have HSZ := hide (fk3.size)
          have HRR := hide hrr
          have HT1 := hide ht1
          have HT2 := hide (show ∀ k, T k → T1 k from fun k hk => ht2 k hk (Nat.lt_of_lt_of_le ((unhide HT) k hk) fk3.size))
          have HONE := hide hone'
          clear hrr ht1 ht2 hone'
          go_simp
          refine hK.out _ _ ((unhide HS) _ fk4) (fun hHeld => ?_)
          clear hK K
          (try simp only [Act.put, nrm])
          refine wtk2 (i := 10) rfl hHeld ?_
          (try simp only [Act.put, nrm])
          refine wtk2 (i := 11) rfl hHeld ?_
          (try simp only [Act.put, nrm])
          refine wtk2 (i := 12) rfl hHeld ?_
          (try simp only [Act.put, nrm])
          have HNA : Hid (¬ T1 zA) := fun h => by
           have h1 := (unhide HT1) zA h
           have h2 := lt_of_block (unhide HKA).2
           have h3 := (unhide HKA).1
           rcases h1.1 with h4 | h4
           ·have h5 := (unhide HT) zA h4
            omega
           ·omega
          replace HKA := hide (And.intro (unhide HKA).1 ((gk4.block zA (lt_of_block (unhide HKA).2) (fun h => h)).trans (unhide HKA).2))
          have HNB : Hid (¬ T1 zB) := fun h => by
           have h1 := (unhide HT1) zB h
           have h2 := lt_of_block (unhide HKB).2
           have h3 := (unhide HKB).1
           rcases h1.1 with h4 | h4
           ·have h5 := (unhide HT) zB h4
            omega
           ·omega
          replace HKB := hide (And.intro (unhide HKB).1 ((gk4.block zB (lt_of_block (unhide HKB).2) (fun h => h)).trans (unhide HKB).2))
        rotate_left 2
        focus
         go_simp
         obtain ⟨wk2, hwk2⟩ : ∃ wk2, wk2 = wk1.alloc (.cells #[.slice none 0 0, .slice none 0 0] 36) := ⟨_, rfl⟩
         obtain ⟨zA, hzA⟩ : ∃ zA, zA = wk1.heap.size := ⟨_, rfl⟩
         have gk2 : Fr (fun _ => False) wk1 wk2 := by rw [hwk2]; exact box1 _ _
         have fk2 := fk1.trans gk2 (fun _ _ h => h)
         have HKA : Hid (wr.heap.size ≤ zA ∧ wk2.heap[zA]? = some (.cells #[.slice none 0 0, .slice none 0 0] 36)) := ⟨by rw [hzA]; exact fk1.size, by rw [hwk2, hzA]; exact Array.getElem?_push_size⟩
         have HNE : Hid (zA ≠ zB) := by have h1 := lt_of_block (unhide HKB).2; show zA ≠ zB; omega
         replace HKB := hide (And.intro (unhide HKB).1 ((gk2.block zB (lt_of_block (unhide HKB).2) (fun h => h)).trans (unhide HKB).2))
         rw [← hwk2, ← hzA]
         clear hwk2 hzA
         refine hK.out _ _ ((unhide HS) _ fk2) (fun hHeld => ?_)
         clear hK K
         (try simp only [Act.put, nrm])
         refine wpAnyH_ready (rs := [8]) (by kernel_rfl) (by simp) (AllReadyH.cons rfl (fun K hK => ?_) (AllReadyH.nil))
         go_simp
         refine ((unhide HPl) _ (((unhide HO).fr fk2).p.p)).mono ?_
         rintro e wk3 ⟨rfl, gk3⟩
         have fk3 := fk2.trans gk3 (fun _ _ h => h)
         replace HKA := hide (And.intro (unhide HKA).1 ((gk3.block zA (lt_of_block (unhide HKA).2) (fun h => h)).trans (unhide HKA).2))
         replace HKB := hide (And.intro (unhide HKB).1 ((gk3.block zB (lt_of_block (unhide HKB).2) (fun h => h)).trans (unhide HKB).2))
         go_simp
         refine hK.out _ _ ((unhide HS) _ fk3) (fun hHeld => ?_)
         clear hK K
         (try simp only [Act.put, nrm])
         refine wpAnyH_ready (rs := [9]) (by kernel_rfl) (by simp) (AllReadyH.cons rfl (fun K hK => ?_) (AllReadyH.nil))
         go_simp
         refine ((unhide HA) wk3 fk3).mono ?_
         rintro e wk4 ⟨rv', L', fo, fn, fc, ho, hn, hc, T1, rfl, hone', hrr, ht1, ht2, gk4⟩
         have fk4 := fk3.trans gk4 (fun _ _ h => h)
         have HSZ := hide (fk3.size)
         have HRR := hide hrr
         have HT1 := hide ht1
         have HT2 := hide (show ∀ k, T k → T1 k from fun k hk => ht2 k hk (Nat.lt_of_lt_of_le ((unhide HT) k hk) fk3.size))
         have HONE := hide hone'
         clear hrr ht1 ht2 hone'
         go_simp
         refine hK.out _ _ ((unhide HS) _ fk4) (fun hHeld => ?_)
         clear hK K
         (try simp only [Act.put, nrm])
         refine wtk2 (i := 10) rfl hHeld ?_
         (try simp only [Act.put, nrm])
         refine wtk2 (i := 11) rfl hHeld ?_
         (try simp only [Act.put, nrm])
         refine wtk2 (i := 12) rfl hHeld ?_
         (try simp only [Act.put, nrm])
         have HNA : Hid (¬ T1 zA) := fun h => by
          have h1 := (unhide HT1) zA h
          have h2 := lt_of_block (unhide HKA).2
          have h3 := (unhide HKA).1
          rcases h1.1 with h4 | h4
          ·have h5 := (unhide HT) zA h4
           omega
          ·omega
         replace HKA := hide (And.intro (unhide HKA).1 ((gk4.block zA (lt_of_block (unhide HKA).2) (fun h => h)).trans (unhide HKA).2))
         have HNB : Hid (¬ T1 zB) := fun h => by
          have h1 := (unhide HT1) zB h
          have h2 := lt_of_block (unhide HKB).2
          have h3 := (unhide HKB).1
          rcases h1.1 with h4 | h4
          ·have h5 := (unhide HT) zB h4
           omega
          ·omega
         replace HKB := hide (And.intro (unhide HKB).1 ((gk4.block zB (lt_of_block (unhide HKB).2) (fun h => h)).trans (unhide HKB).2))
       all_goals
        refine wpAnyH_ready (rs := [15]) (by kernel_rfl) (by simp) (AllReadyH.cons rfl (fun K hK => ?_) (AllReadyH.nil))
        obtain ⟨wk5, st5, kk5, gk5⟩ := st_put (unhide HKA).2 (.slice so S.length sc) rv' (fun u hu => by simp at hu; rcases hu with rfl | rfl <;> first | rfl | exact unhide HONE)
        have HST5 := hide st5
        have fk5 := fk4.absorb gk5 (fun i hi => by rw [hi]; exact (unhide HKA).1)
        replace HKA := hide (And.intro (unhide HKA).1 kk5)
        replace HRR := hide ((unhide HRR).frS gk5 (fun k hk => by rw [hk]; exact unhide HNA))
        replace HKB := hide (And.intro (unhide HKB).1 ((gk5.block zB (lt_of_block (unhide HKB).2) (fun e => by have h1 := (unhide HNE); omega)).trans (unhide HKB).2))
        clear st5 kk5
        refine step_stN rfl 36 (.tmp 10) (.tmp 65) rfl _ _ (by simp [Act.eval]) (by simp [Act.eval]) (unhide HST5) ?_
        refine hK.out _ _ ((unhide HS) _ fk5) (fun hHeld => ?_)
        clear hK K
        (try simp only [Act.put])
        refine wpAnyH_ready (rs := [16]) (by kernel_rfl) (by simp) (AllReadyH.cons rfl (fun K hK => ?_) (AllReadyH.nil))
        obtain ⟨wk6, st6, kk6, gk6⟩ := ans_put (unhide HKB).2 (.int .u32 (cl : Nat)) (.int .u32 (nu : Nat)) (.int .u8 (X.2.co : Nat)) (.int .u32 (X.2.rc : Nat)) (.int .u32 (X.2.ve : Nat)) (.slice fo fn fc) (.slice ho hn hc) (fun u hu => by simp at hu; rcases hu with rfl | rfl | rfl | rfl | rfl | rfl | rfl <;> rfl)
        have HST6 := hide st6
        have fk6 := fk5.absorb gk6 (fun i hi => by rw [hi]; exact (unhide HKB).1)
        replace HKB := hide (And.intro (unhide HKB).1 kk6)
        replace HRR := hide ((unhide HRR).frS gk6 (fun k hk => by rw [hk]; exact unhide HNB))
        replace HKA := hide (And.intro (unhide HKA).1 ((gk6.block zA (lt_of_block (unhide HKA).2) (fun e => by have h1 := (unhide HNE); omega)).trans (unhide HKA).2))
        clear st6 kk6
        refine step_stN rfl 45 (.tmp 11) (.tmp 66) rfl _ _ (by simp [Act.eval]) (by simp [Act.eval]) (unhide HST6) ?_
        refine hK.out _ _ ((unhide HS) _ fk6) (fun hHeld => ?_)
        clear hK K
        (try simp only [Act.put])
        refine wpAnyH_done (by kernel_rfl) ?_ _
        refine NoPanic.normal ?_
        go_wp2_with fail
        go_meet
        case rel => exact ⟨zA, zB, rv', L', T1, fo, fn, fc, ho, hn, hc, _, rfl, rfl, fk6, unhide HRR, fun k hk => ⟨((unhide HT1) k hk).1, (unhide HRR).lt k hk⟩, unhide HSZ, unhide HT2, (unhide HKA).2, (unhide HKB).2⟩
      case rest =>
       obtain ⟨zA, zB, rv', L', T1, fo, fn, fc, ho, hn, hc, sz, rfl, rfl, hfx, hgq, ht1, hsz, ht2, hkA, hkB⟩ := hcut
       obtain ⟨wx, hwx⟩ : ∃ wx, wx = wc := ⟨_, rfl⟩
       subst hwx
       obtain rfl : fn = X.2.F.length := by obtain ⟨_, _, e⟩ := hgq.f.form; exact (Value.slice.inj e).2.1
       obtain rfl : hn = X.2.H.length := by obtain ⟨_, _, e⟩ := hgq.h.form; exact (Value.slice.inj e).2.1
       obtain ⟨rn7, rc7, rfl⟩ := hgq.g.g.r.form
       have hLe : X.1.C.length = L'.length := by have := hgq.g.m.n; simpa [GM] using this.symm
       have HO2 := hide ((unhide HO).fr hfx)
       have HKG2 := hide ((hfx.block zg (lt_of_block (unhide HKG).2) (fun h => h)).trans (unhide HKG).2)
       have HS18 : Hid (∀ W, Fr (fun _ => False) wx W → W.cell? ⟨w.heap.size, 0, none⟩ = some (.slice so S.length sc) ∧ W.cell? ⟨w.heap.size, 1, none⟩ = some (.slice (some ⟨g, o, none⟩) l.length rc0) ∧ W.cell? ⟨w.heap.size, 2, none⟩ = some (.slice po pl.length pc) ∧ W.cell? ⟨zr, 0, none⟩ = some (.int .u32 (cl : Nat)) ∧ W.cell? ⟨zr, 1, none⟩ = some (.int .u32 (nu : Nat)) ∧ W.cell? ⟨zr, 2, none⟩ = some (.int .u32 (ac : Nat)) ∧ W.cell? ⟨zr, 3, none⟩ = some (.int .u8 (op : Nat)) ∧ W.cell? ⟨zr, 4, none⟩ = some (.int .u32 (rc : Nat)) ∧ W.cell? ⟨zr, 5, none⟩ = some (.int .u32 (ve : Nat)) ∧ W.cell? ⟨zr, 6, none⟩ = some (.int .u32 (wa' : Nat)) ∧ W.cell? ⟨zr, 7, none⟩ = some (.int .u32 (ow : Nat)) ∧ W.cell? ⟨zr, 8, none⟩ = some (.slice (some ⟨yg, 0, none⟩) F.length yc) ∧ W.cell? ⟨zr, 9, none⟩ = some (.string rs) ∧ W.cell? ⟨g, o + j * 10, none⟩ = some (.int .u32 (cl : Nat)) ∧ W.cell? ⟨g, o + j * 10 + 1, none⟩ = some (.int .u32 (nu : Nat)) ∧ W.cell? ⟨g, o + j * 10 + 2, none⟩ = some (.int .u32 (ac : Nat)) ∧ W.cell? ⟨g, o + j * 10 + 3, none⟩ = some (.int .u8 (op : Nat)) ∧ W.cell? ⟨g, o + j * 10 + 4, none⟩ = some (.int .u32 (rc : Nat)) ∧ W.cell? ⟨g, o + j * 10 + 5, none⟩ = some (.int .u32 (ve : Nat)) ∧ W.cell? ⟨g, o + j * 10 + 6, none⟩ = some (.int .u32 (wa' : Nat)) ∧ W.cell? ⟨g, o + j * 10 + 7, none⟩ = some (.int .u32 (ow : Nat)) ∧ W.cell? ⟨g, o + j * 10 + 8, none⟩ = some (.slice xo2 F.length xc2) ∧ W.cell? ⟨g, o + j * 10 + 9, none⟩ = some (.string rs) ∧ W.cell? ⟨zg, 0, none⟩ = some (.int .u32 (cl : Nat)) ∧ W.cell? ⟨zg, 1, none⟩ = some (.int .u32 (nu : Nat)) ∧ W.cell? ⟨zg, 2, none⟩ = some (.int .u8 (X.2.co : Nat)) ∧ W.cell? ⟨zg, 3, none⟩ = some (.int .u32 (X.2.rc : Nat)) ∧ W.cell? ⟨zg, 4, none⟩ = some (.int .u32 (X.2.ve : Nat)) ∧ W.cell? ⟨zg, 5, none⟩ = some (.slice gfo X.2.F.length gfc) ∧ W.cell? ⟨zg, 6, none⟩ = some (.slice gho X.2.H.length ghc) ∧ W.cell? ⟨zB, 0, none⟩ = some (.int .u32 (cl : Nat)) ∧ W.cell? ⟨zB, 1, none⟩ = some (.int .u32 (nu : Nat)) ∧ W.cell? ⟨zB, 2, none⟩ = some (.int .u8 (X.2.co : Nat)) ∧ W.cell? ⟨zB, 3, none⟩ = some (.int .u32 (X.2.rc : Nat)) ∧ W.cell? ⟨zB, 4, none⟩ = some (.int .u32 (X.2.ve : Nat)) ∧ W.cell? ⟨zB, 5, none⟩ = some (.slice fo X.2.F.length fc) ∧ W.cell? ⟨zB, 6, none⟩ = some (.slice ho X.2.H.length hc) ∧ W.cell? ⟨zA, 1, none⟩ = some (.slice rn7 L'.length rc7)) := fun W hW => by
        have h2 := ((unhide HO2).fr hW).p.b
        have h4 := ((unhide HO2).fr hW).rk
        simp only [RQ.cs] at h4
        have h3 := (unhide HIB) W (hfx.trans hW (fun _ _ h => h))
        have h5 := (hW.block zg (lt_of_block (unhide HKG2)) (fun h => h)).trans (unhide HKG2)
        have h6 := (hW.block zB (lt_of_block hkB) (fun h => h)).trans hkB
        have h7 := (hW.block zA (lt_of_block hkA) (fun h => h)).trans hkA
        obtain ⟨i0, i1, i2, i3, i4, i5, i6, i7, i8, i9⟩ := h3
        refine ⟨?_, ?_, ?_, ?_, ?_, ?_, ?_, ?_, ?_, ?_, ?_, ?_, ?_, i0, i1, i2, i3, i4, i5, i6, i7, i8, i9, ?_, ?_, ?_, ?_, ?_, ?_, ?_, ?_, ?_, ?_, ?_, ?_, ?_, ?_, ?_⟩ <;> simp [World.cell?, h2, h4, h5, h6, h7]
       have HMk : Hid (∀ W, Fr (fun _ => False) wx W → Calls Tryz.prog 13 #[.agg #[.int .u32 (cl : Nat), .int .u32 (nu : Nat), .int .u32 (ac : Nat), .int .u8 (op : Nat), .int .u32 (rc : Nat), .int .u32 (ve : Nat), .int .u32 (wa' : Nat), .int .u32 (ow : Nat), .slice (some ⟨yg, 0, none⟩) F.length yc, .string rs], .agg #[.int .u32 (cl : Nat), .int .u32 (nu : Nat), .int .u32 (ac : Nat), .int .u8 (op : Nat), .int .u32 (rc : Nat), .int .u32 (ve : Nat), .int .u32 (wa' : Nat), .int .u32 (ow : Nat), .slice xo2 F.length xc2, .string rs]] W fun e w' => e = .returned (.bool true) ∧ Fr (fun _ => False) W w') := fun W hW => marked_any cl nu ac op rc ve wa' ow yg yc by0 _ rs F W ((unhide HO2).fr hW).m ((((unhide HO2).p.q.fr hW).d _ (unhide HF).2.2.1).f) (unhide HF).2.1.2.2.2
       have HSm : Hid (∀ W, Fr (fun _ => False) wx W → Calls Tryz.prog 14 #[.agg #[.int .u32 (cl : Nat), .int .u32 (nu : Nat), .int .u8 (X.2.co : Nat), .int .u32 (X.2.rc : Nat), .int .u32 (X.2.ve : Nat), .slice gfo X.2.F.length gfc, .slice gho X.2.H.length ghc], .agg #[.int .u32 (cl : Nat), .int .u32 (nu : Nat), .int .u8 (X.2.co : Nat), .int .u32 (X.2.rc : Nat), .int .u32 (X.2.ve : Nat), .slice fo X.2.F.length fc, .slice ho X.2.H.length hc]] W fun e w' => e = .returned (.bool true) ∧ Fr (fun _ => False) W w') := fun W hW => sameA_any cl nu X.2.co X.2.rc X.2.ve _ _ _ _ X.2.F X.2.H W ((unhide HO2).fr hW).gf.fds (hgq.f.fr hW) ((unhide HO2).fr hW).gh.sms (hgq.h.fr hW) (by have := unhide HSt; omega) (by have := unhide HSt; omega)
       have HRc : Hid (∀ W, Fr (fun _ => False) wx W → Calls Tryz.prog 15 #[.pointer (some ⟨bs, 0, none⟩)] W fun e w' => e = .returned (.int .i64 (L'.length : Nat)) ∧ w' = W) := fun W hW => by rw [← hLe]; exact records_B bs T2 X.1 W ((unhide HO2).p.rs.fr hW)
       have HFin : Hid (∀ w9, Fr (fun k => (Value.slice (some ⟨yg, 0, none⟩) F.length yc).ownBlock = some k ∨ (Value.slice gfo X.2.F.length gfc).ownBlock = some k ∨ (Value.slice gho X.2.H.length ghc).ownBlock = some k) wx w9 → AP w ((w9.setCell ⟨z6, 0, none⟩ (.slice so S.length sc)).setCell ⟨z6, 1, none⟩ (.slice rn7 L'.length rc7)) bs T2 X.1 (.slice so S.length sc) (.slice (some ⟨g, o, none⟩) l.length rc0) (.slice po pl.length pc) S l pl z6 (.slice rn7 L'.length rc7) T1 (j + 1) L') := fun w9 h9 => (unhide HO).finish hfx hgq ht1 hsz ht2 h9
       have HKK := hide (And.intro hkA (And.intro hkB (And.intro (unhide HKG2) (unhide HO2).zb)))
       clear hgq ht1 hsz ht2 hkA hkB hfx HA HS HT HO hLe HIB
       go_upto_region 18 with fail
       go_cut [88] from 35 to 103 (fun c wz => c = .bool false ∧ Fr (fun _ => False) wx wz)
       case first =>
        refine wp_region_noPanic ?_
        refine wp_region_held_drew (S := (fun W => W.cell? ⟨w.heap.size, 0, none⟩ = some (.slice so S.length sc) ∧ W.cell? ⟨w.heap.size, 1, none⟩ = some (.slice (some ⟨g, o, none⟩) l.length rc0) ∧ W.cell? ⟨w.heap.size, 2, none⟩ = some (.slice po pl.length pc) ∧ W.cell? ⟨zr, 0, none⟩ = some (.int .u32 (cl : Nat)) ∧ W.cell? ⟨zr, 1, none⟩ = some (.int .u32 (nu : Nat)) ∧ W.cell? ⟨zr, 2, none⟩ = some (.int .u32 (ac : Nat)) ∧ W.cell? ⟨zr, 3, none⟩ = some (.int .u8 (op : Nat)) ∧ W.cell? ⟨zr, 4, none⟩ = some (.int .u32 (rc : Nat)) ∧ W.cell? ⟨zr, 5, none⟩ = some (.int .u32 (ve : Nat)) ∧ W.cell? ⟨zr, 6, none⟩ = some (.int .u32 (wa' : Nat)) ∧ W.cell? ⟨zr, 7, none⟩ = some (.int .u32 (ow : Nat)) ∧ W.cell? ⟨zr, 8, none⟩ = some (.slice (some ⟨yg, 0, none⟩) F.length yc) ∧ W.cell? ⟨zr, 9, none⟩ = some (.string rs) ∧ W.cell? ⟨g, o + j * 10, none⟩ = some (.int .u32 (cl : Nat)) ∧ W.cell? ⟨g, o + j * 10 + 1, none⟩ = some (.int .u32 (nu : Nat)) ∧ W.cell? ⟨g, o + j * 10 + 2, none⟩ = some (.int .u32 (ac : Nat)) ∧ W.cell? ⟨g, o + j * 10 + 3, none⟩ = some (.int .u8 (op : Nat)) ∧ W.cell? ⟨g, o + j * 10 + 4, none⟩ = some (.int .u32 (rc : Nat)) ∧ W.cell? ⟨g, o + j * 10 + 5, none⟩ = some (.int .u32 (ve : Nat)) ∧ W.cell? ⟨g, o + j * 10 + 6, none⟩ = some (.int .u32 (wa' : Nat)) ∧ W.cell? ⟨g, o + j * 10 + 7, none⟩ = some (.int .u32 (ow : Nat)) ∧ W.cell? ⟨g, o + j * 10 + 8, none⟩ = some (.slice xo2 F.length xc2) ∧ W.cell? ⟨g, o + j * 10 + 9, none⟩ = some (.string rs) ∧ W.cell? ⟨zg, 0, none⟩ = some (.int .u32 (cl : Nat)) ∧ W.cell? ⟨zg, 1, none⟩ = some (.int .u32 (nu : Nat)) ∧ W.cell? ⟨zg, 2, none⟩ = some (.int .u8 (X.2.co : Nat)) ∧ W.cell? ⟨zg, 3, none⟩ = some (.int .u32 (X.2.rc : Nat)) ∧ W.cell? ⟨zg, 4, none⟩ = some (.int .u32 (X.2.ve : Nat)) ∧ W.cell? ⟨zg, 5, none⟩ = some (.slice gfo X.2.F.length gfc) ∧ W.cell? ⟨zg, 6, none⟩ = some (.slice gho X.2.H.length ghc) ∧ W.cell? ⟨zB, 0, none⟩ = some (.int .u32 (cl : Nat)) ∧ W.cell? ⟨zB, 1, none⟩ = some (.int .u32 (nu : Nat)) ∧ W.cell? ⟨zB, 2, none⟩ = some (.int .u8 (X.2.co : Nat)) ∧ W.cell? ⟨zB, 3, none⟩ = some (.int .u32 (X.2.rc : Nat)) ∧ W.cell? ⟨zB, 4, none⟩ = some (.int .u32 (X.2.ve : Nat)) ∧ W.cell? ⟨zB, 5, none⟩ = some (.slice fo X.2.F.length fc) ∧ W.cell? ⟨zB, 6, none⟩ = some (.slice ho X.2.H.length hc) ∧ W.cell? ⟨zA, 1, none⟩ = some (.slice rn7 L'.length rc7))) (by kernel_rfl) ((unhide HS18) _ (Fr.refl _ _).drew) (fun hHeld => ?_)
        refine wtk2 (i := 0) rfl hHeld ?_
        (try simp only [Act.put, nrm])
        refine wtk2 (i := 1) rfl hHeld ?_
        (try simp only [Act.put, nrm])
        refine wtk2 (i := 2) rfl hHeld ?_
        (try simp only [Act.put, nrm])
        refine wtk2 (i := 3) rfl hHeld ?_
        (try simp only [Act.put, nrm])
        refine wtk2 (i := 4) rfl hHeld ?_
        (try simp only [Act.put, nrm])
        refine wtk2 (i := 5) rfl hHeld ?_
        (try simp only [Act.put, nrm])
        refine wpAnyH_ready (rs := [6]) (by kernel_rfl) (by simp) (AllReadyH.cons rfl (fun K hK => ?_) AllReadyH.nil)
        go_simp
        refine ((unhide HMk) _ ((Fr.refl (fun _ => False) wx).drew)).mono ?_
        rintro e w6 ⟨rfl, hfq⟩
        have F6 := hide (((Fr.refl (fun _ => False) wx).drew).trans hfq (fun _ _ h => h))
        clear hfq
        go_simp
        refine hK.out _ _ ((unhide HS18) _ (unhide F6)) (fun hHeld => ?_)
        clear hK K
        (try simp only [Act.put, nrm])
        refine wtk2 (i := 7) rfl hHeld ?_
        (try simp only [Act.put, nrm])
        refine wtk2 (i := 8) rfl hHeld ?_
        (try simp only [Act.put, nrm])
        refine wtk2 (i := 9) rfl hHeld ?_
        (try simp only [Act.put, nrm])
        refine wtk2 (i := 10) rfl hHeld ?_
        (try simp only [Act.put, nrm])
        refine wpAnyH_ready (rs := [11]) (by kernel_rfl) (by simp) (AllReadyH.cons rfl (fun K hK => ?_) AllReadyH.nil)
        go_simp
        refine ((unhide HSm) _ (unhide F6)).mono ?_
        rintro e w7 ⟨rfl, hfq⟩
        have F7 := hide ((unhide F6).trans hfq (fun _ _ h => h))
        clear hfq
        go_simp
        refine hK.out _ _ ((unhide HS18) _ (unhide F7)) (fun hHeld => ?_)
        clear hK K
        (try simp only [Act.put, nrm])
        refine wtk2 (i := 12) rfl hHeld ?_
        (try simp only [Act.put, nrm])
        refine wtk2 (i := 13) rfl hHeld ?_
        (try simp only [Act.put, nrm])
        refine wtk2 (i := 14) rfl hHeld ?_
        (try simp only [Act.put, nrm])
        refine wtk2 (i := 15) rfl hHeld ?_
        (try simp only [Act.put, nrm])
        refine wtk2 (i := 17) rfl hHeld ?_
        (try simp only [Act.put, nrm])
        refine wtk2 (i := 18) rfl hHeld ?_
        (try simp only [Act.put, nrm])
        refine wtk2 (i := 19) rfl hHeld ?_
        (try simp only [Act.put, nrm])
        refine wpAnyH_ready (rs := [16]) (by kernel_rfl) (by simp) (AllReadyH.cons rfl (fun K hK => ?_) AllReadyH.nil)
        go_simp
        refine ((unhide HRc) _ (unhide F7)).mono ?_
        rintro e w8 ⟨rfl, hwq⟩
        obtain rfl := hwq.symm
        have F8 := hide (unhide F7)
        clear hwq
        go_simp
        refine hK.out _ _ ((unhide HS18) _ (unhide F8)) (fun hHeld => ?_)
        clear hK K
        (try simp only [Act.put, nrm])
        refine wtk2 (i := 20) rfl hHeld ?_
        (try simp only [Act.put, nrm])
        refine wtk2 (i := 21) rfl hHeld ?_
        (try simp only [Act.put, nrm])
        refine wpAnyH_done (by kernel_rfl) ?_ _
        refine NoPanic.normal ?_
        go_wp2_with fail
        go_meet
        case rel => exact ⟨rfl, unhide F8⟩
       case rest =>
        obtain ⟨rfl, hf8⟩ := hcut
        obtain ⟨w8, hw8⟩ : ∃ w8, w8 = wc := ⟨_, rfl⟩
        subst hw8
        have HO8 := hide ((unhide HO2).fr hf8)
        have F8 := hide hf8
        clear hf8 HS18 HMk HSm HRc
        go_wp2_with fail
        go_loopw [12] (fun kv wr => ∃ (k : Nat) (F' : List F5), k ≤ F.length ∧ kv = .int .i64 (k : Nat) ∧ F'.length = F.length + 2 ∧ OwF wr by0 (.slice (some ⟨yg, 0, none⟩) (F.length + 2) yc) F' ∧ Fr (fun k => k = yg) w8 wr) (fun kv _ => F.length - (intOf kv).toNat)
        case atStart => obtain ⟨g', c', e', _, ho'⟩ := (unhide HO8).m.o; cases e'; exact ⟨0, _, Nat.zero_le _, rfl, by simp, ho', Fr.refl _ _⟩
        case round =>
         obtain ⟨k, F', hk, rfl, hl', hown, hfr⟩ := hrel
         rename World => wd
         have hyz : ∀ {z t : Nat} {c : Array Value}, w8.heap[z]? = some (.cells c t) → 55 ≠ t → ¬ z = yg := fun hz ht e => (unhide HO8).m.box hz ht (by rw [e]; rfl)
         have krr := (hfr.block zr (lt_of_block (unhide HO8).rk) (hyz (unhide HO8).rk (by decide))).trans (unhide HO8).rk
         simp only [RQ.cs] at krr
         have r8 : wd.cell? ⟨zr, 8, none⟩ = some (.slice (some ⟨yg, 0, none⟩) F.length yc) := by simp [World.cell?, krr]
         have hF6 : F.length ≤ 1048576 := (unhide HF).2.1.2.2.2
         by_cases hlt3 : k < F.length
         ·obtain ⟨w9, hs9, ho9, hf9⟩ := fld_put hown hl'.symm k (by omega) ⟨⟨#[115, 112, 111, 105, 108, 116]⟩, 0, ⟨#[]⟩, 0, 0⟩
          have HS9 := hide hs9
          have HO9 := hide (And.intro ho9 (And.intro (hfr.trans hf9 (fun _ _ h => h)) hl'))
          have hkl3 : (k : Int) < (F.length : Int) := by omega
          clear hs9 ho9 hf9 hown hfr krr hl' hk hyz
          go_wp2_with (refine wpList_stN rfl 55 (.tmp 100) (.tmp 99) rfl _ _ rfl rfl (unhide HS9) ?_)
          go_roundw
          case rel => exact ⟨k + 1, _, hlt3, by go_num, by rw [List.length_set]; exact (unhide HO9).2.2, (unhide HO9).1, (unhide HO9).2.1⟩
          case measure => simp [intOf]; omega
         ·have hkl3 : ¬ (k : Int) < (F.length : Int) := by omega
          have kgg := (unhide HKK).2.2.1
          have kg8 := ((unhide F8).block zg (lt_of_block kgg) (fun h => h)).trans kgg
          have kgd := (hfr.block zg (lt_of_block kg8) (hyz kg8 (by decide))).trans kg8
          have og8 := (unhide HO8).og
          have gfd := ownsRow_of_block (unhide HO8).gf (fun q hq => hfr.block q ((unhide HO8).gf.lt q hq).2 (fun e => (og8 q (.inl hq)).2.2 (by rw [e]; rfl)))
          have ghd := ownsRow_of_block (unhide HO8).gh (fun q hq => hfr.block q ((unhide HO8).gh.lt q hq).2 (fun e => (og8 q (.inr hq)).2.2 (by rw [e]; rfl)))
          have hbgd : bg ≤ w8.heap.size ∨ True := .inr trivial
          have HSpo := hide (spoil_any cl nu X.2.co X.2.rc X.2.ve gfo gfc gho ghc X.2.F X.2.H 0 wd (Nat.zero_le _) (ownsRow_base gfd (Nat.zero_le _)) (ownsRow_base ghd (Nat.zero_le _)) (by have := unhide HSt; omega) (by have := unhide HSt; omega))
          have hkz6 := (unhide HKK).2.2.2
          have kz8 := ((unhide F8).block z6 (lt_of_block hkz6) (fun h => h)).trans hkz6
          have kzd := (hfr.block z6 (lt_of_block kz8) (hyz kz8 (by decide))).trans kz8
          have hkA := (unhide HKK).1
          have kA8 := ((unhide F8).block zA (lt_of_block hkA) (fun h => h)).trans hkA
          have kAd := (hfr.block zA (lt_of_block kA8) (hyz kA8 (by decide))).trans kA8
          have q0 : wd.cell? ⟨zg, 0, none⟩ = some (.int .u32 (cl : Nat)) := by simp [World.cell?, kgd]
          have q1 : wd.cell? ⟨zg, 1, none⟩ = some (.int .u32 (nu : Nat)) := by simp [World.cell?, kgd]
          have q2 : wd.cell? ⟨zg, 2, none⟩ = some (.int .u8 (X.2.co : Nat)) := by simp [World.cell?, kgd]
          have q3 : wd.cell? ⟨zg, 3, none⟩ = some (.int .u32 (X.2.rc : Nat)) := by simp [World.cell?, kgd]
          have q4 : wd.cell? ⟨zg, 4, none⟩ = some (.int .u32 (X.2.ve : Nat)) := by simp [World.cell?, kgd]
          have q5 : wd.cell? ⟨zg, 5, none⟩ = some (.slice gfo X.2.F.length gfc) := by simp [World.cell?, kgd]
          have q6 : wd.cell? ⟨zg, 6, none⟩ = some (.slice gho X.2.H.length ghc) := by simp [World.cell?, kgd]
          have FD := hide (((unhide F8).mono (fun _ _ h => h.elim)).trans hfr (fun _ _ h => h) : Fr (fun k => k = yg) wx wd)
          have KZD := hide (And.intro kzd (And.intro kAd (And.intro gfd ghd)))
          clear hown hfr krr hl' hk hyz kgg kg8 kgd og8 gfd ghd hbgd hkz6 kz8 kzd hkA kA8 kAd
          go_wp2_with fail
          refine (unhide HSpo).mono ?_
          rintro e w9 ⟨rfl, hf9⟩
          have hz9 := (hf9.block z6 (lt_of_block (unhide KZD).1) (fun e => e.elim (own_box (unhide KZD).2.2.1 (unhide KZD).1 (by decide)) (own_box (unhide KZD).2.2.2 (unhide KZD).1 (by decide)))).trans (unhide KZD).1
          have hA9 := (hf9.block zA (lt_of_block (unhide KZD).2.1) (fun e => e.elim (own_box (unhide KZD).2.2.1 (unhide KZD).2.1 (by decide)) (own_box (unhide KZD).2.2.2 (unhide KZD).2.1 (by decide)))).trans (unhide KZD).2.1
          have hAP := (unhide HFin) w9 (((unhide FD).mono (fun k _ hk => .inl (by rw [hk]; rfl))).trans hf9 (fun _ _ h => .inr h))
          have z0 : w9.cell? ⟨z6, 0, none⟩ = some (.slice so S.length sc) := by simp [World.cell?, hz9]
          have z1 : w9.cell? ⟨z6, 1, none⟩ = some (.slice r6 L.length c6) := by simp [World.cell?, hz9]
          have y0 : w9.frozen? ⟨z6, 0, none⟩ = false := by simp [World.frozen?, hz9]
          have y1 : w9.frozen? ⟨z6, 1, none⟩ = false := by simp [World.frozen?, hz9]
          have a0 : w9.cell? ⟨zA, 0, none⟩ = some (.slice so S.length sc) := by simp [World.cell?, hA9]
          have a1 : w9.cell? ⟨zA, 1, none⟩ = some (.slice rn7 L'.length rc7) := by simp [World.cell?, hA9]
          have HAP := hide hAP
          have hlt := unhide hlt'
          clear hf9 hz9 hA9 hAP q0 q1 q2 q3 q4 q5 q6 r8 HSpo HFin HKK KZD FD HO8 F8 HO2 HKG2 hkl3 hlt3
          go_wp2_with fail
          go_roundw
          case rel => exact ⟨j + 1, hlt, by go_num, _, _, _, _, _, unhide HAP⟩
          case measure => simp [intOf]; omega
    ·have hkl : ¬ (j : Int) < (l.length : Int) := by omega
     have b1 : wm.cell? ⟨w.heap.size, 1, none⟩ = some (.slice ro l.length rc0) := by simp [World.cell?, hi.p.b]
     have HI := hide hi.p.f
     clear hi hj hlt
     go_wp2_with fail
     go_ret
     exact ⟨rfl, unhide HI⟩
end Go.Proofs.YtiknjghcjaaenaaGreatDoor
namespace Go.Proofs.YtiknjghcjaaenaaGreatDoor
open Go.ChangeShapes Go.WideShapes Go.ChangeAt Go.RowKit
set_option maxRecDepth 100000
theorem rapp_contract (H : Type) (enc : TypeId × Value → H) (W : World) (base : Nat) (args : Array Value) (ds gs : List (DataW H)) (before : List MemPlace)
  (hval : ∀ (j : Nat) t v, Tryz.f3.params[j]? = some t → args[j]? = some v → Value.okWide Tryz.prog W .any base t v)
  (hW : DataW.Whole enc Tryz.prog Tryz.f3.params.toList Rows.recordAppliesSpec.vars false W args.toList ds gs before) (hk : Rows.uptoSmall H (ds ++ gs) = true) (hL : laidMetH Tryz.prog Rows.recordAppliesUptoRow.laid W) :
  Calls Tryz.prog 3 args W fun e W' => ∃ v, e = .returned v ∧ Rows.recordAppliesSpec.post enc Tryz.prog Tryz.f3 false true false false W args v W' := by
 have hW' := hW
 obtain ⟨p, q, hA0, hV, rfl, hfz, hnd⟩ := hW
 have hA : DataW.TrodAll enc Tryz.prog W 0 (fun _ => true) true Tryz.f3.params.toList args.toList ds p := hA0
 rw [Tryz.params3] at hA hval
 obtain ⟨v0, vs0, d0, ds0, p0, q0, hargs, rfl, rfl, h0, r0⟩ := trodAll_cons hA
 obtain ⟨rfl, rfl, rfl⟩ := trodAll_nil r0
 obtain rfl : args = #[v0] := by cases args; simp_all
 obtain ⟨rfl, rfl⟩ := trodVars_none hV
 have hbulk : Rows.uptoBulk d0 + 0 ≤ 1048576 := by
  have h := of_decide_eq_true hk
  simpa only [List.append_nil, Rows.uptoBulkAll] using h
 have hL2 : laidMet Tryz.prog [("almoner/quant.units", Rows.laid_almoner_quant_units)] W := hL
 have hg := gu_of_laid hL2 (.head _)
 obtain ⟨sv, rv, pv, S, l, pl, rfl, hS, hq, hu, hp, bS, bl⟩ := play_of_readingP (hval 0 26 v0 rfl rfl) h0 (by omega)
 refine (rapplies_any sv rv pv S l pl W hS (by omega) hq (by omega) hu hg hp).mono fun e W' ⟨he, hf⟩ => ?_
 subst he
 have hlt : ∀ x ∈ p0 ++ [], x.block < W.heap.size := fun x hx => hW'.lt x (by simpa using hx)
 have hb := hf.below
 refine ⟨_, rfl, _, _, _, [], p0 ++ [], [], hW', ?_, ?_, ?_, hb.frame _, fun h => by cases h⟩
 ·exact trodAll_cons_mk (shut_bool Tryz.underlying4 true) trodAll_mk0
 ·exact trodAll_cons_mk (Below.trod (by kernel_rfl) (by kernel_rfl) (by decide +kernel) h0 hb (fun x hx => hlt x (by simp [hx]))) trodAll_mk0
 ·rfl
theorem rapp_laid_met (os : Os) : laidMetH Tryz.prog Rows.recordAppliesUptoRow.laid ((uWorld os).forCall (fun _ _ => 0) ⟨#[], #[.agg #[.slice none 0 0, .slice none 0 0, .slice none 0 0]], []⟩).memory :=
 laidMetH_of_parts (laidMet_of_run' 8 (by kernel_rfl) (by kernel_rfl)) (by kernel_rfl)
theorem rapp_reads (os : Os) {H : Type} (enc : TypeId × Value → H) : ∃ places, DataW.whole enc Tryz.prog ((uWorld os).forCall (fun _ _ => 0) ⟨#[], #[.agg #[.slice none 0 0, .slice none 0 0, .slice none 0 0]], []⟩).memory Tryz.f3.params.toList Rows.recordAppliesSpec.vars false #[Value.agg #[.slice none 0 0, .slice none 0 0, .slice none 0 0]].toList 8 = some ([.agg [.nil, .nil, .nil]], [], places) :=
 ⟨[], by kernel_rfl⟩
theorem rapp_lifted (os : Os) (started : os.Started) (H : Type) (enc : TypeId × Value → H) (F : Stop.Interp) :
  ReturnsInHanded {} Tryz.checked os 3 .any ((Rows.OpenSpec.upto Rows.recordAppliesSpec).preRow enc Tryz.prog Tryz.f3 Rows.recordAppliesUptoRow.domain false Rows.recordAppliesUptoRow.laid) (((Rows.OpenSpec.upto Rows.recordAppliesSpec).at F).post enc Tryz.prog Tryz.f3 false true false false) := by
 obtain ⟨places, hx⟩ := rapp_reads os enc
 refine returnsInHanded_of_row (C := Tryz.checked) (s := Rows.OpenSpec.upto Rows.recordAppliesSpec) Tryz.ownKnob started (by kernel_rfl) Tryz.func3
  (witness_row_atRef (enc := enc) (C := Tryz.checked) false (uWorld os) #[.agg #[.slice none 0 0, .slice none 0 0, .slice none 0 0]] rfl (by kernel_rfl) (by kernel_rfl) (by kernel_rfl)
   (OpenSpec.preRow_of_cond 8 hx (by kernel_rfl) (fun k hk => by cases hk; kernel_rfl) (by kernel_rfl) (rapp_laid_met os))) ?_
 intro W base args ds gs before hval hW _ hcond _ hL _ _
 exact rapp_contract H enc W base args ds gs before hval hW (hcond _ rfl) hL
theorem rapp_said : Rows.RecordAppliesUptoSaid :=
 OpenClaim.holds_of_cond 3 Tryz.f3 rfl rfl rfl rfl rfl rfl rfl ⟨rfl, rfl, rfl, rfl, rfl⟩ rfl rfl rfl rfl rfl (by kernel_rfl) Tryz.func3 (by kernel_rfl)
  (of_decide_eq_true (by kernel_rfl)) (by unfold Func.isWrapper; first | (rw [if_pos (by decide +kernel)]; kernel_rfl) | (rw [if_neg (by decide +kernel)]; exact ⟨rfl, rfl⟩))
  (fun os started H enc _ F => by rw [OpenClaim.pre_eq_preRow]; exact rapp_lifted os started H enc F)
theorem rapp_plain (f : FuncId) (fn : Func) (hf : Tryz.pinned.checked.prog.funcNamed Rows.recordAppliesUptoRow.func = some f) (hfn : Tryz.pinned.checked.prog.funcs[f]? = some fn) :
  false = Tryz.pinned.checked.prog.looks [] ∧ ∀ (j : Nat) t, fn.params[j]? = some t → Tryz.pinned.checked.prog.wantsStandIn t = false := by
 obtain rfl : f = 3 := Option.some.inj ((show Tryz.prog.funcNamed Rows.recordAppliesUptoRow.func = some 3 by kernel_rfl).symm.trans hf) |>.symm
 obtain rfl : fn = Tryz.f3 := (Option.some.inj (Tryz.func3.symm.trans hfn)).symm
 refine ⟨by kernel_rfl, fun j t ht => ?_⟩
 rw [Tryz.params3] at ht
 have ht' : t = 26 := by
  have h := Array.mem_of_getElem? ht
  simpa using h
 subst ht'
 exact (show Tryz.prog.wantsStandIn 26 = false by kernel_rfl)
theorem rapp_card : Rows.RecordAppliesUptoCardSaid :=
 Claim7.holds_tied_plain_at .later [] _ _ _ _ rapp_said (fun _ h => by cases h) (by kernel_rfl) (fun _ h => by cases h) recordAppliesUpto_row_tie rfl ⟨rfl, rfl⟩ (by kernel_rfl) rfl rapp_plain (by kernel_rfl)
#print axioms rapp_card
end Go.Proofs.YtiknjghcjaaenaaGreatDoor
