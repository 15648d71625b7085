import Derived.Test.YtdcopmkgmbiikaaGreatDoorPw7
import Derived.Deep.Cut
import Derived.Test.YtdcopmkgmbiikaaGreatDoorPw6
import Derived.Laws.StructEq
namespace Go.Proofs.YtdcopmkgmbiikaaGreatDoor
open Go.RowKit
end Go.Proofs.YtdcopmkgmbiikaaGreatDoor
namespace Go.Proofs.YtdcopmkgmbiikaaGreatDoor
open Go.RowKit
theorem wpList_load_midG {P : Program} {ops : Array Oper} {rest : List Oper} {op : Oper} {a : Act} {w : World} {Q : Exit → Act → World → Prop} (hw : Region.wanted op (yielded ops a.tmps) = true) (ty : TypeId) (x : Operand) (ho : op.op = .load ty x)
  (b o : Nat) (hx : a.eval x = .pointer (some ⟨b, o, none⟩)) (cs : List Value) (d : TypeDesc) (hc : w.rangeAt b o cs)
  (hu : P.underlying ty = some d) (hd : d.isRow = true) (hi : (P.info? ty).map (·.size) = some cs.length)
  (h : wpList P ops Q rest (a.put op.dst (.agg cs.toArray)) w) : wpList P ops Q (op :: rest) a w :=
 wpList_step fun K hK => by rw [if_pos hw]; exact wp_load_mid ty x ho b o hx cs d hc hu hd hi (hK _ _ h)
set_option linter.unusedSimpArgs false
theorem Tryz.sizeAnP : (Tryz.prog.info? 33).map (·.size) = some 7 := by kernel_rfl
theorem Tryz.sizeEvP : (Tryz.prog.info? 35).map (·.size) = some 13 := by kernel_rfl
theorem Tryz.sizeMsP : (Tryz.prog.info? 42).map (·.size) = some 35 := by kernel_rfl
theorem range_piece {w : World} {b o : Nat} {l cs : List Value} (h : ∀ (i : Nat) u, l[i]? = some u → w.cell? ⟨b, i, none⟩ = some u) (hc : ∀ (j : Nat) u, cs[j]? = some u → l[o + j]? = some u) : w.rangeAt b o cs := fun j u hu => h _ _ (hc j u hu)
set_option maxRecDepth 100000 in
set_option maxHeartbeats 4000000 in
theorem gspare_core (kd r1 r2 r3 r4 r5 r6 r7 r8 n0 c0 icl inu s1 s2 s3 s4 s5 n1 c1 n2 c2 co e0 e1 e2 e3 e4 e5 e6 e7 e8 n3 c3 ec n4 c4 le : Nat) (rs es : ByteArray) (a0 a1 a2 a3 a4 : Option Addr) (A B C b1 b2 b3 b4 b5 b6 : Bool) (w : World) (m1 : ((kd : Int) != 1) = b1) (m2 : ((kd : Int) != 2) = b2) (m3 : ((kd : Int) != 3) = b3) (m4 : ((kd : Int) != 4) = b4) (m5 : ((kd : Int) != 5) = b5) (m6 : ((kd : Int) != 6) = b6) (hM : (b1 = true ∧ b2 = true ∧ b3 = true ∧ b4 = true ∧ b5 = true ∧ b6 = true) ∨ (b1 = false ∧ b2 = true ∧ b3 = true ∧ b4 = true ∧ b5 = true ∧ b6 = true) ∨ (b1 = true ∧ b2 = false ∧ b3 = true ∧ b4 = true ∧ b5 = true ∧ b6 = true) ∨ (b1 = true ∧ b2 = true ∧ b3 = false ∧ b4 = true ∧ b5 = true ∧ b6 = true) ∨ (b1 = true ∧ b2 = true ∧ b3 = true ∧ b4 = false ∧ b5 = true ∧ b6 = true) ∨ (b1 = true ∧ b2 = true ∧ b3 = true ∧ b4 = true ∧ b5 = false ∧ b6 = true) ∨ (b1 = true ∧ b2 = true ∧ b3 = true ∧ b4 = true ∧ b5 = true ∧ b6 = false))
  (hR : ∀ wx, Calls Tryz.prog 122 #[.agg #[.int .u32 (r1 : Nat), .int .u32 (r2 : Nat), .int .u32 (r3 : Nat), .int .u8 (r4 : Nat), .int .u32 (r5 : Nat), .int .u32 (r6 : Nat), .int .u32 (r7 : Nat), .int .u32 (r8 : Nat), .slice a0 n0 c0, .string rs]] wx fun e w' => e = .returned (.bool (!A)) ∧ Fr (fun _ => False) wx w')
  (hA : ∀ wx, Calls Tryz.prog 123 #[.agg #[.int .u32 (s1 : Nat), .int .u32 (s2 : Nat), .int .u8 (s3 : Nat), .int .u32 (s4 : Nat), .int .u32 (s5 : Nat), .slice a1 n1 c1, .slice a2 n2 c2]] wx fun e w' => e = .returned (.bool (!B)) ∧ Fr (fun _ => False) wx w')
  (hE : ∀ wx, Calls Tryz.prog 124 #[.agg #[.int .u32 (e0 : Nat), .int .u32 (e1 : Nat), .int .u32 (e2 : Nat), .int .u32 (e3 : Nat), .int .u8 (e4 : Nat), .int .u32 (e5 : Nat), .int .u32 (e6 : Nat), .int .u32 (e7 : Nat), .int .u32 (e8 : Nat), .slice a3 n3 c3, .string es, .int .u8 (ec : Nat), .slice a4 n4 c4]] wx fun e w' => e = .returned (.bool (!C)) ∧ Fr (fun _ => False) wx w') :
  Calls Tryz.prog 97 #[.agg #[.int .u8 (kd : Nat), .int .u32 (r1 : Nat), .int .u32 (r2 : Nat), .int .u32 (r3 : Nat), .int .u8 (r4 : Nat), .int .u32 (r5 : Nat), .int .u32 (r6 : Nat), .int .u32 (r7 : Nat), .int .u32 (r8 : Nat), .slice a0 n0 c0, .string rs, .int .u32 (icl : Nat), .int .u32 (inu : Nat), .int .u32 (s1 : Nat), .int .u32 (s2 : Nat), .int .u8 (s3 : Nat), .int .u32 (s4 : Nat), .int .u32 (s5 : Nat), .slice a1 n1 c1, .slice a2 n2 c2, .int .u8 (co : Nat), .int .u32 (e0 : Nat), .int .u32 (e1 : Nat), .int .u32 (e2 : Nat), .int .u32 (e3 : Nat), .int .u8 (e4 : Nat), .int .u32 (e5 : Nat), .int .u32 (e6 : Nat), .int .u32 (e7 : Nat), .int .u32 (e8 : Nat), .slice a3 n3 c3, .string es, .int .u8 (ec : Nat), .slice a4 n4 c4, .int .u32 (le : Nat)]] w fun e w' => e = .returned (.bool ((b1 && A) || (b3 && B) || (b5 && C) || (b6 && le != 0) || (b4 && co != 0) || (b2 && b4 && !(icl == 0 && inu == 0)))) ∧ Fr (fun _ => False) w w' := by
 obtain ⟨RES, hRES⟩ : ∃ RES, ((b1 && A) || (b3 && B) || (b5 && C) || (b6 && le != 0) || (b4 && co != 0) || (b2 && b4 && !(icl == 0 && inu == 0))) = RES := ⟨_, rfl⟩
 rw [hRES]
 have HRES := hid hRES
 clear hRES
 rcases hM with ⟨rfl, rfl, rfl, rfl, rfl, rfl⟩ | ⟨rfl, rfl, rfl, rfl, rfl, rfl⟩ | ⟨rfl, rfl, rfl, rfl, rfl, rfl⟩ | ⟨rfl, rfl, rfl, rfl, rfl, rfl⟩ | ⟨rfl, rfl, rfl, rfl, rfl, rfl⟩ | ⟨rfl, rfl, rfl, rfl, rfl, rfl⟩ | ⟨rfl, rfl, rfl, rfl, rfl, rfl⟩
 all_goals
  have HR := hid hR
  have HA := hid hA
  have HE := hid hE
  clear hR hA hE
  go_enter Tryz.func97, Tryz.ntmps97
  obtain ⟨W1, hW1⟩ : ∃ W1, w.alloc (.cells #[.int .u8 (kd : Nat), .int .u32 (r1 : Nat), .int .u32 (r2 : Nat), .int .u32 (r3 : Nat), .int .u8 (r4 : Nat), .int .u32 (r5 : Nat), .int .u32 (r6 : Nat), .int .u32 (r7 : Nat), .int .u32 (r8 : Nat), .slice a0 n0 c0, .string rs, .int .u32 (icl : Nat), .int .u32 (inu : Nat), .int .u32 (s1 : Nat), .int .u32 (s2 : Nat), .int .u8 (s3 : Nat), .int .u32 (s4 : Nat), .int .u32 (s5 : Nat), .slice a1 n1 c1, .slice a2 n2 c2, .int .u8 (co : Nat), .int .u32 (e0 : Nat), .int .u32 (e1 : Nat), .int .u32 (e2 : Nat), .int .u32 (e3 : Nat), .int .u8 (e4 : Nat), .int .u32 (e5 : Nat), .int .u32 (e6 : Nat), .int .u32 (e7 : Nat), .int .u32 (e8 : Nat), .slice a3 n3 c3, .string es, .int .u8 (ec : Nat), .slice a4 n4 c4, .int .u32 (le : Nat)] 42) = W1 := ⟨_, rfl⟩
  have hb1 : W1.heap[w.heap.size]? = some (.cells #[.int .u8 (kd : Nat), .int .u32 (r1 : Nat), .int .u32 (r2 : Nat), .int .u32 (r3 : Nat), .int .u8 (r4 : Nat), .int .u32 (r5 : Nat), .int .u32 (r6 : Nat), .int .u32 (r7 : Nat), .int .u32 (r8 : Nat), .slice a0 n0 c0, .string rs, .int .u32 (icl : Nat), .int .u32 (inu : Nat), .int .u32 (s1 : Nat), .int .u32 (s2 : Nat), .int .u8 (s3 : Nat), .int .u32 (s4 : Nat), .int .u32 (s5 : Nat), .slice a1 n1 c1, .slice a2 n2 c2, .int .u8 (co : Nat), .int .u32 (e0 : Nat), .int .u32 (e1 : Nat), .int .u32 (e2 : Nat), .int .u32 (e3 : Nat), .int .u8 (e4 : Nat), .int .u32 (e5 : Nat), .int .u32 (e6 : Nat), .int .u32 (e7 : Nat), .int .u32 (e8 : Nat), .slice a3 n3 c3, .string es, .int .u8 (ec : Nat), .slice a4 n4 c4, .int .u32 (le : Nat)] 42) := by rw [← hW1]; exact heap_alloc_new w _
  have hf1 : Fr (fun _ => False) w W1 := by rw [← hW1]; exact box1 w _
  have HB : Hid (∀ W', Fr (fun _ => False) W1 W' → (∀ (i : Nat) u, ([.int .u8 (kd : Nat), .int .u32 (r1 : Nat), .int .u32 (r2 : Nat), .int .u32 (r3 : Nat), .int .u8 (r4 : Nat), .int .u32 (r5 : Nat), .int .u32 (r6 : Nat), .int .u32 (r7 : Nat), .int .u32 (r8 : Nat), .slice a0 n0 c0, .string rs, .int .u32 (icl : Nat), .int .u32 (inu : Nat), .int .u32 (s1 : Nat), .int .u32 (s2 : Nat), .int .u8 (s3 : Nat), .int .u32 (s4 : Nat), .int .u32 (s5 : Nat), .slice a1 n1 c1, .slice a2 n2 c2, .int .u8 (co : Nat), .int .u32 (e0 : Nat), .int .u32 (e1 : Nat), .int .u32 (e2 : Nat), .int .u32 (e3 : Nat), .int .u8 (e4 : Nat), .int .u32 (e5 : Nat), .int .u32 (e6 : Nat), .int .u32 (e7 : Nat), .int .u32 (e8 : Nat), .slice a3 n3 c3, .string es, .int .u8 (ec : Nat), .slice a4 n4 c4, .int .u32 (le : Nat)] : List Value)[i]? = some u → W'.cell? ⟨w.heap.size, i, none⟩ = some u) ∧ W'.rangeAt w.heap.size 1 [.int .u32 (r1 : Nat), .int .u32 (r2 : Nat), .int .u32 (r3 : Nat), .int .u8 (r4 : Nat), .int .u32 (r5 : Nat), .int .u32 (r6 : Nat), .int .u32 (r7 : Nat), .int .u32 (r8 : Nat), .slice a0 n0 c0, .string rs] ∧ W'.rangeAt w.heap.size 13 [.int .u32 (s1 : Nat), .int .u32 (s2 : Nat), .int .u8 (s3 : Nat), .int .u32 (s4 : Nat), .int .u32 (s5 : Nat), .slice a1 n1 c1, .slice a2 n2 c2] ∧ W'.rangeAt w.heap.size 21 [.int .u32 (e0 : Nat), .int .u32 (e1 : Nat), .int .u32 (e2 : Nat), .int .u32 (e3 : Nat), .int .u8 (e4 : Nat), .int .u32 (e5 : Nat), .int .u32 (e6 : Nat), .int .u32 (e7 : Nat), .int .u32 (e8 : Nat), .slice a3 n3 c3, .string es, .int .u8 (ec : Nat), .slice a4 n4 c4]) := hid (fun W' hf => by
   have hb := (hf.block _ (lt_of_block hb1) (fun h => h)).trans hb1
   have hc : ∀ (i : Nat) u, ([.int .u8 (kd : Nat), .int .u32 (r1 : Nat), .int .u32 (r2 : Nat), .int .u32 (r3 : Nat), .int .u8 (r4 : Nat), .int .u32 (r5 : Nat), .int .u32 (r6 : Nat), .int .u32 (r7 : Nat), .int .u32 (r8 : Nat), .slice a0 n0 c0, .string rs, .int .u32 (icl : Nat), .int .u32 (inu : Nat), .int .u32 (s1 : Nat), .int .u32 (s2 : Nat), .int .u8 (s3 : Nat), .int .u32 (s4 : Nat), .int .u32 (s5 : Nat), .slice a1 n1 c1, .slice a2 n2 c2, .int .u8 (co : Nat), .int .u32 (e0 : Nat), .int .u32 (e1 : Nat), .int .u32 (e2 : Nat), .int .u32 (e3 : Nat), .int .u8 (e4 : Nat), .int .u32 (e5 : Nat), .int .u32 (e6 : Nat), .int .u32 (e7 : Nat), .int .u32 (e8 : Nat), .slice a3 n3 c3, .string es, .int .u8 (ec : Nat), .slice a4 n4 c4, .int .u32 (le : Nat)] : List Value)[i]? = some u → W'.cell? ⟨w.heap.size, i, none⟩ = some u := fun i u hu => cOB hb (by simpa using hu)
   exact ⟨hc, range_piece hc (fun j u hu => (List.getElem?_append_left (l₁ := [.int .u32 (r1 : Nat), .int .u32 (r2 : Nat), .int .u32 (r3 : Nat), .int .u8 (r4 : Nat), .int .u32 (r5 : Nat), .int .u32 (r6 : Nat), .int .u32 (r7 : Nat), .int .u32 (r8 : Nat), .slice a0 n0 c0, .string rs]) (l₂ := [.int .u32 (icl : Nat), .int .u32 (inu : Nat), .int .u32 (s1 : Nat), .int .u32 (s2 : Nat), .int .u8 (s3 : Nat), .int .u32 (s4 : Nat), .int .u32 (s5 : Nat), .slice a1 n1 c1, .slice a2 n2 c2, .int .u8 (co : Nat), .int .u32 (e0 : Nat), .int .u32 (e1 : Nat), .int .u32 (e2 : Nat), .int .u32 (e3 : Nat), .int .u8 (e4 : Nat), .int .u32 (e5 : Nat), .int .u32 (e6 : Nat), .int .u32 (e7 : Nat), .int .u32 (e8 : Nat), .slice a3 n3 c3, .string es, .int .u8 (ec : Nat), .slice a4 n4 c4, .int .u32 (le : Nat)]) (List.getElem?_eq_some_iff.1 hu).1).trans hu |> fun h => by rw [Nat.add_comm]; exact h), range_piece hc (fun j u hu => (List.getElem?_append_left (l₁ := [.int .u32 (s1 : Nat), .int .u32 (s2 : Nat), .int .u8 (s3 : Nat), .int .u32 (s4 : Nat), .int .u32 (s5 : Nat), .slice a1 n1 c1, .slice a2 n2 c2]) (l₂ := [.int .u8 (co : Nat), .int .u32 (e0 : Nat), .int .u32 (e1 : Nat), .int .u32 (e2 : Nat), .int .u32 (e3 : Nat), .int .u8 (e4 : Nat), .int .u32 (e5 : Nat), .int .u32 (e6 : Nat), .int .u32 (e7 : Nat), .int .u32 (e8 : Nat), .slice a3 n3 c3, .string es, .int .u8 (ec : Nat), .slice a4 n4 c4, .int .u32 (le : Nat)]) (List.getElem?_eq_some_iff.1 hu).1).trans hu |> fun h => by rw [Nat.add_comm]; exact h), range_piece hc (fun j u hu => (List.getElem?_append_left (l₁ := [.int .u32 (e0 : Nat), .int .u32 (e1 : Nat), .int .u32 (e2 : Nat), .int .u32 (e3 : Nat), .int .u8 (e4 : Nat), .int .u32 (e5 : Nat), .int .u32 (e6 : Nat), .int .u32 (e7 : Nat), .int .u32 (e8 : Nat), .slice a3 n3 c3, .string es, .int .u8 (ec : Nat), .slice a4 n4 c4]) (l₂ := [.int .u32 (le : Nat)]) (List.getElem?_eq_some_iff.1 hu).1).trans hu |> fun h => by rw [Nat.add_comm]; exact h)⟩)
  have HF0 := hid hf1
  have HF : Hid (Fr (fun _ => False) W1 W1) := hid (Fr.refl _ _)
  have k0 := (uh HB _ (uh HF)).1 0 _ rfl
  have k11 := (uh HB _ (uh HF)).1 11 _ rfl
  have k12 := (uh HB _ (uh HF)).1 12 _ rfl
  have k20 := (uh HB _ (uh HF)).1 20 _ rfl
  have k34 := (uh HB _ (uh HF)).1 34 _ rfl
  have HR0 := hid (uh HB _ (uh HF)).2
  clear hb1 hf1
  go_wp2_with (first
   | (go_at_call 122; refine ((uh HR) _).mono ?_; rintro e w1 ⟨rfl, hf1⟩; have HF := hid ((uh HF).trans hf1 (fun _ _ h => h)); clear hf1; have k0 := (uh HB _ (uh HF)).1 0 _ rfl; have k11 := (uh HB _ (uh HF)).1 11 _ rfl; have k12 := (uh HB _ (uh HF)).1 12 _ rfl; have k20 := (uh HB _ (uh HF)).1 20 _ rfl; have k34 := (uh HB _ (uh HF)).1 34 _ rfl; have HR1 := hid (uh HB _ (uh HF)).2)
   | (go_at_call 123; refine ((uh HA) _).mono ?_; rintro e w2 ⟨rfl, hf2⟩; have HF := hid ((uh HF).trans hf2 (fun _ _ h => h)); clear hf2; have k0 := (uh HB _ (uh HF)).1 0 _ rfl; have k11 := (uh HB _ (uh HF)).1 11 _ rfl; have k12 := (uh HB _ (uh HF)).1 12 _ rfl; have k20 := (uh HB _ (uh HF)).1 20 _ rfl; have k34 := (uh HB _ (uh HF)).1 34 _ rfl; have HR2 := hid (uh HB _ (uh HF)).2)
   | (go_at_call 124; refine ((uh HE) _).mono ?_; rintro e w3 ⟨rfl, hf3⟩; have HF := hid ((uh HF).trans hf3 (fun _ _ h => h)); clear hf3; have k0 := (uh HB _ (uh HF)).1 0 _ rfl; have k11 := (uh HB _ (uh HF)).1 11 _ rfl; have k12 := (uh HB _ (uh HF)).1 12 _ rfl; have k20 := (uh HB _ (uh HF)).1 20 _ rfl; have k34 := (uh HB _ (uh HF)).1 34 _ rfl; have HR3 := hid (uh HB _ (uh HF)).2)
   | ((with_reducible refine wpList_at 8 ?_); refine wpList_load_midG rfl 30 (.tmp 7) rfl w.heap.size 1 rfl _ _ (uh HR3).1 Tryz.underlying30 rfl Tryz.sizeRqP ?_)
   | ((with_reducible refine wpList_at 8 ?_); refine wpList_load_midG rfl 30 (.tmp 7) rfl w.heap.size 1 rfl _ _ (uh HR2).1 Tryz.underlying30 rfl Tryz.sizeRqP ?_)
   | ((with_reducible refine wpList_at 8 ?_); refine wpList_load_midG rfl 30 (.tmp 7) rfl w.heap.size 1 rfl _ _ (uh HR1).1 Tryz.underlying30 rfl Tryz.sizeRqP ?_)
   | ((with_reducible refine wpList_at 8 ?_); refine wpList_load_midG rfl 30 (.tmp 7) rfl w.heap.size 1 rfl _ _ (uh HR0).1 Tryz.underlying30 rfl Tryz.sizeRqP ?_)
   | ((with_reducible refine wpList_at 18 ?_); refine wpList_load_midG rfl 33 (.tmp 17) rfl w.heap.size 13 rfl _ _ (uh HR3).2.1 Tryz.underlying33 rfl Tryz.sizeAnP ?_)
   | ((with_reducible refine wpList_at 18 ?_); refine wpList_load_midG rfl 33 (.tmp 17) rfl w.heap.size 13 rfl _ _ (uh HR2).2.1 Tryz.underlying33 rfl Tryz.sizeAnP ?_)
   | ((with_reducible refine wpList_at 18 ?_); refine wpList_load_midG rfl 33 (.tmp 17) rfl w.heap.size 13 rfl _ _ (uh HR1).2.1 Tryz.underlying33 rfl Tryz.sizeAnP ?_)
   | ((with_reducible refine wpList_at 18 ?_); refine wpList_load_midG rfl 33 (.tmp 17) rfl w.heap.size 13 rfl _ _ (uh HR0).2.1 Tryz.underlying33 rfl Tryz.sizeAnP ?_)
   | ((with_reducible refine wpList_at 29 ?_); refine wpList_load_midG rfl 35 (.tmp 28) rfl w.heap.size 21 rfl _ _ (uh HR3).2.2 Tryz.underlying35 rfl Tryz.sizeEvP ?_)
   | ((with_reducible refine wpList_at 29 ?_); refine wpList_load_midG rfl 35 (.tmp 28) rfl w.heap.size 21 rfl _ _ (uh HR2).2.2 Tryz.underlying35 rfl Tryz.sizeEvP ?_)
   | ((with_reducible refine wpList_at 29 ?_); refine wpList_load_midG rfl 35 (.tmp 28) rfl w.heap.size 21 rfl _ _ (uh HR1).2.2 Tryz.underlying35 rfl Tryz.sizeEvP ?_)
   | ((with_reducible refine wpList_at 29 ?_); refine wpList_load_midG rfl 35 (.tmp 28) rfl w.heap.size 21 rfl _ _ (uh HR0).2.2 Tryz.underlying35 rfl Tryz.sizeEvP ?_))
  all_goals
   go_ret
   refine ⟨?_, (uh HF0).trans (uh HF) (fun _ _ h => h)⟩
   rw [← uh HRES]
   clear HRES HR HA HE HB HF HF0 hW1 HR0
   first | (simp_all [bne_cast]; done) | (simp_all [bne_cast]; rfl)
theorem ne_dec (k m : Nat) : (((k : Nat) : Int) != (m : Int)) = decide (k ≠ m) := by
 by_cases h : k = m
 ·subst h; simp
 ·have h2 : (k : Int) ≠ (m : Int) := by omega
  rw [bne_iff_ne.2 h2, decide_eq_true h]
theorem gspare_any (v : MsM) (a0 a1 a2 a3 a4 : Option Addr) (c0 c1 c2 c3 c4 : Nat) (w : World) (hv : v.ok) (hn : v.lens) : Calls Tryz.prog 97 #[.agg (v.vals (.slice a0 v.rq.fs.length c0) (.slice a1 v.an.fs.length c1) (.slice a2 v.an.hi.length c2) (.slice a3 v.ev.rq.fs.length c3) (.slice a4 v.ev.dg.length c4))] w fun e w' => e = .returned (.bool (spareB v)) ∧ Fr (fun _ => False) w w' :=
 gspare_core v.kd v.rq.cl v.rq.nu v.rq.ac v.rq.op v.rq.re v.rq.ve v.rq.wa v.rq.ow v.rq.fs.length c0 v.icl v.inu v.an.cl v.an.nu v.an.co v.an.re v.an.ve v.an.fs.length c1 v.an.hi.length c2 v.co v.ev.pl v.ev.rq.cl v.ev.rq.nu v.ev.rq.ac v.ev.rq.op v.ev.rq.re v.ev.rq.ve v.ev.rq.wa v.ev.rq.ow v.ev.rq.fs.length c3 v.ev.co v.ev.dg.length c4 v.le v.rq.rs v.ev.rq.rs a0 a1 a2 a3 a4 v.rq.is v.an.is v.ev.is _ _ _ _ _ _ w (ne_dec v.kd 1) (ne_dec v.kd 2) (ne_dec v.kd 3) (ne_dec v.kd 4) (ne_dec v.kd 5) (ne_dec v.kd 6) (by
  rcases (show v.kd = 1 ∨ v.kd = 2 ∨ v.kd = 3 ∨ v.kd = 4 ∨ v.kd = 5 ∨ v.kd = 6 ∨ (v.kd ≠ 1 ∧ v.kd ≠ 2 ∧ v.kd ≠ 3 ∧ v.kd ≠ 4 ∧ v.kd ≠ 5 ∧ v.kd ≠ 6) by omega) with h | h | h | h | h | h | ⟨q1, q2, q3, q4, q5, q6⟩
  ·simp [h]
  ·simp [h]
  ·simp [h]
  ·simp [h]
  ·simp [h]
  ·simp [h]
  ·simp [q1, q2, q3, q4, q5, q6])
  (fun wx => gemptyRequest_any v.rq a0 c0 wx hv.rq hn.rq) (fun wx => gemptyAnswer_any v.an a1 c1 a2 c2 wx hv.an hn.an hn.hi) (fun wx => gemptyEvent_any v.ev a3 c3 a4 c4 wx hv.ev hn.ev hn.dg)
set_option linter.unusedSimpArgs false
structure MsB (v : MsM) : Prop where
 s0 : ∀ f ∈ v.rq.fs, f.name.size < 140737488355000 ∧ f.text.size < 140737488355000
 s1 : ∀ f ∈ v.an.fs, f.name.size < 140737488355000 ∧ f.text.size < 140737488355000
 s3 : ∀ f ∈ v.ev.rq.fs, f.name.size < 140737488355000 ∧ f.text.size < 140737488355000
 l0 : v.rq.fs.length ≤ 1048576
 l1 : v.an.fs.length ≤ 1048576
 l2 : v.an.hi.length ≤ 1048576
 l3 : v.ev.rq.fs.length ≤ 1048576
 r0 : v.rq.rs.size < 140737488355000
 r3 : v.ev.rq.rs.size < 140737488355000
set_option maxRecDepth 100000 in
set_option maxHeartbeats 4000000 in
theorem gmessage_any (HFc : FieldsC) (v : MsM) (a0 a1 a2 a3 a4 : Option Addr) (c0 c1 c2 c3 c4 : Nat) (w : World) (hv : v.ok) (hx : MsI w v (.slice a0 v.rq.fs.length c0) (.slice a1 v.an.fs.length c1) (.slice a2 v.an.hi.length c2) (.slice a3 v.ev.rq.fs.length c3) (.slice a4 v.ev.dg.length c4)) (hb : MsB v) :
  Calls Tryz.prog 56 #[.agg (v.vals (.slice a0 v.rq.fs.length c0) (.slice a1 v.an.fs.length c1) (.slice a2 v.an.hi.length c2) (.slice a3 v.ev.rq.fs.length c3) (.slice a4 v.ev.dg.length c4))] w fun e w' => ∃ y L, e = .returned y ∧ PL w' w.heap.size y L ∧ L.map PV.p = messageD v ∧ L.length ≤ 16777216 ∧ Fr (fun _ => False) w w' := by
 have HLn : Hid v.lens := hid ⟨hx.i0.len, hx.i1.len, hx.i2.len, hx.i3.len, hx.i4.len⟩
 have HSp : Hid (∀ wx, Calls Tryz.prog 97 #[.agg #[.int .u8 (v.kd : Nat), .int .u32 (v.rq.cl : Nat), .int .u32 (v.rq.nu : Nat), .int .u32 (v.rq.ac : Nat), .int .u8 (v.rq.op : Nat), .int .u32 (v.rq.re : Nat), .int .u32 (v.rq.ve : Nat), .int .u32 (v.rq.wa : Nat), .int .u32 (v.rq.ow : Nat), .slice a0 v.rq.fs.length c0, .string v.rq.rs, .int .u32 (v.icl : Nat), .int .u32 (v.inu : Nat), .int .u32 (v.an.cl : Nat), .int .u32 (v.an.nu : Nat), .int .u8 (v.an.co : Nat), .int .u32 (v.an.re : Nat), .int .u32 (v.an.ve : Nat), .slice a1 v.an.fs.length c1, .slice a2 v.an.hi.length c2, .int .u8 (v.co : Nat), .int .u32 (v.ev.pl : Nat), .int .u32 (v.ev.rq.cl : Nat), .int .u32 (v.ev.rq.nu : Nat), .int .u32 (v.ev.rq.ac : Nat), .int .u8 (v.ev.rq.op : Nat), .int .u32 (v.ev.rq.re : Nat), .int .u32 (v.ev.rq.ve : Nat), .int .u32 (v.ev.rq.wa : Nat), .int .u32 (v.ev.rq.ow : Nat), .slice a3 v.ev.rq.fs.length c3, .string v.ev.rq.rs, .int .u8 (v.ev.co : Nat), .slice a4 v.ev.dg.length c4, .int .u32 (v.le : Nat)]] wx fun e w' => e = .returned (.bool (spareB v)) ∧ Fr (fun _ => False) wx w') := hid (fun wx => gspare_any v a0 a1 a2 a3 a4 c0 c1 c2 c3 c4 wx hv (uh HLn))
 obtain ⟨SP, hSP⟩ : ∃ SP, spareB v = SP := ⟨_, rfl⟩
 rw [hSP] at HSp
 have HM : Hid (messageD v = ⟨n_kind, 1, v.kd, [], if v.kd < 1 ∨ 7 < v.kd then 5 else if SP = true then 4 else 0⟩ :: message2D v) := hid (by unfold messageD; rw [hSP])
 obtain ⟨MD, hMD⟩ : ∃ MD, messageD v = MD := ⟨_, rfl⟩
 rw [hMD] at HM ⊢
 obtain ⟨KW, hKW⟩ : ∃ KW, (if v.kd < 1 ∨ 7 < v.kd then 5 else if SP = true then 4 else 0 : Nat) = KW := ⟨_, rfl⟩
 rw [hKW] at HM
 have HK := hid hKW
 have hkd := hv.kd
 have HV := hid (And.intro hv (And.intro hx hb))
 clear hv hx hb hSP hMD hKW HLn
 unfold MsM.vals
 go_enter Tryz.func56, Tryz.ntmps56
 obtain ⟨W1, hW1⟩ : ∃ W1, w.alloc (.cells #[.int .u8 (v.kd : Nat), .int .u32 (v.rq.cl : Nat), .int .u32 (v.rq.nu : Nat), .int .u32 (v.rq.ac : Nat), .int .u8 (v.rq.op : Nat), .int .u32 (v.rq.re : Nat), .int .u32 (v.rq.ve : Nat), .int .u32 (v.rq.wa : Nat), .int .u32 (v.rq.ow : Nat), .slice a0 v.rq.fs.length c0, .string v.rq.rs, .int .u32 (v.icl : Nat), .int .u32 (v.inu : Nat), .int .u32 (v.an.cl : Nat), .int .u32 (v.an.nu : Nat), .int .u8 (v.an.co : Nat), .int .u32 (v.an.re : Nat), .int .u32 (v.an.ve : Nat), .slice a1 v.an.fs.length c1, .slice a2 v.an.hi.length c2, .int .u8 (v.co : Nat), .int .u32 (v.ev.pl : Nat), .int .u32 (v.ev.rq.cl : Nat), .int .u32 (v.ev.rq.nu : Nat), .int .u32 (v.ev.rq.ac : Nat), .int .u8 (v.ev.rq.op : Nat), .int .u32 (v.ev.rq.re : Nat), .int .u32 (v.ev.rq.ve : Nat), .int .u32 (v.ev.rq.wa : Nat), .int .u32 (v.ev.rq.ow : Nat), .slice a3 v.ev.rq.fs.length c3, .string v.ev.rq.rs, .int .u8 (v.ev.co : Nat), .slice a4 v.ev.dg.length c4, .int .u32 (v.le : Nat)] 42) = W1 := ⟨_, rfl⟩
 have hf1 : Fr (fun _ => False) w W1 := by rw [← hW1]; exact box1 w _
 have hb1 : W1.heap[w.heap.size]? = some (.cells #[.int .u8 (v.kd : Nat), .int .u32 (v.rq.cl : Nat), .int .u32 (v.rq.nu : Nat), .int .u32 (v.rq.ac : Nat), .int .u8 (v.rq.op : Nat), .int .u32 (v.rq.re : Nat), .int .u32 (v.rq.ve : Nat), .int .u32 (v.rq.wa : Nat), .int .u32 (v.rq.ow : Nat), .slice a0 v.rq.fs.length c0, .string v.rq.rs, .int .u32 (v.icl : Nat), .int .u32 (v.inu : Nat), .int .u32 (v.an.cl : Nat), .int .u32 (v.an.nu : Nat), .int .u8 (v.an.co : Nat), .int .u32 (v.an.re : Nat), .int .u32 (v.an.ve : Nat), .slice a1 v.an.fs.length c1, .slice a2 v.an.hi.length c2, .int .u8 (v.co : Nat), .int .u32 (v.ev.pl : Nat), .int .u32 (v.ev.rq.cl : Nat), .int .u32 (v.ev.rq.nu : Nat), .int .u32 (v.ev.rq.ac : Nat), .int .u8 (v.ev.rq.op : Nat), .int .u32 (v.ev.rq.re : Nat), .int .u32 (v.ev.rq.ve : Nat), .int .u32 (v.ev.rq.wa : Nat), .int .u32 (v.ev.rq.ow : Nat), .slice a3 v.ev.rq.fs.length c3, .string v.ev.rq.rs, .int .u8 (v.ev.co : Nat), .slice a4 v.ev.dg.length c4, .int .u32 (v.le : Nat)] 42) := by rw [← hW1]; exact heap_alloc_new w _
 have HB : Hid (∀ W', Fr (fun _ => False) W1 W' → ∀ (i : Nat) u, ([.int .u8 (v.kd : Nat), .int .u32 (v.rq.cl : Nat), .int .u32 (v.rq.nu : Nat), .int .u32 (v.rq.ac : Nat), .int .u8 (v.rq.op : Nat), .int .u32 (v.rq.re : Nat), .int .u32 (v.rq.ve : Nat), .int .u32 (v.rq.wa : Nat), .int .u32 (v.rq.ow : Nat), .slice a0 v.rq.fs.length c0, .string v.rq.rs, .int .u32 (v.icl : Nat), .int .u32 (v.inu : Nat), .int .u32 (v.an.cl : Nat), .int .u32 (v.an.nu : Nat), .int .u8 (v.an.co : Nat), .int .u32 (v.an.re : Nat), .int .u32 (v.an.ve : Nat), .slice a1 v.an.fs.length c1, .slice a2 v.an.hi.length c2, .int .u8 (v.co : Nat), .int .u32 (v.ev.pl : Nat), .int .u32 (v.ev.rq.cl : Nat), .int .u32 (v.ev.rq.nu : Nat), .int .u32 (v.ev.rq.ac : Nat), .int .u8 (v.ev.rq.op : Nat), .int .u32 (v.ev.rq.re : Nat), .int .u32 (v.ev.rq.ve : Nat), .int .u32 (v.ev.rq.wa : Nat), .int .u32 (v.ev.rq.ow : Nat), .slice a3 v.ev.rq.fs.length c3, .string v.ev.rq.rs, .int .u8 (v.ev.co : Nat), .slice a4 v.ev.dg.length c4, .int .u32 (v.le : Nat)] : List Value)[i]? = some u → W'.cell? ⟨w.heap.size, i, none⟩ = some u) := hid (fun W' hf i u hu => by
  have hb := (hf.block _ (lt_of_block hb1) (fun h => h)).trans hb1
  exact cOB hb (by simpa using hu))
 have HS1 : Hid (∀ W', Fr (fun _ => False) W1 W' → W'.cell? ⟨w.heap.size, 0, none⟩ = some (.int .u8 (v.kd : Nat)) ∧ W'.rangeAt w.heap.size 0 [.int .u8 (v.kd : Nat), .int .u32 (v.rq.cl : Nat), .int .u32 (v.rq.nu : Nat), .int .u32 (v.rq.ac : Nat), .int .u8 (v.rq.op : Nat), .int .u32 (v.rq.re : Nat), .int .u32 (v.rq.ve : Nat), .int .u32 (v.rq.wa : Nat), .int .u32 (v.rq.ow : Nat), .slice a0 v.rq.fs.length c0, .string v.rq.rs, .int .u32 (v.icl : Nat), .int .u32 (v.inu : Nat), .int .u32 (v.an.cl : Nat), .int .u32 (v.an.nu : Nat), .int .u8 (v.an.co : Nat), .int .u32 (v.an.re : Nat), .int .u32 (v.an.ve : Nat), .slice a1 v.an.fs.length c1, .slice a2 v.an.hi.length c2, .int .u8 (v.co : Nat), .int .u32 (v.ev.pl : Nat), .int .u32 (v.ev.rq.cl : Nat), .int .u32 (v.ev.rq.nu : Nat), .int .u32 (v.ev.rq.ac : Nat), .int .u8 (v.ev.rq.op : Nat), .int .u32 (v.ev.rq.re : Nat), .int .u32 (v.ev.rq.ve : Nat), .int .u32 (v.ev.rq.wa : Nat), .int .u32 (v.ev.rq.ow : Nat), .slice a3 v.ev.rq.fs.length c3, .string v.ev.rq.rs, .int .u8 (v.ev.co : Nat), .slice a4 v.ev.dg.length c4, .int .u32 (v.le : Nat)]) := hid (fun W' hf => ⟨(uh HB) W' hf 0 _ rfl, fun j u hu => by rw [Nat.zero_add]; exact (uh HB) W' hf j u hu⟩)
 have hlt1 : w.heap.size < W1.heap.size := lt_of_block hb1
 have HF1 := hid hf1
 have hwk := wrapU (n := v.kd) (by omega)
 clear hb1 hf1
 go_wp2_with fail
 clear hW1
 have hsp : (if SP = true then (4 : Int) else 0) = ((if SP = true then 4 else 0 : Nat) : Int) := by cases SP <;> rfl
 obtain ⟨SW, hSW⟩ : ∃ SW, (if SP = true then 4 else 0 : Nat) = SW := ⟨_, rfl⟩
 rw [hSW] at hsp
 have HSW := hid hSW
 clear hSW
 go_cut [3] from 5 to 11 (fun s wx => ∃ b : Nat, s = .pointer (some ⟨b, 0, none⟩) ∧ W1.heap.size ≤ b ∧ wx.heap[b]? = some (.cells #[.string n_kind, .int .i64 1, .int .u64 (v.kd : Nat), .slice none 0 0, .int .i64 (SW : Nat)] 110) ∧ Fr (fun _ => False) W1 wx)
 case first =>
  refine wp_region_held_drew (S := (fun W : World => W.cell? ⟨w.heap.size, 0, none⟩ = some (.int .u8 (v.kd : Nat)) ∧ W.rangeAt w.heap.size 0 [.int .u8 (v.kd : Nat), .int .u32 (v.rq.cl : Nat), .int .u32 (v.rq.nu : Nat), .int .u32 (v.rq.ac : Nat), .int .u8 (v.rq.op : Nat), .int .u32 (v.rq.re : Nat), .int .u32 (v.rq.ve : Nat), .int .u32 (v.rq.wa : Nat), .int .u32 (v.rq.ow : Nat), .slice a0 v.rq.fs.length c0, .string v.rq.rs, .int .u32 (v.icl : Nat), .int .u32 (v.inu : Nat), .int .u32 (v.an.cl : Nat), .int .u32 (v.an.nu : Nat), .int .u8 (v.an.co : Nat), .int .u32 (v.an.re : Nat), .int .u32 (v.an.ve : Nat), .slice a1 v.an.fs.length c1, .slice a2 v.an.hi.length c2, .int .u8 (v.co : Nat), .int .u32 (v.ev.pl : Nat), .int .u32 (v.ev.rq.cl : Nat), .int .u32 (v.ev.rq.nu : Nat), .int .u32 (v.ev.rq.ac : Nat), .int .u8 (v.ev.rq.op : Nat), .int .u32 (v.ev.rq.re : Nat), .int .u32 (v.ev.rq.ve : Nat), .int .u32 (v.ev.rq.wa : Nat), .int .u32 (v.ev.rq.ow : Nat), .slice a3 v.ev.rq.fs.length c3, .string v.ev.rq.rs, .int .u8 (v.ev.co : Nat), .slice a4 v.ev.dg.length c4, .int .u32 (v.le : Nat)])) (by kernel_rfl) ((uh HS1) _ (Fr.refl _ _).drew) (fun hHeld => ?_)
  refine wtk2 (i := 0) rfl hHeld ?_
  (try simp only [Act.put, nrm])
  refine wtk2 (i := 1) rfl hHeld ?_
  (try simp only [Act.put, nrm])
  refine wtk2 (i := 2) rfl hHeld ?_
  (try simp only [Act.put, nrm])
  refine wtk2 (i := 3) rfl hHeld ?_
  (try simp only [Act.put, nrm])
  refine wtk (i := 4) rfl (yieldsIf_load_mid rfl 42 (.tmp 1) rfl w.heap.size 0 rfl _ _ (fun w h => h.2) Tryz.underlying42 rfl Tryz.sizeMsP) hHeld ?_
  (try simp only [Act.put, nrm])
  refine wpAnyH_ready (rs := [5, 7]) (by kernel_rfl) (by simp) (AllReadyH.cons rfl (fun K hK => ?_) (AllReadyH.cons rfl (fun K hK => ?_) AllReadyH.nil))
  ·go_simp
   refine ((uh HSp) _).mono ?_
   rintro e w5 ⟨rfl, hf5⟩
   have hr5 : Fr (fun _ => False) _ w5 := (Fr.refl _ _).drew.trans hf5 (fun _ _ h => h)
   try dsimp only
   (try clear hHeld)
   refine hK.out _ _ ((uh HS1) _ hr5) (fun hHeld => ?_)
   clear hK K
   (try simp only [Act.put, nrm])
   refine wpAnyH_ready (rs := [6, 7]) (by kernel_rfl) (by simp) (AllReadyH.cons rfl (fun K hK => ?_) (AllReadyH.cons rfl (fun K hK => ?_) AllReadyH.nil))
   ·go_simp
    refine (gwhyN n_kind 1 (v.kd : Nat) 0 4 _ none 0 0 SP _ hsp).mono ?_
    rintro e w6 ⟨rfl, hf6⟩
    have hr6 : Fr (fun _ => False) _ w6 := hr5.trans hf6 (fun _ _ h => h)
    try dsimp only
    (try clear hHeld)
    refine hK.out _ _ ((uh HS1) _ hr6) (fun hHeld => ?_)
    clear hK K
    (try simp only [Act.put, nrm])
    refine wpAnyH_ready (rs := [7]) (by kernel_rfl) (by simp) (AllReadyH.cons rfl (fun K hK => ?_) AllReadyH.nil)
    go_simp
    (try clear hHeld)
    refine hK.out _ _ ((uh HS1) _ (hr6.alloc _)) (fun hHeld => ?_)
    clear hK K
    (try simp only [Act.put, nrm])
    obtain ⟨W7, hst, hb7, hf7, hg7⟩ := box_st (w := w6) [.string n_kind, .int .i64 1, .int .u64 (v.kd : Nat), .slice none 0 0, .int .i64 (SW : Nat)] (Fr.refl _ _) rfl (by simp [Value.oneCell'])
    have HST := hid hst
    have hr7 : Fr (fun _ => False) W1 W7 := hr6.trans hf7 (fun _ _ h => h)
    have HX7 := hid (And.intro hb7 (And.intro hr7 (show W1.heap.size ≤ w6.heap.size from hr6.size)))
    refine wpAnyH_ready (rs := [8]) (by kernel_rfl) (by simp) (AllReadyH.cons rfl (fun K hK => ?_) AllReadyH.nil)
    refine step_stP rfl 110 (.tmp 3) (.tmp 11) rfl _ _ (by simp [Act.eval]) (by simp [Act.eval]) (uh HST) ?_
    (try clear hHeld)
    refine hK.out _ _ ((uh HS1) _ hr7) (fun hHeld => ?_)
    clear hK K
    (try simp only [Act.put, nrm])
    refine wpAnyH_done (by kernel_rfl) ?_ _
    clear hHeld
    clear hst hb7 hf7 hg7 hr7 hr5 hr6 hf5 hf6
    go_wp2_with fail
    go_meet
    case rel => exact ⟨_, rfl, (uh HX7).2.2, (uh HX7).1, (uh HX7).2.1⟩
   ·go_simp
    (try clear hHeld)
    refine hK.out _ _ ((uh HS1) _ (hr5.alloc _)) (fun hHeld => ?_)
    clear hK K
    (try simp only [Act.put, nrm])
    refine wpAnyH_ready (rs := [6]) (by kernel_rfl) (by simp) (AllReadyH.cons rfl (fun K hK => ?_) AllReadyH.nil)
    go_simp
    refine (gwhyN n_kind 1 (v.kd : Nat) 0 4 _ none 0 0 SP _ hsp).mono ?_
    rintro e w6 ⟨rfl, hf6⟩
    have hr6 : Fr (fun _ => False) _ w6 := (hr5.alloc _).trans hf6 (fun _ _ h => h)
    try dsimp only
    (try clear hHeld)
    refine hK.out _ _ ((uh HS1) _ hr6) (fun hHeld => ?_)
    clear hK K
    (try simp only [Act.put, nrm])
    obtain ⟨W7, hst, hb7, hf7, hg7⟩ := box_st (w := w5) [.string n_kind, .int .i64 1, .int .u64 (v.kd : Nat), .slice none 0 0, .int .i64 (SW : Nat)] (hf6) rfl (by simp [Value.oneCell'])
    have HST := hid hst
    have hr7 : Fr (fun _ => False) W1 W7 := hr5.trans hf7 (fun _ _ h => h)
    have HX7 := hid (And.intro hb7 (And.intro hr7 (show W1.heap.size ≤ w5.heap.size from hr5.size)))
    refine wpAnyH_ready (rs := [8]) (by kernel_rfl) (by simp) (AllReadyH.cons rfl (fun K hK => ?_) AllReadyH.nil)
    refine step_stP rfl 110 (.tmp 3) (.tmp 11) rfl _ _ (by simp [Act.eval]) (by simp [Act.eval]) (uh HST) ?_
    (try clear hHeld)
    refine hK.out _ _ ((uh HS1) _ hr7) (fun hHeld => ?_)
    clear hK K
    (try simp only [Act.put, nrm])
    refine wpAnyH_done (by kernel_rfl) ?_ _
    clear hHeld
    clear hst hb7 hf7 hg7 hr7 hr5 hr6 hf5 hf6
    go_wp2_with fail
    go_meet
    case rel => exact ⟨_, rfl, (uh HX7).2.2, (uh HX7).1, (uh HX7).2.1⟩
  ·go_simp
   (try clear hHeld)
   refine hK.out _ _ ((uh HS1) _ ((Fr.refl _ _).drew.alloc _)) (fun hHeld => ?_)
   clear hK K
   (try simp only [Act.put, nrm])
   refine wpAnyH_ready (rs := [5]) (by kernel_rfl) (by simp) (AllReadyH.cons rfl (fun K hK => ?_) AllReadyH.nil)
   go_simp
   refine ((uh HSp) _).mono ?_
   rintro e w5 ⟨rfl, hf5⟩
   have hr5 : Fr (fun _ => False) _ w5 := ((Fr.refl _ _).drew.alloc _).trans hf5 (fun _ _ h => h)
   try dsimp only
   (try clear hHeld)
   refine hK.out _ _ ((uh HS1) _ hr5) (fun hHeld => ?_)
   clear hK K
   (try simp only [Act.put, nrm])
   refine wpAnyH_ready (rs := [6]) (by kernel_rfl) (by simp) (AllReadyH.cons rfl (fun K hK => ?_) AllReadyH.nil)
   go_simp
   refine (gwhyN n_kind 1 (v.kd : Nat) 0 4 _ none 0 0 SP _ hsp).mono ?_
   rintro e w6 ⟨rfl, hf6⟩
   have hr6 : Fr (fun _ => False) _ w6 := hr5.trans hf6 (fun _ _ h => h)
   try dsimp only
   (try clear hHeld)
   refine hK.out _ _ ((uh HS1) _ hr6) (fun hHeld => ?_)
   clear hK K
   (try simp only [Act.put, nrm])
   obtain ⟨W7, hst, hb7, hf7, hg7⟩ := box_st (w := W1.drew) [.string n_kind, .int .i64 1, .int .u64 (v.kd : Nat), .slice none 0 0, .int .i64 (SW : Nat)] (hf5.trans hf6 (fun _ _ h => h)) rfl (by simp [Value.oneCell'])
   have HST := hid hst
   have hr7 : Fr (fun _ => False) W1 W7 := (Fr.refl _ _).drew.trans hf7 (fun _ _ h => h)
   have HX7 := hid (And.intro hb7 (And.intro hr7 (show W1.heap.size ≤ W1.drew.heap.size from Nat.le_refl _)))
   refine wpAnyH_ready (rs := [8]) (by kernel_rfl) (by simp) (AllReadyH.cons rfl (fun K hK => ?_) AllReadyH.nil)
   refine step_stP rfl 110 (.tmp 3) (.tmp 11) rfl _ _ (by simp [Act.eval]) (by simp [Act.eval]) (uh HST) ?_
   (try clear hHeld)
   refine hK.out _ _ ((uh HS1) _ hr7) (fun hHeld => ?_)
   clear hK K
   (try simp only [Act.put, nrm])
   refine wpAnyH_done (by kernel_rfl) ?_ _
   clear hHeld
   clear hst hb7 hf7 hg7 hr7 hr5 hr6 hf5 hf6
   go_wp2_with fail
   go_meet
   case rel => exact ⟨_, rfl, (uh HX7).2.2, (uh HX7).1, (uh HX7).2.1⟩
 case rest =>
  obtain ⟨b3, rfl, hb3s, hb3, hfc⟩ := hcut
  rename World => wc
  clear HSp HS1 hsp
  have k0 := (uh HB) wc hfc 0 _ rfl
  have HR3 := hid (rOB hb3)
  have HC := hid (And.intro hb3 (And.intro hfc hb3s))
  clear hb3 hfc hb3s
  go_upto_region 2 with fail
  go_cut [21] from 12 to 21 (fun _ wx => wx.heap[b3]? = some (.cells #[.string n_kind, .int .i64 1, .int .u64 (v.kd : Nat), .slice none 0 0, .int .i64 (KW : Nat)] 110) ∧ Fr (fun _ => False) W1 wx)
  case first =>
   rcases (show (v.kd : Int) < 1 ∨ (¬ (v.kd : Int) < 1 ∧ ¬ (7 : Int) < (v.kd : Int)) ∨ (¬ (v.kd : Int) < 1 ∧ (7 : Int) < (v.kd : Int)) by omega) with ho1 | ⟨ho1, ho2⟩ | ⟨ho1, ho2⟩
   ·have hd1 : decide ((v.kd : Int) < 1) = true := decide_eq_true ho1
    have eu : (if true = true then (5 : Int) else ((SW : Nat) : Int)) = ((KW : Nat) : Int) := by
     rw [← uh HK]
     show (5 : Int) = _
     rw [if_pos (by omega)]
     rfl
    go_wp2_with ((with_reducible refine wpList_at 12 ?_); refine wpList_load_mid rfl 110 (.tmp 3) rfl b3 0 rfl _ _ (uh HR3) Tryz.underlying110 rfl Tryz.sizePt ?_)
    refine (gwhyN n_kind 1 (v.kd : Nat) ((SW : Nat) : Int) 5 _ none 0 0 true _ eu).mono ?_
    rintro e w5 ⟨rfl, hf5⟩
    obtain ⟨W6, hst, hb6, hf6⟩ := box_st2 [.string n_kind, .int .i64 1, .int .u64 (v.kd : Nat), .slice none 0 0, .int .i64 (SW : Nat)] [.string n_kind, .int .i64 1, .int .u64 (v.kd : Nat), .slice none 0 0, .int .i64 (KW : Nat)] ((hf5.block _ (lt_of_block (uh HC).1) (fun h => h)).trans (uh HC).1) rfl rfl (by simp [Value.oneCell'])
    have HST := hid hst
    have HX6 := hid (And.intro hb6 (absorbP ((uh HC).2.1.trans hf5 (fun _ _ h => h)) hf6 (fun i hi => by rw [hi]; exact (uh HC).2.2)))
    clear hst hb6 hf6 hf5
    go_wp2_with ((with_reducible refine wpList_stN' ?_); refine wpList_stN rfl 110 (.tmp 3) (.tmp 21) rfl _ _ rfl rfl (uh HST) ?_)
    go_meet
    case rel => exact ⟨(uh HX6).1, (uh HX6).2⟩
   ·have hd1 : decide ((v.kd : Int) < 1) = false := decide_eq_false ho1
    have hd2 : decide ((7 : Int) < (v.kd : Int)) = false := decide_eq_false ho2
    have eu : (if false = true then (5 : Int) else ((SW : Nat) : Int)) = ((KW : Nat) : Int) := by
     rw [← uh HK]
     show ((SW : Nat) : Int) = _
     rw [if_neg (by omega), uh HSW]
    go_wp2_with ((with_reducible refine wpList_at 12 ?_); refine wpList_load_mid rfl 110 (.tmp 3) rfl b3 0 rfl _ _ (uh HR3) Tryz.underlying110 rfl Tryz.sizePt ?_)
    refine (gwhyN n_kind 1 (v.kd : Nat) ((SW : Nat) : Int) 5 _ none 0 0 false _ eu).mono ?_
    rintro e w5 ⟨rfl, hf5⟩
    obtain ⟨W6, hst, hb6, hf6⟩ := box_st2 [.string n_kind, .int .i64 1, .int .u64 (v.kd : Nat), .slice none 0 0, .int .i64 (SW : Nat)] [.string n_kind, .int .i64 1, .int .u64 (v.kd : Nat), .slice none 0 0, .int .i64 (KW : Nat)] ((hf5.block _ (lt_of_block (uh HC).1) (fun h => h)).trans (uh HC).1) rfl rfl (by simp [Value.oneCell'])
    have HST := hid hst
    have HX6 := hid (And.intro hb6 (absorbP ((uh HC).2.1.trans hf5 (fun _ _ h => h)) hf6 (fun i hi => by rw [hi]; exact (uh HC).2.2)))
    clear hst hb6 hf6 hf5
    go_wp2_with ((with_reducible refine wpList_stN' ?_); refine wpList_stN rfl 110 (.tmp 3) (.tmp 21) rfl _ _ rfl rfl (uh HST) ?_)
    go_meet
    case rel => exact ⟨(uh HX6).1, (uh HX6).2⟩
   ·have hd1 : decide ((v.kd : Int) < 1) = false := decide_eq_false ho1
    have hd2 : decide ((7 : Int) < (v.kd : Int)) = true := decide_eq_true ho2
    have eu : (if true = true then (5 : Int) else ((SW : Nat) : Int)) = ((KW : Nat) : Int) := by
     rw [← uh HK]
     show (5 : Int) = _
     rw [if_pos (by omega)]
     rfl
    go_wp2_with ((with_reducible refine wpList_at 12 ?_); refine wpList_load_mid rfl 110 (.tmp 3) rfl b3 0 rfl _ _ (uh HR3) Tryz.underlying110 rfl Tryz.sizePt ?_)
    refine (gwhyN n_kind 1 (v.kd : Nat) ((SW : Nat) : Int) 5 _ none 0 0 true _ eu).mono ?_
    rintro e w5 ⟨rfl, hf5⟩
    obtain ⟨W6, hst, hb6, hf6⟩ := box_st2 [.string n_kind, .int .i64 1, .int .u64 (v.kd : Nat), .slice none 0 0, .int .i64 (SW : Nat)] [.string n_kind, .int .i64 1, .int .u64 (v.kd : Nat), .slice none 0 0, .int .i64 (KW : Nat)] ((hf5.block _ (lt_of_block (uh HC).1) (fun h => h)).trans (uh HC).1) rfl rfl (by simp [Value.oneCell'])
    have HST := hid hst
    have HX6 := hid (And.intro hb6 (absorbP ((uh HC).2.1.trans hf5 (fun _ _ h => h)) hf6 (fun i hi => by rw [hi]; exact (uh HC).2.2)))
    clear hst hb6 hf6 hf5
    go_wp2_with ((with_reducible refine wpList_stN' ?_); refine wpList_stN rfl 110 (.tmp 3) (.tmp 21) rfl _ _ rfl rfl (uh HST) ?_)
    go_meet
    case rel => exact ⟨(uh HX6).1, (uh HX6).2⟩
  case rest =>
   obtain ⟨hb3, hfc⟩ := hcut
   rename World => wd
   clear k0 HR3
   have HR3 := hid (rOB hb3)
   have hP := PL.lit wd W1.heap.size ([⟨⟨n_kind, 1, v.kd, [], KW⟩, .slice none 0 0⟩] : List PV) hfc.size (fun q hq => by obtain rfl := List.mem_singleton.1 hq; exact nil_in _ _ rfl) (by simp)
   have HP : Hid (PL (wd.alloc (.cells #[.string n_kind, .int .i64 1, .int .u64 (v.kd : Nat), .slice none 0 0, .int .i64 (KW : Nat)] 110)) W1.heap.size (.slice (some ⟨wd.heap.size, 0, none⟩) 1 1) [⟨⟨n_kind, 1, v.kd, [], KW⟩, .slice none 0 0⟩]) := hid hP
   have HD := hid (hfc.alloc (.cells #[.string n_kind, .int .i64 1, .int .u64 (v.kd : Nat), .slice none 0 0, .int .i64 (KW : Nat)] 110))
   clear hb3 hfc hP
   go_upto_region 4 with ((with_reducible refine wpList_at 22 ?_); refine wpList_load_mid rfl 110 (.tmp 3) rfl b3 0 rfl _ _ (uh HR3) Tryz.underlying110 rfl Tryz.sizePt ?_)
   obtain ⟨wk, hwk2⟩ : ∃ wk, wd.alloc (.cells #[.string n_kind, .int .i64 1, .int .u64 (v.kd : Nat), .slice none 0 0, .int .i64 (KW : Nat)] 110) = wk := ⟨_, rfl⟩
   rw [hwk2] at HP HD
   (try rw [hwk2])
   clear hwk2 HR3 HC
   have k0 := (uh HB) wk (uh HD) 0 _ rfl
   have hc : ∀ (i : Nat) u, ([.int .u8 (v.kd : Nat), .int .u32 (v.rq.cl : Nat), .int .u32 (v.rq.nu : Nat), .int .u32 (v.rq.ac : Nat), .int .u8 (v.rq.op : Nat), .int .u32 (v.rq.re : Nat), .int .u32 (v.rq.ve : Nat), .int .u32 (v.rq.wa : Nat), .int .u32 (v.rq.ow : Nat), .slice a0 v.rq.fs.length c0, .string v.rq.rs, .int .u32 (v.icl : Nat), .int .u32 (v.inu : Nat), .int .u32 (v.an.cl : Nat), .int .u32 (v.an.nu : Nat), .int .u8 (v.an.co : Nat), .int .u32 (v.an.re : Nat), .int .u32 (v.an.ve : Nat), .slice a1 v.an.fs.length c1, .slice a2 v.an.hi.length c2, .int .u8 (v.co : Nat), .int .u32 (v.ev.pl : Nat), .int .u32 (v.ev.rq.cl : Nat), .int .u32 (v.ev.rq.nu : Nat), .int .u32 (v.ev.rq.ac : Nat), .int .u8 (v.ev.rq.op : Nat), .int .u32 (v.ev.rq.re : Nat), .int .u32 (v.ev.rq.ve : Nat), .int .u32 (v.ev.rq.wa : Nat), .int .u32 (v.ev.rq.ow : Nat), .slice a3 v.ev.rq.fs.length c3, .string v.ev.rq.rs, .int .u8 (v.ev.co : Nat), .slice a4 v.ev.dg.length c4, .int .u32 (v.le : Nat)] : List Value)[i]? = some u → wk.cell? ⟨w.heap.size, i, none⟩ = some u := (uh HB) wk (uh HD)
   rcases (show v.kd = 1 ∨ v.kd = 2 ∨ v.kd = 3 ∨ v.kd = 4 ∨ v.kd = 5 ∨ v.kd = 6 ∨ (v.kd ≠ 1 ∧ v.kd ≠ 2 ∧ v.kd ≠ 3 ∧ v.kd ≠ 4 ∧ v.kd ≠ 5 ∧ v.kd ≠ 6) by omega) with hk | hk | hk | hk | hk | hk | ⟨q1, q2, q3, q4, q5, q6⟩
   ·have HKD := hid hk
    have m1 : ((v.kd : Int) == 1) = true := by simp; omega
    have m2 : ((v.kd : Int) == 2) = false := by simp; omega
    have m3 : ((v.kd : Int) == 3) = false := by simp; omega
    have m4 : ((v.kd : Int) == 4) = false := by simp; omega
    have m5 : ((v.kd : Int) == 5) = false := by simp; omega
    have m6 : ((v.kd : Int) == 6) = false := by simp; omega
    clear hk
    have HRk := hid (show wk.rangeAt w.heap.size 1 [.int .u32 (v.rq.cl : Nat), .int .u32 (v.rq.nu : Nat), .int .u32 (v.rq.ac : Nat), .int .u8 (v.rq.op : Nat), .int .u32 (v.rq.re : Nat), .int .u32 (v.rq.ve : Nat), .int .u32 (v.rq.wa : Nat), .int .u32 (v.rq.ow : Nat), .slice a0 v.rq.fs.length c0, .string v.rq.rs] from range_piece hc (fun j u hu => by rw [Nat.add_comm]; exact (List.getElem?_append_left (l₁ := [.int .u32 (v.rq.cl : Nat), .int .u32 (v.rq.nu : Nat), .int .u32 (v.rq.ac : Nat), .int .u8 (v.rq.op : Nat), .int .u32 (v.rq.re : Nat), .int .u32 (v.rq.ve : Nat), .int .u32 (v.rq.wa : Nat), .int .u32 (v.rq.ow : Nat), .slice a0 v.rq.fs.length c0, .string v.rq.rs]) (l₂ := [.int .u32 (v.icl : Nat), .int .u32 (v.inu : Nat), .int .u32 (v.an.cl : Nat), .int .u32 (v.an.nu : Nat), .int .u8 (v.an.co : Nat), .int .u32 (v.an.re : Nat), .int .u32 (v.an.ve : Nat), .slice a1 v.an.fs.length c1, .slice a2 v.an.hi.length c2, .int .u8 (v.co : Nat), .int .u32 (v.ev.pl : Nat), .int .u32 (v.ev.rq.cl : Nat), .int .u32 (v.ev.rq.nu : Nat), .int .u32 (v.ev.rq.ac : Nat), .int .u8 (v.ev.rq.op : Nat), .int .u32 (v.ev.rq.re : Nat), .int .u32 (v.ev.rq.ve : Nat), .int .u32 (v.ev.rq.wa : Nat), .int .u32 (v.ev.rq.ow : Nat), .slice a3 v.ev.rq.fs.length c3, .string v.ev.rq.rs, .int .u8 (v.ev.co : Nat), .slice a4 v.ev.dg.length c4, .int .u32 (v.le : Nat)]) (List.getElem?_eq_some_iff.1 hu).1).trans hu))
    clear hc
    go_wp2_with ((with_reducible refine wpList_at 29 ?_); refine wpList_load_mid rfl 30 (.tmp 28) rfl w.heap.size 1 rfl _ _ (uh HRk) Tryz.underlying30 rfl Tryz.sizeRqP ?_)
    clear HRk k0
    refine (grequest_any HFc v.rq a0 c0 _ (uh HV).1.rq (((uh HV).2.1.i0.fr0 (uh HF1)).fr0 (uh HD)) (uh HV).2.2.s0 (uh HV).2.2.l0 (uh HV).2.2.r0).mono ?_
    rintro e w10 ⟨y7, L7, rfl, hP7, hm7, hl7, hb7, hf10⟩
    replace hb7 := Bl.mono hb7 (Nat.zero_le w.heap.size) (Nat.le_refl _)
    obtain ⟨ao7, cap7, rfl, hz7⟩ := hP7.formz
    obtain ⟨a11, c11, w11, hr, hP11, hf11, -⟩ := ((uh HP).fr0 hf10).app (Nat.le_trans (uh HD).size hf10.size) ao7 cap7 L7 hP7.cells (fun q hq => ⟨(hP7.el q hq).1, Bl.far (uh HP) hb7 (Nat.le_of_lt hlt1) (Nat.le_refl _) q hq⟩) (by have := hl7; have := (uh HV).2.2.l0; have := (uh HV).2.2.l1; have := (uh HV).2.2.l2; have := (uh HV).2.2.l3; simp; omega) hz7
    obtain ⟨N11, hN11⟩ : ∃ N11, ([⟨⟨n_kind, 1, v.kd, [], KW⟩, .slice none 0 0⟩] : List PV).length + L7.length = N11 := ⟨_, rfl⟩
    rw [hN11] at hr hP11
    have hr' : (Builtin.append_ #[74, 74] 74 #[.slice (some ⟨wd.heap.size, 0, none⟩) 1 1, .slice ao7 L7.length cap7]).run Tryz.prog w10 = .ok (.slice a11 N11 c11) w11 := hr
    have HR2 := hid hr'
    have hw11 : Fr (fun _ => False) W1 w11 := absorbP ((uh HD).trans hf10 (fun _ _ h => h)) hf11 (fun i hi => ((uh HP).lt i hi).1)
    have k0 := (uh HB) w11 hw11 0 _ rfl
    have hmp : ([⟨⟨n_kind, 1, v.kd, [], KW⟩, .slice none 0 0⟩] ++ L7 : List PV).map PV.p = MD := by
     rw [uh HM]
     unfold message2D
     rw [if_pos (uh HKD)]
     rw [List.map_append, hm7]
     rfl
    have HZ := hid (And.intro (hP11.base (base' := w.heap.size) (Nat.le_of_lt hlt1)) (And.intro hmp (And.intro (show ([⟨⟨n_kind, 1, v.kd, [], KW⟩, .slice none 0 0⟩] ++ L7 : List PV).length ≤ 16777216 by have := (uh HV).2.2.l0; have := (uh HV).2.2.l1; have := (uh HV).2.2.l2; have := (uh HV).2.2.l3; simp [idV] <;> omega) ((uh HF1).trans hw11 (fun _ _ h => h)))))
    clear hr hr' hP11 hf11 hmp hN11 hz7 hP7 hf10 hb7 hl7 hm7 hw11
    go_wp2_with ((with_reducible refine wpList_at 31 ?_); refine wpList_appY rfl (.tmp 27) (.tmp 30) 74 74 rfl _ _ _ rfl rfl (uh HR2) ?_)
    go_ret
    exact ⟨_, _, rfl, (uh HZ).1, (uh HZ).2.1, (uh HZ).2.2.1, (uh HZ).2.2.2⟩
   ·have HKD := hid hk
    have m1 : ((v.kd : Int) == 1) = false := by simp; omega
    have m2 : ((v.kd : Int) == 2) = true := by simp; omega
    have m3 : ((v.kd : Int) == 3) = false := by simp; omega
    have m4 : ((v.kd : Int) == 4) = false := by simp; omega
    have m5 : ((v.kd : Int) == 5) = false := by simp; omega
    have m6 : ((v.kd : Int) == 6) = false := by simp; omega
    clear hk
    have HRk := hid (show wk.rangeAt w.heap.size 11 [.int .u32 (v.icl : Nat), .int .u32 (v.inu : Nat)] from range_piece hc (fun j u hu => by rw [Nat.add_comm]; exact (List.getElem?_append_left (l₁ := [.int .u32 (v.icl : Nat), .int .u32 (v.inu : Nat)]) (l₂ := [.int .u32 (v.an.cl : Nat), .int .u32 (v.an.nu : Nat), .int .u8 (v.an.co : Nat), .int .u32 (v.an.re : Nat), .int .u32 (v.an.ve : Nat), .slice a1 v.an.fs.length c1, .slice a2 v.an.hi.length c2, .int .u8 (v.co : Nat), .int .u32 (v.ev.pl : Nat), .int .u32 (v.ev.rq.cl : Nat), .int .u32 (v.ev.rq.nu : Nat), .int .u32 (v.ev.rq.ac : Nat), .int .u8 (v.ev.rq.op : Nat), .int .u32 (v.ev.rq.re : Nat), .int .u32 (v.ev.rq.ve : Nat), .int .u32 (v.ev.rq.wa : Nat), .int .u32 (v.ev.rq.ow : Nat), .slice a3 v.ev.rq.fs.length c3, .string v.ev.rq.rs, .int .u8 (v.ev.co : Nat), .slice a4 v.ev.dg.length c4, .int .u32 (v.le : Nat)]) (List.getElem?_eq_some_iff.1 hu).1).trans hu))
    clear hc
    go_wp2_with ((with_reducible refine wpList_at 42 ?_); refine wpList_load_mid rfl 27 (.tmp 41) rfl w.heap.size 11 rfl _ _ (uh HRk) Tryz.underlying27 rfl Tryz.sizeIdP ?_)
    clear HRk k0
    refine (gids_any v.icl v.inu (uh HV).1.icl (uh HV).1.inu _).mono ?_
    rintro e w10 ⟨y7, rfl, hP7, hf10⟩
    have hb7 : Bl w.heap.size wk.heap.size (idV v.icl v.inu) := Bl.nilx _ _ idV_x
    obtain ⟨ao7, cap7, rfl, hz7⟩ := hP7.formz
    obtain ⟨a11, c11, w11, hr, hP11, hf11, -⟩ := ((uh HP).fr0 hf10).app (Nat.le_trans (uh HD).size hf10.size) ao7 cap7 (idV v.icl v.inu) hP7.cells (fun q hq => ⟨(hP7.el q hq).1, Bl.far (uh HP) hb7 (Nat.le_of_lt hlt1) (Nat.le_refl _) q hq⟩) (by simp [idV]) hz7
    obtain ⟨N11, hN11⟩ : ∃ N11, ([⟨⟨n_kind, 1, v.kd, [], KW⟩, .slice none 0 0⟩] : List PV).length + (idV v.icl v.inu).length = N11 := ⟨_, rfl⟩
    rw [hN11] at hr hP11
    have hr' : (Builtin.append_ #[74, 74] 74 #[.slice (some ⟨wd.heap.size, 0, none⟩) 1 1, .slice ao7 (idV v.icl v.inu).length cap7]).run Tryz.prog w10 = .ok (.slice a11 N11 c11) w11 := hr
    have HR2 := hid hr'
    have hw11 : Fr (fun _ => False) W1 w11 := absorbP ((uh HD).trans hf10 (fun _ _ h => h)) hf11 (fun i hi => ((uh HP).lt i hi).1)
    have k0 := (uh HB) w11 hw11 0 _ rfl
    have hmp : ([⟨⟨n_kind, 1, v.kd, [], KW⟩, .slice none 0 0⟩] ++ idV v.icl v.inu : List PV).map PV.p = MD := by
     rw [uh HM]
     unfold message2D
     rw [if_neg (show ¬ v.kd = 1 by rw [uh HKD]; decide), if_pos (uh HKD)]
     rw [List.map_append]
     rfl
    have HZ := hid (And.intro (hP11.base (base' := w.heap.size) (Nat.le_of_lt hlt1)) (And.intro hmp (And.intro (show ([⟨⟨n_kind, 1, v.kd, [], KW⟩, .slice none 0 0⟩] ++ idV v.icl v.inu : List PV).length ≤ 16777216 by have := (uh HV).2.2.l0; have := (uh HV).2.2.l1; have := (uh HV).2.2.l2; have := (uh HV).2.2.l3; simp [idV] <;> omega) ((uh HF1).trans hw11 (fun _ _ h => h)))))
    clear hr hr' hP11 hf11 hmp hN11 hz7 hP7 hf10 hb7 hw11
    go_wp2_with ((with_reducible refine wpList_at 44 ?_); refine wpList_appY rfl (.tmp 40) (.tmp 43) 74 74 rfl _ _ _ rfl rfl (uh HR2) ?_)
    go_ret
    exact ⟨_, _, rfl, (uh HZ).1, (uh HZ).2.1, (uh HZ).2.2.1, (uh HZ).2.2.2⟩
   ·have HKD := hid hk
    have m1 : ((v.kd : Int) == 1) = false := by simp; omega
    have m2 : ((v.kd : Int) == 2) = false := by simp; omega
    have m3 : ((v.kd : Int) == 3) = true := by simp; omega
    have m4 : ((v.kd : Int) == 4) = false := by simp; omega
    have m5 : ((v.kd : Int) == 5) = false := by simp; omega
    have m6 : ((v.kd : Int) == 6) = false := by simp; omega
    clear hk
    have HRk := hid (show wk.rangeAt w.heap.size 13 [.int .u32 (v.an.cl : Nat), .int .u32 (v.an.nu : Nat), .int .u8 (v.an.co : Nat), .int .u32 (v.an.re : Nat), .int .u32 (v.an.ve : Nat), .slice a1 v.an.fs.length c1, .slice a2 v.an.hi.length c2] from range_piece hc (fun j u hu => by rw [Nat.add_comm]; exact (List.getElem?_append_left (l₁ := [.int .u32 (v.an.cl : Nat), .int .u32 (v.an.nu : Nat), .int .u8 (v.an.co : Nat), .int .u32 (v.an.re : Nat), .int .u32 (v.an.ve : Nat), .slice a1 v.an.fs.length c1, .slice a2 v.an.hi.length c2]) (l₂ := [.int .u8 (v.co : Nat), .int .u32 (v.ev.pl : Nat), .int .u32 (v.ev.rq.cl : Nat), .int .u32 (v.ev.rq.nu : Nat), .int .u32 (v.ev.rq.ac : Nat), .int .u8 (v.ev.rq.op : Nat), .int .u32 (v.ev.rq.re : Nat), .int .u32 (v.ev.rq.ve : Nat), .int .u32 (v.ev.rq.wa : Nat), .int .u32 (v.ev.rq.ow : Nat), .slice a3 v.ev.rq.fs.length c3, .string v.ev.rq.rs, .int .u8 (v.ev.co : Nat), .slice a4 v.ev.dg.length c4, .int .u32 (v.le : Nat)]) (List.getElem?_eq_some_iff.1 hu).1).trans hu))
    clear hc
    go_wp2_with ((with_reducible refine wpList_at 50 ?_); refine wpList_load_mid rfl 33 (.tmp 49) rfl w.heap.size 13 rfl _ _ (uh HRk) Tryz.underlying33 rfl Tryz.sizeAnP ?_)
    clear HRk k0
    refine (ganswer_any HFc v.an a1 a2 c1 c2 _ (uh HV).1.an (((uh HV).2.1.i1.fr0 (uh HF1)).fr0 (uh HD)) (uh HV).2.2.s1 (uh HV).2.2.l1 (((uh HV).2.1.i2.fr0 (uh HF1)).fr0 (uh HD)) (uh HV).2.2.l2).mono ?_
    rintro e w10 ⟨y7, L7, rfl, hP7, hm7, hl7, hb7, hf10⟩
    replace hb7 := Bl.mono hb7 (Nat.zero_le w.heap.size) (Nat.le_refl _)
    obtain ⟨ao7, cap7, rfl, hz7⟩ := hP7.formz
    obtain ⟨a11, c11, w11, hr, hP11, hf11, -⟩ := ((uh HP).fr0 hf10).app (Nat.le_trans (uh HD).size hf10.size) ao7 cap7 L7 hP7.cells (fun q hq => ⟨(hP7.el q hq).1, Bl.far (uh HP) hb7 (Nat.le_of_lt hlt1) (Nat.le_refl _) q hq⟩) (by have := hl7; have := (uh HV).2.2.l0; have := (uh HV).2.2.l1; have := (uh HV).2.2.l2; have := (uh HV).2.2.l3; simp; omega) hz7
    obtain ⟨N11, hN11⟩ : ∃ N11, ([⟨⟨n_kind, 1, v.kd, [], KW⟩, .slice none 0 0⟩] : List PV).length + L7.length = N11 := ⟨_, rfl⟩
    rw [hN11] at hr hP11
    have hr' : (Builtin.append_ #[74, 74] 74 #[.slice (some ⟨wd.heap.size, 0, none⟩) 1 1, .slice ao7 L7.length cap7]).run Tryz.prog w10 = .ok (.slice a11 N11 c11) w11 := hr
    have HR2 := hid hr'
    have hw11 : Fr (fun _ => False) W1 w11 := absorbP ((uh HD).trans hf10 (fun _ _ h => h)) hf11 (fun i hi => ((uh HP).lt i hi).1)
    have k0 := (uh HB) w11 hw11 0 _ rfl
    have hmp : ([⟨⟨n_kind, 1, v.kd, [], KW⟩, .slice none 0 0⟩] ++ L7 : List PV).map PV.p = MD := by
     rw [uh HM]
     unfold message2D
     rw [if_neg (show ¬ v.kd = 1 by rw [uh HKD]; decide), if_neg (show ¬ v.kd = 2 by rw [uh HKD]; decide), if_pos (uh HKD)]
     rw [List.map_append, hm7]
     rfl
    have HZ := hid (And.intro (hP11.base (base' := w.heap.size) (Nat.le_of_lt hlt1)) (And.intro hmp (And.intro (show ([⟨⟨n_kind, 1, v.kd, [], KW⟩, .slice none 0 0⟩] ++ L7 : List PV).length ≤ 16777216 by have := (uh HV).2.2.l0; have := (uh HV).2.2.l1; have := (uh HV).2.2.l2; have := (uh HV).2.2.l3; simp [idV] <;> omega) ((uh HF1).trans hw11 (fun _ _ h => h)))))
    clear hr hr' hP11 hf11 hmp hN11 hz7 hP7 hf10 hb7 hl7 hm7 hw11
    go_wp2_with ((with_reducible refine wpList_at 52 ?_); refine wpList_appY rfl (.tmp 48) (.tmp 51) 74 74 rfl _ _ _ rfl rfl (uh HR2) ?_)
    go_ret
    exact ⟨_, _, rfl, (uh HZ).1, (uh HZ).2.1, (uh HZ).2.2.1, (uh HZ).2.2.2⟩
   ·have HKD := hid hk
    have m1 : ((v.kd : Int) == 1) = false := by simp; omega
    have m2 : ((v.kd : Int) == 2) = false := by simp; omega
    have m3 : ((v.kd : Int) == 3) = false := by simp; omega
    have m4 : ((v.kd : Int) == 4) = true := by simp; omega
    have m5 : ((v.kd : Int) == 5) = false := by simp; omega
    have m6 : ((v.kd : Int) == 6) = false := by simp; omega
    clear hk
    have HRk := hid (show wk.rangeAt w.heap.size 11 [.int .u32 (v.icl : Nat), .int .u32 (v.inu : Nat)] from range_piece hc (fun j u hu => by rw [Nat.add_comm]; exact (List.getElem?_append_left (l₁ := [.int .u32 (v.icl : Nat), .int .u32 (v.inu : Nat)]) (l₂ := [.int .u32 (v.an.cl : Nat), .int .u32 (v.an.nu : Nat), .int .u8 (v.an.co : Nat), .int .u32 (v.an.re : Nat), .int .u32 (v.an.ve : Nat), .slice a1 v.an.fs.length c1, .slice a2 v.an.hi.length c2, .int .u8 (v.co : Nat), .int .u32 (v.ev.pl : Nat), .int .u32 (v.ev.rq.cl : Nat), .int .u32 (v.ev.rq.nu : Nat), .int .u32 (v.ev.rq.ac : Nat), .int .u8 (v.ev.rq.op : Nat), .int .u32 (v.ev.rq.re : Nat), .int .u32 (v.ev.rq.ve : Nat), .int .u32 (v.ev.rq.wa : Nat), .int .u32 (v.ev.rq.ow : Nat), .slice a3 v.ev.rq.fs.length c3, .string v.ev.rq.rs, .int .u8 (v.ev.co : Nat), .slice a4 v.ev.dg.length c4, .int .u32 (v.le : Nat)]) (List.getElem?_eq_some_iff.1 hu).1).trans hu))
    clear hc
    go_wp2_with ((with_reducible refine wpList_at 42 ?_); refine wpList_load_mid rfl 27 (.tmp 41) rfl w.heap.size 11 rfl _ _ (uh HRk) Tryz.underlying27 rfl Tryz.sizeIdP ?_)
    clear HRk k0
    refine (gids_any v.icl v.inu (uh HV).1.icl (uh HV).1.inu _).mono ?_
    rintro e w10 ⟨y7, rfl, hP7, hf10⟩
    have hb7 : Bl w.heap.size wk.heap.size (idV v.icl v.inu) := Bl.nilx _ _ idV_x
    obtain ⟨ao7, cap7, rfl, hz7⟩ := hP7.formz
    obtain ⟨a11, c11, w11, hr, hP11, hf11, -⟩ := ((uh HP).fr0 hf10).app (Nat.le_trans (uh HD).size hf10.size) ao7 cap7 (idV v.icl v.inu) hP7.cells (fun q hq => ⟨(hP7.el q hq).1, Bl.far (uh HP) hb7 (Nat.le_of_lt hlt1) (Nat.le_refl _) q hq⟩) (by simp [idV]) hz7
    obtain ⟨N11, hN11⟩ : ∃ N11, ([⟨⟨n_kind, 1, v.kd, [], KW⟩, .slice none 0 0⟩] : List PV).length + (idV v.icl v.inu).length = N11 := ⟨_, rfl⟩
    rw [hN11] at hr hP11
    have hr' : (Builtin.append_ #[74, 74] 74 #[.slice (some ⟨wd.heap.size, 0, none⟩) 1 1, .slice ao7 (idV v.icl v.inu).length cap7]).run Tryz.prog w10 = .ok (.slice a11 N11 c11) w11 := hr
    have HR2 := hid hr'
    have hw11 : Fr (fun _ => False) W1 w11 := absorbP ((uh HD).trans hf10 (fun _ _ h => h)) hf11 (fun i hi => ((uh HP).lt i hi).1)
    have k0 := (uh HB) w11 hw11 0 _ rfl
    have k20 := (uh HB) w11 hw11 20 _ rfl
    have hwo := wrapU (n := v.co) (Nat.lt_trans (uh HV).1.co (by decide))
    have HP11 := hid (And.intro hP11 hw11)
    clear hr hr' hP11 hf11 hN11 hz7 hP7 hf10 hb7 hw11
    rcases (show (v.co : Int) < 1 ∨ ¬ (v.co : Int) < 1 by omega) with ho1 | ho1
    ·have hd1 : decide ((v.co : Int) < 1) = true := decide_eq_true ho1
     have eu : (if true = true then (4 : Int) else 0) = ((wiN 1 15 4 v.co : Nat) : Int) := by
      show (4 : Int) = _
      unfold wiN
      rw [if_pos (by omega)]
      rfl
     obtain ⟨BW, hBW⟩ : ∃ BW, wiN 1 15 4 v.co = BW := ⟨_, rfl⟩
     rw [hBW] at eu
     have HBW := hid hBW
     clear hBW
     go_wp2_with ((with_reducible refine wpList_at 44 ?_); refine wpList_appY rfl (.tmp 40) (.tmp 43) 74 74 rfl _ _ _ rfl rfl (uh HR2) ?_)
     refine (gwhyN n_busy 1 (v.co : Nat) 0 4 _ none 0 0 true _ eu).mono ?_
     rintro e w12 ⟨rfl, hf12⟩
     have hXi : ∀ q ∈ ([⟨⟨n_busy, 1, v.co, [], BW⟩, .slice none 0 0⟩] : List PV), q.In w12 := fun q hq => by
      obtain rfl := List.mem_singleton.1 hq
      exact nil_in _ _ rfl
     obtain ⟨a13, c13, w13, hr, hP13, hf13⟩ := ((uh HP11).1.fr0 hf12).add (Nat.le_trans (uh HP11).2.size hf12.size) _ hXi (Bl.far (uh HP11).1 (Bl.one (B := 0) (lo := w11.heap.size)) (Nat.zero_le _) (Nat.le_refl _)) (by simp [idV])
     obtain ⟨N13, hN13⟩ : ∃ N13, ([⟨⟨n_kind, 1, v.kd, [], KW⟩, .slice none 0 0⟩] ++ idV v.icl v.inu : List PV).length + ([⟨⟨n_busy, 1, v.co, [], BW⟩, .slice none 0 0⟩] : List PV).length = N13 := ⟨_, rfl⟩
     rw [hN13] at hr hP13
     have HR3 := hid hr
     have hw13 : Fr (fun _ => False) W1 w13 := absorbP ((uh HP11).2.trans hf12 (fun _ _ h => h)) hf13 (fun i hi => ((uh HP11).1.lt i hi).1)
     replace k0 := (uh HB) w13 hw13 0 _ rfl
     have hmp : ([⟨⟨n_kind, 1, v.kd, [], KW⟩, .slice none 0 0⟩] ++ idV v.icl v.inu ++ [⟨⟨n_busy, 1, v.co, [], BW⟩, .slice none 0 0⟩] : List PV).map PV.p = MD := by
      rw [uh HM]
      unfold message2D
      rw [if_neg (show ¬ v.kd = 1 by rw [uh HKD]; decide), if_neg (show ¬ v.kd = 2 by rw [uh HKD]; decide), if_neg (show ¬ v.kd = 3 by rw [uh HKD]; decide), if_pos (uh HKD), ← uh HBW, List.map_append, List.map_append]
      rfl
     have HZ := hid (And.intro (hP13.base (base' := w.heap.size) (Nat.le_of_lt hlt1)) (And.intro hmp (And.intro (show ([⟨⟨n_kind, 1, v.kd, [], KW⟩, .slice none 0 0⟩] ++ idV v.icl v.inu ++ [⟨⟨n_busy, 1, v.co, [], BW⟩, .slice none 0 0⟩] : List PV).length ≤ 16777216 by simp [idV]) ((uh HF1).trans hw13 (fun _ _ h => h)))))
     clear hr hP13 hf13 hmp hN13 hXi hf12 hw13
     go_wp2_with ((with_reducible refine wpList_at 71 ?_); refine wpList_appY rfl (.tmp 56) (.tmp 70) 74 74 rfl _ _ _ rfl rfl (uh HR3) ?_)
     go_ret
     exact ⟨_, _, rfl, (uh HZ).1, (uh HZ).2.1, (uh HZ).2.2.1, (uh HZ).2.2.2⟩
    ·have hd1 : decide ((v.co : Int) < 1) = false := decide_eq_false ho1
     obtain ⟨b15, hb15⟩ : ∃ b15, decide ((15 : Int) < (v.co : Int)) = b15 := ⟨_, rfl⟩
     have eu : (if b15 = true then (4 : Int) else 0) = ((wiN 1 15 4 v.co : Nat) : Int) := by
      rw [← hb15]
      unfold wiN
      by_cases h : (15 : Int) < (v.co : Int)
      ·rw [if_pos (decide_eq_true h), if_pos (by omega)]; rfl
      ·rw [if_neg (by simp; omega), if_neg (by omega)]; rfl
     obtain ⟨BW, hBW⟩ : ∃ BW, wiN 1 15 4 v.co = BW := ⟨_, rfl⟩
     rw [hBW] at eu
     have HBW := hid hBW
     clear hBW
     go_wp2_with ((with_reducible refine wpList_at 44 ?_); refine wpList_appY rfl (.tmp 40) (.tmp 43) 74 74 rfl _ _ _ rfl rfl (uh HR2) ?_)
     refine (gwhyN n_busy 1 (v.co : Nat) 0 4 _ none 0 0 b15 _ eu).mono ?_
     rintro e w12 ⟨rfl, hf12⟩
     have hXi : ∀ q ∈ ([⟨⟨n_busy, 1, v.co, [], BW⟩, .slice none 0 0⟩] : List PV), q.In w12 := fun q hq => by
      obtain rfl := List.mem_singleton.1 hq
      exact nil_in _ _ rfl
     obtain ⟨a13, c13, w13, hr, hP13, hf13⟩ := ((uh HP11).1.fr0 hf12).add (Nat.le_trans (uh HP11).2.size hf12.size) _ hXi (Bl.far (uh HP11).1 (Bl.one (B := 0) (lo := w11.heap.size)) (Nat.zero_le _) (Nat.le_refl _)) (by simp [idV])
     obtain ⟨N13, hN13⟩ : ∃ N13, ([⟨⟨n_kind, 1, v.kd, [], KW⟩, .slice none 0 0⟩] ++ idV v.icl v.inu : List PV).length + ([⟨⟨n_busy, 1, v.co, [], BW⟩, .slice none 0 0⟩] : List PV).length = N13 := ⟨_, rfl⟩
     rw [hN13] at hr hP13
     have HR3 := hid hr
     have hw13 : Fr (fun _ => False) W1 w13 := absorbP ((uh HP11).2.trans hf12 (fun _ _ h => h)) hf13 (fun i hi => ((uh HP11).1.lt i hi).1)
     replace k0 := (uh HB) w13 hw13 0 _ rfl
     have hmp : ([⟨⟨n_kind, 1, v.kd, [], KW⟩, .slice none 0 0⟩] ++ idV v.icl v.inu ++ [⟨⟨n_busy, 1, v.co, [], BW⟩, .slice none 0 0⟩] : List PV).map PV.p = MD := by
      rw [uh HM]
      unfold message2D
      rw [if_neg (show ¬ v.kd = 1 by rw [uh HKD]; decide), if_neg (show ¬ v.kd = 2 by rw [uh HKD]; decide), if_neg (show ¬ v.kd = 3 by rw [uh HKD]; decide), if_pos (uh HKD), ← uh HBW, List.map_append, List.map_append]
      rfl
     have HZ := hid (And.intro (hP13.base (base' := w.heap.size) (Nat.le_of_lt hlt1)) (And.intro hmp (And.intro (show ([⟨⟨n_kind, 1, v.kd, [], KW⟩, .slice none 0 0⟩] ++ idV v.icl v.inu ++ [⟨⟨n_busy, 1, v.co, [], BW⟩, .slice none 0 0⟩] : List PV).length ≤ 16777216 by simp [idV]) ((uh HF1).trans hw13 (fun _ _ h => h)))))
     clear hr hP13 hf13 hmp hN13 hXi hf12 hw13
     go_wp2_with ((with_reducible refine wpList_at 71 ?_); refine wpList_appY rfl (.tmp 56) (.tmp 70) 74 74 rfl _ _ _ rfl rfl (uh HR3) ?_)
     go_ret
     exact ⟨_, _, rfl, (uh HZ).1, (uh HZ).2.1, (uh HZ).2.2.1, (uh HZ).2.2.2⟩
   ·have HKD := hid hk
    have m1 : ((v.kd : Int) == 1) = false := by simp; omega
    have m2 : ((v.kd : Int) == 2) = false := by simp; omega
    have m3 : ((v.kd : Int) == 3) = false := by simp; omega
    have m4 : ((v.kd : Int) == 4) = false := by simp; omega
    have m5 : ((v.kd : Int) == 5) = true := by simp; omega
    have m6 : ((v.kd : Int) == 6) = false := by simp; omega
    clear hk
    have HRk := hid (show wk.rangeAt w.heap.size 21 [.int .u32 (v.ev.pl : Nat), .int .u32 (v.ev.rq.cl : Nat), .int .u32 (v.ev.rq.nu : Nat), .int .u32 (v.ev.rq.ac : Nat), .int .u8 (v.ev.rq.op : Nat), .int .u32 (v.ev.rq.re : Nat), .int .u32 (v.ev.rq.ve : Nat), .int .u32 (v.ev.rq.wa : Nat), .int .u32 (v.ev.rq.ow : Nat), .slice a3 v.ev.rq.fs.length c3, .string v.ev.rq.rs, .int .u8 (v.ev.co : Nat), .slice a4 v.ev.dg.length c4] from range_piece hc (fun j u hu => by rw [Nat.add_comm]; exact (List.getElem?_append_left (l₁ := [.int .u32 (v.ev.pl : Nat), .int .u32 (v.ev.rq.cl : Nat), .int .u32 (v.ev.rq.nu : Nat), .int .u32 (v.ev.rq.ac : Nat), .int .u8 (v.ev.rq.op : Nat), .int .u32 (v.ev.rq.re : Nat), .int .u32 (v.ev.rq.ve : Nat), .int .u32 (v.ev.rq.wa : Nat), .int .u32 (v.ev.rq.ow : Nat), .slice a3 v.ev.rq.fs.length c3, .string v.ev.rq.rs, .int .u8 (v.ev.co : Nat), .slice a4 v.ev.dg.length c4]) (l₂ := [.int .u32 (v.le : Nat)]) (List.getElem?_eq_some_iff.1 hu).1).trans hu))
    clear hc
    go_wp2_with ((with_reducible refine wpList_at 77 ?_); refine wpList_load_mid rfl 35 (.tmp 76) rfl w.heap.size 21 rfl _ _ (uh HRk) Tryz.underlying35 rfl Tryz.sizeEvP ?_)
    clear HRk k0
    refine (gevent_any HFc v.ev a3 a4 c3 c4 _ (uh HV).1.ev (((uh HV).2.1.i3.fr0 (uh HF1)).fr0 (uh HD)) (uh HV).2.2.s3 (uh HV).2.2.l3 (uh HV).2.2.r3 (((uh HV).2.1.i4.fr0 (uh HF1)).fr0 (uh HD))).mono ?_
    rintro e w10 ⟨y7, L7, rfl, hP7, hm7, hl7, hb7', hf10⟩
    have hb7 := hb7' w.heap.size (fun g o n c e => (uh HV).2.1.i4.lt g o n c e)
    clear hb7'
    obtain ⟨ao7, cap7, rfl, hz7⟩ := hP7.formz
    obtain ⟨a11, c11, w11, hr, hP11, hf11, -⟩ := ((uh HP).fr0 hf10).app (Nat.le_trans (uh HD).size hf10.size) ao7 cap7 L7 hP7.cells (fun q hq => ⟨(hP7.el q hq).1, Bl.far (uh HP) hb7 (Nat.le_of_lt hlt1) (Nat.le_refl _) q hq⟩) (by have := hl7; have := (uh HV).2.2.l0; have := (uh HV).2.2.l1; have := (uh HV).2.2.l2; have := (uh HV).2.2.l3; simp; omega) hz7
    obtain ⟨N11, hN11⟩ : ∃ N11, ([⟨⟨n_kind, 1, v.kd, [], KW⟩, .slice none 0 0⟩] : List PV).length + L7.length = N11 := ⟨_, rfl⟩
    rw [hN11] at hr hP11
    have hr' : (Builtin.append_ #[74, 74] 74 #[.slice (some ⟨wd.heap.size, 0, none⟩) 1 1, .slice ao7 L7.length cap7]).run Tryz.prog w10 = .ok (.slice a11 N11 c11) w11 := hr
    have HR2 := hid hr'
    have hw11 : Fr (fun _ => False) W1 w11 := absorbP ((uh HD).trans hf10 (fun _ _ h => h)) hf11 (fun i hi => ((uh HP).lt i hi).1)
    have k0 := (uh HB) w11 hw11 0 _ rfl
    have hmp : ([⟨⟨n_kind, 1, v.kd, [], KW⟩, .slice none 0 0⟩] ++ L7 : List PV).map PV.p = MD := by
     rw [uh HM]
     unfold message2D
     rw [if_neg (show ¬ v.kd = 1 by rw [uh HKD]; decide), if_neg (show ¬ v.kd = 2 by rw [uh HKD]; decide), if_neg (show ¬ v.kd = 3 by rw [uh HKD]; decide), if_neg (show ¬ v.kd = 4 by rw [uh HKD]; decide), if_pos (uh HKD)]
     rw [List.map_append, hm7]
     rfl
    have HZ := hid (And.intro (hP11.base (base' := w.heap.size) (Nat.le_of_lt hlt1)) (And.intro hmp (And.intro (show ([⟨⟨n_kind, 1, v.kd, [], KW⟩, .slice none 0 0⟩] ++ L7 : List PV).length ≤ 16777216 by have := (uh HV).2.2.l0; have := (uh HV).2.2.l1; have := (uh HV).2.2.l2; have := (uh HV).2.2.l3; simp [idV] <;> omega) ((uh HF1).trans hw11 (fun _ _ h => h)))))
    clear hr hr' hP11 hf11 hmp hN11 hz7 hP7 hf10 hb7 hl7 hm7 hw11
    go_wp2_with ((with_reducible refine wpList_at 79 ?_); refine wpList_appY rfl (.tmp 75) (.tmp 78) 74 74 rfl _ _ _ rfl rfl (uh HR2) ?_)
    go_ret
    exact ⟨_, _, rfl, (uh HZ).1, (uh HZ).2.1, (uh HZ).2.2.1, (uh HZ).2.2.2⟩
   ·have HKD := hid hk
    have m1 : ((v.kd : Int) == 1) = false := by simp; omega
    have m2 : ((v.kd : Int) == 2) = false := by simp; omega
    have m3 : ((v.kd : Int) == 3) = false := by simp; omega
    have m4 : ((v.kd : Int) == 4) = false := by simp; omega
    have m5 : ((v.kd : Int) == 5) = false := by simp; omega
    have m6 : ((v.kd : Int) == 6) = true := by simp; omega
    clear hk
    have k34 := hc 34 _ rfl
    clear hc
    go_wp2_with fail
    refine (gu32_any n_length v.le (uh HV).1.le _).mono ?_
    rintro e w12 ⟨rfl, hf12⟩
    clear k0 k34
    have hXi : ∀ q ∈ ([⟨⟨n_length, 4, v.le, [], 0⟩, .slice none 0 0⟩] : List PV), q.In w12 := fun q hq => by
     obtain rfl := List.mem_singleton.1 hq
     exact nil_in _ _ rfl
    obtain ⟨a13, c13, w13, hr, hP11, hf13⟩ := ((uh HP).fr0 hf12).add (Nat.le_trans (uh HD).size hf12.size) _ hXi (Bl.far (uh HP) (Bl.one (B := 0) (lo := wk.heap.size)) (Nat.zero_le _) (Nat.le_refl _)) (by simp)
    have HR3 := hid hr
    have hw11 : Fr (fun _ => False) W1 w13 := absorbP ((uh HD).trans hf12 (fun _ _ h => h)) hf13 (fun i hi => ((uh HP).lt i hi).1)
    have hmp : ([⟨⟨n_kind, 1, v.kd, [], KW⟩, .slice none 0 0⟩] ++ [⟨⟨n_length, 4, v.le, [], 0⟩, .slice none 0 0⟩] : List PV).map PV.p = MD := by
     rw [uh HM]
     unfold message2D
     rw [if_neg (show ¬ v.kd = 1 by rw [uh HKD]; decide), if_neg (show ¬ v.kd = 2 by rw [uh HKD]; decide), if_neg (show ¬ v.kd = 3 by rw [uh HKD]; decide), if_neg (show ¬ v.kd = 4 by rw [uh HKD]; decide), if_neg (show ¬ v.kd = 5 by rw [uh HKD]; decide), if_pos (uh HKD)]
     rw [List.map_append]
     rfl
    have HZ := hid (And.intro (hP11.base (base' := w.heap.size) (Nat.le_of_lt hlt1)) (And.intro hmp (And.intro (show ([⟨⟨n_kind, 1, v.kd, [], KW⟩, .slice none 0 0⟩] ++ [⟨⟨n_length, 4, v.le, [], 0⟩, .slice none 0 0⟩] : List PV).length ≤ 16777216 by have := (uh HV).2.2.l0; have := (uh HV).2.2.l1; have := (uh HV).2.2.l2; have := (uh HV).2.2.l3; simp [idV] <;> omega) ((uh HF1).trans hw11 (fun _ _ h => h)))))
    clear hr hP11 hf13 hmp hXi hf12 hw11
    go_wp2_with ((with_reducible refine wpList_at 88 ?_); refine wpList_appY rfl (.tmp 83) (.tmp 87) 74 74 rfl _ _ _ rfl rfl (uh HR3) ?_)
    go_ret
    exact ⟨_, _, rfl, (uh HZ).1, (uh HZ).2.1, (uh HZ).2.2.1, (uh HZ).2.2.2⟩
   ·have m1 : ((v.kd : Int) == 1) = false := by simp; omega
    have m2 : ((v.kd : Int) == 2) = false := by simp; omega
    have m3 : ((v.kd : Int) == 3) = false := by simp; omega
    have m4 : ((v.kd : Int) == 4) = false := by simp; omega
    have m5 : ((v.kd : Int) == 5) = false := by simp; omega
    have m6 : ((v.kd : Int) == 6) = false := by simp; omega
    have HKD := hid (And.intro q1 (And.intro q2 (And.intro q3 (And.intro q4 (And.intro q5 q6)))))
    clear q1 q2 q3 q4 q5 q6 hc
    have hmp : ([⟨⟨n_kind, 1, v.kd, [], KW⟩, .slice none 0 0⟩] : List PV).map PV.p = MD := by
     rw [uh HM]
     unfold message2D
     rw [if_neg (uh HKD).1, if_neg (uh HKD).2.1, if_neg (uh HKD).2.2.1, if_neg (uh HKD).2.2.2.1, if_neg (uh HKD).2.2.2.2.1, if_neg (uh HKD).2.2.2.2.2]
     rfl
    have HZ := hid (And.intro ((uh HP).base (base' := w.heap.size) (Nat.le_of_lt hlt1)) (And.intro hmp (And.intro (show ([⟨⟨n_kind, 1, v.kd, [], KW⟩, .slice none 0 0⟩] : List PV).length ≤ 16777216 by simp) ((uh HF1).trans (uh HD) (fun _ _ h => h)))))
    clear hmp
    go_wp2_with fail
    go_ret
    exact ⟨_, _, rfl, (uh HZ).1, (uh HZ).2.1, (uh HZ).2.2.1, (uh HZ).2.2.2⟩
end Go.Proofs.YtdcopmkgmbiikaaGreatDoor
namespace Go.Proofs.YtdcopmkgmbiikaaGreatDoor
open Go.RowKit
end Go.Proofs.YtdcopmkgmbiikaaGreatDoor
namespace Go.Proofs.YtdcopmkgmbiikaaGreatDoor
open Go.RowKit
set_option maxRecDepth 100000 in
set_option maxHeartbeats 2000000 in
theorem lput2_Request (va vs : List Value) (hm : ∀ (i : Nat) v, vs[i]? = some v → va[0 + i]? = some v) (hln : vs.length = 10) (w : World) (Q : Ending → World → Prop) (h : Calls Tryz.prog 13 #[.agg vs.toArray] (w.alloc (.cells va.toArray 44)) fun e w' => (∃ v err, e = .returned (.tuple #[v, err])) ∧ Q e w') :
  Calls Tryz.prog 16 #[.int .i64 1, .agg va.toArray] w fun e w' => (∃ v err, e = .returned (.tuple #[v, err])) ∧ Q e w' := by
 have H := hid h
 have HR : Hid ((w.alloc (.cells va.toArray 44)).rangeAt w.heap.size 0 vs) := hid (fun j u hu => cOB (heap_alloc_new w _) (by simpa using hm j u hu))
 have HZ : Hid ((Tryz.prog.info? 30).map (·.size) = some vs.length) := hid (by rw [hln]; exact Tryz.sizeP_Request)
 clear h hln hm
 go_enter Tryz.func16, Tryz.ntmps16
 go_wp2_with (refine wpList_load_mid rfl 30 (.tmp 9) rfl w.heap.size 0 rfl _ _ (uh HR) Tryz.underlying30 rfl (uh HZ) ?_)
 refine (uh H).mono ?_
 rintro e w' ⟨⟨v, err, rfl⟩, hr⟩
 have HX := hid hr
 clear hr
 go_wp2_with fail
 go_ret2
 exact ⟨⟨v, err, rfl⟩, uh HX⟩
set_option maxRecDepth 100000 in
set_option maxHeartbeats 2000000 in
theorem lput2_Answer (va vs : List Value) (hm : ∀ (i : Nat) v, vs[i]? = some v → va[10 + i]? = some v) (hln : vs.length = 7) (w : World) (Q : Ending → World → Prop) (h : Calls Tryz.prog 14 #[.agg vs.toArray] (w.alloc (.cells va.toArray 44)) fun e w' => (∃ v err, e = .returned (.tuple #[v, err])) ∧ Q e w') :
  Calls Tryz.prog 16 #[.int .i64 2, .agg va.toArray] w fun e w' => (∃ v err, e = .returned (.tuple #[v, err])) ∧ Q e w' := by
 have H := hid h
 have HR : Hid ((w.alloc (.cells va.toArray 44)).rangeAt w.heap.size 10 vs) := hid (fun j u hu => cOB (heap_alloc_new w _) (by simpa using hm j u hu))
 have HZ : Hid ((Tryz.prog.info? 33).map (·.size) = some vs.length) := hid (by rw [hln]; exact Tryz.sizeP_Answer)
 clear h hln hm
 go_enter Tryz.func16, Tryz.ntmps16
 go_wp2_with (refine wpList_load_mid rfl 33 (.tmp 16) rfl w.heap.size 10 rfl _ _ (uh HR) Tryz.underlying33 rfl (uh HZ) ?_)
 refine (uh H).mono ?_
 rintro e w' ⟨⟨v, err, rfl⟩, hr⟩
 have HX := hid hr
 clear hr
 go_wp2_with fail
 go_ret2
 exact ⟨⟨v, err, rfl⟩, uh HX⟩
set_option maxRecDepth 100000 in
set_option maxHeartbeats 2000000 in
theorem lput2_Event (va vs : List Value) (hm : ∀ (i : Nat) v, vs[i]? = some v → va[17 + i]? = some v) (hln : vs.length = 13) (w : World) (Q : Ending → World → Prop) (h : Calls Tryz.prog 31 #[.agg vs.toArray] (w.alloc (.cells va.toArray 44)) fun e w' => (∃ v err, e = .returned (.tuple #[v, err])) ∧ Q e w') :
  Calls Tryz.prog 16 #[.int .i64 3, .agg va.toArray] w fun e w' => (∃ v err, e = .returned (.tuple #[v, err])) ∧ Q e w' := by
 have H := hid h
 have HR : Hid ((w.alloc (.cells va.toArray 44)).rangeAt w.heap.size 17 vs) := hid (fun j u hu => cOB (heap_alloc_new w _) (by simpa using hm j u hu))
 have HZ : Hid ((Tryz.prog.info? 35).map (·.size) = some vs.length) := hid (by rw [hln]; exact Tryz.sizeP_Event)
 clear h hln hm
 go_enter Tryz.func16, Tryz.ntmps16
 go_wp2_with (refine wpList_load_mid rfl 35 (.tmp 23) rfl w.heap.size 17 rfl _ _ (uh HR) Tryz.underlying35 rfl (uh HZ) ?_)
 refine (uh H).mono ?_
 rintro e w' ⟨⟨v, err, rfl⟩, hr⟩
 have HX := hid hr
 clear hr
 go_wp2_with fail
 go_ret2
 exact ⟨⟨v, err, rfl⟩, uh HX⟩
set_option maxRecDepth 100000 in
set_option maxHeartbeats 2000000 in
theorem lput2_Head (va vs : List Value) (hm : ∀ (i : Nat) v, vs[i]? = some v → va[30 + i]? = some v) (hln : vs.length = 2) (w : World) (Q : Ending → World → Prop) (h : Calls Tryz.prog 21 #[.agg vs.toArray] (w.alloc (.cells va.toArray 44)) fun e w' => (∃ v err, e = .returned (.tuple #[v, err])) ∧ Q e w') :
  Calls Tryz.prog 16 #[.int .i64 4, .agg va.toArray] w fun e w' => (∃ v err, e = .returned (.tuple #[v, err])) ∧ Q e w' := by
 have H := hid h
 have HR : Hid ((w.alloc (.cells va.toArray 44)).rangeAt w.heap.size 30 vs) := hid (fun j u hu => cOB (heap_alloc_new w _) (by simpa using hm j u hu))
 have HZ : Hid ((Tryz.prog.info? 25).map (·.size) = some vs.length) := hid (by rw [hln]; exact Tryz.sizeP_Head)
 clear h hln hm
 go_enter Tryz.func16, Tryz.ntmps16
 go_wp2_with (refine wpList_load_mid rfl 25 (.tmp 30) rfl w.heap.size 30 rfl _ _ (uh HR) Tryz.underlying25 rfl (uh HZ) ?_)
 refine (uh H).mono ?_
 rintro e w' ⟨⟨v, err, rfl⟩, hr⟩
 have HX := hid hr
 clear hr
 go_wp2_with fail
 go_ret2
 exact ⟨⟨v, err, rfl⟩, uh HX⟩
set_option maxRecDepth 100000 in
set_option maxHeartbeats 2000000 in
theorem lput2_Signed (va vs : List Value) (hm : ∀ (i : Nat) v, vs[i]? = some v → va[32 + i]? = some v) (hln : vs.length = 4) (w : World) (Q : Ending → World → Prop) (h : Calls Tryz.prog 32 #[.agg vs.toArray] (w.alloc (.cells va.toArray 44)) fun e w' => (∃ v err, e = .returned (.tuple #[v, err])) ∧ Q e w') :
  Calls Tryz.prog 16 #[.int .i64 5, .agg va.toArray] w fun e w' => (∃ v err, e = .returned (.tuple #[v, err])) ∧ Q e w' := by
 have H := hid h
 have HR : Hid ((w.alloc (.cells va.toArray 44)).rangeAt w.heap.size 32 vs) := hid (fun j u hu => cOB (heap_alloc_new w _) (by simpa using hm j u hu))
 have HZ : Hid ((Tryz.prog.info? 37).map (·.size) = some vs.length) := hid (by rw [hln]; exact Tryz.sizeP_Signed)
 clear h hln hm
 go_enter Tryz.func16, Tryz.ntmps16
 go_wp2_with (refine wpList_load_mid rfl 37 (.tmp 37) rfl w.heap.size 32 rfl _ _ (uh HR) Tryz.underlying37 rfl (uh HZ) ?_)
 refine (uh H).mono ?_
 rintro e w' ⟨⟨v, err, rfl⟩, hr⟩
 have HX := hid hr
 clear hr
 go_wp2_with fail
 go_ret2
 exact ⟨⟨v, err, rfl⟩, uh HX⟩
set_option maxRecDepth 100000 in
set_option maxHeartbeats 2000000 in
theorem lput2_Proof (va vs : List Value) (hm : ∀ (i : Nat) v, vs[i]? = some v → va[36 + i]? = some v) (hln : vs.length = 1) (w : World) (Q : Ending → World → Prop) (h : Calls Tryz.prog 33 #[.agg vs.toArray] (w.alloc (.cells va.toArray 44)) fun e w' => (∃ v err, e = .returned (.tuple #[v, err])) ∧ Q e w') :
  Calls Tryz.prog 16 #[.int .i64 6, .agg va.toArray] w fun e w' => (∃ v err, e = .returned (.tuple #[v, err])) ∧ Q e w' := by
 have H := hid h
 have HR : Hid ((w.alloc (.cells va.toArray 44)).rangeAt w.heap.size 36 vs) := hid (fun j u hu => cOB (heap_alloc_new w _) (by simpa using hm j u hu))
 have HZ : Hid ((Tryz.prog.info? 40).map (·.size) = some vs.length) := hid (by rw [hln]; exact Tryz.sizeP_Proof)
 clear h hln hm
 go_enter Tryz.func16, Tryz.ntmps16
 go_wp2_with (refine wpList_load_mid rfl 40 (.tmp 44) rfl w.heap.size 36 rfl _ _ (uh HR) Tryz.underlying40 rfl (uh HZ) ?_)
 refine (uh H).mono ?_
 rintro e w' ⟨⟨v, err, rfl⟩, hr⟩
 have HX := hid hr
 clear hr
 go_wp2_with fail
 go_ret2
 exact ⟨⟨v, err, rfl⟩, uh HX⟩
set_option maxRecDepth 100000 in
set_option maxHeartbeats 2000000 in
theorem lput2_Message (va vs : List Value) (hm : ∀ (i : Nat) v, vs[i]? = some v → va[37 + i]? = some v) (hln : vs.length = 35) (w : World) (Q : Ending → World → Prop) (h : Calls Tryz.prog 10 #[.agg vs.toArray] (w.alloc (.cells va.toArray 44)) fun e w' => (∃ v err, e = .returned (.tuple #[v, err])) ∧ Q e w') :
  Calls Tryz.prog 16 #[.int .i64 7, .agg va.toArray] w fun e w' => (∃ v err, e = .returned (.tuple #[v, err])) ∧ Q e w' := by
 have H := hid h
 have HR : Hid ((w.alloc (.cells va.toArray 44)).rangeAt w.heap.size 37 vs) := hid (fun j u hu => cOB (heap_alloc_new w _) (by simpa using hm j u hu))
 have HZ : Hid ((Tryz.prog.info? 42).map (·.size) = some vs.length) := hid (by rw [hln]; exact Tryz.sizeP_Message)
 clear h hln hm
 go_enter Tryz.func16, Tryz.ntmps16
 go_wp2_with (refine wpList_load_mid rfl 42 (.tmp 49) rfl w.heap.size 37 rfl _ _ (uh HR) Tryz.underlying42 rfl (uh HZ) ?_)
 refine (uh H).mono ?_
 rintro e w' ⟨⟨v, err, rfl⟩, hr⟩
 have HX := hid hr
 clear hr
 go_wp2_with fail
 go_ret2
 exact ⟨⟨v, err, rfl⟩, uh HX⟩
set_option linter.unusedSimpArgs false
set_option maxRecDepth 100000 in
set_option maxHeartbeats 2000000 in
theorem gparts_Request (va vs : List Value) (hm : ∀ (i : Nat) v, vs[i]? = some v → va[0 + i]? = some v) (hln : vs.length = 10) (w : World) (Q : Ending → World → Prop) (h : Calls Tryz.prog 50 #[.agg vs.toArray] (w.alloc (.cells va.toArray 44)) fun e w' => ∃ v, e = .returned v ∧ Q (.returned v) w') :
  Calls Tryz.prog 24 #[.int .i64 1, .agg va.toArray] w Q := by
 have H := hid h
 have HR : Hid ((w.alloc (.cells va.toArray 44)).rangeAt w.heap.size 0 vs) := hid (fun j u hu => cOB (heap_alloc_new w _) (by simpa using hm j u hu))
 have HZ : Hid ((Tryz.prog.info? 30).map (·.size) = some vs.length) := hid (by rw [hln]; exact Tryz.sizeP_Request)
 clear h hln hm
 go_enter Tryz.func24, Tryz.ntmps24
 go_wp2_with ((with_reducible refine wpList_at 8 ?_); refine wpList_load_mid rfl 30 (.tmp 7) rfl w.heap.size 0 rfl _ _ (uh HR) Tryz.underlying30 rfl (uh HZ) ?_)
 refine (uh H).mono ?_
 rintro e w' ⟨v, rfl, hr⟩
 have HX := hid hr
 clear hr
 go_wp2_with fail
 exact uh HX
set_option maxRecDepth 100000 in
set_option maxHeartbeats 2000000 in
theorem gparts_Answer (va vs : List Value) (hm : ∀ (i : Nat) v, vs[i]? = some v → va[10 + i]? = some v) (hln : vs.length = 7) (w : World) (Q : Ending → World → Prop) (h : Calls Tryz.prog 51 #[.agg vs.toArray] (w.alloc (.cells va.toArray 44)) fun e w' => ∃ v, e = .returned v ∧ Q (.returned v) w') :
  Calls Tryz.prog 24 #[.int .i64 2, .agg va.toArray] w Q := by
 have H := hid h
 have HR : Hid ((w.alloc (.cells va.toArray 44)).rangeAt w.heap.size 10 vs) := hid (fun j u hu => cOB (heap_alloc_new w _) (by simpa using hm j u hu))
 have HZ : Hid ((Tryz.prog.info? 33).map (·.size) = some vs.length) := hid (by rw [hln]; exact Tryz.sizeP_Answer)
 clear h hln hm
 go_enter Tryz.func24, Tryz.ntmps24
 go_wp2_with ((with_reducible refine wpList_at 13 ?_); refine wpList_load_mid rfl 33 (.tmp 12) rfl w.heap.size 10 rfl _ _ (uh HR) Tryz.underlying33 rfl (uh HZ) ?_)
 refine (uh H).mono ?_
 rintro e w' ⟨v, rfl, hr⟩
 have HX := hid hr
 clear hr
 go_wp2_with fail
 exact uh HX
set_option maxRecDepth 100000 in
set_option maxHeartbeats 2000000 in
theorem gparts_Event (va vs : List Value) (hm : ∀ (i : Nat) v, vs[i]? = some v → va[17 + i]? = some v) (hln : vs.length = 13) (w : World) (Q : Ending → World → Prop) (h : Calls Tryz.prog 52 #[.agg vs.toArray] (w.alloc (.cells va.toArray 44)) fun e w' => ∃ v, e = .returned v ∧ Q (.returned v) w') :
  Calls Tryz.prog 24 #[.int .i64 3, .agg va.toArray] w Q := by
 have H := hid h
 have HR : Hid ((w.alloc (.cells va.toArray 44)).rangeAt w.heap.size 17 vs) := hid (fun j u hu => cOB (heap_alloc_new w _) (by simpa using hm j u hu))
 have HZ : Hid ((Tryz.prog.info? 35).map (·.size) = some vs.length) := hid (by rw [hln]; exact Tryz.sizeP_Event)
 clear h hln hm
 go_enter Tryz.func24, Tryz.ntmps24
 go_wp2_with ((with_reducible refine wpList_at 18 ?_); refine wpList_load_mid rfl 35 (.tmp 17) rfl w.heap.size 17 rfl _ _ (uh HR) Tryz.underlying35 rfl (uh HZ) ?_)
 refine (uh H).mono ?_
 rintro e w' ⟨v, rfl, hr⟩
 have HX := hid hr
 clear hr
 go_wp2_with fail
 exact uh HX
set_option maxRecDepth 100000 in
set_option maxHeartbeats 2000000 in
theorem gparts_Head (va vs : List Value) (hm : ∀ (i : Nat) v, vs[i]? = some v → va[30 + i]? = some v) (hln : vs.length = 2) (w : World) (Q : Ending → World → Prop) (h : Calls Tryz.prog 53 #[.agg vs.toArray] (w.alloc (.cells va.toArray 44)) fun e w' => ∃ v, e = .returned v ∧ Q (.returned v) w') :
  Calls Tryz.prog 24 #[.int .i64 4, .agg va.toArray] w Q := by
 have H := hid h
 have HR : Hid ((w.alloc (.cells va.toArray 44)).rangeAt w.heap.size 30 vs) := hid (fun j u hu => cOB (heap_alloc_new w _) (by simpa using hm j u hu))
 have HZ : Hid ((Tryz.prog.info? 25).map (·.size) = some vs.length) := hid (by rw [hln]; exact Tryz.sizeP_Head)
 clear h hln hm
 go_enter Tryz.func24, Tryz.ntmps24
 go_wp2_with ((with_reducible refine wpList_at 23 ?_); refine wpList_load_mid rfl 25 (.tmp 22) rfl w.heap.size 30 rfl _ _ (uh HR) Tryz.underlying25 rfl (uh HZ) ?_)
 refine (uh H).mono ?_
 rintro e w' ⟨v, rfl, hr⟩
 have HX := hid hr
 clear hr
 go_wp2_with fail
 exact uh HX
set_option maxRecDepth 100000 in
set_option maxHeartbeats 2000000 in
theorem gparts_Signed (va vs : List Value) (hm : ∀ (i : Nat) v, vs[i]? = some v → va[32 + i]? = some v) (hln : vs.length = 4) (w : World) (Q : Ending → World → Prop) (h : Calls Tryz.prog 54 #[.agg vs.toArray] (w.alloc (.cells va.toArray 44)) fun e w' => ∃ v, e = .returned v ∧ Q (.returned v) w') :
  Calls Tryz.prog 24 #[.int .i64 5, .agg va.toArray] w Q := by
 have H := hid h
 have HR : Hid ((w.alloc (.cells va.toArray 44)).rangeAt w.heap.size 32 vs) := hid (fun j u hu => cOB (heap_alloc_new w _) (by simpa using hm j u hu))
 have HZ : Hid ((Tryz.prog.info? 37).map (·.size) = some vs.length) := hid (by rw [hln]; exact Tryz.sizeP_Signed)
 clear h hln hm
 go_enter Tryz.func24, Tryz.ntmps24
 go_wp2_with ((with_reducible refine wpList_at 28 ?_); refine wpList_load_mid rfl 37 (.tmp 27) rfl w.heap.size 32 rfl _ _ (uh HR) Tryz.underlying37 rfl (uh HZ) ?_)
 refine (uh H).mono ?_
 rintro e w' ⟨v, rfl, hr⟩
 have HX := hid hr
 clear hr
 go_wp2_with fail
 exact uh HX
set_option maxRecDepth 100000 in
set_option maxHeartbeats 2000000 in
theorem gparts_Proof (va vs : List Value) (hm : ∀ (i : Nat) v, vs[i]? = some v → va[36 + i]? = some v) (hln : vs.length = 1) (w : World) (Q : Ending → World → Prop) (h : Calls Tryz.prog 55 #[.agg vs.toArray] (w.alloc (.cells va.toArray 44)) fun e w' => ∃ v, e = .returned v ∧ Q (.returned v) w') :
  Calls Tryz.prog 24 #[.int .i64 6, .agg va.toArray] w Q := by
 have H := hid h
 have HR : Hid ((w.alloc (.cells va.toArray 44)).rangeAt w.heap.size 36 vs) := hid (fun j u hu => cOB (heap_alloc_new w _) (by simpa using hm j u hu))
 have HZ : Hid ((Tryz.prog.info? 40).map (·.size) = some vs.length) := hid (by rw [hln]; exact Tryz.sizeP_Proof)
 clear h hln hm
 go_enter Tryz.func24, Tryz.ntmps24
 go_wp2_with ((with_reducible refine wpList_at 33 ?_); refine wpList_load_mid rfl 40 (.tmp 32) rfl w.heap.size 36 rfl _ _ (uh HR) Tryz.underlying40 rfl (uh HZ) ?_)
 refine (uh H).mono ?_
 rintro e w' ⟨v, rfl, hr⟩
 have HX := hid hr
 clear hr
 go_wp2_with fail
 exact uh HX
set_option maxRecDepth 100000 in
set_option maxHeartbeats 2000000 in
theorem gparts_Message (va vs : List Value) (hm : ∀ (i : Nat) v, vs[i]? = some v → va[37 + i]? = some v) (hln : vs.length = 35) (w : World) (Q : Ending → World → Prop) (h : Calls Tryz.prog 56 #[.agg vs.toArray] (w.alloc (.cells va.toArray 44)) fun e w' => ∃ v, e = .returned v ∧ Q (.returned v) w') :
  Calls Tryz.prog 24 #[.int .i64 7, .agg va.toArray] w Q := by
 have H := hid h
 have HR : Hid ((w.alloc (.cells va.toArray 44)).rangeAt w.heap.size 37 vs) := hid (fun j u hu => cOB (heap_alloc_new w _) (by simpa using hm j u hu))
 have HZ : Hid ((Tryz.prog.info? 42).map (·.size) = some vs.length) := hid (by rw [hln]; exact Tryz.sizeP_Message)
 clear h hln hm
 go_enter Tryz.func24, Tryz.ntmps24
 go_wp2_with ((with_reducible refine wpList_at 36 ?_); refine wpList_load_mid rfl 42 (.tmp 35) rfl w.heap.size 37 rfl _ _ (uh HR) Tryz.underlying42 rfl (uh HZ) ?_)
 refine (uh H).mono ?_
 rintro e w' ⟨v, rfl, hr⟩
 have HX := hid hr
 clear hr
 go_wp2_with fail
 exact uh HX
theorem FdI.form {w : World} {x : Value} {l : List Fld} (h : FdI w x l) : ∃ xo xc, x = .slice xo l.length xc := by obtain ⟨xo, xc, e, _⟩ := h.v; exact ⟨xo, xc, e⟩
theorem FdI.at_ {w : World} {xo : Option Addr} {n xc : Nat} {l : List Fld} (h : FdI w (.slice xo n xc) l) {j : Nat} {f : Fld} (hf : l[j]? = some f) : ∃ g o, xo = some ⟨g, o, none⟩ ∧ w.cell? ⟨g, o + j * 5, none⟩ = some (.string f.name) ∧ w.cell? ⟨g, o + j * 5 + 1, none⟩ = some (.int .u8 (f.kind : Nat)) ∧ w.cell? ⟨g, o + j * 5 + 2, none⟩ = some (.string f.text) ∧ w.cell? ⟨g, o + j * 5 + 3, none⟩ = some (.float .f32 f.value) ∧ w.cell? ⟨g, o + j * 5 + 4, none⟩ = some (.int .u8 (f.unit : Nat)) := by
 obtain ⟨xo', xc', e, hv⟩ := h.v
 injection e with e1 e2 e3
 subst e1
 obtain ⟨_, g, o, h1, _, h3, h4, h5, h6, h7⟩ := hv.el j f hf
 exact ⟨g, o, h1, h3, h4, h5, h6, h7⟩
theorem SuI.form {w : World} {x : Value} {l : List SuM} (h : SuI w x l) : ∃ xo xc, x = .slice xo l.length xc := by obtain ⟨xo, xc, e, _⟩ := h.v; exact ⟨xo, xc, e⟩
theorem SuI.at_ {w : World} {xo : Option Addr} {n xc : Nat} {l : List SuM} (h : SuI w (.slice xo n xc) l) {j : Nat} {f : SuM} (hf : l[j]? = some f) : ∃ g o, xo = some ⟨g, o, none⟩ ∧ w.cell? ⟨g, o + j * 4, none⟩ = some (.int .u32 (f.au : Nat)) ∧ w.cell? ⟨g, o + j * 4 + 1, none⟩ = some (.int .u32 (f.ev : Nat)) ∧ w.cell? ⟨g, o + j * 4 + 2, none⟩ = some (.int .u32 (f.fi : Nat)) ∧ w.cell? ⟨g, o + j * 4 + 3, none⟩ = some (.bool f.re) := by
 obtain ⟨xo', xc', e, hv⟩ := h.v
 injection e with e1 e2 e3
 subst e1
 obtain ⟨_, g, o, h1, _, h3, h4, h5, h6⟩ := hv.el j f hf
 exact ⟨g, o, h1, h3, h4, h5, h6⟩
end Go.Proofs.YtdcopmkgmbiikaaGreatDoor
