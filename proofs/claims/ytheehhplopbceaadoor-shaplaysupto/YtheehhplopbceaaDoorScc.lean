import Derived.Test.YtheehhplopbceaaDoorSby
namespace Go.Proofs.YtheehhplopbceaaDoor
open Go.RowKit

/-- Bytes that the program's text has, in a new block. -/
theorem src_new (w : World) (l : List Nat) (cs : Array Value) (t : TypeId) (fz : Nat × Nat) (n c : Nat) (hn : n = l.length) (h : cs = (cellsOf l).toArray) : Src (w.alloc (.cells cs t fz)) (.slice (some ⟨w.heap.size, 0, none⟩) n c) l := by
  subst hn h
  refine .inr (.inl ⟨_, 0, _, rfl, fun j v hv => ?_⟩)
  rw [Nat.zero_add, ← hv]
  simp only [World.alloc, World.cell?, Array.getElem?_push, if_true]
  simp
theorem cap_lit {g : Option Addr} {n : Nat} : ∀ g' n' c', (Value.slice g n n) = .slice g' n' c' → n' ≤ c' := fun _ _ _ e => by cases e; exact Nat.le_refl _
theorem lt_lit {w : World} {o : Obj} {n : Nat} : ∀ g' o' n' c', (Value.slice (some ⟨w.heap.size, 0, none⟩) n n) = .slice (some ⟨g', o', none⟩) n' c' → g' < (w.alloc o).heap.size := fun _ _ _ _ e => by
  simp only [Value.slice.injEq, Option.some.injEq, Addr.mk.injEq, and_true] at e
  rw [← e.1.1]; simp
theorem ne_lit {w : World} {b : Nat} {n : Nat} (hb : b < w.heap.size) : ∀ g' o' n' c', (Value.slice (some ⟨w.heap.size, 0, none⟩) n n) = .slice (some ⟨g', o', none⟩) n' c' → ¬ g' = b := fun _ _ _ _ e => by
  simp only [Value.slice.injEq, Option.some.injEq, Addr.mk.injEq, and_true] at e
  rw [← e.1.1]; omega
theorem HM.lt {w : World} {b o : Nat} {m : List Nat} (h : HM w b o m) : b < w.heap.size := HsAt.lt h
/-- What was summed, as a slice. -/
theorem sum_src {w : World} {g n : Nat} {z : S8} (h2 : n ≤ 32) (h : BtAt w g n (fun j => ((sby z).take n).getD j 0)) : Src w (.slice (some ⟨g, 0, none⟩) n n) ((sby z).take n) :=
  h.src (by rw [List.length_take, sby_len]; omega) (fun j hj => by
    rw [Nat.mod_eq_of_lt]
    rw [List.getD]
    rcases e : ((sby z).take n)[j]? with _ | x
    · decide
    · exact sby_lt z x (List.mem_of_mem_take (List.mem_of_getElem? e)))
theorem fr_new {w w' : World} {b : Nat} (hf : Fr (fun k => k = b) w w') {w0 : World} (h0 : Fr (fun _ => False) w0 w) (hb : w0.heap.size ≤ b) : Fr (fun _ => False) w0 w' :=
  h0.trans (hf.mono (T := fun k => w0.heap.size ≤ k) (fun i _ h => by omega)) (fun i hi h => by omega)
theorem sv_a : sameB ((sby (dig [97, 98, 99])).take 4) (hxl (bytesOf ⟨#[98, 97, 55, 56, 49, 54, 98, 102]⟩)) = true := by decide +kernel
theorem sv_b : sameB ((sby (dig [97, 98, 99])).take 1) (hxl (bytesOf ⟨#[98, 97]⟩)) = true := by decide +kernel
theorem sv_c : sameB ((sby (dig [])).take 32) (hxl (bytesOf ⟨#[101, 51, 98, 48, 99, 52, 52, 50, 57, 56, 102, 99, 49, 99, 49, 52, 57, 97, 102, 98, 102, 52, 99, 56, 57, 57, 54, 102, 98, 57, 50, 52, 50, 55, 97, 101, 52, 49, 101, 52, 54, 52, 57, 98, 57, 51, 52, 99, 97, 52, 57, 53, 57, 57, 49, 98, 55, 56, 53, 50, 98, 56, 53, 53]⟩)) = true := by decide +kernel
theorem sv_d : sameB ((sby (dig [97, 98, 99])).take 32) (hxl (bytesOf ⟨#[98, 97, 55, 56, 49, 54, 98, 102, 56, 102, 48, 49, 99, 102, 101, 97, 52, 49, 52, 49, 52, 48, 100, 101, 53, 100, 97, 101, 50, 50, 50, 51, 98, 48, 48, 51, 54, 49, 97, 51, 57, 54, 49, 55, 55, 97, 57, 99, 98, 52, 49, 48, 102, 102, 54, 49, 102, 50, 48, 48, 49, 53, 97, 100]⟩)) = true := by decide +kernel
theorem sv_e : sameB ((sby (dig [97, 98, 99, 100, 98, 99, 100, 101, 99, 100, 101, 102, 100, 101, 102, 103, 101, 102, 103, 104, 102, 103, 104, 105, 103, 104, 105, 106, 104, 105, 106, 107, 105, 106, 107, 108, 106, 107, 108, 109, 107, 108, 109, 110, 108, 109, 110, 111, 109, 110, 111, 112, 110, 111, 112, 113])).take 32) (hxl (bytesOf ⟨#[50, 52, 56, 100, 54, 97, 54, 49, 100, 50, 48, 54, 51, 56, 98, 56, 101, 53, 99, 48, 50, 54, 57, 51, 48, 99, 51, 101, 54, 48, 51, 57, 97, 51, 51, 99, 101, 52, 53, 57, 54, 52, 102, 102, 50, 49, 54, 55, 102, 54, 101, 99, 101, 100, 100, 52, 49, 57, 100, 98, 48, 54, 99, 49]⟩)) = true := by decide +kernel
theorem sv_f : sameB ((sby (dig [97])).take 1) (hxl (bytesOf ⟨#[99, 97]⟩)) = true := by decide +kernel
theorem sv_g : sameB ((sby (dig [97, 98, 99])).take 2) (hxl (bytesOf ⟨#[98, 97, 55, 56]⟩)) = true := by decide +kernel
theorem sv_h : sameB ((sby (dig [])).take 1) (hxl (bytesOf ⟨#[101, 51]⟩)) = true := by decide +kernel
theorem take_len (z : S8) (n : Nat) : ((sby z).take n).length ≤ 140737488355328 := by rw [List.length_take, sby_len]; omega
theorem same_T {w : World} {x y : Value} {a b : List Nat} (hx : Src w x a) (hy : Src w y b) (ha : a.length ≤ 140737488355328) (hs : sameB a b = true) : Calls Tryd.prog 9 #[x, y] w fun e w' => e = .returned (.bool true) ∧ Fr (fun _ => False) w w' := by
  refine (same_any x y a b w hx hy ha).mono ?_
  rintro e w' ⟨rfl, hn⟩
  exact ⟨by rw [hs], Fr.of_drewN hn⟩
set_option maxRecDepth 100000 in
set_option maxHeartbeats 4000000 in
theorem lives_any (w : World) (hg : GS w) : Calls Tryd.prog 8 #[] w fun e w' => e = .returned (.bool true) ∧ Fr (fun _ => False) w w' := by
  have hcv := fun (w : World) (C : Array Value) (n c : Nat) => Lib.run_convert_bytes_const (P := Tryd.prog) w 24 5 C n c Tryd.underlying24 Tryd.underlying5
  have hnot : ∀ (x : Bool) (w : World), (Op.unary .not (.bool x)).run Tryd.prog w = .ok (.bool (!x)) w := fun _ _ => rfl
  have HG := hide hg
  have F0 : Hid (Fr (fun _ => False) w w) := hide (Fr.refl _ _)
  clear hg
  go_enter Tryd.func8, Tryd.ntmps8
  go_wp2_with fail
  refine (new_any _ ((unhide HG).fr0 (unhide F0))).mono ?_
  rintro e w1 ⟨b, rfl, hH, hF, hb⟩
  have F1 := hide ((unhide F0).trans hF (fun _ _ h => h))
  have M1 := hide (HM.new hH)
  have hb0 : w.heap.size ≤ b := Nat.le_trans (unhide F0).size hb
  have HB0 := hide hb0
  clear hH hF hb hb0
  go_wp2_with fail
  refine (write_small b 0 [] [97, 98, 99] _ _ ((unhide M1).fr (S := fun _ => False) ((Fr.refl _ _).alloc _) (fun h => h)) (src_new w1 _ _ _ _ _ _ rfl rfl) (ne_lit (unhide M1).lt) (by decide) (by decide) (by decide) cap_lit).mono ?_
  rintro e w2 ⟨rfl, hM, hF⟩
  have M2 : Hid (HM w2 b 0 [97, 98, 99]) := hide hM
  have F2 := hide (fr_new hF ((unhide F1).alloc _) (unhide HB0))
  clear hM hF
  go_wp2_with fail
  refine (sum_small 4 [97, 98, 99] _ _ ((unhide HG).fr0 ((unhide F2).alloc _)) (src_new w2 _ _ _ _ _ _ rfl rfl) (by decide) (by decide) cap_lit lt_lit (by decide) (by decide)).mono ?_
  rintro e w3 ⟨g3, rfl, hB, hF, _⟩
  have F3 := hide (((unhide F2).alloc _).trans hF (fun _ _ h => h))
  have B3 := hide (sum_src (by decide) hB)
  have M3 := hide (((unhide M2).fr (S := fun _ => False) ((Fr.refl _ _).alloc _) (fun h => h)).fr hF (fun h => h))
  clear hB hF
  go_wp2_with fail
  refine (hex_any ⟨#[98, 97, 55, 56, 49, 54, 98, 102]⟩ _ (by decide)).mono ?_
  rintro e w4 ⟨v4, rfl, hS, hF⟩
  have F4 := hide ((unhide F3).trans hF (fun _ _ h => h))
  have B4 := hide (And.intro ((unhide B3).fr0 hF) hS)
  have M4 := hide ((unhide M3).fr hF (fun h => h))
  clear hS hF
  go_wp2_with fail
  refine (same_T (unhide B4).1 (unhide B4).2 (take_len _ _) sv_a).mono ?_
  rintro e w5 ⟨rfl, hF⟩
  have F5 := hide ((unhide F4).trans hF (fun _ _ h => h))
  have M5 := hide ((unhide M4).fr hF (fun h => h))
  clear hF
  go_wp2_with fail
  refine (hmsum_any b 0 1 [97, 98, 99] _ ((unhide HG).fr0 (unhide F5)) (unhide M5) (by decide) (by decide) (by decide) (by decide)).mono ?_
  rintro e w6 ⟨g6, rfl, hB, hF, _⟩
  have F6 := hide ((unhide F5).trans hF (fun _ _ h => h))
  have B6 := hide (sum_src (by decide) hB)
  have M6 := hide ((unhide M5).fr hF (fun h => h))
  clear hB hF
  go_wp2_with fail
  refine (hex_any ⟨#[98, 97]⟩ _ (by decide)).mono ?_
  rintro e w7 ⟨v7, rfl, hS, hF⟩
  have F7 := hide ((unhide F6).trans hF (fun _ _ h => h))
  have B7 := hide (And.intro ((unhide B6).fr0 hF) hS)
  have M7 := hide ((unhide M6).fr hF (fun h => h))
  clear hS hF
  go_wp2_with fail
  refine (same_T (unhide B7).1 (unhide B7).2 (take_len _ _) sv_b).mono ?_
  rintro e w8 ⟨rfl, hF⟩
  have F8 := hide ((unhide F7).trans hF (fun _ _ h => h))
  have M8 := hide ((unhide M7).fr hF (fun h => h))
  clear hF
  go_wp2_with fail
  refine (len_any b 0 _ _ _ _ (unhide M8)).mono ?_
  rintro e w' ⟨rfl, rfl⟩
  go_wp2_with fail
  go_ret
  exact ⟨rfl, unhide F8⟩
end Go.Proofs.YtheehhplopbceaaDoor
