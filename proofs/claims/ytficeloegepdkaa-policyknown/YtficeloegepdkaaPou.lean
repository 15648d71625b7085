import Derived.Test.YtficeloegepdkaaPop
namespace Go.Proofs.Ytficeloegepdkaa
open Go.RowKit

/-- The sheets of the examples in memory, and what is wanted. -/
structure KB (b : Nat) (W : World) : Prop where
  o0 : W.cell? ⟨b, 0, none⟩ = some (.int .u32 7)
  o1 : W.cell? ⟨b, 1, none⟩ = some (.int .u32 6)
  o2 : W.cell? ⟨b, 2, none⟩ = some (.bool false)
  o3 : W.cell? ⟨b, 3, none⟩ = some (.slice none 0 0)
  g0 : W.cell? ⟨b + 1 + 1, 0, none⟩ = some (.int .u32 7)
  g1 : W.cell? ⟨b + 1 + 1, 1, none⟩ = some (.int .u32 6)
  g2 : W.cell? ⟨b + 1 + 1, 2, none⟩ = some (.bool true)
  g3 : W.cell? ⟨b + 1 + 1, 3, none⟩ = some (.slice (some ⟨b + 1, 0, none⟩) 1 1)
  u0 : W.cell? ⟨b + 1 + 1 + 1, 0, none⟩ = some (.int .u8 0)
  u1 : W.cell? ⟨b + 1 + 1 + 1, 1, none⟩ = some (.int .u8 0)
  u2 : W.cell? ⟨b + 1 + 1 + 1, 2, none⟩ = some (.int .u8 0)
  u3 : W.cell? ⟨b + 1 + 1 + 1, 3, none⟩ = some (.int .u8 5)
  u4 : W.cell? ⟨b + 1 + 1 + 1, 4, none⟩ = some (.int .u8 5)
  u5 : W.cell? ⟨b + 1 + 1 + 1, 5, none⟩ = some (.int .u8 0)
  us : W.cell? ⟨b + 1, 0, none⟩ = some (.int .u32 4)
theorem KB.fr {b : Nat} {W W' : World} (h : KB b W) (hf : Fr (fun _ => False) W W') : KB b W' := by
  have A : ∀ (g i : Nat) (v : Value), W.cell? ⟨g, i, none⟩ = some v → W'.cell? ⟨g, i, none⟩ = some v := fun g i v e => (hf.cell (p := ⟨g, i, none⟩) (lt_of_cell e) (fun h => h)).trans e
  exact ⟨A _ _ _ h.o0, A _ _ _ h.o1, A _ _ _ h.o2, A _ _ _ h.o3, A _ _ _ h.g0, A _ _ _ h.g1, A _ _ _ h.g2, A _ _ _ h.g3, A _ _ _ h.u0, A _ _ _ h.u1, A _ _ _ h.u2, A _ _ _ h.u3, A _ _ _ h.u4, A _ _ _ h.u5, A _ _ _ h.us⟩
theorem KB.uss {b : Nat} {W : World} (h : KB b W) : Us W (.slice (some ⟨b + 1, 0, none⟩) 1 1) [4] := .inr ⟨b + 1, 0, 1, rfl, fun j hj => by
  obtain rfl : j = 0 := by simp at hj; omega
  exact h.us⟩
theorem alloc_cell (w : World) (c : Array Value) (t : TypeId) (n i : Nat) (hn : n = w.heap.size) (v : Value) (h : c[i]? = some v) : (w.alloc (.cells c t)).cell? ⟨n, i, none⟩ = some v := by rw [World.cell?_alloc_at _ _ _ _ hn]; exact h
theorem knW (w6 W0 : World) (hW0 : (((w6.alloc (.cells #[.int .u32 7, .int .u32 6, .bool false, .slice none 0 0] 29)).alloc (.cells #[.int .u32 4] 26)).alloc (.cells #[.int .u32 7, .int .u32 6, .bool true, .slice (some ⟨w6.heap.size + 1, 0, none⟩) 1 1] 29)).alloc (.cells #[.int .u8 0, .int .u8 0, .int .u8 0, .int .u8 5, .int .u8 5, .int .u8 0] 5) = W0) : KB w6.heap.size W0 := by
  subst hW0
  generalize hA : (.cells #[.int .u32 7, .int .u32 6, .bool false, .slice none 0 0] 29 : Obj) = A
  generalize hB : (.cells #[.int .u32 4] 26 : Obj) = B
  generalize hC : (.cells #[.int .u32 7, .int .u32 6, .bool true, .slice (some ⟨w6.heap.size + 1, 0, none⟩) 1 1] 29 : Obj) = C
  generalize hD : (.cells #[.int .u8 0, .int .u8 0, .int .u8 0, .int .u8 5, .int .u8 5, .int .u8 0] 5 : Obj) = D
  have s1 : (w6.alloc A).heap.size = w6.heap.size + 1 := by simp
  have s2 : ((w6.alloc A).alloc B).heap.size = w6.heap.size + 1 + 1 := by simp
  have s3 : (((w6.alloc A).alloc B).alloc C).heap.size = w6.heap.size + 1 + 1 + 1 := by simp
  have qo : ∀ (i : Nat) (v : Value), (#[.int .u32 7, .int .u32 6, .bool false, .slice none 0 0] : Array Value)[i]? = some v → ((((w6.alloc A).alloc B).alloc C).alloc D).cell? ⟨w6.heap.size, i, none⟩ = some v := fun i v hv => (World.cell?_alloc_past _ _ _ (by rw [s3]; omega)).trans ((World.cell?_alloc_past _ _ _ (by rw [s2]; omega)).trans ((World.cell?_alloc_past _ _ _ (by rw [s1]; omega)).trans (hA ▸ alloc_cell _ _ _ _ i rfl v hv)))
  have qu : ∀ (i : Nat) (v : Value), (#[.int .u32 4] : Array Value)[i]? = some v → ((((w6.alloc A).alloc B).alloc C).alloc D).cell? ⟨w6.heap.size + 1, i, none⟩ = some v := fun i v hv => (World.cell?_alloc_past _ _ _ (by rw [s3]; omega)).trans ((World.cell?_alloc_past _ _ _ (by rw [s2]; omega)).trans (hB ▸ alloc_cell _ _ _ _ i s1.symm v hv))
  have qg : ∀ (i : Nat) (v : Value), (#[.int .u32 7, .int .u32 6, .bool true, .slice (some ⟨w6.heap.size + 1, 0, none⟩) 1 1] : Array Value)[i]? = some v → ((((w6.alloc A).alloc B).alloc C).alloc D).cell? ⟨w6.heap.size + 1 + 1, i, none⟩ = some v := fun i v hv => (World.cell?_alloc_past _ _ _ (by rw [s3]; omega)).trans (hC ▸ alloc_cell _ _ _ _ i s2.symm v hv)
  have qw : ∀ (i : Nat) (v : Value), (#[.int .u8 0, .int .u8 0, .int .u8 0, .int .u8 5, .int .u8 5, .int .u8 0] : Array Value)[i]? = some v → ((((w6.alloc A).alloc B).alloc C).alloc D).cell? ⟨w6.heap.size + 1 + 1 + 1, i, none⟩ = some v := fun i v hv => hD ▸ alloc_cell _ _ _ _ i s3.symm v hv
  exact ⟨qo 0 _ rfl, qo 1 _ rfl, qo 2 _ rfl, qo 3 _ rfl, qg 0 _ rfl, qg 1 _ rfl, qg 2 _ rfl, qg 3 _ rfl, qw 0 _ rfl, qw 1 _ rfl, qw 2 _ rfl, qw 3 _ rfl, qw 4 _ rfl, qw 5 _ rfl, qu 0 _ rfl⟩
theorem brk1 (ao : Option Addr) : (ansv kn 4 fun p => if brF (⟨.slice ao 6 6, p, 7, 6, false, .slice none 0 0, .slice none 0 0, ⟨#[104, 101, 97, 114, 116]⟩⟩ : QM) then 0 else 5) = 0 := by
  have hne : (⟨#[104, 101, 97, 114, 116]⟩ : ByteArray).toList.isEmpty = false := by rw [ByteArray.toList_eq]; rfl
  simp only [ansv, show perso kn 4 = some ⟨4, 3, 8⟩ from rfl, brF, hne]
  rfl
theorem brk2 (ao : Option Addr) : (ansv kn 4 fun p => if brF (⟨.slice ao 6 6, p, 7, 6, false, .slice none 0 0, .slice none 0 0, ⟨#[]⟩⟩ : QM) then 0 else 5) = 5 := by
  have hne : (⟨#[]⟩ : ByteArray).toList.isEmpty = true := by rw [ByteArray.toList_eq]; rfl
  simp only [ansv, show perso kn 4 = some ⟨4, 3, 8⟩ from rfl, brF, hne]
  rfl
theorem brk3 (ao : Option Addr) : (ansv kn 1 fun p => if brF (⟨.slice ao 6 6, p, 7, 6, false, .slice none 0 0, .slice none 0 0, ⟨#[104, 101, 97, 114, 116]⟩⟩ : QM) then 0 else 5) = 5 := by
  have hne : (⟨#[104, 101, 97, 114, 116]⟩ : ByteArray).toList.isEmpty = false := by rw [ByteArray.toList_eq]; rfl
  simp only [ansv, show perso kn 1 = some ⟨1, 1, 7⟩ from rfl, brF, hne]
  rfl
theorem fds_lit (W : World) (s : ByteArray) (k : Nat) (t : ByteArray) (v u : Nat) : Fds (W.alloc (.cells #[.string s, .int .u8 (k : Nat), .string t, .float .f32 v, .int .u8 (u : Nat)] 35)) (.slice (some ⟨W.heap.size, 0, none⟩) 1 1) [⟨s, k, t, v, u⟩] := by
  refine .inr ⟨W.heap.size, 0, 1, rfl, fun j hj => ?_⟩
  obtain rfl : j = 0 := by simp at hj; omega
  simp only [World.cell?_alloc_at _ _ _ _ rfl]
  exact ⟨rfl, rfl, rfl, rfl, rfl⟩
/-- A call that answers a code, over what stands. -/
theorem kc {W0 W : World} {F : Nat} {args : Array Value} {n c : Nat} (h : Calls Try.prog F args W fun e w' => e = .returned (.int .u8 ((n : Nat) : Int)) ∧ Fr (fun _ => False) W w') (hc : n = c) (hf : Fr (fun _ => False) W0 W) : Calls Try.prog F args W fun e w' => e = .returned (.int .u8 ((c : Nat) : Int)) ∧ Fr (fun _ => False) W0 w' :=
  h.mono fun _ _ ⟨e, k⟩ => ⟨hc ▸ e, hf.trans k (fun _ _ h => h)⟩
set_option maxHeartbeats 2000000 in
set_option maxRecDepth 100000 in
/-- PolicyKnown. -/
theorem pknown_any (w : World) : Calls Try.prog 3 #[] w fun e w' => e = .returned (.bool true) ∧ Fr (fun _ => False) w w' := by
  go_enter Try.func3, Try.ntmps3
  go_wp2_with fail
  refine (known_any w).mono ?_
  rintro e w1 ⟨ao, rfl, hK, hf1⟩
  have HK := hide hK
  have H1 := hide hf1
  clear hK hf1
  go_wp2_with fail
  refine (awake10 w1).mono ?_
  rintro e w2 ⟨rfl, hf2⟩
  have H2 := hide hf2
  clear hf2
  have hCr : ∀ (k wd ow c : Nat), ((k = 1 ∧ wd = 7 ∧ ow = 6 ∧ c = 0) ∨ (k = 4 ∧ wd = 7 ∧ ow = 6 ∧ c = 5) ∨ (k = 9 ∧ wd = 7 ∧ ow = 6 ∧ c = 1) ∨ (k = 6 ∧ wd = 0 ∧ ow = 6 ∧ c = 5)) → ∀ W, Fr (fun _ => False) w1 W → Calls Try.prog 9 #[.slice ao 6 6, .int .u32 (k : Nat), .int .u32 (wd : Nat), .int .u32 (ow : Nat)] W fun e w' => e = .returned (.int .u8 (c : Nat)) ∧ Fr (fun _ => False) w1 w' := fun k wd ow c hc W hf => (pcreate_any (.slice ao 6 6) kn k wd ow W ((unhide HK).fr hf) (by decide)).mono fun _ _ ⟨e, h⟩ => ⟨by rcases hc with ⟨rfl, rfl, rfl, rfl⟩ | ⟨rfl, rfl, rfl, rfl⟩ | ⟨rfl, rfl, rfl, rfl⟩ | ⟨rfl, rfl, rfl, rfl⟩ <;> exact e, hf.trans h (fun _ _ h => h)⟩
  have HC := hide hCr
  clear hCr
  go_wp2_with fail
  refine ((unhide HC) 1 7 6 0 (.inl ⟨rfl, rfl, rfl, rfl⟩) _ (unhide H2)).mono ?_
  rintro e w3 ⟨rfl, hf⟩
  have H3 := hide hf
  clear hf
  go_wp2_with fail
  refine ((unhide HC) 4 7 6 5 (.inr (.inl ⟨rfl, rfl, rfl, rfl⟩)) _ (unhide H3)).mono ?_
  rintro e w4 ⟨rfl, hf⟩
  have H4 := hide hf
  clear hf
  go_wp2_with fail
  refine ((unhide HC) 9 7 6 1 (.inr (.inr (.inl ⟨rfl, rfl, rfl, rfl⟩))) _ (unhide H4)).mono ?_
  rintro e w5 ⟨rfl, hf⟩
  have H5 := hide hf
  clear hf
  go_wp2_with fail
  refine ((unhide HC) 6 0 6 5 (.inr (.inr (.inr ⟨rfl, rfl, rfl, rfl⟩))) _ (unhide H5)).mono ?_
  rintro e w6 ⟨rfl, hf⟩
  have H6 := hide hf
  clear hf
  clear HC H2 H3 H4 H5
  go_wp2_with fail
  obtain ⟨W0, hW0⟩ : ∃ W0, (((w6.alloc (.cells #[.int .u32 7, .int .u32 6, .bool false, .slice none 0 0] 29)).alloc (.cells #[.int .u32 4] 26)).alloc (.cells #[.int .u32 7, .int .u32 6, .bool true, .slice (some ⟨w6.heap.size + 1, 0, none⟩) 1 1] 29)).alloc (.cells #[.int .u8 0, .int .u8 0, .int .u8 0, .int .u8 5, .int .u8 5, .int .u8 0] 5) = W0 := ⟨_, rfl⟩
  have hK0 := knW w6 W0 hW0
  have hF0 : Fr (fun _ => False) w6 W0 := by rw [← hW0]; exact ((((Fr.refl _ _).alloc _).alloc _).alloc _).alloc _
  rw [hW0]
  clear hW0
  have HF0 := hide ((unhide H6).trans hF0 (fun _ _ h => h))
  have HK0 := hide hK0
  clear hK0 hF0 H6
  generalize w6.heap.size = b at HK0 ⊢
  have hRd : ∀ (sl : Bool) (gv : Value) (G : List Nat) (k c : Nat), G.length ≤ 1 → (ansv kn k fun p => if rdF (⟨.slice ao 6 6, p, 7, 6, sl, gv, .slice none 0 0, ByteArray.empty⟩ : QM) G then 0 else whyRd (⟨.slice ao 6 6, p, 7, 6, sl, gv, .slice none 0 0, ByteArray.empty⟩ : QM)) = c → ∀ W, Fr (fun _ => False) W0 W → Us W gv G → Calls Try.prog 10 #[.slice ao 6 6, .agg #[.int .u32 7, .int .u32 6, .bool sl, gv], .int .u32 (k : Nat)] W fun e w' => e = .returned (.int .u8 (c : Nat)) ∧ Fr (fun _ => False) W0 w' := fun sl gv G k c hG hc W hf hU => (pread_any (.slice ao 6 6) kn 7 6 sl gv G k W ((unhide HK).fr ((unhide HF0).trans hf (fun _ _ h => h))) (by decide) hU (by omega)).mono fun _ _ ⟨e, h⟩ => ⟨by rw [← hc]; exact e, hf.trans h (fun _ _ h => h)⟩
  have HRd := hide hRd
  clear hRd
  go_loopw [5] (fun iv wr => ∃ j : Nat, j ≤ 6 ∧ iv = .int .i64 (j : Nat) ∧ Fr (fun _ => False) W0 wr) (fun iv _ => 6 - (intOf iv).toNat)
  case atStart => exact ⟨0, by decide, rfl, Fr.refl _ _⟩
  case round =>
    obtain ⟨j, hj, rfl, hfr⟩ := hrel
    have HKr := (unhide HK0).fr hfr
    obtain ⟨o0, o1, o2, o3, g0, g1, g2, g3, u0, u1, u2, u3, u4, u5⟩ := HKr
    have HF := hide hfr
    clear hfr
    by_cases hlt : j < 6
    · rcases (show j = 0 ∨ j = 1 ∨ j = 2 ∨ j = 3 ∨ j = 4 ∨ j = 5 by omega) with rfl | rfl | rfl | rfl | rfl | rfl
      · have hS : wr.cell? ⟨b, 0, none⟩ = some (.int .u32 7) ∧ wr.cell? ⟨b, 1, none⟩ = some (.int .u32 6) ∧ wr.cell? ⟨b, 2, none⟩ = some (.bool false) ∧ wr.cell? ⟨b, 3, none⟩ = some (.slice none 0 0) ∧ wr.cell? ⟨b + 1 + 1 + 1, 0, none⟩ = some (.int .u8 0) ∧ Fr (fun _ => False) W0 wr := ⟨o0, o1, o2, o3, u0, unhide HF⟩
        clear o0 o1 o2 o3 g0 g1 g2 g3 u0 u1 u2 u3 u4 u5
        go_wp2_with fail
        go_region_held3 (fun w' => w'.cell? ⟨b, 0, none⟩ = some (.int .u32 7) ∧ w'.cell? ⟨b, 1, none⟩ = some (.int .u32 6) ∧ w'.cell? ⟨b, 2, none⟩ = some (.bool false) ∧ w'.cell? ⟨b, 3, none⟩ = some (.slice none 0 0) ∧ w'.cell? ⟨b + 1 + 1 + 1, 0, none⟩ = some (.int .u8 0) ∧ Fr (fun _ => False) W0 w')
          (first | assumption | exact ⟨hS.1, hS.2.1, hS.2.2.1, hS.2.2.2.1, hS.2.2.2.2.1, hS.2.2.2.2.2.drew⟩)
          ((go_at_call 10; refine ((unhide HRd) false (.slice none 0 0) [] 1 0 (by decide) rfl _ (by exact (unhide HF).drew) (us_nil _)).mono ?_; rintro e wS ⟨rfl, hfS⟩; have hS : wS.cell? ⟨b, 0, none⟩ = some (.int .u32 7) ∧ wS.cell? ⟨b, 1, none⟩ = some (.int .u32 6) ∧ wS.cell? ⟨b, 2, none⟩ = some (.bool false) ∧ wS.cell? ⟨b, 3, none⟩ = some (.slice none 0 0) ∧ wS.cell? ⟨b + 1 + 1 + 1, 0, none⟩ = some (.int .u8 0) ∧ Fr (fun _ => False) W0 wS := ⟨((unhide HK0).fr hfS).o0, ((unhide HK0).fr hfS).o1, ((unhide HK0).fr hfS).o2, ((unhide HK0).fr hfS).o3, ((unhide HK0).fr hfS).u0, hfS⟩))
        have HFe := hide hS.2.2.2.2.2
        clear hS
        go_wp2_with fail
        go_roundw
        case rel => exact ⟨1, by decide, rfl, unhide HFe⟩
        case measure => simp [intOf]
      · have hS : wr.cell? ⟨b, 0, none⟩ = some (.int .u32 7) ∧ wr.cell? ⟨b, 1, none⟩ = some (.int .u32 6) ∧ wr.cell? ⟨b, 2, none⟩ = some (.bool false) ∧ wr.cell? ⟨b, 3, none⟩ = some (.slice none 0 0) ∧ wr.cell? ⟨b + 1 + 1 + 1, 1, none⟩ = some (.int .u8 0) ∧ Fr (fun _ => False) W0 wr := ⟨o0, o1, o2, o3, u1, unhide HF⟩
        clear o0 o1 o2 o3 g0 g1 g2 g3 u0 u1 u2 u3 u4 u5
        go_wp2_with fail
        go_region_held3 (fun w' => w'.cell? ⟨b, 0, none⟩ = some (.int .u32 7) ∧ w'.cell? ⟨b, 1, none⟩ = some (.int .u32 6) ∧ w'.cell? ⟨b, 2, none⟩ = some (.bool false) ∧ w'.cell? ⟨b, 3, none⟩ = some (.slice none 0 0) ∧ w'.cell? ⟨b + 1 + 1 + 1, 1, none⟩ = some (.int .u8 0) ∧ Fr (fun _ => False) W0 w')
          (first | assumption | exact ⟨hS.1, hS.2.1, hS.2.2.1, hS.2.2.2.1, hS.2.2.2.2.1, hS.2.2.2.2.2.drew⟩)
          ((go_at_call 10; refine ((unhide HRd) false (.slice none 0 0) [] 2 0 (by decide) rfl _ (by exact (unhide HF).drew) (us_nil _)).mono ?_; rintro e wS ⟨rfl, hfS⟩; have hS : wS.cell? ⟨b, 0, none⟩ = some (.int .u32 7) ∧ wS.cell? ⟨b, 1, none⟩ = some (.int .u32 6) ∧ wS.cell? ⟨b, 2, none⟩ = some (.bool false) ∧ wS.cell? ⟨b, 3, none⟩ = some (.slice none 0 0) ∧ wS.cell? ⟨b + 1 + 1 + 1, 1, none⟩ = some (.int .u8 0) ∧ Fr (fun _ => False) W0 wS := ⟨((unhide HK0).fr hfS).o0, ((unhide HK0).fr hfS).o1, ((unhide HK0).fr hfS).o2, ((unhide HK0).fr hfS).o3, ((unhide HK0).fr hfS).u1, hfS⟩))
        have HFe := hide hS.2.2.2.2.2
        clear hS
        go_wp2_with fail
        go_roundw
        case rel => exact ⟨2, by decide, rfl, unhide HFe⟩
        case measure => simp [intOf]
      · have hS : wr.cell? ⟨b, 0, none⟩ = some (.int .u32 7) ∧ wr.cell? ⟨b, 1, none⟩ = some (.int .u32 6) ∧ wr.cell? ⟨b, 2, none⟩ = some (.bool false) ∧ wr.cell? ⟨b, 3, none⟩ = some (.slice none 0 0) ∧ wr.cell? ⟨b + 1 + 1 + 1, 2, none⟩ = some (.int .u8 0) ∧ Fr (fun _ => False) W0 wr := ⟨o0, o1, o2, o3, u2, unhide HF⟩
        clear o0 o1 o2 o3 g0 g1 g2 g3 u0 u1 u2 u3 u4 u5
        go_wp2_with fail
        go_region_held3 (fun w' => w'.cell? ⟨b, 0, none⟩ = some (.int .u32 7) ∧ w'.cell? ⟨b, 1, none⟩ = some (.int .u32 6) ∧ w'.cell? ⟨b, 2, none⟩ = some (.bool false) ∧ w'.cell? ⟨b, 3, none⟩ = some (.slice none 0 0) ∧ w'.cell? ⟨b + 1 + 1 + 1, 2, none⟩ = some (.int .u8 0) ∧ Fr (fun _ => False) W0 w')
          (first | assumption | exact ⟨hS.1, hS.2.1, hS.2.2.1, hS.2.2.2.1, hS.2.2.2.2.1, hS.2.2.2.2.2.drew⟩)
          ((go_at_call 10; refine ((unhide HRd) false (.slice none 0 0) [] 3 0 (by decide) rfl _ (by exact (unhide HF).drew) (us_nil _)).mono ?_; rintro e wS ⟨rfl, hfS⟩; have hS : wS.cell? ⟨b, 0, none⟩ = some (.int .u32 7) ∧ wS.cell? ⟨b, 1, none⟩ = some (.int .u32 6) ∧ wS.cell? ⟨b, 2, none⟩ = some (.bool false) ∧ wS.cell? ⟨b, 3, none⟩ = some (.slice none 0 0) ∧ wS.cell? ⟨b + 1 + 1 + 1, 2, none⟩ = some (.int .u8 0) ∧ Fr (fun _ => False) W0 wS := ⟨((unhide HK0).fr hfS).o0, ((unhide HK0).fr hfS).o1, ((unhide HK0).fr hfS).o2, ((unhide HK0).fr hfS).o3, ((unhide HK0).fr hfS).u2, hfS⟩))
        have HFe := hide hS.2.2.2.2.2
        clear hS
        go_wp2_with fail
        go_roundw
        case rel => exact ⟨3, by decide, rfl, unhide HFe⟩
        case measure => simp [intOf]
      · have hS : wr.cell? ⟨b, 0, none⟩ = some (.int .u32 7) ∧ wr.cell? ⟨b, 1, none⟩ = some (.int .u32 6) ∧ wr.cell? ⟨b, 2, none⟩ = some (.bool false) ∧ wr.cell? ⟨b, 3, none⟩ = some (.slice none 0 0) ∧ wr.cell? ⟨b + 1 + 1 + 1, 3, none⟩ = some (.int .u8 5) ∧ Fr (fun _ => False) W0 wr := ⟨o0, o1, o2, o3, u3, unhide HF⟩
        clear o0 o1 o2 o3 g0 g1 g2 g3 u0 u1 u2 u3 u4 u5
        go_wp2_with fail
        go_region_held3 (fun w' => w'.cell? ⟨b, 0, none⟩ = some (.int .u32 7) ∧ w'.cell? ⟨b, 1, none⟩ = some (.int .u32 6) ∧ w'.cell? ⟨b, 2, none⟩ = some (.bool false) ∧ w'.cell? ⟨b, 3, none⟩ = some (.slice none 0 0) ∧ w'.cell? ⟨b + 1 + 1 + 1, 3, none⟩ = some (.int .u8 5) ∧ Fr (fun _ => False) W0 w')
          (first | assumption | exact ⟨hS.1, hS.2.1, hS.2.2.1, hS.2.2.2.1, hS.2.2.2.2.1, hS.2.2.2.2.2.drew⟩)
          ((go_at_call 10; refine ((unhide HRd) false (.slice none 0 0) [] 4 5 (by decide) rfl _ (by exact (unhide HF).drew) (us_nil _)).mono ?_; rintro e wS ⟨rfl, hfS⟩; have hS : wS.cell? ⟨b, 0, none⟩ = some (.int .u32 7) ∧ wS.cell? ⟨b, 1, none⟩ = some (.int .u32 6) ∧ wS.cell? ⟨b, 2, none⟩ = some (.bool false) ∧ wS.cell? ⟨b, 3, none⟩ = some (.slice none 0 0) ∧ wS.cell? ⟨b + 1 + 1 + 1, 3, none⟩ = some (.int .u8 5) ∧ Fr (fun _ => False) W0 wS := ⟨((unhide HK0).fr hfS).o0, ((unhide HK0).fr hfS).o1, ((unhide HK0).fr hfS).o2, ((unhide HK0).fr hfS).o3, ((unhide HK0).fr hfS).u3, hfS⟩))
        have HFe := hide hS.2.2.2.2.2
        clear hS
        go_wp2_with fail
        go_roundw
        case rel => exact ⟨4, by decide, rfl, unhide HFe⟩
        case measure => simp [intOf]
      · have hS : wr.cell? ⟨b, 0, none⟩ = some (.int .u32 7) ∧ wr.cell? ⟨b, 1, none⟩ = some (.int .u32 6) ∧ wr.cell? ⟨b, 2, none⟩ = some (.bool false) ∧ wr.cell? ⟨b, 3, none⟩ = some (.slice none 0 0) ∧ wr.cell? ⟨b + 1 + 1 + 1, 4, none⟩ = some (.int .u8 5) ∧ Fr (fun _ => False) W0 wr := ⟨o0, o1, o2, o3, u4, unhide HF⟩
        clear o0 o1 o2 o3 g0 g1 g2 g3 u0 u1 u2 u3 u4 u5
        go_wp2_with fail
        go_region_held3 (fun w' => w'.cell? ⟨b, 0, none⟩ = some (.int .u32 7) ∧ w'.cell? ⟨b, 1, none⟩ = some (.int .u32 6) ∧ w'.cell? ⟨b, 2, none⟩ = some (.bool false) ∧ w'.cell? ⟨b, 3, none⟩ = some (.slice none 0 0) ∧ w'.cell? ⟨b + 1 + 1 + 1, 4, none⟩ = some (.int .u8 5) ∧ Fr (fun _ => False) W0 w')
          (first | assumption | exact ⟨hS.1, hS.2.1, hS.2.2.1, hS.2.2.2.1, hS.2.2.2.2.1, hS.2.2.2.2.2.drew⟩)
          ((go_at_call 10; refine ((unhide HRd) false (.slice none 0 0) [] 5 5 (by decide) rfl _ (by exact (unhide HF).drew) (us_nil _)).mono ?_; rintro e wS ⟨rfl, hfS⟩; have hS : wS.cell? ⟨b, 0, none⟩ = some (.int .u32 7) ∧ wS.cell? ⟨b, 1, none⟩ = some (.int .u32 6) ∧ wS.cell? ⟨b, 2, none⟩ = some (.bool false) ∧ wS.cell? ⟨b, 3, none⟩ = some (.slice none 0 0) ∧ wS.cell? ⟨b + 1 + 1 + 1, 4, none⟩ = some (.int .u8 5) ∧ Fr (fun _ => False) W0 wS := ⟨((unhide HK0).fr hfS).o0, ((unhide HK0).fr hfS).o1, ((unhide HK0).fr hfS).o2, ((unhide HK0).fr hfS).o3, ((unhide HK0).fr hfS).u4, hfS⟩))
        have HFe := hide hS.2.2.2.2.2
        clear hS
        go_wp2_with fail
        go_roundw
        case rel => exact ⟨5, by decide, rfl, unhide HFe⟩
        case measure => simp [intOf]
      · have hS : wr.cell? ⟨b, 0, none⟩ = some (.int .u32 7) ∧ wr.cell? ⟨b, 1, none⟩ = some (.int .u32 6) ∧ wr.cell? ⟨b, 2, none⟩ = some (.bool false) ∧ wr.cell? ⟨b, 3, none⟩ = some (.slice none 0 0) ∧ wr.cell? ⟨b + 1 + 1 + 1, 5, none⟩ = some (.int .u8 0) ∧ Fr (fun _ => False) W0 wr := ⟨o0, o1, o2, o3, u5, unhide HF⟩
        clear o0 o1 o2 o3 g0 g1 g2 g3 u0 u1 u2 u3 u4 u5
        go_wp2_with fail
        go_region_held3 (fun w' => w'.cell? ⟨b, 0, none⟩ = some (.int .u32 7) ∧ w'.cell? ⟨b, 1, none⟩ = some (.int .u32 6) ∧ w'.cell? ⟨b, 2, none⟩ = some (.bool false) ∧ w'.cell? ⟨b, 3, none⟩ = some (.slice none 0 0) ∧ w'.cell? ⟨b + 1 + 1 + 1, 5, none⟩ = some (.int .u8 0) ∧ Fr (fun _ => False) W0 w')
          (first | assumption | exact ⟨hS.1, hS.2.1, hS.2.2.1, hS.2.2.2.1, hS.2.2.2.2.1, hS.2.2.2.2.2.drew⟩)
          ((go_at_call 10; refine ((unhide HRd) false (.slice none 0 0) [] 6 0 (by decide) rfl _ (by exact (unhide HF).drew) (us_nil _)).mono ?_; rintro e wS ⟨rfl, hfS⟩; have hS : wS.cell? ⟨b, 0, none⟩ = some (.int .u32 7) ∧ wS.cell? ⟨b, 1, none⟩ = some (.int .u32 6) ∧ wS.cell? ⟨b, 2, none⟩ = some (.bool false) ∧ wS.cell? ⟨b, 3, none⟩ = some (.slice none 0 0) ∧ wS.cell? ⟨b + 1 + 1 + 1, 5, none⟩ = some (.int .u8 0) ∧ Fr (fun _ => False) W0 wS := ⟨((unhide HK0).fr hfS).o0, ((unhide HK0).fr hfS).o1, ((unhide HK0).fr hfS).o2, ((unhide HK0).fr hfS).o3, ((unhide HK0).fr hfS).u5, hfS⟩))
        have HFe := hide hS.2.2.2.2.2
        clear hS
        go_wp2_with fail
        go_roundw
        case rel => exact ⟨6, by decide, rfl, unhide HFe⟩
        case measure => simp [intOf]
    · obtain rfl : j = 6 := by omega
      clear o0 o1 o2 o3 g0 g1 g2 g3 u0 u1 u2 u3 u4 u5 HRd
      obtain ⟨o0, o1, o2, o3, g0, g1, g2, g3, -, -, -, -, -, -, -⟩ := (unhide HK0).fr (unhide HF)
      go_wp2_with fail
      have hC := (kc (pread_any (.slice ao 6 6) kn 7 6 true (.slice (some ⟨b + 1, 0, none⟩) 1 1) [4] 4  _ ((unhide HK).fr ((unhide HF0).trans (unhide HF) (fun _ _ h => h))) (by decide) ((unhide HK0).fr (unhide HF)).uss (by decide)) (c := 0) rfl (unhide HF))
      clear o0 o1 o2 o3 g0 g1 g2 g3
      refine hC.mono ?_
      clear hC
      rintro e wn ⟨rfl, hfn⟩
      replace HF := hide hfn
      clear hfn
      obtain ⟨o0, o1, o2, o3, g0, g1, g2, g3, -, -, -, -, -, -, -⟩ := (unhide HK0).fr (unhide HF)
      go_wp2_with fail
      have hC := (kc (phistory_any (.slice ao 6 6) kn 7 6 true (.slice (some ⟨b + 1, 0, none⟩) 1 1) [4] 5  _ ((unhide HK).fr ((unhide HF0).trans (unhide HF) (fun _ _ h => h))) (by decide) ((unhide HK0).fr (unhide HF)).uss (by decide)) (c := 0) rfl (unhide HF))
      clear o0 o1 o2 o3 g0 g1 g2 g3
      refine hC.mono ?_
      clear hC
      rintro e wn ⟨rfl, hfn⟩
      replace HF := hide hfn
      clear hfn
      obtain ⟨o0, o1, o2, o3, g0, g1, g2, g3, -, -, -, -, -, -, -⟩ := (unhide HK0).fr (unhide HF)
      go_wp2_with fail
      have hC := (kc (pamend_any (.slice ao 6 6) kn 7 6 true (.slice (some ⟨b + 1, 0, none⟩) 1 1) [4] 4 (.slice none 0 0) [] _ ((unhide HK).fr ((unhide HF0).trans (unhide HF) (fun _ _ h => h))) (by decide) ((unhide HK0).fr (unhide HF)).uss (by decide) (fds_nil _) (by decide)) (c := 0) rfl (unhide HF))
      clear o0 o1 o2 o3 g0 g1 g2 g3
      refine hC.mono ?_
      clear hC
      rintro e wn ⟨rfl, hfn⟩
      replace HF := hide hfn
      clear hfn
      obtain ⟨o0, o1, o2, o3, g0, g1, g2, g3, -, -, -, -, -, -, -⟩ := (unhide HK0).fr (unhide HF)
      go_wp2_with fail
      have hC := (kc (pamend_any (.slice ao 6 6) kn 7 6 true (.slice (some ⟨b + 1, 0, none⟩) 1 1) [4] 6 (.slice none 0 0) [] _ ((unhide HK).fr ((unhide HF0).trans (unhide HF) (fun _ _ h => h))) (by decide) ((unhide HK0).fr (unhide HF)).uss (by decide) (fds_nil _) (by decide)) (c := 5) rfl (unhide HF))
      clear o0 o1 o2 o3 g0 g1 g2 g3
      refine hC.mono ?_
      clear hC
      rintro e wn ⟨rfl, hfn⟩
      replace HF := hide hfn
      clear hfn
      obtain ⟨o0, o1, o2, o3, g0, g1, g2, g3, -, -, -, -, -, -, -⟩ := (unhide HK0).fr (unhide HF)
      go_wp2_with fail
      have hC := (kc (pamend_any (.slice ao 6 6) kn 7 6 false (.slice none 0 0) [] 1 _ [⟨⟨#[97]⟩, 1, ⟨#[]⟩, 0, 0⟩] _ ((unhide HK).fr ((unhide HF0).trans ((unhide HF).alloc (.cells #[.string ⟨#[97]⟩, .int .u8 1, .string ⟨#[]⟩, .float .f32 0, .int .u8 0] 35)) (fun _ _ h => h))) (by decide) (us_nil _) (by decide) (fds_lit _ ⟨#[97]⟩ 1 ⟨#[]⟩ 0 0) (by decide)) (c := 0) rfl ((unhide HF).alloc (.cells #[.string ⟨#[97]⟩, .int .u8 1, .string ⟨#[]⟩, .float .f32 0, .int .u8 0] 35)))
      clear o0 o1 o2 o3 g0 g1 g2 g3
      refine hC.mono ?_
      clear hC
      rintro e wn ⟨rfl, hfn⟩
      replace HF := hide hfn
      clear hfn
      obtain ⟨o0, o1, o2, o3, g0, g1, g2, g3, -, -, -, -, -, -, -⟩ := (unhide HK0).fr (unhide HF)
      go_wp2_with fail
      have hC := (kc (pamend_any (.slice ao 6 6) kn 7 6 false (.slice none 0 0) [] 1 _ [⟨⟨#[97]⟩, 2, ⟨#[]⟩, 0, 0⟩] _ ((unhide HK).fr ((unhide HF0).trans ((unhide HF).alloc (.cells #[.string ⟨#[97]⟩, .int .u8 2, .string ⟨#[]⟩, .float .f32 0, .int .u8 0] 35)) (fun _ _ h => h))) (by decide) (us_nil _) (by decide) (fds_lit _ ⟨#[97]⟩ 2 ⟨#[]⟩ 0 0) (by decide)) (c := 5) rfl ((unhide HF).alloc (.cells #[.string ⟨#[97]⟩, .int .u8 2, .string ⟨#[]⟩, .float .f32 0, .int .u8 0] 35)))
      clear o0 o1 o2 o3 g0 g1 g2 g3
      refine hC.mono ?_
      clear hC
      rintro e wn ⟨rfl, hfn⟩
      replace HF := hide hfn
      clear hfn
      obtain ⟨o0, o1, o2, o3, g0, g1, g2, g3, -, -, -, -, -, -, -⟩ := (unhide HK0).fr (unhide HF)
      go_wp2_with fail
      have hC := (kc (pamend_any (.slice ao 6 6) kn 7 6 false (.slice none 0 0) [] 1 _ [⟨⟨#[97]⟩, 3, ⟨#[]⟩, 0, 0⟩] _ ((unhide HK).fr ((unhide HF0).trans ((unhide HF).alloc (.cells #[.string ⟨#[97]⟩, .int .u8 3, .string ⟨#[]⟩, .float .f32 0, .int .u8 0] 35)) (fun _ _ h => h))) (by decide) (us_nil _) (by decide) (fds_lit _ ⟨#[97]⟩ 3 ⟨#[]⟩ 0 0) (by decide)) (c := 5) rfl ((unhide HF).alloc (.cells #[.string ⟨#[97]⟩, .int .u8 3, .string ⟨#[]⟩, .float .f32 0, .int .u8 0] 35)))
      clear o0 o1 o2 o3 g0 g1 g2 g3
      refine hC.mono ?_
      clear hC
      rintro e wn ⟨rfl, hfn⟩
      replace HF := hide hfn
      clear hfn
      obtain ⟨o0, o1, o2, o3, g0, g1, g2, g3, -, -, -, -, -, -, -⟩ := (unhide HK0).fr (unhide HF)
      go_wp2_with fail
      have hC := (kc (pamend_any (.slice ao 6 6) kn 7 6 false (.slice none 0 0) [] 1 (.slice none 0 0) [] _ ((unhide HK).fr ((unhide HF0).trans (unhide HF) (fun _ _ h => h))) (by decide) (us_nil _) (by decide) (fds_nil _) (by decide)) (c := 0) rfl (unhide HF))
      clear o0 o1 o2 o3 g0 g1 g2 g3
      refine hC.mono ?_
      clear hC
      rintro e wn ⟨rfl, hfn⟩
      replace HF := hide hfn
      clear hfn
      obtain ⟨o0, o1, o2, o3, g0, g1, g2, g3, -, -, -, -, -, -, -⟩ := (unhide HK0).fr (unhide HF)
      go_wp2_with fail
      have hC := (kc (predact_any (.slice ao 6 6) kn 7 6 true (.slice (some ⟨b + 1, 0, none⟩) 1 1) [4] 3  _ ((unhide HK).fr ((unhide HF0).trans (unhide HF) (fun _ _ h => h))) (by decide) ((unhide HK0).fr (unhide HF)).uss (by decide)) (c := 0) rfl (unhide HF))
      clear o0 o1 o2 o3 g0 g1 g2 g3
      refine hC.mono ?_
      clear hC
      rintro e wn ⟨rfl, hfn⟩
      replace HF := hide hfn
      clear hfn
      obtain ⟨o0, o1, o2, o3, g0, g1, g2, g3, -, -, -, -, -, -, -⟩ := (unhide HK0).fr (unhide HF)
      go_wp2_with fail
      have hC := (kc (predact_any (.slice ao 6 6) kn 7 6 true (.slice (some ⟨b + 1, 0, none⟩) 1 1) [4] 4  _ ((unhide HK).fr ((unhide HF0).trans (unhide HF) (fun _ _ h => h))) (by decide) ((unhide HK0).fr (unhide HF)).uss (by decide)) (c := 5) rfl (unhide HF))
      clear o0 o1 o2 o3 g0 g1 g2 g3
      refine hC.mono ?_
      clear hC
      rintro e wn ⟨rfl, hfn⟩
      replace HF := hide hfn
      clear hfn
      obtain ⟨o0, o1, o2, o3, g0, g1, g2, g3, -, -, -, -, -, -, -⟩ := (unhide HK0).fr (unhide HF)
      go_wp2_with fail
      have hC := (kc (pseal_any (.slice ao 6 6) kn 7 6 true (.slice (some ⟨b + 1, 0, none⟩) 1 1) [4] 3  _ ((unhide HK).fr ((unhide HF0).trans (unhide HF) (fun _ _ h => h))) (by decide) ((unhide HK0).fr (unhide HF)).uss (by decide)) (c := 5) rfl (unhide HF))
      clear o0 o1 o2 o3 g0 g1 g2 g3
      refine hC.mono ?_
      clear hC
      rintro e wn ⟨rfl, hfn⟩
      replace HF := hide hfn
      clear hfn
      obtain ⟨o0, o1, o2, o3, g0, g1, g2, g3, -, -, -, -, -, -, -⟩ := (unhide HK0).fr (unhide HF)
      go_wp2_with fail
      have hC := (kc (pseal_any (.slice ao 6 6) kn 7 6 true (.slice (some ⟨b + 1, 0, none⟩) 1 1) [4] 6  _ ((unhide HK).fr ((unhide HF0).trans (unhide HF) (fun _ _ h => h))) (by decide) ((unhide HK0).fr (unhide HF)).uss (by decide)) (c := 0) rfl (unhide HF))
      clear o0 o1 o2 o3 g0 g1 g2 g3
      refine hC.mono ?_
      clear hC
      rintro e wn ⟨rfl, hfn⟩
      replace HF := hide hfn
      clear hfn
      obtain ⟨o0, o1, o2, o3, g0, g1, g2, g3, -, -, -, -, -, -, -⟩ := (unhide HK0).fr (unhide HF)
      go_wp2_with fail
      have hC := (kc (pbreak_any (.slice ao 6 6) kn 7 6 false (.slice none 0 0) [] 4 ⟨#[104, 101, 97, 114, 116]⟩ _ ((unhide HK).fr ((unhide HF0).trans (unhide HF) (fun _ _ h => h))) (by decide) (us_nil _) (by decide)) (c := 0) (brk1 ao) (unhide HF))
      clear o0 o1 o2 o3 g0 g1 g2 g3
      refine hC.mono ?_
      clear hC
      rintro e wn ⟨rfl, hfn⟩
      replace HF := hide hfn
      clear hfn
      obtain ⟨o0, o1, o2, o3, g0, g1, g2, g3, -, -, -, -, -, -, -⟩ := (unhide HK0).fr (unhide HF)
      go_wp2_with fail
      have hC := (kc (pbreak_any (.slice ao 6 6) kn 7 6 false (.slice none 0 0) [] 4 ⟨#[]⟩ _ ((unhide HK).fr ((unhide HF0).trans (unhide HF) (fun _ _ h => h))) (by decide) (us_nil _) (by decide)) (c := 5) (brk2 ao) (unhide HF))
      clear o0 o1 o2 o3 g0 g1 g2 g3
      refine hC.mono ?_
      clear hC
      rintro e wn ⟨rfl, hfn⟩
      replace HF := hide hfn
      clear hfn
      obtain ⟨o0, o1, o2, o3, g0, g1, g2, g3, -, -, -, -, -, -, -⟩ := (unhide HK0).fr (unhide HF)
      go_wp2_with fail
      have hC := (kc (pbreak_any (.slice ao 6 6) kn 7 6 false (.slice none 0 0) [] 1 ⟨#[104, 101, 97, 114, 116]⟩ _ ((unhide HK).fr ((unhide HF0).trans (unhide HF) (fun _ _ h => h))) (by decide) (us_nil _) (by decide)) (c := 5) (brk3 ao) (unhide HF))
      clear o0 o1 o2 o3 g0 g1 g2 g3
      refine hC.mono ?_
      clear hC
      rintro e wn ⟨rfl, hfn⟩
      replace HF := hide hfn
      clear hfn
      go_wp2_with fail
      go_ret
      exact ⟨rfl, (unhide H1).trans ((unhide HF0).trans (unhide HF) (fun _ _ h => h)) (fun _ _ h => h)⟩
end Go.Proofs.Ytficeloegepdkaa
