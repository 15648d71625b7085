import Derived.Test.YtiknjghcjaaenaaGreatDoorKOaq
namespace Go.Proofs.YtiknjghcjaaenaaGreatDoor
open Go.RowKit Go.Shelf
def rem1 (F : List F5) (f : F5) : Bool := match fidx F f.n with
 | some j => (decide (f.k = 2) && decide ((F.getD j fld0).k = 2)) && !sameU f.u (F.getD j fld0).u
 | none => false
def remU (F C : List F5) : Bool := C.any (rem1 F)
theorem fidx_lt {l : List F5} {n : ByteArray} {j : Nat} (h : fidx l n = some j) : j < l.length := by
 unfold fidx at h
 rw [List.findIdx?_eq_some_iff_getElem] at h
 exact h.1
theorem remU_cons (F : List F5) (f : F5) (r : List F5) : remU F (f :: r) = (rem1 F f || remU F r) := by simp [remU]
set_option maxHeartbeats 40000000 in
set_option maxRecDepth 100000 in
theorem remeasures_any (fv cv : Value) (F C : List F5) (w : World) (hF : Fds w fv F) (hC : Fds w cv C) (hlF : F.length ≤ 1000) (hlC : C.length ≤ 1000) (hu : ∀ f ∈ F ++ C, f.u < 256) (hg : GU w) :
  Calls Tryz.prog 79 #[fv, cv] w fun e w' => e = .returned (.bool (remU F C)) ∧ Fr (fun _ => False) w w' := by
 obtain ⟨fo, fc, rfl⟩ := hF.form
 obtain ⟨co, cc, rfl⟩ := hC.form
 have HX := hide (And.intro hF (And.intro hC (And.intro hg hu)))
 clear hF hC hg hu
 go_enter Tryz.func79, Tryz.ntmps79
 go_wp2_with fail
 go_loopw [10] (fun iv wr => ∃ j : Nat, j ≤ C.length ∧ iv = .int .i64 (j : Nat) ∧ remU F C = remU F (C.drop j) ∧ Fr (fun _ => False) w wr) (fun iv _ => C.length - (intOf iv).toNat)
 case atStart => exact ⟨0, Nat.zero_le _, rfl, by simp, Fr.refl _ _⟩
 case round =>
  obtain ⟨j, hj, rfl, hr, hf⟩ := hrel
  by_cases hlt : j < C.length
  ·obtain ⟨g, o, rfl, c0, c1, c2, c3, c4⟩ := ((unhide HX).2.1.fr hf).at_ j hlt
   have hgl : g < wr.heap.size := lt_of_cell c0
   have hfu := (unhide HX).2.2.2 C[j] (List.mem_append_right _ (List.getElem_mem hlt))
   have hdr : C.drop j = C[j] :: C.drop (j + 1) := List.drop_eq_getElem_cons hlt
   rw [hdr, remU_cons] at hr
   generalize C[j] = f at c0 c1 c2 c3 c4 hfu hr
   have hi1 : (j : Int) < (C.length : Int) := by omega
   have HB0 := hide (fun W => fbox wr W f 55)
   have HI := hide (fun W (hW : Fr (fun _ => False) (wr.alloc (.cells f.cs 55)) W) => indexF_any (.slice fo F.length fc) F f wr.heap.size W ((unhide HX).1.fr (hf.trans ((box1 wr _).trans hW (fun _ _ h => h)) (fun _ _ h => h))) (by omega) ((unhide HB0) W hW).1)
   have HR := hide (And.intro hr hf)
   clear hr hf hdr
   simp only [F5.cs] at HB0 HI
   go_wp2_with fail
   refine ((unhide HI) _ (Fr.refl _ _)).mono ?_
   rintro e w2 ⟨rfl, hf2⟩
   have H2 := hide hf2
   obtain ⟨b0, b1, b2, b3, b4⟩ := (unhide HB0) w2 hf2
   clear hf2 HI
   cases hx : fidx F f.n with
   | none =>
    have hr1 : rem1 F f = false := by unfold rem1; rw [hx]
    have HQ := hide hr1
    simp only [fix]
    go_wp2_with fail
    go_quiet (fail)
    go_wp2_with fail
    refine ⟨⟨j + 1, by omega, by go_num, ?_, ((unhide HR).2.trans ((box1 wr _).trans (unhide H2) (fun _ _ h => h)) (fun _ _ h => h)).drewN _⟩, by simp [intOf]; omega⟩
    rw [(unhide HR).1, unhide HQ, Bool.false_or]
   | some i =>
    have hiF := fidx_lt hx
    obtain ⟨fg, fo', hfe, d0, d1, d2, d3, d4⟩ := ((unhide HX).1.fr ((unhide HR).2.trans ((box1 wr _).trans (unhide H2) (fun _ _ h => h)) (fun _ _ h => h))).at_ i hiF
    subst hfe
    have hgd : F.getD i fld0 = F[i] := by rw [List.getD_eq_getElem?_getD, List.getElem?_eq_getElem hiF]; rfl
    have hGu := (unhide HX).2.2.2 F[i] (List.mem_append_left _ (List.getElem_mem hiF))
    have hr1 : rem1 F f = ((decide (f.k = 2) && decide (F[i].k = 2)) && !sameU f.u F[i].u) := by unfold rem1; rw [hx]; simp only [hgd]
    generalize F[i] = G at d0 d1 d2 d3 d4 hGu hr1
    have hii : (i : Int) < (F.length : Int) := by omega
    have hii0 : (0 : Int) ≤ (i : Int) := by omega
    have hdec : decide ((0 : Int) ≤ (i : Int)) = true := decide_eq_true hii0
    have HAQ := hide (fun W => areQ_any f G W)
    have HSM := hide (fun W (hW : GU W) => sameU_any f.u G.u W hfu hGu hW)
    have HGU := hide ((unhide HX).2.2.1.fr ((unhide HR).2.trans ((box1 wr _).trans (unhide H2) (fun _ _ h => h)) (fun _ _ h => h)))
    have HS0 : Hid (∀ W, Fr (fun _ => False) w2 W → (W.cell? ⟨wr.heap.size, 0, none⟩ = some (.string f.n) ∧ W.cell? ⟨wr.heap.size, 1, none⟩ = some (.int .u8 (f.k : Nat)) ∧ W.cell? ⟨wr.heap.size, 2, none⟩ = some (.string f.t) ∧ W.cell? ⟨wr.heap.size, 3, none⟩ = some (.float .f32 f.v) ∧ W.cell? ⟨wr.heap.size, 4, none⟩ = some (.int .u8 (f.u : Nat)) ∧ W.cell? ⟨fg, fo' + i * 5, none⟩ = some (.string G.n) ∧ W.cell? ⟨fg, fo' + i * 5 + 1, none⟩ = some (.int .u8 (G.k : Nat)) ∧ W.cell? ⟨fg, fo' + i * 5 + 2, none⟩ = some (.string G.t) ∧ W.cell? ⟨fg, fo' + i * 5 + 3, none⟩ = some (.float .f32 G.v) ∧ W.cell? ⟨fg, fo' + i * 5 + 4, none⟩ = some (.int .u8 (G.u : Nat)))) := fun W hW => by
     have q1 := lt_of_cell b0
     have q2 := lt_of_cell d0
     exact ⟨(hW.cell (p := ⟨wr.heap.size, 0, none⟩) q1 (fun h => h)).trans b0, (hW.cell (p := ⟨wr.heap.size, 1, none⟩) q1 (fun h => h)).trans b1, (hW.cell (p := ⟨wr.heap.size, 2, none⟩) q1 (fun h => h)).trans b2, (hW.cell (p := ⟨wr.heap.size, 3, none⟩) q1 (fun h => h)).trans b3, (hW.cell (p := ⟨wr.heap.size, 4, none⟩) q1 (fun h => h)).trans b4, (hW.cell (p := ⟨fg, fo' + i * 5, none⟩) q2 (fun h => h)).trans d0, (hW.cell (p := ⟨fg, fo' + i * 5 + 1, none⟩) q2 (fun h => h)).trans d1, (hW.cell (p := ⟨fg, fo' + i * 5 + 2, none⟩) q2 (fun h => h)).trans d2, (hW.cell (p := ⟨fg, fo' + i * 5 + 3, none⟩) q2 (fun h => h)).trans d3, (hW.cell (p := ⟨fg, fo' + i * 5 + 4, none⟩) q2 (fun h => h)).trans d4⟩
    have HQ := hide hr1
    simp only [F5.val, F5.cs] at HAQ
    clear hr1 b0 b1 b2 b3 b4 d0 d1 d2 d3 d4
    generalize (decide (f.k = 2) && decide (G.k = 2)) = AQ at HAQ HQ
    simp only [fix]
    cases AQ with
    | true =>
     go_wp2_with fail
     go_region_held3 (fun W => W.cell? ⟨wr.heap.size, 0, none⟩ = some (.string f.n) ∧ W.cell? ⟨wr.heap.size, 1, none⟩ = some (.int .u8 (f.k : Nat)) ∧ W.cell? ⟨wr.heap.size, 2, none⟩ = some (.string f.t) ∧ W.cell? ⟨wr.heap.size, 3, none⟩ = some (.float .f32 f.v) ∧ W.cell? ⟨wr.heap.size, 4, none⟩ = some (.int .u8 (f.u : Nat)) ∧ W.cell? ⟨fg, fo' + i * 5, none⟩ = some (.string G.n) ∧ W.cell? ⟨fg, fo' + i * 5 + 1, none⟩ = some (.int .u8 (G.k : Nat)) ∧ W.cell? ⟨fg, fo' + i * 5 + 2, none⟩ = some (.string G.t) ∧ W.cell? ⟨fg, fo' + i * 5 + 3, none⟩ = some (.float .f32 G.v) ∧ W.cell? ⟨fg, fo' + i * 5 + 4, none⟩ = some (.int .u8 (G.u : Nat)))
      (first | exact (unhide HS0) _ (Fr.refl _ _).drew | exact (unhide HS0) _ (unhide H3) | exact (unhide HS0) _ (unhide H4))
      (first
       | (go_at_call 97; refine ((unhide HAQ) _).mono ?_; rintro e w3 ⟨rfl, hf3⟩; have H3 := hide ((Fr.refl (fun _ => False) w2).drew.trans hf3 (fun _ _ h => h)); clear hf3)
       | (go_at_call 98; refine ((unhide HSM) _ ((unhide HGU).fr (unhide H3))).mono ?_; rintro e w4 ⟨rfl, q4, rfl⟩; have H4 := hide ((unhide H3).drewN q4)))
     all_goals
      cases hsm : sameU f.u G.u
      ·go_wp2_with fail
       go_ret
       refine ⟨?_, (unhide HR).2.trans (((box1 wr _).trans (unhide H2) (fun _ _ h => h)).trans (unhide H4) (fun _ _ h => h)) (fun _ _ h => h)⟩
       rw [(unhide HR).1, unhide HQ, hsm]
       rfl
      ·have HSm := hide hsm
       go_wp2_with fail
       refine ⟨⟨j + 1, by omega, by go_num, ?_, (unhide HR).2.trans (((box1 wr _).trans (unhide H2) (fun _ _ h => h)).trans (unhide H4) (fun _ _ h => h)) (fun _ _ h => h)⟩, by simp [intOf]; omega⟩
       rw [(unhide HR).1, unhide HQ, unhide HSm]
       rfl
    | false =>
     go_wp2_with fail
     refine wp_region_noPanic ?_
     refine wp_region_held_drew (S := fun W => W.cell? ⟨wr.heap.size, 0, none⟩ = some (.string f.n) ∧ W.cell? ⟨wr.heap.size, 1, none⟩ = some (.int .u8 (f.k : Nat)) ∧ W.cell? ⟨wr.heap.size, 2, none⟩ = some (.string f.t) ∧ W.cell? ⟨wr.heap.size, 3, none⟩ = some (.float .f32 f.v) ∧ W.cell? ⟨wr.heap.size, 4, none⟩ = some (.int .u8 (f.u : Nat)) ∧ W.cell? ⟨fg, fo' + i * 5, none⟩ = some (.string G.n) ∧ W.cell? ⟨fg, fo' + i * 5 + 1, none⟩ = some (.int .u8 (G.k : Nat)) ∧ W.cell? ⟨fg, fo' + i * 5 + 2, none⟩ = some (.string G.t) ∧ W.cell? ⟨fg, fo' + i * 5 + 3, none⟩ = some (.float .f32 G.v) ∧ W.cell? ⟨fg, fo' + i * 5 + 4, none⟩ = some (.int .u8 (G.u : Nat))) (by kernel_rfl) ((unhide HS0) _ (Fr.refl _ _).drew) (fun hS => ?_)
     refine wpAnyH_take (i := 0) (oi := { dst := some 17, op := Op.move (Operand.tmp 7), type := 3, pos := "fields.go:42", after := #[], guard := none }) (v := .int .i64 (i : Nat)) rfl (by kernel_rfl) (by kernel_rfl) (by kernel_rfl) (fun _ _ _ h => h) (Or.inl ⟨by rfl, ?_⟩) hS ?_
     ·intro W hSw
      (try dsimp only at hSw)
      go_simp
     try simp only [Act.put, List.setIfInBounds_toArray, List.set_cons_zero, List.set_cons_succ]
     refine wpAnyH_take (i := 1) (oi := { dst := some 18, op := Op.binOp BinOp.geq 3 (Operand.tmp 17) (Operand.const (Value.int IntKind.i64 0)) 3, type := 4, pos := "fields.go:42", after := #[{ on := 0, ground := Ground.data }], guard := none }) (v := .bool true) rfl (by kernel_rfl) (by kernel_rfl) (by kernel_rfl) (fun _ _ _ h => h) (Or.inl ⟨by rfl, ?_⟩) hS ?_
     ·intro W hSw
      (try dsimp only at hSw)
      go_simp
     try simp only [Act.put, List.setIfInBounds_toArray, List.set_cons_zero, List.set_cons_succ]
     refine wpAnyH_take (i := 2) (oi := { dst := some 19, op := Op.move (Operand.tmp 18), type := 4, pos := "fields.go:42", after := #[{ on := 1, ground := Ground.data }], guard := none }) (v := .bool true) rfl (by kernel_rfl) (by kernel_rfl) (by kernel_rfl) (fun _ _ _ h => h) (Or.inl ⟨by rfl, ?_⟩) hS ?_
     ·intro W hSw
      (try dsimp only at hSw)
      go_simp
     try simp only [Act.put, List.setIfInBounds_toArray, List.set_cons_zero, List.set_cons_succ]
     refine wpAnyH_take (i := 3) (oi := { dst := some 20, op := Op.load 55 (Operand.tmp 6), type := 55, pos := "fields.go:42", after := #[{ on := 2, ground := Ground.guard }], guard := some (2, true) }) (v := (.agg #[.string f.n, .int .u8 (f.k : Nat), .string f.t, .float .f32 f.v, .int .u8 (f.u : Nat)])) rfl (by kernel_rfl) (by kernel_rfl) (by kernel_rfl) (fun _ _ _ h => h) (Or.inl ⟨by rfl, ?_⟩) hS ?_
     ·intro W hSw
      (try dsimp only at hSw)
      go_simp
     try simp only [Act.put, List.setIfInBounds_toArray, List.set_cons_zero, List.set_cons_succ]
     refine wpAnyH_take (i := 4) (oi := { dst := some 21, op := Op.move (Operand.tmp 0), type := 39, pos := "fields.go:42", after := #[{ on := 2, ground := Ground.guard }], guard := some (2, true) }) (v := .slice (some ⟨fg, fo', none⟩) F.length fc) rfl (by kernel_rfl) (by kernel_rfl) (by kernel_rfl) (fun _ _ _ h => h) (Or.inl ⟨by rfl, ?_⟩) hS ?_
     ·intro W hSw
      (try dsimp only at hSw)
      go_simp
     try simp only [Act.put, List.setIfInBounds_toArray, List.set_cons_zero, List.set_cons_succ]
     refine wpAnyH_take (i := 5) (oi := { dst := some 22, op := Op.move (Operand.tmp 7), type := 3, pos := "fields.go:42", after := #[{ on := 2, ground := Ground.guard }], guard := some (2, true) }) (v := .int .i64 (i : Nat)) rfl (by kernel_rfl) (by kernel_rfl) (by kernel_rfl) (fun _ _ _ h => h) (Or.inl ⟨by rfl, ?_⟩) hS ?_
     ·intro W hSw
      (try dsimp only at hSw)
      go_simp
     try simp only [Act.put, List.setIfInBounds_toArray, List.set_cons_zero, List.set_cons_succ]
     refine wpAnyH_take (i := 6) (oi := { dst := some 23, op := Op.indexAddr 39 (Operand.tmp 21) (Operand.tmp 22), type := 0, pos := "fields.go:42", after := #[{ on := 4, ground := Ground.data }, { on := 5, ground := Ground.data }, { on := 2, ground := Ground.guard }], guard := some (2, true) }) (v := .pointer (some ⟨fg, fo' + i * 5, none⟩)) rfl (by kernel_rfl) (by kernel_rfl) (by kernel_rfl) (fun _ _ _ h => h) (Or.inl ⟨by rfl, ?_⟩) hS ?_
     ·intro W hSw
      (try dsimp only at hSw)
      go_simp
     try simp only [Act.put, List.setIfInBounds_toArray, List.set_cons_zero, List.set_cons_succ]
     refine wpAnyH_take (i := 7) (oi := { dst := some 24, op := Op.load 55 (Operand.tmp 23), type := 55, pos := "fields.go:42", after := #[{ on := 6, ground := Ground.data }, { on := 2, ground := Ground.guard }], guard := some (2, true) }) (v := (.agg #[.string G.n, .int .u8 (G.k : Nat), .string G.t, .float .f32 G.v, .int .u8 (G.u : Nat)])) rfl (by kernel_rfl) (by kernel_rfl) (by kernel_rfl) (fun _ _ _ h => h) (Or.inl ⟨by rfl, ?_⟩) hS ?_
     ·intro W hSw
      (try dsimp only at hSw)
      go_simp
     try simp only [Act.put, List.setIfInBounds_toArray, List.set_cons_zero, List.set_cons_succ]
     refine wpAnyH_ready (rs := [8]) (by kernel_rfl) (by simp) ?_
     refine AllReadyH.cons (o := { dst := some 25, op := Op.call { callee := Callee.value (Operand.func 97), args := #[Operand.tmp 20, Operand.tmp 24], argTypes := #[55, 55] }, type := 4, pos := "fields.go:42", after := #[{ on := 3, ground := Ground.data }, { on := 7, ground := Ground.data }, { on := 2, ground := Ground.chain }, { on := 2, ground := Ground.guard }], guard := some (2, true) }) rfl (fun K hK => ?_) AllReadyH.nil
     go_simp
     refine ((unhide HAQ) _).mono ?_
     rintro e w3 ⟨rfl, hf3⟩
     have H3 := hide ((Fr.refl (fun _ => False) w2).drew.trans hf3 (fun _ _ h => h))
     clear hf3
     go_simp
     refine hK.out _ _ ((unhide HS0) _ (unhide H3)) (fun hS => ?_)
     try simp only [Act.put, List.setIfInBounds_toArray, List.set_cons_zero, List.set_cons_succ]
     refine wpAnyH_take (i := 9) (oi := { dst := some 26, op := Op.pick (Operand.tmp 19) (Operand.tmp 25) (Operand.const (Value.bool false)), type := 4, pos := "fields.go:42", after := #[{ on := 2, ground := Ground.data }, { on := 8, ground := Ground.data }], guard := none }) (v := .bool false) rfl (by kernel_rfl) (by kernel_rfl) (by kernel_rfl) (fun _ _ _ h => h) (Or.inl ⟨by rfl, ?_⟩) hS ?_
     ·intro W hSw
      (try dsimp only at hSw)
      go_simp
     try simp only [Act.put, List.setIfInBounds_toArray, List.set_cons_zero, List.set_cons_succ]
     refine wpAnyH_take (i := 10) (oi := { dst := some 27, op := Op.move (Operand.tmp 26), type := 4, pos := "fields.go:42", after := #[{ on := 9, ground := Ground.data }, { on := 8, ground := Ground.chain }], guard := none }) (v := .bool false) rfl (by kernel_rfl) (by kernel_rfl) (by kernel_rfl) (fun _ _ _ h => h) (Or.inl ⟨by rfl, ?_⟩) hS ?_
     ·intro W hSw
      (try dsimp only at hSw)
      go_simp
     try simp only [Act.put, List.setIfInBounds_toArray, List.set_cons_zero, List.set_cons_succ]
     refine wpAnyH_take (i := 11) (oi := { dst := some 28, op := Op.fieldAddr 55 (Operand.tmp 6) 4, type := 0, pos := "fields.go:42", after := #[{ on := 10, ground := Ground.guard }], guard := some (10, true) }) (v := undef) rfl (by kernel_rfl) (by kernel_rfl) (by kernel_rfl) (fun _ _ _ h => h) (Or.inr ⟨by rfl, rfl⟩) hS ?_
     try simp only [Act.put, List.setIfInBounds_toArray, List.set_cons_zero, List.set_cons_succ]
     refine wpAnyH_take (i := 12) (oi := { dst := some 29, op := Op.load 5 (Operand.tmp 28), type := 5, pos := "fields.go:42", after := #[{ on := 11, ground := Ground.data }, { on := 10, ground := Ground.guard }], guard := some (10, true) }) (v := undef) rfl (by kernel_rfl) (by kernel_rfl) (by kernel_rfl) (fun _ _ _ h => h) (Or.inr ⟨by rfl, rfl⟩) hS ?_
     try simp only [Act.put, List.setIfInBounds_toArray, List.set_cons_zero, List.set_cons_succ]
     refine wpAnyH_take (i := 13) (oi := { dst := some 30, op := Op.move (Operand.tmp 0), type := 39, pos := "fields.go:42", after := #[{ on := 10, ground := Ground.guard }], guard := some (10, true) }) (v := undef) rfl (by kernel_rfl) (by kernel_rfl) (by kernel_rfl) (fun _ _ _ h => h) (Or.inr ⟨by rfl, rfl⟩) hS ?_
     try simp only [Act.put, List.setIfInBounds_toArray, List.set_cons_zero, List.set_cons_succ]
     refine wpAnyH_take (i := 14) (oi := { dst := some 31, op := Op.move (Operand.tmp 7), type := 3, pos := "fields.go:42", after := #[{ on := 10, ground := Ground.guard }], guard := some (10, true) }) (v := undef) rfl (by kernel_rfl) (by kernel_rfl) (by kernel_rfl) (fun _ _ _ h => h) (Or.inr ⟨by rfl, rfl⟩) hS ?_
     try simp only [Act.put, List.setIfInBounds_toArray, List.set_cons_zero, List.set_cons_succ]
     refine wpAnyH_take (i := 15) (oi := { dst := some 32, op := Op.indexAddr 39 (Operand.tmp 30) (Operand.tmp 31), type := 0, pos := "fields.go:42", after := #[{ on := 13, ground := Ground.data }, { on := 14, ground := Ground.data }, { on := 10, ground := Ground.guard }], guard := some (10, true) }) (v := undef) rfl (by kernel_rfl) (by kernel_rfl) (by kernel_rfl) (fun _ _ _ h => h) (Or.inr ⟨by rfl, rfl⟩) hS ?_
     try simp only [Act.put, List.setIfInBounds_toArray, List.set_cons_zero, List.set_cons_succ]
     refine wpAnyH_take (i := 16) (oi := { dst := some 33, op := Op.fieldAddr 55 (Operand.tmp 32) 4, type := 0, pos := "fields.go:42", after := #[{ on := 15, ground := Ground.data }, { on := 10, ground := Ground.guard }], guard := some (10, true) }) (v := undef) rfl (by kernel_rfl) (by kernel_rfl) (by kernel_rfl) (fun _ _ _ h => h) (Or.inr ⟨by rfl, rfl⟩) hS ?_
     try simp only [Act.put, List.setIfInBounds_toArray, List.set_cons_zero, List.set_cons_succ]
     refine wpAnyH_take (i := 17) (oi := { dst := some 34, op := Op.load 5 (Operand.tmp 33), type := 5, pos := "fields.go:42", after := #[{ on := 16, ground := Ground.data }, { on := 10, ground := Ground.guard }], guard := some (10, true) }) (v := undef) rfl (by kernel_rfl) (by kernel_rfl) (by kernel_rfl) (fun _ _ _ h => h) (Or.inr ⟨by rfl, rfl⟩) hS ?_
     try simp only [Act.put, List.setIfInBounds_toArray, List.set_cons_zero, List.set_cons_succ]
     refine wpAnyH_take (i := 18) (oi := { dst := some 35, op := Op.call { callee := Callee.value (Operand.func 98), args := #[Operand.tmp 29, Operand.tmp 34], argTypes := #[5, 5] }, type := 4, pos := "fields.go:42", after := #[{ on := 12, ground := Ground.data }, { on := 17, ground := Ground.data }, { on := 10, ground := Ground.chain }, { on := 10, ground := Ground.guard }], guard := some (10, true) }) (v := undef) rfl (by kernel_rfl) (by kernel_rfl) (by kernel_rfl) (fun _ _ _ h => h) (Or.inr ⟨by rfl, rfl⟩) hS ?_
     try simp only [Act.put, List.setIfInBounds_toArray, List.set_cons_zero, List.set_cons_succ]
     refine wpAnyH_take (i := 19) (oi := { dst := some 36, op := Op.unOp UnOp.not 4 (Operand.tmp 35), type := 4, pos := "fields.go:42", after := #[{ on := 18, ground := Ground.data }, { on := 10, ground := Ground.guard }], guard := some (10, true) }) (v := undef) rfl (by kernel_rfl) (by kernel_rfl) (by kernel_rfl) (fun _ _ _ h => h) (Or.inr ⟨by rfl, rfl⟩) hS ?_
     try simp only [Act.put, List.setIfInBounds_toArray, List.set_cons_zero, List.set_cons_succ]
     refine wpAnyH_take (i := 20) (oi := { dst := some 37, op := Op.pick (Operand.tmp 27) (Operand.tmp 36) (Operand.const (Value.bool false)), type := 4, pos := "fields.go:42", after := #[{ on := 10, ground := Ground.data }, { on := 19, ground := Ground.data }], guard := none }) (v := .bool false) rfl (by kernel_rfl) (by kernel_rfl) (by kernel_rfl) (fun _ _ _ h => h) (Or.inl ⟨by rfl, ?_⟩) hS ?_
     ·intro W hSw
      (try dsimp only at hSw)
      go_simp
     try simp only [Act.put, List.setIfInBounds_toArray, List.set_cons_zero, List.set_cons_succ]
     refine wpAnyH_done (by kernel_rfl) ?_ _
     refine NoPanic.normal ?_
     go_wp2_with fail
     refine ⟨⟨j + 1, by omega, by go_num, ?_, (unhide HR).2.trans (((box1 wr _).trans (unhide H2) (fun _ _ h => h)).trans (unhide H3) (fun _ _ h => h)) (fun _ _ h => h)⟩, by simp [intOf]; omega⟩
     rw [(unhide HR).1, unhide HQ]
     rfl
  ·go_wp2_with fail
   go_ret
   refine ⟨?_, hf⟩
   rw [hr, List.drop_eq_nil_of_le (by omega)]
   rfl
end Go.Proofs.YtiknjghcjaaenaaGreatDoor
