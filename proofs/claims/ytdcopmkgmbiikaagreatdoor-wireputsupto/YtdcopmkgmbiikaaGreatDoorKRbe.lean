import Derived.Test.YtdcopmkgmbiikaaGreatDoorKRbc
import Derived.Test.YtdcopmkgmbiikaaGreatDoorKRbd
namespace Go.Proofs.YtdcopmkgmbiikaaGreatDoor
open Go.RowKit
theorem rU8_bad (b : Nat) (F : Nat → Prop) (s : Rst) (E : Nat → Addr) (w : World) (hg : Gl w E) (h : R w b F s) (hn : s.f = none) (hl : s.all.length < 1 + s.place) :
  Calls Tryz.prog 191 #[.pointer (some ⟨b, 0, none⟩)] w fun e w' => e = .returned (.int .u8 0) ∧ ∃ F', R w' b F' { s with f := some (s.nm, s.place, E 1) } ∧ Ch w w' F F' := by
 have hlt := h.lt b h.fb
 have hlo := h.lo b h.fb
 have hmf := mf
 have H := hid (And.intro h (And.intro hn hg))
 clear h hn hg
 go_enter Tryz.func191, Tryz.ntmps191
 go_wp2_with fail
 refine (rp_uint8_bad b 212 _ F s (E 1) _ ((uh H).1.frame (box1 w _) (fun _ _ h => h)) (uh H).2.1 (enters Tryz.func212 (by kernel_rfl) (by kernel_rfl) _) (fun wk sv hf hr => rU8_clo_bad b s.place s.place ⟨w.heap.size, 0, none⟩ s.nm sv s.all E wk (((uh H).2.2.fr0 (box1 w _)).frb hf hlo) hr ((hf.cell (by simp) (by show ¬ w.heap.size = b; omega)).trans (c10 _ _ _)) hl)).mono ?_
 rintro e w' ⟨rfl, F', hR, hc⟩
 have HR := hid (And.intro hR hc)
 clear hR hc
 go_wp2_with fail
 go_ret
 exact ⟨rfl, F', (uh HR).1, (uh HR).2.behind (box1 w _)⟩
theorem rU32_bad (b : Nat) (F : Nat → Prop) (s : Rst) (E : Nat → Addr) (w : World) (hg : Gl w E) (h : R w b F s) (hn : s.f = none) (hl : s.all.length < 4 + s.place) :
  Calls Tryz.prog 192 #[.pointer (some ⟨b, 0, none⟩)] w fun e w' => e = .returned (.int .u32 0) ∧ ∃ F', R w' b F' { s with f := some (s.nm, s.place, E 1) } ∧ Ch w w' F F' := by
 have hlt := h.lt b h.fb
 have hlo := h.lo b h.fb
 have hmf := mf
 have H := hid (And.intro h (And.intro hn hg))
 clear h hn hg
 go_enter Tryz.func192, Tryz.ntmps192
 go_wp2_with fail
 refine (rp_uint32_bad b 215 _ F s (E 1) _ ((uh H).1.frame (box1 w _) (fun _ _ h => h)) (uh H).2.1 (enters Tryz.func215 (by kernel_rfl) (by kernel_rfl) _) (fun wk sv hf hr => rU32_clo_bad b s.place s.place ⟨w.heap.size, 0, none⟩ s.nm sv s.all E wk (((uh H).2.2.fr0 (box1 w _)).frb hf hlo) hr ((hf.cell (by simp) (by show ¬ w.heap.size = b; omega)).trans (c10 _ _ _)) hl)).mono ?_
 rintro e w' ⟨rfl, F', hR, hc⟩
 have HR := hid (And.intro hR hc)
 clear hR hc
 go_wp2_with fail
 go_ret
 exact ⟨rfl, F', (uh HR).1, (uh HR).2.behind (box1 w _)⟩
theorem rU8_given (b : Nat) (F : Nat → Prop) (s : Rst) (w : World) (h : R w b F s) (hn : s.f ≠ none) :
  Calls Tryz.prog 191 #[.pointer (some ⟨b, 0, none⟩)] w fun e w' => e = .returned (.int .u8 0) ∧ ∃ F', R w' b F' s ∧ Ch w w' F F' := by
 have hmf := mf
 have H := hid (And.intro h hn)
 clear h hn
 go_enter Tryz.func191, Tryz.ntmps191
 go_wp2_with fail
 refine (rp_uint8_given b 212 _ F s _ ((uh H).1.frame (box1 w _) (fun _ _ h => h)) (uh H).2).mono ?_
 rintro e w' ⟨rfl, F', hR, hc⟩
 have HR := hid (And.intro hR hc)
 clear hR hc
 go_wp2_with fail
 go_ret
 exact ⟨rfl, F', (uh HR).1, (uh HR).2.behind (box1 w _)⟩
theorem rU32_given (b : Nat) (F : Nat → Prop) (s : Rst) (w : World) (h : R w b F s) (hn : s.f ≠ none) :
  Calls Tryz.prog 192 #[.pointer (some ⟨b, 0, none⟩)] w fun e w' => e = .returned (.int .u32 0) ∧ ∃ F', R w' b F' s ∧ Ch w w' F F' := by
 have hmf := mf
 have H := hid (And.intro h hn)
 clear h hn
 go_enter Tryz.func192, Tryz.ntmps192
 go_wp2_with fail
 refine (rp_uint32_given b 215 _ F s _ ((uh H).1.frame (box1 w _) (fun _ _ h => h)) (uh H).2).mono ?_
 rintro e w' ⟨rfl, F', hR, hc⟩
 have HR := hid (And.intro hR hc)
 clear hR hc
 go_wp2_with fail
 go_ret
 exact ⟨rfl, F', (uh HR).1, (uh HR).2.behind (box1 w _)⟩
theorem rF32_given (b : Nat) (F : Nat → Prop) (s : Rst) (w : World) (h : R w b F s) (hn : s.f ≠ none) :
  Calls Tryz.prog 193 #[.pointer (some ⟨b, 0, none⟩)] w fun e w' => e = .returned (.float .f32 0) ∧ ∃ F', R w' b F' s ∧ Ch w w' F F' := by
 have hmf := mf
 have H := hid (And.intro h hn)
 clear h hn
 go_enter Tryz.func193, Tryz.ntmps193
 go_wp2_with fail
 refine (rp_float32_given b 217 _ F s _ ((uh H).1.frame (box1 w _) (fun _ _ h => h)) (uh H).2).mono ?_
 rintro e w' ⟨rfl, F', hR, hc⟩
 have HR := hid (And.intro hR hc)
 clear hR hc
 go_wp2_with fail
 go_ret
 exact ⟨rfl, F', (uh HR).1, (uh HR).2.behind (box1 w _)⟩
theorem rF32_short (b : Nat) (F : Nat → Prop) (s : Rst) (E : Nat → Addr) (w : World) (hg : Gl w E) (h : R w b F s) (hn : s.f = none) (hl : s.all.length < 4 + s.place) :
  Calls Tryz.prog 193 #[.pointer (some ⟨b, 0, none⟩)] w fun e w' => e = .returned (.float .f32 0) ∧ ∃ F', R w' b F' { s with f := some (s.nm, s.place, E 1) } ∧ Ch w w' F F' := by
 have hlt := h.lt b h.fb
 have hlo := h.lo b h.fb
 have hmf := mf
 have H := hid (And.intro h (And.intro hn hg))
 clear h hn hg
 go_enter Tryz.func193, Tryz.ntmps193
 go_wp2_with fail
 refine (rp_float32_bad b 217 _ F s (E 1) _ ((uh H).1.frame (box1 w _) (fun _ _ h => h)) (uh H).2.1 (enters Tryz.func217 (by kernel_rfl) (by kernel_rfl) _) (fun wk sv hf hr => rF32_clos b s.place s.place ⟨w.heap.size, 0, none⟩ s.nm sv s.all E wk (((uh H).2.2.fr0 (box1 w _)).frb hf hlo) hr ((hf.cell (by simp) (by show ¬ w.heap.size = b; omega)).trans (c10 _ _ _)) hl)).mono ?_
 rintro e w' ⟨rfl, F', hR, hc⟩
 have HR := hid (And.intro hR hc)
 clear hR hc
 go_wp2_with fail
 go_ret
 exact ⟨rfl, F', (uh HR).1, (uh HR).2.behind (box1 w _)⟩
theorem rF32_bad (b : Nat) (F : Nat → Prop) (s : Rst) (E : Nat → Addr) (er : Addr) (w : World) (hg : Gl w E) (hr : Rg w er) (h : R w b F s) (hn : s.f = none) (hl : 4 + s.place ≤ s.all.length) (hq : quantB (val ((s.all.drop s.place).take 4)) = false) :
  Calls Tryz.prog 193 #[.pointer (some ⟨b, 0, none⟩)] w fun e w' => e = .returned (.float .f32 0) ∧ ∃ F', R w' b F' { s with f := some (s.nm, s.place, er) } ∧ Ch w w' F F' := by
 have hlt := h.lt b h.fb
 have hlo := h.lo b h.fb
 have hmf := mf
 have H := hid (And.intro h (And.intro hn (And.intro hg (And.intro hr hq))))
 clear h hn hg hr hq
 go_enter Tryz.func193, Tryz.ntmps193
 go_wp2_with fail
 refine (rp_float32_bad b 217 _ F s er _ ((uh H).1.frame (box1 w _) (fun _ _ h => h)) (uh H).2.1 (enters Tryz.func217 (by kernel_rfl) (by kernel_rfl) _) (fun wk sv hf hr => rF32_clob b s.place s.place ⟨w.heap.size, 0, none⟩ er s.nm sv s.all E wk hlo (((uh H).2.2.1.fr0 (box1 w _)).frb hf hlo) (((uh H).2.2.2.1.fr0 (box1 w _)).fr hf (fun k e => by have h' : k = b := e; omega)) hr (by show w.heap.size ≠ b; omega) ((hf.cell (by simp) (by show ¬ w.heap.size = b; omega)).trans (c10 _ _ _)) hl (uh H).2.2.2.2)).mono ?_
 rintro e w' ⟨rfl, F', hR, hc⟩
 have HR := hid (And.intro hR hc)
 clear hR hc
 go_wp2_with fail
 go_ret
 exact ⟨rfl, F', (uh HR).1, (uh HR).2.behind (box1 w _)⟩
theorem rBytes_bad (b : Nat) (most : Int) (F : Nat → Prop) (s : Rst) (E : Nat → Addr) (ea : Addr) (w : World) (hc : CntBad s.all s.place most E ea) (hm : most < 9223372036854775808) (hg : Gl w E) (h : R w b F s) (hn : s.f = none) :
  Calls Tryz.prog 195 #[.pointer (some ⟨b, 0, none⟩), .int .i64 most] w fun e w' => e = .returned (.slice none 0 0) ∧ ∃ F', R w' b F' { s with f := some (s.nm, s.place, ea) } ∧ Ch w w' F F' := by
 have hlt := h.lt b h.fb
 have hlo := h.lo b h.fb
 have hmf := mf
 have H := hid (And.intro h (And.intro hn (And.intro hg hc)))
 clear h hn hg hc
 go_enter Tryz.func195, Tryz.ntmps195
 go_wp2_with fail
 refine (rp_bytes_bad b 223 _ F s ea _ ((uh H).1.frame (box2 w _ _) (fun _ _ h => h)) (uh H).2.1 (enters Tryz.func223 (by kernel_rfl) (by kernel_rfl) _) (fun wk sv hf hr => rBytes_clob b s.place s.place most ⟨w.heap.size, 0, none⟩ ⟨w.heap.size + 1, 0, none⟩ ea s.nm sv s.all E wk (uh H).2.2.2 hlo hm (((uh H).2.2.1.fr0 (box2 w _ _)).frb hf hlo) hr ((hf.cell (by simp <;> omega) (by show ¬ w.heap.size = b; omega)).trans (by simp)) ((hf.cell (by simp) (by show ¬ w.heap.size + 1 = b; omega)).trans (by simp)))).mono ?_
 rintro e w' ⟨rfl, F', hR, hc⟩
 have HR := hid (And.intro hR hc)
 clear hR hc
 go_wp2_with fail
 go_ret
 exact ⟨rfl, F', (uh HR).1, (uh HR).2.behind (box2 w _ _)⟩
theorem rBytes_given (b : Nat) (most : Int) (F : Nat → Prop) (s : Rst) (w : World) (h : R w b F s) (hn : s.f ≠ none) :
  Calls Tryz.prog 195 #[.pointer (some ⟨b, 0, none⟩), .int .i64 most] w fun e w' => e = .returned (.slice none 0 0) ∧ ∃ F', R w' b F' s ∧ Ch w w' F F' := by
 have hmf := mf
 have H := hid (And.intro h hn)
 clear h hn
 go_enter Tryz.func195, Tryz.ntmps195
 go_wp2_with fail
 refine (rp_bytes_given b 223 _ F s _ ((uh H).1.frame (box2 w _ _) (fun _ _ h => h)) (uh H).2).mono ?_
 rintro e w' ⟨rfl, F', hR, hc⟩
 have HR := hid (And.intro hR hc)
 clear hR hc
 go_wp2_with fail
 go_ret
 exact ⟨rfl, F', (uh HR).1, (uh HR).2.behind (box2 w _ _)⟩
theorem rText_bad (b : Nat) (most : Int) (F : Nat → Prop) (s : Rst) (E : Nat → Addr) (ea : Addr) (w : World) (hc : CntBad s.all s.place most E ea) (hm : most < 9223372036854775808) (hg : Gl w E) (h : R w b F s) (hn : s.f = none) :
  Calls Tryz.prog 194 #[.pointer (some ⟨b, 0, none⟩), .int .i64 most] w fun e w' => e = .returned (.string ⟨#[]⟩) ∧ ∃ F', R w' b F' { s with f := some (s.nm, s.place, ea) } ∧ Ch w w' F F' := by
 have hlt := h.lt b h.fb
 have hlo := h.lo b h.fb
 have hmf := mf
 have H := hid (And.intro h (And.intro hn (And.intro hg hc)))
 clear h hn hg hc
 go_enter Tryz.func194, Tryz.ntmps194
 go_wp2_with fail
 refine (rp_string_bad b 219 _ F s ea _ ((uh H).1.frame (box2 w _ _) (fun _ _ h => h)) (uh H).2.1 (enters Tryz.func219 (by kernel_rfl) (by kernel_rfl) _) (fun wk sv hf hr => rText_clob b s.place s.place most ⟨w.heap.size, 0, none⟩ ⟨w.heap.size + 1, 0, none⟩ ea s.nm sv s.all E wk (uh H).2.2.2 hlo hm (((uh H).2.2.1.fr0 (box2 w _ _)).frb hf hlo) hr ((hf.cell (by simp <;> omega) (by show ¬ w.heap.size = b; omega)).trans (by simp)) ((hf.cell (by simp) (by show ¬ w.heap.size + 1 = b; omega)).trans (by simp)))).mono ?_
 rintro e w' ⟨rfl, F', hR, hc⟩
 have HR := hid (And.intro hR hc)
 clear hR hc
 go_wp2_with fail
 go_ret
 exact ⟨rfl, F', (uh HR).1, (uh HR).2.behind (box2 w _ _)⟩
theorem rText_given (b : Nat) (most : Int) (F : Nat → Prop) (s : Rst) (w : World) (h : R w b F s) (hn : s.f ≠ none) :
  Calls Tryz.prog 194 #[.pointer (some ⟨b, 0, none⟩), .int .i64 most] w fun e w' => e = .returned (.string ⟨#[]⟩) ∧ ∃ F', R w' b F' s ∧ Ch w w' F F' := by
 have hmf := mf
 have H := hid (And.intro h hn)
 clear h hn
 go_enter Tryz.func194, Tryz.ntmps194
 go_wp2_with fail
 refine (rp_string_given b 219 _ F s _ ((uh H).1.frame (box2 w _ _) (fun _ _ h => h)) (uh H).2).mono ?_
 rintro e w' ⟨rfl, F', hR, hc⟩
 have HR := hid (And.intro hR hc)
 clear hR hc
 go_wp2_with fail
 go_ret
 exact ⟨rfl, F', (uh HR).1, (uh HR).2.behind (box2 w _ _)⟩
theorem rCount_bad (b : Nat) (most : Int) (F : Nat → Prop) (s : Rst) (E : Nat → Addr) (ea : Addr) (w : World) (hc : CntBad s.all s.place most E ea) (hm : most < 9223372036854775808) (hg : Gl w E) (h : R w b F s) (hn : s.f = none) :
  Calls Tryz.prog 196 #[.pointer (some ⟨b, 0, none⟩), .int .i64 most] w fun e w' => e = .returned (.int .i64 0) ∧ ∃ F', R w' b F' { s with f := some (s.nm, s.place, ea) } ∧ Ch w w' F F' := by
 have hlt := h.lt b h.fb
 have hlo := h.lo b h.fb
 have hmf := mf
 have H := hid (And.intro h (And.intro hn (And.intro hg hc)))
 clear h hn hg hc
 go_enter Tryz.func196, Tryz.ntmps196
 go_wp2_with fail
 refine (rp_int_bad b 225 _ F s ea _ ((uh H).1.frame (box2 w _ _) (fun _ _ h => h)) (uh H).2.1 (enters Tryz.func225 (by kernel_rfl) (by kernel_rfl) _) (fun wk sv hf hr => rCount_clob b s.place s.place most ⟨w.heap.size, 0, none⟩ ⟨w.heap.size + 1, 0, none⟩ ea s.nm sv s.all E wk (uh H).2.2.2 hlo hm (((uh H).2.2.1.fr0 (box2 w _ _)).frb hf hlo) hr ((hf.cell (by simp <;> omega) (by show ¬ w.heap.size = b; omega)).trans (by simp)) ((hf.cell (by simp) (by show ¬ w.heap.size + 1 = b; omega)).trans (by simp)))).mono ?_
 rintro e w' ⟨rfl, F', hR, hc⟩
 have HR := hid (And.intro hR hc)
 clear hR hc
 go_wp2_with fail
 go_ret
 exact ⟨rfl, F', (uh HR).1, (uh HR).2.behind (box2 w _ _)⟩
theorem rCount_given (b : Nat) (most : Int) (F : Nat → Prop) (s : Rst) (w : World) (h : R w b F s) (hn : s.f ≠ none) :
  Calls Tryz.prog 196 #[.pointer (some ⟨b, 0, none⟩), .int .i64 most] w fun e w' => e = .returned (.int .i64 0) ∧ ∃ F', R w' b F' s ∧ Ch w w' F F' := by
 have hmf := mf
 have H := hid (And.intro h hn)
 clear h hn
 go_enter Tryz.func196, Tryz.ntmps196
 go_wp2_with fail
 refine (rp_int_given b 225 _ F s _ ((uh H).1.frame (box2 w _ _) (fun _ _ h => h)) (uh H).2).mono ?_
 rintro e w' ⟨rfl, F', hR, hc⟩
 have HR := hid (And.intro hR hc)
 clear hR hc
 go_wp2_with fail
 go_ret
 exact ⟨rfl, F', (uh HR).1, (uh HR).2.behind (box2 w _ _)⟩
theorem rBytes_cut (b x : Nat) (most : Int) (F : Nat → Prop) (s : Rst) (E : Nat → Addr) (w : World) (hm : most < 9223372036854775808) (hg : Gl w E) (h : R w b F s) (hn : s.f = none) (hx : val ((s.all.drop s.place).take 4) = x) (hl : 4 + s.place ≤ s.all.length) (hv : (x : Int) ≤ most) (hxl : s.all.length < x + (s.place + 4)) :
  Calls Tryz.prog 195 #[.pointer (some ⟨b, 0, none⟩), .int .i64 most] w fun e w' => e = .returned (.slice none 0 0) ∧ ∃ F', R w' b F' { s with f := some (s.nm, s.place, E 1) } ∧ Ch w w' F F' := by
 have hlt := h.lt b h.fb
 have hlo := h.lo b h.fb
 have hmf := mf
 have H := hid (And.intro h (And.intro hn (And.intro hg hx)))
 clear h hn hg hx
 go_enter Tryz.func195, Tryz.ntmps195
 go_wp2_with fail
 refine (rp_bytes_bad b 223 _ F s (E 1) _ ((uh H).1.frame (box2 w _ _) (fun _ _ h => h)) (uh H).2.1 (enters Tryz.func223 (by kernel_rfl) (by kernel_rfl) _) (fun wk sv hf hr => rBytes_clos b s.place s.place x most ⟨w.heap.size, 0, none⟩ ⟨w.heap.size + 1, 0, none⟩ s.nm sv s.all E wk hlo hm (((uh H).2.2.1.fr0 (box2 w _ _)).frb hf hlo) hr ((hf.cell (by simp <;> omega) (by show ¬ w.heap.size = b; omega)).trans (by simp)) ((hf.cell (by simp) (by show ¬ w.heap.size + 1 = b; omega)).trans (by simp)) (by show w.heap.size ≠ b; omega) (uh H).2.2.2 hl hv hxl)).mono ?_
 rintro e w' ⟨rfl, F', hR, hc⟩
 have HR := hid (And.intro hR hc)
 clear hR hc
 go_wp2_with fail
 go_ret
 exact ⟨rfl, F', (uh HR).1, (uh HR).2.behind (box2 w _ _)⟩
theorem rText_cut (b x : Nat) (most : Int) (F : Nat → Prop) (s : Rst) (E : Nat → Addr) (w : World) (hm : most < 9223372036854775808) (hg : Gl w E) (h : R w b F s) (hn : s.f = none) (hx : val ((s.all.drop s.place).take 4) = x) (hl : 4 + s.place ≤ s.all.length) (hv : (x : Int) ≤ most) (hxl : s.all.length < x + (s.place + 4)) :
  Calls Tryz.prog 194 #[.pointer (some ⟨b, 0, none⟩), .int .i64 most] w fun e w' => e = .returned (.string ⟨#[]⟩) ∧ ∃ F', R w' b F' { s with f := some (s.nm, s.place, E 1) } ∧ Ch w w' F F' := by
 have hlt := h.lt b h.fb
 have hlo := h.lo b h.fb
 have hmf := mf
 have H := hid (And.intro h (And.intro hn (And.intro hg hx)))
 clear h hn hg hx
 go_enter Tryz.func194, Tryz.ntmps194
 go_wp2_with fail
 refine (rp_string_bad b 219 _ F s (E 1) _ ((uh H).1.frame (box2 w _ _) (fun _ _ h => h)) (uh H).2.1 (enters Tryz.func219 (by kernel_rfl) (by kernel_rfl) _) (fun wk sv hf hr => rText_clos b s.place s.place x most ⟨w.heap.size, 0, none⟩ ⟨w.heap.size + 1, 0, none⟩ s.nm sv s.all E wk hlo hm (((uh H).2.2.1.fr0 (box2 w _ _)).frb hf hlo) hr ((hf.cell (by simp <;> omega) (by show ¬ w.heap.size = b; omega)).trans (by simp)) ((hf.cell (by simp) (by show ¬ w.heap.size + 1 = b; omega)).trans (by simp)) (by show w.heap.size ≠ b; omega) (uh H).2.2.2 hl hv hxl)).mono ?_
 rintro e w' ⟨rfl, F', hR, hc⟩
 have HR := hid (And.intro hR hc)
 clear hR hc
 go_wp2_with fail
 go_ret
 exact ⟨rfl, F', (uh HR).1, (uh HR).2.behind (box2 w _ _)⟩
end Go.Proofs.YtdcopmkgmbiikaaGreatDoor
