import Derived.Test.YtikolmpgnpkdbaaGreatDoorRtx
namespace Go.Proofs.YtikolmpgnpkdbaaGreatDoor
open Go.RowKit

theorem box1b (w : World) (b : Nat) (a : Obj) : Fr (fun k => k = b) w (w.alloc a) := (box1 w a).mono (fun _ _ h => h.elim)

set_option maxRecDepth 100000 in
theorem rd1_ok (b u : Nat) (t : ByteArray) (n m : Int) (F : Nat → Prop) (s : Rst) (E : Nat → Addr) (w : World) (hg : Gl w E) (h : R w b F s) (hn : s.f = none) (hl : 1 + s.place ≤ s.all.length) :
    Calls Tryz.prog 23 #[.pointer (some ⟨b, 0, none⟩), .agg #[.int .i64 1, .int .u64 u, .string t, .int .i64 n, .int .i64 m]] w fun e w' => e = .returned (.tuple #[.int .u64 (val ((s.all.drop s.place).take 1)), .slice none 0 0]) ∧ R w' b F { s with place := s.place + 1, part := s.place } ∧ Fr (fun k => k = b) w w' := by
  have H := hide (And.intro h (And.intro hn hg))
  have hlt : val ((s.all.drop s.place).take 1) < 256 := by
    have h1 := val_lt ((s.all.drop s.place).take 1)
    have h2 : ((s.all.drop s.place).take 1).length = 1 := by simp; omega
    rw [h2] at h1; exact h1
  clear h hn hg
  go_enter Tryz.func23, Tryz.ntmps23
  go_wp2_with fail
  refine (rU8_ok b F s E _ ((unhide H).2.2.fr0 (box1 w _)) ((unhide H).1.frame (box1 w _) (fun _ _ h => h)) (unhide H).2.1 hl).mono ?_
  rintro e w' ⟨rfl, hR, hf⟩
  have HR := hide (And.intro hR hf)
  clear hR hf
  generalize hy : val ((s.all.drop s.place).take 1) = y at *
  go_wp2_with fail
  go_ret2
  subst hy
  exact ⟨rfl, (unhide HR).1, (box1b w b _).trans (unhide HR).2 (fun _ _ h => h)⟩
set_option maxRecDepth 100000 in
theorem rd2_ok (b u : Nat) (t : ByteArray) (n m : Int) (F : Nat → Prop) (s : Rst) (E : Nat → Addr) (w : World) (hg : Gl w E) (h : R w b F s) (hn : s.f = none) (hl : 2 + s.place ≤ s.all.length) :
    Calls Tryz.prog 23 #[.pointer (some ⟨b, 0, none⟩), .agg #[.int .i64 2, .int .u64 u, .string t, .int .i64 n, .int .i64 m]] w fun e w' => e = .returned (.tuple #[.int .u64 (val ((s.all.drop s.place).take 2)), .slice none 0 0]) ∧ R w' b F { s with place := s.place + 2, part := s.place } ∧ Fr (fun k => k = b) w w' := by
  have H := hide (And.intro h (And.intro hn hg))
  have hlt : val ((s.all.drop s.place).take 2) < 65536 := by
    have h1 := val_lt ((s.all.drop s.place).take 2)
    have h2 : ((s.all.drop s.place).take 2).length = 2 := by simp; omega
    rw [h2] at h1; exact h1
  clear h hn hg
  go_enter Tryz.func23, Tryz.ntmps23
  go_wp2_with fail
  refine (rU16_ok b F s E _ ((unhide H).2.2.fr0 (box1 w _)) ((unhide H).1.frame (box1 w _) (fun _ _ h => h)) (unhide H).2.1 hl).mono ?_
  rintro e w' ⟨rfl, hR, hf⟩
  have HR := hide (And.intro hR hf)
  clear hR hf
  generalize hy : val ((s.all.drop s.place).take 2) = y at *
  go_wp2_with fail
  go_ret2
  subst hy
  exact ⟨rfl, (unhide HR).1, (box1b w b _).trans (unhide HR).2 (fun _ _ h => h)⟩
set_option maxRecDepth 100000 in
theorem rd4_ok (b u : Nat) (t : ByteArray) (n m : Int) (F : Nat → Prop) (s : Rst) (E : Nat → Addr) (w : World) (hg : Gl w E) (h : R w b F s) (hn : s.f = none) (hl : 4 + s.place ≤ s.all.length) :
    Calls Tryz.prog 23 #[.pointer (some ⟨b, 0, none⟩), .agg #[.int .i64 4, .int .u64 u, .string t, .int .i64 n, .int .i64 m]] w fun e w' => e = .returned (.tuple #[.int .u64 (val ((s.all.drop s.place).take 4)), .slice none 0 0]) ∧ R w' b F { s with place := s.place + 4, part := s.place } ∧ Fr (fun k => k = b) w w' := by
  have H := hide (And.intro h (And.intro hn hg))
  have hlt : val ((s.all.drop s.place).take 4) < 4294967296 := by
    have h1 := val_lt ((s.all.drop s.place).take 4)
    have h2 : ((s.all.drop s.place).take 4).length = 4 := by simp; omega
    rw [h2] at h1; exact h1
  clear h hn hg
  go_enter Tryz.func23, Tryz.ntmps23
  go_wp2_with fail
  refine (rU32_ok b F s E _ ((unhide H).2.2.fr0 (box1 w _)) ((unhide H).1.frame (box1 w _) (fun _ _ h => h)) (unhide H).2.1 hl).mono ?_
  rintro e w' ⟨rfl, hR, hf⟩
  have HR := hide (And.intro hR hf)
  clear hR hf
  generalize hy : val ((s.all.drop s.place).take 4) = y at *
  go_wp2_with fail
  go_ret2
  subst hy
  exact ⟨rfl, (unhide HR).1, (box1b w b _).trans (unhide HR).2 (fun _ _ h => h)⟩
set_option maxRecDepth 100000 in
theorem rd8_ok (b u : Nat) (t : ByteArray) (n m : Int) (F : Nat → Prop) (s : Rst) (E : Nat → Addr) (w : World) (hg : Gl w E) (h : R w b F s) (hn : s.f = none) (hl : 8 + s.place ≤ s.all.length) :
    Calls Tryz.prog 23 #[.pointer (some ⟨b, 0, none⟩), .agg #[.int .i64 8, .int .u64 u, .string t, .int .i64 n, .int .i64 m]] w fun e w' => e = .returned (.tuple #[.int .u64 (val ((s.all.drop s.place).take 8)), .slice none 0 0]) ∧ R w' b F { s with place := s.place + 8, part := s.place } ∧ Fr (fun k => k = b) w w' := by
  have H := hide (And.intro h (And.intro hn hg))
  have hlt : val ((s.all.drop s.place).take 8) < 18446744073709551616 := by
    have h1 := val_lt ((s.all.drop s.place).take 8)
    have h2 : ((s.all.drop s.place).take 8).length = 8 := by simp; omega
    rw [h2] at h1; exact h1
  clear h hn hg
  go_enter Tryz.func23, Tryz.ntmps23
  go_wp2_with fail
  refine (rU64_ok b F s E _ ((unhide H).2.2.fr0 (box1 w _)) ((unhide H).1.frame (box1 w _) (fun _ _ h => h)) (unhide H).2.1 hl).mono ?_
  rintro e w' ⟨rfl, hR, hf⟩
  have HR := hide (And.intro hR hf)
  clear hR hf
  generalize hy : val ((s.all.drop s.place).take 8) = y at *
  go_wp2_with fail
  go_ret2
  subst hy
  exact ⟨rfl, (unhide HR).1, (box1b w b _).trans (unhide HR).2 (fun _ _ h => h)⟩

set_option maxRecDepth 100000 in
theorem rd7_ok (b u : Nat) (t : ByteArray) (n m : Int) (F : Nat → Prop) (s : Rst) (E : Nat → Addr) (w : World) (hm : m < 9223372036854775808) (hg : Gl w E) (h : R w b F s) (hn : s.f = none) (hl : 4 + s.place ≤ s.all.length) (hv : (val ((s.all.drop s.place).take 4) : Int) ≤ m) :
    Calls Tryz.prog 23 #[.pointer (some ⟨b, 0, none⟩), .agg #[.int .i64 7, .int .u64 u, .string t, .int .i64 n, .int .i64 m]] w fun e w' => e = .returned (.tuple #[.int .u64 (val ((s.all.drop s.place).take 4)), .slice none 0 0]) ∧ R w' b F { s with place := s.place + 4, part := s.place } ∧ Fr (fun k => k = b) w w' := by
  have H := hide (And.intro h (And.intro hn hg))
  have hlt : val ((s.all.drop s.place).take 4) < 4294967296 := by
    have h1 := val_lt ((s.all.drop s.place).take 4)
    have h2 : ((s.all.drop s.place).take 4).length = 4 := by simp; omega
    rw [h2] at h1; exact h1
  clear h hn hg
  go_enter Tryz.func23, Tryz.ntmps23
  go_wp2_with fail
  refine (rCount_ok b m F s E _ hm ((unhide H).2.2.fr0 (box1 w _)) ((unhide H).1.frame (box1 w _) (fun _ _ h => h)) (unhide H).2.1 hl hv).mono ?_
  rintro e w' ⟨rfl, hR, hf⟩
  have HR := hide (And.intro hR hf)
  clear hR hf
  generalize hy : val ((s.all.drop s.place).take 4) = y at *
  have hw : IntKind.u64.wrap (y : Int) = (y : Int) := by rw [IntKind.wrap_u64]; omega
  go_wp2_with fail
  go_ret2
  subst hy
  exact ⟨rfl, (unhide HR).1, (box1b w b _).trans (unhide HR).2 (fun _ _ h => h)⟩

set_option maxRecDepth 100000 in
theorem rd5_ok (b u : Nat) (t : ByteArray) (n m : Int) (F : Nat → Prop) (s : Rst) (E : Nat → Addr) (er : Addr) (w : World) (hg : Gl w E) (hr : Rg w er) (h : R w b F s) (hn : s.f = none) (hl : 4 + s.place ≤ s.all.length) (hq : quantB (val ((s.all.drop s.place).take 4)) = true) :
    Calls Tryz.prog 23 #[.pointer (some ⟨b, 0, none⟩), .agg #[.int .i64 5, .int .u64 u, .string t, .int .i64 n, .int .i64 m]] w fun e w' => e = .returned (.tuple #[.int .u64 (val ((s.all.drop s.place).take 4)), .slice none 0 0]) ∧ R w' b F { s with place := s.place + 4, part := s.place } ∧ Fr (fun k => k = b) w w' := by
  have H := hide (And.intro h (And.intro hn (And.intro hg hr)))
  have hlt : val ((s.all.drop s.place).take 4) < 4294967296 := by
    have h1 := val_lt ((s.all.drop s.place).take 4)
    have h2 : ((s.all.drop s.place).take 4).length = 4 := by simp; omega
    rw [h2] at h1; exact h1
  clear h hn hg hr
  have hfb := Tryz.fbits
  go_enter Tryz.func23, Tryz.ntmps23
  go_wp2_with fail
  refine (rF32_ok b F s E er _ ((unhide H).2.2.1.fr0 (box1 w _)) ((unhide H).2.2.2.fr0 (box1 w _)) ((unhide H).1.frame (box1 w _) (fun _ _ h => h)) (unhide H).2.1 hl hq).mono ?_
  rintro e w' ⟨rfl, hR, hf⟩
  have HR := hide (And.intro hR hf)
  clear hR hf
  generalize hy : val ((s.all.drop s.place).take 4) = y at *
  go_wp2_with fail
  go_ret2
  subst hy
  exact ⟨rfl, (unhide HR).1, (box1b w b _).trans (unhide HR).2 (fun _ _ h => h)⟩

set_option maxRecDepth 100000 in
theorem rd10_ok (b u : Nat) (t : ByteArray) (n m : Int) (F : Nat → Prop) (s : Rst) (w : World) (h : R w b F s) (hn : s.f = none) :
    Calls Tryz.prog 23 #[.pointer (some ⟨b, 0, none⟩), .agg #[.int .i64 10, .int .u64 u, .string t, .int .i64 n, .int .i64 m]] w fun e w' => e = .returned (.tuple #[.int .u64 0, .slice none 0 0]) ∧ R w' b F { s with nm := t } ∧ Fr (fun k => k = b) w w' := by
  have H := hide (And.intro h hn)
  clear h hn
  go_enter Tryz.func23, Tryz.ntmps23
  go_wp2_with fail
  refine (rName_ok b t F s _ ((unhide H).1.frame (box1 w _) (fun _ _ h => h)) (unhide H).2).mono ?_
  rintro e w' ⟨rfl, hR, hf⟩
  have HR := hide (And.intro hR hf)
  clear hR hf
  go_wp2_with fail
  go_ret2
  exact ⟨rfl, (unhide HR).1, (box1b w b _).trans (unhide HR).2 (fun _ _ h => h)⟩

set_option maxRecDepth 100000 in
theorem rd6t_ok (b u x : Nat) (t : ByteArray) (n m : Int) (F : Nat → Prop) (s : Rst) (E : Nat → Addr) (w : World) (hp : (n.tmod 2 == 0) = true) (hm : m < 9223372036854775808) (hg : Gl w E) (h : R w b F s) (hn : s.f = none) (hx : val ((s.all.drop s.place).take 4) = x) (hl : 4 + s.place ≤ s.all.length) (hv : (x : Int) ≤ m) (hxl : x + (s.place + 4) ≤ s.all.length) :
    Calls Tryz.prog 23 #[.pointer (some ⟨b, 0, none⟩), .agg #[.int .i64 6, .int .u64 u, .string t, .int .i64 n, .int .i64 m]] w fun e w' => ∃ c l', e = .returned (.tuple #[.int .u64 0, c]) ∧ Src w' c l' ∧ strOf l' = strOf ((s.all.drop (s.place + 4)).take x) ∧ R w' b F { s with place := s.place + 4 + x, part := s.place } ∧ Fr (fun k => k = b) w w' := by
  have H := hide (And.intro h (And.intro hn hg))
  have HX := hide hx
  clear h hn hg hx
  go_enter Tryz.func23, Tryz.ntmps23
  go_wp2_with fail
  refine (rText_ok b x m F s E _ hm ((unhide H).2.2.fr0 (box1 w _)) ((unhide H).1.frame (box1 w _) (fun _ _ h => h)) (unhide H).2.1 (unhide HX) hl hv hxl).mono ?_
  rintro e w1 ⟨rfl, hR, hf⟩
  obtain ⟨cap, w2, hcv, hsrc, hf2⟩ := conv_bytes w1 (strOf ((s.all.drop (s.place + 4)).take x))
  have HR := hide (And.intro hR (And.intro hf (And.intro hsrc hf2)))
  clear hR hf hsrc hf2
  go_wp2_with fail
  go_ret2
  exact ⟨_, _, rfl, (unhide HR).2.2.1, strOf_bytesOf _, (unhide HR).1.frame (unhide HR).2.2.2 (fun _ _ h => h), ((box1b w b _).trans (unhide HR).2.1 (fun _ _ h => h)).trans (unhide HR).2.2.2 (fun _ _ h => h.elim)⟩

set_option maxRecDepth 100000 in
theorem rd6b_ok (b u x : Nat) (t : ByteArray) (n m : Int) (F : Nat → Prop) (s : Rst) (E : Nat → Addr) (w : World) (hp : (n.tmod 2 == 0) = false) (hm : m < 9223372036854775808) (hg : Gl w E) (h : R w b F s) (hn : s.f = none) (hx : val ((s.all.drop s.place).take 4) = x) (hl : 4 + s.place ≤ s.all.length) (hv : (x : Int) ≤ m) (hxl : x + (s.place + 4) ≤ s.all.length) (hal : s.all.length ≤ 140737488355328) :
    Calls Tryz.prog 23 #[.pointer (some ⟨b, 0, none⟩), .agg #[.int .i64 6, .int .u64 u, .string t, .int .i64 n, .int .i64 m]] w fun e w' => ∃ c l', e = .returned (.tuple #[.int .u64 0, c]) ∧ Src w' c l' ∧ strOf l' = strOf ((s.all.drop (s.place + 4)).take x) ∧ R w' b F { s with place := s.place + 4 + x, part := s.place } ∧ Fr (fun k => k = b) w w' := by
  have H := hide (And.intro h (And.intro hn hg))
  have HX := hide hx
  clear h hn hg hx
  go_enter Tryz.func23, Tryz.ntmps23
  go_wp2_with fail
  refine (rBytes_ok b x m F s E _ hm ((unhide H).2.2.fr0 (box1 w _)) ((unhide H).1.frame (box1 w _) (fun _ _ h => h)) (unhide H).2.1 (unhide HX) hl hv hxl hal).mono ?_
  rintro e w1 ⟨ao, cap, rfl, hown, hR, hf⟩
  have hlen : ((s.all.drop (s.place + 4)).take x).length = x := by simp; omega
  have hsrc : Src w1 (.slice ao x cap) ((s.all.drop (s.place + 4)).take x) := own_src (by rw [hlen]; exact hown)
  have HR := hide (And.intro hR (And.intro hf hsrc))
  clear hR hf hsrc hown
  go_wp2_with fail
  go_ret2
  exact ⟨_, _, rfl, (unhide HR).2.2, rfl, (unhide HR).1, (box1b w b _).trans (unhide HR).2.1 (fun _ _ h => h)⟩
end Go.Proofs.YtikolmpgnpkdbaaGreatDoor
