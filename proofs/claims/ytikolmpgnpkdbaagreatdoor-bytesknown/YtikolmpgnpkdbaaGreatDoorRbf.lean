import Derived.Test.YtikolmpgnpkdbaaGreatDoorRdd
import Derived.Test.YtikolmpgnpkdbaaGreatDoorTld
import Derived.Test.YtikolmpgnpkdbaaGreatDoorFai
namespace Go.Proofs.YtikolmpgnpkdbaaGreatDoor
open Go.RowKit

theorem Ch.ahead {w wa w' : World} {F F' : Nat → Prop} (h : Ch w wa F F') (ha : Fr (fun _ => False) wa w') : Ch w w' F F' :=
  ⟨h.fr.trans ha (fun _ _ e => e.elim), h.new⟩

set_option maxRecDepth 100000 in
theorem rd1_zero (b u : Nat) (t : ByteArray) (n m : Int) (F : Nat → Prop) (s s' : Rst) (w : World) (h : R w b F s)
    (hM : ∀ wk, Fr (fun _ => False) w wk → R wk b F s → Calls Tryz.prog 55 #[.pointer (some ⟨b, 0, none⟩)] wk fun e w' => e = .returned (.int .u8 0) ∧ ∃ F', R w' b F' s' ∧ Ch wk w' F F') :
    Calls Tryz.prog 23 #[.pointer (some ⟨b, 0, none⟩), .agg #[.int .i64 1, .int .u64 u, .string t, .int .i64 n, .int .i64 m]] w fun e w' => ∃ c, e = .returned (.tuple #[.int .u64 0, c]) ∧ Src w' c [] ∧ ∃ F', R w' b F' s' ∧ Ch w w' F F' := by
  have H := hide (And.intro h hM)
  clear h hM
  have hfb := Tryz.fbits
  go_enter Tryz.func23, Tryz.ntmps23
  go_wp2_with fail
  refine ((unhide H).2 _ (box1 w _) ((unhide H).1.frame (box1 w _) (fun _ _ h => h))).mono ?_
  rintro e w' ⟨rfl, F', hR, hc⟩
  have HR := hide (And.intro hR hc)
  clear hR hc
  go_wp2_with fail
  go_ret2
  exact ⟨_, rfl, .inl ⟨rfl, rfl⟩, F', (unhide HR).1, (unhide HR).2.behind (box1 w _)⟩
set_option maxRecDepth 100000 in
theorem rd2_zero (b u : Nat) (t : ByteArray) (n m : Int) (F : Nat → Prop) (s s' : Rst) (w : World) (h : R w b F s)
    (hM : ∀ wk, Fr (fun _ => False) w wk → R wk b F s → Calls Tryz.prog 14 #[.pointer (some ⟨b, 0, none⟩)] wk fun e w' => e = .returned (.int .u16 0) ∧ ∃ F', R w' b F' s' ∧ Ch wk w' F F') :
    Calls Tryz.prog 23 #[.pointer (some ⟨b, 0, none⟩), .agg #[.int .i64 2, .int .u64 u, .string t, .int .i64 n, .int .i64 m]] w fun e w' => ∃ c, e = .returned (.tuple #[.int .u64 0, c]) ∧ Src w' c [] ∧ ∃ F', R w' b F' s' ∧ Ch w w' F F' := by
  have H := hide (And.intro h hM)
  clear h hM
  have hfb := Tryz.fbits
  go_enter Tryz.func23, Tryz.ntmps23
  go_wp2_with fail
  refine ((unhide H).2 _ (box1 w _) ((unhide H).1.frame (box1 w _) (fun _ _ h => h))).mono ?_
  rintro e w' ⟨rfl, F', hR, hc⟩
  have HR := hide (And.intro hR hc)
  clear hR hc
  go_wp2_with fail
  go_ret2
  exact ⟨_, rfl, .inl ⟨rfl, rfl⟩, F', (unhide HR).1, (unhide HR).2.behind (box1 w _)⟩
set_option maxRecDepth 100000 in
theorem rd4_zero (b u : Nat) (t : ByteArray) (n m : Int) (F : Nat → Prop) (s s' : Rst) (w : World) (h : R w b F s)
    (hM : ∀ wk, Fr (fun _ => False) w wk → R wk b F s → Calls Tryz.prog 56 #[.pointer (some ⟨b, 0, none⟩)] wk fun e w' => e = .returned (.int .u32 0) ∧ ∃ F', R w' b F' s' ∧ Ch wk w' F F') :
    Calls Tryz.prog 23 #[.pointer (some ⟨b, 0, none⟩), .agg #[.int .i64 4, .int .u64 u, .string t, .int .i64 n, .int .i64 m]] w fun e w' => ∃ c, e = .returned (.tuple #[.int .u64 0, c]) ∧ Src w' c [] ∧ ∃ F', R w' b F' s' ∧ Ch w w' F F' := by
  have H := hide (And.intro h hM)
  clear h hM
  have hfb := Tryz.fbits
  go_enter Tryz.func23, Tryz.ntmps23
  go_wp2_with fail
  refine ((unhide H).2 _ (box1 w _) ((unhide H).1.frame (box1 w _) (fun _ _ h => h))).mono ?_
  rintro e w' ⟨rfl, F', hR, hc⟩
  have HR := hide (And.intro hR hc)
  clear hR hc
  go_wp2_with fail
  go_ret2
  exact ⟨_, rfl, .inl ⟨rfl, rfl⟩, F', (unhide HR).1, (unhide HR).2.behind (box1 w _)⟩
set_option maxRecDepth 100000 in
theorem rd8_zero (b u : Nat) (t : ByteArray) (n m : Int) (F : Nat → Prop) (s s' : Rst) (w : World) (h : R w b F s)
    (hM : ∀ wk, Fr (fun _ => False) w wk → R wk b F s → Calls Tryz.prog 57 #[.pointer (some ⟨b, 0, none⟩)] wk fun e w' => e = .returned (.int .u64 0) ∧ ∃ F', R w' b F' s' ∧ Ch wk w' F F') :
    Calls Tryz.prog 23 #[.pointer (some ⟨b, 0, none⟩), .agg #[.int .i64 8, .int .u64 u, .string t, .int .i64 n, .int .i64 m]] w fun e w' => ∃ c, e = .returned (.tuple #[.int .u64 0, c]) ∧ Src w' c [] ∧ ∃ F', R w' b F' s' ∧ Ch w w' F F' := by
  have H := hide (And.intro h hM)
  clear h hM
  have hfb := Tryz.fbits
  go_enter Tryz.func23, Tryz.ntmps23
  go_wp2_with fail
  refine ((unhide H).2 _ (box1 w _) ((unhide H).1.frame (box1 w _) (fun _ _ h => h))).mono ?_
  rintro e w' ⟨rfl, F', hR, hc⟩
  have HR := hide (And.intro hR hc)
  clear hR hc
  go_wp2_with fail
  go_ret2
  exact ⟨_, rfl, .inl ⟨rfl, rfl⟩, F', (unhide HR).1, (unhide HR).2.behind (box1 w _)⟩
set_option maxRecDepth 100000 in
theorem rd5_zero (b u : Nat) (t : ByteArray) (n m : Int) (F : Nat → Prop) (s s' : Rst) (w : World) (h : R w b F s)
    (hM : ∀ wk, Fr (fun _ => False) w wk → R wk b F s → Calls Tryz.prog 58 #[.pointer (some ⟨b, 0, none⟩)] wk fun e w' => e = .returned (.float .f32 0) ∧ ∃ F', R w' b F' s' ∧ Ch wk w' F F') :
    Calls Tryz.prog 23 #[.pointer (some ⟨b, 0, none⟩), .agg #[.int .i64 5, .int .u64 u, .string t, .int .i64 n, .int .i64 m]] w fun e w' => ∃ c, e = .returned (.tuple #[.int .u64 0, c]) ∧ Src w' c [] ∧ ∃ F', R w' b F' s' ∧ Ch w w' F F' := by
  have H := hide (And.intro h hM)
  clear h hM
  have hfb := Tryz.fbits
  go_enter Tryz.func23, Tryz.ntmps23
  go_wp2_with fail
  refine ((unhide H).2 _ (box1 w _) ((unhide H).1.frame (box1 w _) (fun _ _ h => h))).mono ?_
  rintro e w' ⟨rfl, F', hR, hc⟩
  have HR := hide (And.intro hR hc)
  clear hR hc
  go_wp2_with fail
  go_ret2
  exact ⟨_, rfl, .inl ⟨rfl, rfl⟩, F', (unhide HR).1, (unhide HR).2.behind (box1 w _)⟩
set_option maxRecDepth 100000 in
theorem rd7_zero (b u : Nat) (t : ByteArray) (n m : Int) (F : Nat → Prop) (s s' : Rst) (w : World) (h : R w b F s)
    (hM : ∀ wk, Fr (fun _ => False) w wk → R wk b F s → Calls Tryz.prog 61 #[.pointer (some ⟨b, 0, none⟩), .int .i64 m] wk fun e w' => e = .returned (.int .i64 0) ∧ ∃ F', R w' b F' s' ∧ Ch wk w' F F') :
    Calls Tryz.prog 23 #[.pointer (some ⟨b, 0, none⟩), .agg #[.int .i64 7, .int .u64 u, .string t, .int .i64 n, .int .i64 m]] w fun e w' => ∃ c, e = .returned (.tuple #[.int .u64 0, c]) ∧ Src w' c [] ∧ ∃ F', R w' b F' s' ∧ Ch w w' F F' := by
  have H := hide (And.intro h hM)
  clear h hM
  go_enter Tryz.func23, Tryz.ntmps23
  go_wp2_with fail
  refine ((unhide H).2 _ (box1 w _) ((unhide H).1.frame (box1 w _) (fun _ _ h => h))).mono ?_
  rintro e w' ⟨rfl, F', hR, hc⟩
  have HR := hide (And.intro hR hc)
  clear hR hc
  go_wp2_with fail
  go_ret2
  exact ⟨_, rfl, .inl ⟨rfl, rfl⟩, F', (unhide HR).1, (unhide HR).2.behind (box1 w _)⟩
set_option maxRecDepth 100000 in
theorem rd6b_zero (b u : Nat) (t : ByteArray) (n m : Int) (F : Nat → Prop) (s s' : Rst) (w : World) (hp : (n.tmod 2 == 0) = false) (h : R w b F s)
    (hM : ∀ wk, Fr (fun _ => False) w wk → R wk b F s → Calls Tryz.prog 60 #[.pointer (some ⟨b, 0, none⟩), .int .i64 m] wk fun e w' => e = .returned (.slice none 0 0) ∧ ∃ F', R w' b F' s' ∧ Ch wk w' F F') :
    Calls Tryz.prog 23 #[.pointer (some ⟨b, 0, none⟩), .agg #[.int .i64 6, .int .u64 u, .string t, .int .i64 n, .int .i64 m]] w fun e w' => ∃ c, e = .returned (.tuple #[.int .u64 0, c]) ∧ Src w' c [] ∧ ∃ F', R w' b F' s' ∧ Ch w w' F F' := by
  have H := hide (And.intro h hM)
  clear h hM
  go_enter Tryz.func23, Tryz.ntmps23
  go_wp2_with fail
  refine ((unhide H).2 _ (box1 w _) ((unhide H).1.frame (box1 w _) (fun _ _ h => h))).mono ?_
  rintro e w' ⟨rfl, F', hR, hc⟩
  have HR := hide (And.intro hR hc)
  clear hR hc
  go_wp2_with fail
  go_ret2
  exact ⟨_, rfl, .inl ⟨rfl, rfl⟩, F', (unhide HR).1, (unhide HR).2.behind (box1 w _)⟩
set_option maxRecDepth 100000 in
theorem rd6t_zero (b u : Nat) (t : ByteArray) (n m : Int) (F : Nat → Prop) (s s' : Rst) (w : World) (hp : (n.tmod 2 == 0) = true) (h : R w b F s)
    (hM : ∀ wk, Fr (fun _ => False) w wk → R wk b F s → Calls Tryz.prog 59 #[.pointer (some ⟨b, 0, none⟩), .int .i64 m] wk fun e w' => e = .returned (.string ⟨#[]⟩) ∧ ∃ F', R w' b F' s' ∧ Ch wk w' F F') :
    Calls Tryz.prog 23 #[.pointer (some ⟨b, 0, none⟩), .agg #[.int .i64 6, .int .u64 u, .string t, .int .i64 n, .int .i64 m]] w fun e w' => ∃ c, e = .returned (.tuple #[.int .u64 0, c]) ∧ Src w' c [] ∧ ∃ F', R w' b F' s' ∧ Ch w w' F F' := by
  have H := hide (And.intro h hM)
  clear h hM
  go_enter Tryz.func23, Tryz.ntmps23
  go_wp2_with fail
  refine ((unhide H).2 _ (box1 w _) ((unhide H).1.frame (box1 w _) (fun _ _ h => h))).mono ?_
  rintro e w1 ⟨rfl, F', hR, hc⟩
  obtain ⟨cap, w2, hcv, hsrc, hf2⟩ := conv_bytes w1 ⟨#[]⟩
  have HR := hide (And.intro hR (And.intro hc (And.intro hsrc hf2)))
  clear hR hc hsrc hf2
  go_wp2_with fail
  go_ret2
  exact ⟨_, rfl, (unhide HR).2.2.1, F', (unhide HR).1.frame (unhide HR).2.2.2 (fun _ _ h => h), ((unhide HR).2.1.behind (box1 w _)).ahead (unhide HR).2.2.2⟩
end Go.Proofs.YtikolmpgnpkdbaaGreatDoor
