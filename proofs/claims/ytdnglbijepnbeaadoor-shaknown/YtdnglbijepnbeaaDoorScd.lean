import Derived.Test.YtdnglbijepnbeaaDoorScc
namespace Go.Proofs.YtdnglbijepnbeaaDoor
open Go.RowKit

theorem keep_S {w w' : World} {g b n : Nat} {l : List Nat} (h : Src w (.slice (some ⟨g, 0, none⟩) n n) l) (hf : Fr (fun k => k = b) w w') (hg : ¬ g = b) : Src w' (.slice (some ⟨g, 0, none⟩) n n) l :=
  h.fr hf (fun g' o' m c e => by
    simp only [Value.slice.injEq, Option.some.injEq, Addr.mk.injEq, and_true] at e
    rw [← e.1.1]; exact hg)
theorem conv_long (w : World) : ∃ cap w', (convert 9 24 (.string ⟨#[97, 98, 99, 100, 98, 99, 100, 101, 99, 100, 101, 102, 100, 101, 102, 103, 101, 102, 103, 104, 102, 103, 104, 105, 103, 104, 105, 106, 104, 105, 106, 107, 105, 106, 107, 108, 106, 107, 108, 109, 107, 108, 109, 110, 108, 109, 110, 111, 109, 110, 111, 112, 110, 111, 112, 113]⟩)).run Tryd.prog w = .ok (.slice (some ⟨w.heap.size, 0, none⟩) 56 cap) w' ∧ Src w' (.slice (some ⟨w.heap.size, 0, none⟩) 56 cap) [97, 98, 99, 100, 98, 99, 100, 101, 99, 100, 101, 102, 100, 101, 102, 103, 101, 102, 103, 104, 102, 103, 104, 105, 103, 104, 105, 106, 104, 105, 106, 107, 105, 106, 107, 108, 106, 107, 108, 109, 107, 108, 109, 110, 108, 109, 110, 111, 109, 110, 111, 112, 110, 111, 112, 113] ∧ Fr (fun _ => False) w w' ∧ 56 ≤ cap ∧ w.heap.size < w'.heap.size := by
  have hl : bytesOf ⟨#[97, 98, 99, 100, 98, 99, 100, 101, 99, 100, 101, 102, 100, 101, 102, 103, 101, 102, 103, 104, 102, 103, 104, 105, 103, 104, 105, 106, 104, 105, 106, 107, 105, 106, 107, 108, 106, 107, 108, 109, 107, 108, 109, 110, 108, 109, 110, 111, 109, 110, 111, 112, 110, 111, 112, 113]⟩ = [97, 98, 99, 100, 98, 99, 100, 101, 99, 100, 101, 102, 100, 101, 102, 103, 101, 102, 103, 104, 102, 103, 104, 105, 103, 104, 105, 106, 104, 105, 106, 107, 105, 106, 107, 108, 106, 107, 108, 109, 107, 108, 109, 110, 108, 109, 110, 111, 109, 110, 111, 112, 110, 111, 112, 113] := by decide +kernel
  have hz : (⟨#[97, 98, 99, 100, 98, 99, 100, 101, 99, 100, 101, 102, 100, 101, 102, 103, 101, 102, 103, 104, 102, 103, 104, 105, 103, 104, 105, 106, 104, 105, 106, 107, 105, 106, 107, 108, 106, 107, 108, 109, 107, 108, 109, 110, 108, 109, 110, 111, 109, 110, 111, 112, 110, 111, 112, 113]⟩ : ByteArray).size = 56 := by decide +kernel
  have hr := Lib.run_convert_string_bytes w 9 24 5 ⟨#[97, 98, 99, 100, 98, 99, 100, 101, 99, 100, 101, 102, 100, 101, 102, 103, 101, 102, 103, 104, 102, 103, 104, 105, 103, 104, 105, 106, 104, 105, 106, 107, 105, 106, 107, 108, 106, 107, 108, 109, 107, 108, 109, 110, 108, 109, 110, 111, 109, 110, 111, 112, 110, 111, 112, 113]⟩ Tryd.underlying9 Tryd.underlying24 Tryd.underlying5
  have hc := fun j hj => Lib.bytesWorld_cell w 5 ⟨#[97, 98, 99, 100, 98, 99, 100, 101, 99, 100, 101, 102, 100, 101, 102, 103, 101, 102, 103, 104, 102, 103, 104, 105, 103, 104, 105, 106, 104, 105, 106, 107, 105, 106, 107, 108, 106, 107, 108, 109, 107, 108, 109, 110, 108, 109, 110, 111, 109, 110, 111, 112, 110, 111, 112, 113]⟩ j hj
  have hg := grownCap_ge w 56 0 5
  rw [hz] at hr
  generalize hS : (⟨#[97, 98, 99, 100, 98, 99, 100, 101, 99, 100, 101, 102, 100, 101, 102, 103, 101, 102, 103, 104, 102, 103, 104, 105, 103, 104, 105, 106, 104, 105, 106, 107, 105, 106, 107, 108, 106, 107, 108, 109, 107, 108, 109, 110, 108, 109, 110, 111, 109, 110, 111, 112, 110, 111, 112, 113]⟩ : ByteArray) = s at *
  refine ⟨_, Lib.bytesWorld w 5 s, hr, ?_, ⟨rfl, rfl, rfl, by rw [Lib.bytesWorld_size]; omega, fun k hk _ => Lib.bytesWorld_at_old w _ s k hk⟩, hg, by rw [Lib.bytesWorld_size]; omega⟩
  rw [← hl]
  refine .inr (.inl ⟨w.heap.size, 0, _, by rw [bytesOf_length, hz], fun j v hv => ?_⟩)
  have hj : j < s.size := by
    have := (List.getElem?_eq_some_iff.1 hv).1
    simpa [cellsOf_length, bytesOf_length] using this
  rw [Nat.zero_add, hc j hj, ← hv, cellsOf, List.getElem?_map, bytesOf, List.getElem?_map]
  have hj' : j < s.data.size := hj
  have : (s.data[j]).toNat < 256 := (s.data[j]).toNat_lt
  simp [List.getD, Array.getElem?_eq_getElem hj', B, Nat.mod_eq_of_lt this]
set_option maxRecDepth 100000 in
set_option maxHeartbeats 16000000 in
theorem known_any (w : World) (hg : GS w) : Calls Tryd.prog 3 #[] w fun e w' => e = .returned (.bool true) ∧ Fr (fun _ => False) w w' := by
  have hcv := fun (w : World) (C : Array Value) (n c : Nat) => Lib.run_convert_bytes_const (P := Tryd.prog) w 24 5 C n c Tryd.underlying24 Tryd.underlying5
  have hnot : ∀ (x : Bool) (w : World), (Op.unary .not (.bool x)).run Tryd.prog w = .ok (.bool (!x)) w := fun _ _ => rfl
  have HG := hide hg
  have F0 : Hid (Fr (fun _ => False) w w) := hide (Fr.refl _ _)
  clear hg
  go_enter Tryd.func3, Tryd.ntmps3
  go_wp2_with fail
  refine (lives_any w (unhide HG)).mono ?_
  rintro e w1 ⟨rfl, hF⟩
  have F1 := hide hF
  clear hF
  go_wp2_with fail
  refine (sum_small 32 [] _ _ ((unhide HG).fr0 (unhide F1)) (.inl ⟨rfl, rfl⟩) (by decide) (by decide) cap_lit (fun _ _ _ _ e => by cases e) (by decide) (by decide)).mono ?_
  rintro e w2 ⟨g2, rfl, hB, hF, _⟩
  have F2 := hide ((unhide F1).trans hF (fun _ _ h => h))
  have B2 := hide (sum_src (by decide) hB)
  clear hB hF
  go_wp2_with fail
  refine (hex_any ⟨#[101, 51, 98, 48, 99, 52, 52, 50, 57, 56, 102, 99, 49, 99, 49, 52, 57, 97, 102, 98, 102, 52, 99, 56, 57, 57, 54, 102, 98, 57, 50, 52, 50, 55, 97, 101, 52, 49, 101, 52, 54, 52, 57, 98, 57, 51, 52, 99, 97, 52, 57, 53, 57, 57, 49, 98, 55, 56, 53, 50, 98, 56, 53, 53]⟩ _ (by decide)).mono ?_
  rintro e w3 ⟨v3, rfl, hS, hF⟩
  have F3 := hide ((unhide F2).trans hF (fun _ _ h => h))
  have X3 := hide (And.intro ((unhide B2).fr0 hF) hS)
  clear hS hF
  go_wp2_with fail
  refine (same_T (unhide X3).1 (unhide X3).2 (take_len _ _) sv_c).mono ?_
  rintro e w4 ⟨rfl, hF⟩
  have F4 := hide ((unhide F3).trans hF (fun _ _ h => h))
  clear hF
  go_wp2_with fail
  refine (sum_small 32 [97, 98, 99] _ _ ((unhide HG).fr0 ((unhide F4).alloc _)) (src_new w4 _ _ _ _ _ _ rfl rfl) (by decide) (by decide) cap_lit lt_lit (by decide) (by decide)).mono ?_
  rintro e w5 ⟨g5, rfl, hB, hF, _⟩
  have F5 := hide (((unhide F4).alloc _).trans hF (fun _ _ h => h))
  have B5 := hide (sum_src (by decide) hB)
  clear hB hF
  go_wp2_with fail
  refine (hex_any ⟨#[98, 97, 55, 56, 49, 54, 98, 102, 56, 102, 48, 49, 99, 102, 101, 97, 52, 49, 52, 49, 52, 48, 100, 101, 53, 100, 97, 101, 50, 50, 50, 51, 98, 48, 48, 51, 54, 49, 97, 51, 57, 54, 49, 55, 55, 97, 57, 99, 98, 52, 49, 48, 102, 102, 54, 49, 102, 50, 48, 48, 49, 53, 97, 100]⟩ _ (by decide)).mono ?_
  rintro e w6 ⟨v6, rfl, hS, hF⟩
  have F6 := hide ((unhide F5).trans hF (fun _ _ h => h))
  have X6 := hide (And.intro ((unhide B5).fr0 hF) hS)
  clear hS hF
  go_wp2_with fail
  refine (same_T (unhide X6).1 (unhide X6).2 (take_len _ _) sv_d).mono ?_
  rintro e w7 ⟨rfl, hF⟩
  have F7 := hide ((unhide F6).trans hF (fun _ _ h => h))
  clear hF
  obtain ⟨cap8, w8, hcs, hsr, hF, hcp, hlt8⟩ := conv_long w7
  have F8 := hide ((unhide F7).trans hF (fun _ _ h => h))
  have S8 := hide (And.intro hsr (And.intro hcp hlt8))
  clear hsr hF hcp hlt8
  go_wp2_with fail
  refine (sum_small 32 [97, 98, 99, 100, 98, 99, 100, 101, 99, 100, 101, 102, 100, 101, 102, 103, 101, 102, 103, 104, 102, 103, 104, 105, 103, 104, 105, 106, 104, 105, 106, 107, 105, 106, 107, 108, 106, 107, 108, 109, 107, 108, 109, 110, 108, 109, 110, 111, 109, 110, 111, 112, 110, 111, 112, 113] _ _ ((unhide HG).fr0 (unhide F8)) (unhide S8).1 (by decide) (by decide) (fun _ _ _ e => by cases e; exact (unhide S8).2.1) (fun _ _ _ _ e => by cases e; exact (unhide S8).2.2) (by decide) (by decide)).mono ?_
  rintro e w9 ⟨g9, rfl, hB, hF, _⟩
  have F9 := hide ((unhide F8).trans hF (fun _ _ h => h))
  have B9 := hide (sum_src (by decide) hB)
  clear hB hF hcs
  go_wp2_with fail
  refine (hex_any ⟨#[50, 52, 56, 100, 54, 97, 54, 49, 100, 50, 48, 54, 51, 56, 98, 56, 101, 53, 99, 48, 50, 54, 57, 51, 48, 99, 51, 101, 54, 48, 51, 57, 97, 51, 51, 99, 101, 52, 53, 57, 54, 52, 102, 102, 50, 49, 54, 55, 102, 54, 101, 99, 101, 100, 100, 52, 49, 57, 100, 98, 48, 54, 99, 49]⟩ _ (by decide)).mono ?_
  rintro e w10 ⟨v10, rfl, hS, hF⟩
  have F10 := hide ((unhide F9).trans hF (fun _ _ h => h))
  have X10 := hide (And.intro ((unhide B9).fr0 hF) hS)
  clear hS hF
  go_wp2_with fail
  refine (same_T (unhide X10).1 (unhide X10).2 (take_len _ _) sv_e).mono ?_
  rintro e w11 ⟨rfl, hF⟩
  have F11 := hide ((unhide F10).trans hF (fun _ _ h => h))
  clear hF
  go_wp2_with fail
  refine (sum_out 0 [97, 98, 99] _ _ ((unhide HG).fr0 ((unhide F11).alloc _)) (src_new w11 _ _ _ _ _ _ rfl rfl) (by decide) (by decide) cap_lit lt_lit (by decide)).mono ?_
  rintro e w12 ⟨rfl, hF⟩
  have F12 := hide (((unhide F11).alloc _).trans hF (fun _ _ h => h))
  clear hF
  go_wp2_with fail
  refine (sum_out 33 [97, 98, 99] _ _ ((unhide HG).fr0 ((unhide F12).alloc _)) (src_new w12 _ _ _ _ _ _ rfl rfl) (by decide) (by decide) cap_lit lt_lit (by decide)).mono ?_
  rintro e w13 ⟨rfl, hF⟩
  have F13 := hide (((unhide F12).alloc _).trans hF (fun _ _ h => h))
  clear hF
  go_wp2_with fail
  refine (new_any _ ((unhide HG).fr0 (unhide F13))).mono ?_
  rintro e w14 ⟨b, rfl, hH, hF, hb⟩
  have F14 := hide ((unhide F13).trans hF (fun _ _ h => h))
  have M14 := hide (HM.new hH)
  have HB0 := hide (Nat.le_trans (unhide F13).size hb)
  clear hH hF hb
  go_wp2_with fail
  refine (write_small b 0 [] [97] _ _ ((unhide M14).fr (S := fun _ => False) ((Fr.refl _ _).alloc _) (fun h => h)) (src_new w14 _ _ _ _ _ _ rfl rfl) (ne_lit (unhide M14).lt) (by decide) (by decide) (by decide) cap_lit).mono ?_
  rintro e w15 ⟨rfl, hM, hF⟩
  have M15 : Hid (HM w15 b 0 [97]) := hide hM
  have F15 := hide (fr_new hF ((unhide F14).alloc _) (unhide HB0))
  clear hM hF
  go_wp2_with fail
  refine (hmsum_any b 0 1 [97] _ ((unhide HG).fr0 (unhide F15)) (unhide M15) (by decide) (by decide) (by decide) (by decide)).mono ?_
  rintro e w16 ⟨g16, rfl, hB, hF, hg⟩
  have F16 := hide ((unhide F15).trans hF (fun _ _ h => h))
  have A16 := hide (sum_src (by decide) hB)
  have NA : Hid (¬ g16 = b) := hide (by have := (unhide M15).lt; omega)
  have M16 := hide ((unhide M15).fr hF (fun h => h))
  clear hB hF hg
  go_wp2_with fail
  refine (write_small b 0 [97] [98, 99] _ _ ((unhide M16).fr (S := fun _ => False) ((Fr.refl _ _).alloc _) (fun h => h)) (src_new w16 _ _ _ _ _ _ rfl rfl) (ne_lit (unhide M16).lt) (by decide) (by decide) (by decide) cap_lit).mono ?_
  rintro e w17 ⟨rfl, hM, hF⟩
  have M17 : Hid (HM w17 b 0 [97, 98, 99]) := hide hM
  have F17 := hide (fr_new hF ((unhide F16).alloc _) (unhide HB0))
  have A17 := hide (keep_S ((unhide A16).fr0 ((Fr.refl _ _).alloc _)) hF (unhide NA))
  clear hM hF
  go_wp2_with fail
  refine (hmsum_any b 0 2 [97, 98, 99] _ ((unhide HG).fr0 (unhide F17)) (unhide M17) (by decide) (by decide) (by decide) (by decide)).mono ?_
  rintro e w18 ⟨g18, rfl, hB, hF, hg⟩
  have F18 := hide ((unhide F17).trans hF (fun _ _ h => h))
  have C18 := hide (sum_src (by decide) hB)
  have NC : Hid (¬ g18 = b) := hide (by have := (unhide M17).lt; omega)
  have M18 := hide ((unhide M17).fr hF (fun h => h))
  have A18 := hide ((unhide A17).fr0 hF)
  clear hB hF hg
  go_wp2_with fail
  refine (len_any b 0 _ _ _ _ (unhide M18)).mono ?_
  rintro e w' ⟨rfl, rfl⟩
  go_wp2_with fail
  refine (reset_any b 0 _ _ _ _ ((unhide HG).fr0 (unhide F18)) (unhide M18)).mono ?_
  rintro e w19 ⟨rfl, hM, hF⟩
  have M19 := hide (HM.newo hM)
  have F19 := hide (fr_new hF (unhide F18) (unhide HB0))
  have A19 := hide (keep_S (unhide A18) hF (unhide NA))
  have C19 := hide (keep_S (unhide C18) hF (unhide NC))
  clear hM hF
  go_wp2_with fail
  refine (hex_any ⟨#[99, 97]⟩ _ (by decide)).mono ?_
  rintro e w20 ⟨v20, rfl, hS, hF⟩
  have F20 := hide ((unhide F19).trans hF (fun _ _ h => h))
  have X20 := hide (And.intro ((unhide A19).fr0 hF) hS)
  have M20 := hide ((unhide M19).fr hF (fun h => h))
  have C20 := hide ((unhide C19).fr0 hF)
  clear hS hF
  go_wp2_with fail
  refine (same_T (unhide X20).1 (unhide X20).2 (take_len _ _) sv_f).mono ?_
  rintro e w21 ⟨rfl, hF⟩
  have F21 := hide ((unhide F20).trans hF (fun _ _ h => h))
  have M21 := hide ((unhide M20).fr hF (fun h => h))
  have C21 := hide ((unhide C20).fr0 hF)
  clear hF
  go_wp2_with fail
  refine (hex_any ⟨#[98, 97, 55, 56]⟩ _ (by decide)).mono ?_
  rintro e w22 ⟨v22, rfl, hS, hF⟩
  have F22 := hide ((unhide F21).trans hF (fun _ _ h => h))
  have X22 := hide (And.intro ((unhide C21).fr0 hF) hS)
  have M22 := hide ((unhide M21).fr hF (fun h => h))
  clear hS hF
  go_wp2_with fail
  refine (same_T (unhide X22).1 (unhide X22).2 (take_len _ _) sv_g).mono ?_
  rintro e w23 ⟨rfl, hF⟩
  have F23 := hide ((unhide F22).trans hF (fun _ _ h => h))
  have M23 := hide ((unhide M22).fr hF (fun h => h))
  clear hF
  go_wp2_with fail
  refine (len_any b 0 _ _ _ _ (unhide M23)).mono ?_
  rintro e w' ⟨rfl, rfl⟩
  go_wp2_with fail
  refine (hmsum_any b 0 1 [] _ ((unhide HG).fr0 (unhide F23)) (unhide M23) (by decide) (by decide) (by decide) (by decide)).mono ?_
  rintro e w24 ⟨g24, rfl, hB, hF, hg⟩
  have F24 := hide ((unhide F23).trans hF (fun _ _ h => h))
  have D24 := hide (sum_src (by decide) hB)
  have ND : Hid (¬ g24 = b) := hide (by have := (unhide M23).lt; omega)
  have M24 := hide ((unhide M23).fr hF (fun h => h))
  clear hB hF hg
  go_wp2_with fail
  refine (hex_any ⟨#[101, 51]⟩ _ (by decide)).mono ?_
  rintro e w25 ⟨v25, rfl, hS, hF⟩
  have F25 := hide ((unhide F24).trans hF (fun _ _ h => h))
  have X25 := hide (And.intro ((unhide D24).fr0 hF) hS)
  clear hS hF
  go_wp2_with fail
  refine (same_T (unhide X25).1 (unhide X25).2 (take_len _ _) sv_h).mono ?_
  rintro e w26 ⟨rfl, hF⟩
  have F26 := hide ((unhide F25).trans hF (fun _ _ h => h))
  clear hF
  go_wp2_with fail
  go_ret
  exact ⟨rfl, unhide F26⟩
end Go.Proofs.YtdnglbijepnbeaaDoor
