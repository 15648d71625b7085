import Derived.Test.YtiknjghcjaaenaaGreatDoorKOan
namespace Go.Proofs.YtiknjghcjaaenaaGreatDoor
open Go.RowKit Go.Shelf
structure MI (w wr : World) (av bv ov : Value) (fs cs A : List F5) : Prop where
 a : FdC wr w.heap.size av fs
 b : FdC wr w.heap.size bv cs
 o : OwF wr w.heap.size ov A
 f : Fr (fun k => w.heap.size ≤ k) w wr
set_option maxHeartbeats 8000000 in
set_option maxRecDepth 100000 in
theorem merged_any (fv cv : Value) (F C : List F5) (w : World) (hF : FdC w w.heap.size fv F) (hC : FdC w w.heap.size cv C) (hl : F.length + C.length ≤ 400) (hs : ∀ f ∈ C, FOk f) :
  Calls Tryz.prog 75 #[fv, cv] w fun e w' => ∃ v, e = .returned v ∧ OwF w' w.heap.size v (mrg (F.length + C.length) F C) ∧ Fr (fun _ => False) w w' := by
 obtain ⟨fo, fc, rfl⟩ := hF.f.form
 obtain ⟨co, cc, rfl⟩ := hC.f.form
 have hmx : max (F.length : Int) (C.length : Int) = ((max F.length C.length : Nat) : Int) := by omega
 obtain ⟨w1, hr1, ho1, hf1⟩ := make_fld (max F.length C.length) w (by omega)
 rw [← hmx] at hr1
 obtain ⟨M, hM⟩ : ∃ M, M = mrg (F.length + C.length) F C := ⟨_, rfl⟩
 rw [← hM]
 have hf1' : Fr (fun k => w.heap.size ≤ k) w w1 := hf1.mono (fun _ _ h => h.elim)
 have H1 := hide (And.intro (MI.mk (w := w) (hF.frS hf1') (hC.frS hf1') ho1 hf1') (And.intro hM hs))
 have hneq := Tryz.neqS
 have heql := Tryz.eqlS
 have hminS := Tryz.minS
 clear ho1 hf1 hf1' hF hC hmx hM hs
 go_enter Tryz.func75, Tryz.ntmps75
 go_wp2_with fail
 go_loopw [0, 1, 5] (fun av bv ov wr => ∃ (n : Nat) (fs cs A : List F5), fs.length + cs.length ≤ n ∧ n + A.length ≤ 400 ∧ MI w wr av bv ov fs cs A ∧ A ++ mrg n fs cs = M ∧ (∀ f ∈ cs, FOk f)) (fun av bv _ _ => lenOf av + lenOf bv)
 case atStart => exact ⟨F.length + C.length, F, C, [], Nat.le_refl _, by simpa using hl, (unhide H1).1, by rw [(unhide H1).2.1]; rfl, (unhide H1).2.2⟩
 case round =>
  obtain ⟨n, fs, cs, A, hn, hnA, hI, hM, hfo⟩ := hrel
  clear H1 hr1
  cases fs with
  | nil =>
   obtain ⟨xo, xc, hxe⟩ := hI.a.f.form
   obtain ⟨yo, yc, hye⟩ := hI.b.f.form
   obtain ⟨oo, oc, hoe⟩ := own_formX hI.o
   subst hxe hye hoe
   obtain ⟨ao, cap, w3, hr3, ho3, hf3⟩ := app_flds wr w.heap.size _ _ A [] hI.o hI.f.size hI.a (by simp at hn ⊢; omega)
   have hf3B : Fr (fun k => w.heap.size ≤ k) wr w3 := hf3.mono (fun g _ hg => (hI.o.lt g hg).1)
   have HK := hide (appendKept_any _ _ (A ++ []) cs w.heap.size w3 ho3 (Nat.le_trans hI.f.size hf3B.size) (hI.b.frS hf3B).f hI.b.b (by rw [List.length_append]; simp at hn ⊢; omega) hfo)
   have HE := hide (And.intro (show A ++ [] ++ keptF cs = M by rw [← hM, mrg_l]; simp) (hI.f.trans hf3B (fun _ _ h => h)))
   have HR3 := hide hr3
   have hmin0 : ¬ (0 : Int) < min (([] : List F5).length : Int) (cs.length : Int) := by simp; omega
   clear hI hr3 ho3 hf3 hf3B hM
   go_wp2_with (at_builtin; refine wpList_app rfl _ _ 39 39 rfl _ _ _ rfl rfl (unhide HR3) ?_; clear HR3)
   refine (unhide HK).mono ?_
   rintro e w4 ⟨v4, rfl, ho4, hf4⟩
   have H4 := hide (And.intro ho4 ((unhide HE).2.trans hf4 (fun _ _ h => h)))
   clear ho4 hf4 HK
   go_wp2_with fail
   go_ret
   refine ⟨v4, rfl, ?_, (unhide H4).2.mono (fun k hk h => by omega)⟩
   rw [← (unhide HE).1]
   exact (unhide H4).1
  | cons f fr =>
   cases cs with
   | nil =>
    obtain ⟨xo, xc, hxe⟩ := hI.a.f.form
    obtain ⟨yo, yc, hye⟩ := hI.b.f.form
    obtain ⟨oo, oc, hoe⟩ := own_formX hI.o
    subst hxe hye hoe
    obtain ⟨ao, cap, w3, hr3, ho3, hf3⟩ := app_flds wr w.heap.size _ _ A (f :: fr) hI.o hI.f.size hI.a (by simp at hn ⊢; omega)
    have hf3B : Fr (fun k => w.heap.size ≤ k) wr w3 := hf3.mono (fun g _ hg => (hI.o.lt g hg).1)
    have HK := hide (appendKept_any _ _ (A ++ (f :: fr)) [] w.heap.size w3 ho3 (Nat.le_trans hI.f.size hf3B.size) (hI.b.frS hf3B).f hI.b.b (by rw [List.length_append]; simp at hn ⊢; omega) hfo)
    have HE := hide (And.intro (show A ++ (f :: fr) ++ keptF [] = M by rw [← hM, mrg_r]; simp [keptF]) (hI.f.trans hf3B (fun _ _ h => h)))
    have HR3 := hide hr3
    have hmin0 : ¬ (0 : Int) < min ((f :: fr).length : Int) (([] : List F5).length : Int) := by simp; omega
    clear hI hr3 ho3 hf3 hf3B hM
    go_wp2_with (at_builtin; refine wpList_app rfl _ _ 39 39 rfl _ _ _ rfl rfl (unhide HR3) ?_; clear HR3)
    refine (unhide HK).mono ?_
    rintro e w4 ⟨v4, rfl, ho4, hf4⟩
    have H4 := hide (And.intro ho4 ((unhide HE).2.trans hf4 (fun _ _ h => h)))
    clear ho4 hf4 HK
    go_wp2_with fail
    go_ret
    refine ⟨v4, rfl, ?_, (unhide H4).2.mono (fun k hk h => by omega)⟩
    rw [← (unhide HE).1]
    exact (unhide H4).1
   | cons c cr =>
    obtain ⟨m, rfl⟩ : ∃ m, n = m + 1 := ⟨n - 1, by simp at hn; omega⟩
    obtain ⟨fg, fo', fc', rfl, hfc, hfg, f0, f1, f2, f3, f4, hfh, hft⟩ := hI.a.head
    obtain ⟨cg, co', cc', rfl, hcc, hcg, c0, c1, c2, c3, c4, hch, hct⟩ := hI.b.head
    obtain ⟨oo, oc, rfl⟩ := own_formX hI.o
    have hmin : (0 : Int) < min ((fr.length : Int) + 1) ((cr.length : Int) + 1) := by omega
    have hfcI : (1 : Int) ≤ (fc' : Int) := by omega
    have hccI : (1 : Int) ≤ (cc' : Int) := by omega
    cases hle : sleB f.n c.n with
    | false =>
     have hmn : (if sleB f.n c.n = true then f.n else c.n) = c.n := by rw [hle]; rfl
     have hcf : (c.n.toList == f.n.toList) = false := by
      have h1 : (f.n.toList == c.n.toList) = false := by
       unfold sleB at hle
       rw [Bool.or_eq_false_iff] at hle
       exact hle.2
      rw [beq_eq_false_iff_ne] at h1 ⊢
      exact fun e => h1 e.symm
     have HA : Hid (∀ W, Fr (fun _ => False) wr W → Calls Tryz.prog 94 #[.slice oo A.length oc, .slice (some ⟨cg, co', none⟩) 1 cc'] W fun e w' => ∃ v, e = .returned v ∧ OwF w' w.heap.size v (A ++ keptF [c]) ∧ Fr (fun k => w.heap.size ≤ k) wr w') := fun W hf => by
      have hfB : Fr (fun k => w.heap.size ≤ k) wr W := hf.mono (fun _ _ h => h.elim)
      refine (appendKept_any (.slice oo A.length oc) (.slice (some ⟨cg, co', none⟩) 1 cc') A [c] w.heap.size W (hI.o.fr hf (fun _ _ h => h)) (hI.f.trans hfB (fun _ _ h => h)).size (hch.frS hfB).f hch.b (by simp; omega) (fun x hx => hfo x (by simp at hx; subst hx; simp))).mono ?_
      rintro e w' ⟨v, rfl, h1, h2⟩
      exact ⟨v, rfl, h1, hfB.trans h2 (fun _ _ h => h)⟩
     have hM2 : A ++ keptF [c] ++ mrg m (f :: fr) cr = M := by rw [← hM, mrg, hle]; simp
     have HM := hide hM2
     have HI := hide (And.intro hI.a (And.intro hI.f hct))
     have hkl : (keptF [c]).length ≤ 1 := List.length_filter_le (fun f : F5 => decide (f.k ≠ 3)) [c]
     have hccL : (cr.length : Int) + 1 ≤ (cc' : Int) := by omega
     have hfcL : (fr.length : Int) + 1 ≤ (fc' : Int) := by omega
     have hcr1 : (1 : Int) ≤ (cr.length : Int) + 1 := by omega
     have hfr1 : (1 : Int) ≤ (fr.length : Int) + 1 := by omega
     clear hM hM2 hI hfh hch hft hct
     by_cases hc1 : cc' = 1
     ·subst hc1
      obtain rfl : cr = [] := List.length_eq_zero_iff.1 (by omega)
      go_wp2_with fail
      go_quiet (fail)
      go_wp2_with fail
      go_region_held3 (fun _ => True) (trivial)
       (first | (go_at_call 94; refine ((unhide HA) _ ((Fr.refl _ _).drewN _)).mono ?_; rintro e w2 ⟨v2, rfl, ho2, hf2⟩; have H2 := hide (And.intro ho2 hf2); clear ho2 hf2))
      all_goals
       go_wp2_with fail
       exact ⟨⟨m, f :: fr, [], A ++ keptF [c], by first | (simp at hn ⊢; omega) | (simp at hn ⊢), by rw [List.length_append]; omega, ⟨(unhide HI).1.frS (unhide H2).2, FdC.nilS _ _, (unhide H2).1, (unhide HI).2.1.trans (unhide H2).2 (fun _ _ h => h)⟩, unhide HM, fun x hx => by cases hx⟩, by simp [lenOf] <;> omega⟩
     ·have hc1' : ¬ (cc' : Int) = 1 := by omega
      have hc2 : ¬ cc' - 1 = 0 := by omega
      have hc3 : (1 : Int) < (cc' : Int) := by omega
      go_wp2_with fail
      go_quiet (fail)
      go_wp2_with fail
      go_region_held3 (fun _ => True) (trivial)
       (first | (go_at_call 94; refine ((unhide HA) _ ((Fr.refl _ _).drewN _)).mono ?_; rintro e w2 ⟨v2, rfl, ho2, hf2⟩; have H2 := hide (And.intro ho2 hf2); clear ho2 hf2))
      all_goals
       go_wp2_with fail
       exact ⟨⟨m, f :: fr, cr, A ++ keptF [c], by first | (simp at hn ⊢; omega) | (simp at hn ⊢), by rw [List.length_append]; omega, ⟨(unhide HI).1.frS (unhide H2).2, (unhide HI).2.2.frS (unhide H2).2, (unhide H2).1, (unhide HI).2.1.trans (unhide H2).2 (fun _ _ h => h)⟩, unhide HM, fun x hx => hfo x (by simp [hx])⟩, by simp [lenOf] <;> omega⟩
    | true =>
     cases heq : (f.n.toList == c.n.toList) with
     | true =>
      have hmn : (if sleB f.n c.n = true then f.n else c.n) = f.n := by rw [hle]; rfl
      have HA : Hid (∀ W, Fr (fun _ => False) wr W → Calls Tryz.prog 94 #[.slice oo A.length oc, .slice (some ⟨cg, co', none⟩) 1 cc'] W fun e w' => ∃ v, e = .returned v ∧ OwF w' w.heap.size v (A ++ keptF [c]) ∧ Fr (fun k => w.heap.size ≤ k) wr w') := fun W hf => by
       have hfB : Fr (fun k => w.heap.size ≤ k) wr W := hf.mono (fun _ _ h => h.elim)
       refine (appendKept_any (.slice oo A.length oc) (.slice (some ⟨cg, co', none⟩) 1 cc') A [c] w.heap.size W (hI.o.fr hf (fun _ _ h => h)) (hI.f.trans hfB (fun _ _ h => h)).size (hch.frS hfB).f hch.b (by simp; omega) (fun x hx => hfo x (by simp at hx; subst hx; simp))).mono ?_
       rintro e w' ⟨v, rfl, h1, h2⟩
       exact ⟨v, rfl, h1, hfB.trans h2 (fun _ _ h => h)⟩
      have hM2 : A ++ keptF [c] ++ mrg m fr cr = M := by rw [← hM, mrg, hle, heq]; simp
      have HM := hide hM2
      have HI := hide (And.intro hft (And.intro hI.f hct))
      have hkl : (keptF [c]).length ≤ 1 := List.length_filter_le (fun f : F5 => decide (f.k ≠ 3)) [c]
      have hccL : (cr.length : Int) + 1 ≤ (cc' : Int) := by omega
      have hfcL : (fr.length : Int) + 1 ≤ (fc' : Int) := by omega
      have hcr1 : (1 : Int) ≤ (cr.length : Int) + 1 := by omega
      have hfr1 : (1 : Int) ≤ (fr.length : Int) + 1 := by omega
      clear hM hM2 hI hfh hch hft hct
      by_cases hf1 : fc' = 1
      ·subst hf1
       obtain rfl : fr = [] := List.length_eq_zero_iff.1 (by omega)
       by_cases hc1 : cc' = 1
       ·subst hc1
        obtain rfl : cr = [] := List.length_eq_zero_iff.1 (by omega)
        go_wp2_with fail
        go_quiet (fail)
        go_wp2_with fail
        go_region_held3 (fun _ => True) (trivial)
         (first | (go_at_call 94; refine ((unhide HA) _ ((Fr.refl _ _).drewN _)).mono ?_; rintro e w2 ⟨v2, rfl, ho2, hf2⟩; have H2 := hide (And.intro ho2 hf2); clear ho2 hf2))
        all_goals
         go_wp2_with fail
         exact ⟨⟨m, [], [], A ++ keptF [c], by first | (simp at hn ⊢; omega) | (simp at hn ⊢), by rw [List.length_append]; omega, ⟨FdC.nilS _ _, FdC.nilS _ _, (unhide H2).1, (unhide HI).2.1.trans (unhide H2).2 (fun _ _ h => h)⟩, unhide HM, fun x hx => by cases hx⟩, by simp [lenOf] <;> omega⟩
       ·have hc1' : ¬ (cc' : Int) = 1 := by omega
        have hc2 : ¬ cc' - 1 = 0 := by omega
        have hc3 : (1 : Int) < (cc' : Int) := by omega
        go_wp2_with fail
        go_quiet (fail)
        go_wp2_with fail
        go_region_held3 (fun _ => True) (trivial)
         (first | (go_at_call 94; refine ((unhide HA) _ ((Fr.refl _ _).drewN _)).mono ?_; rintro e w2 ⟨v2, rfl, ho2, hf2⟩; have H2 := hide (And.intro ho2 hf2); clear ho2 hf2))
        all_goals
         go_wp2_with fail
         exact ⟨⟨m, [], cr, A ++ keptF [c], by first | (simp at hn ⊢; omega) | (simp at hn ⊢), by rw [List.length_append]; omega, ⟨FdC.nilS _ _, (unhide HI).2.2.frS (unhide H2).2, (unhide H2).1, (unhide HI).2.1.trans (unhide H2).2 (fun _ _ h => h)⟩, unhide HM, fun x hx => hfo x (by simp [hx])⟩, by simp [lenOf] <;> omega⟩
      ·have hf1' : ¬ (fc' : Int) = 1 := by omega
       have hf2 : ¬ fc' - 1 = 0 := by omega
       have hf3 : (1 : Int) < (fc' : Int) := by omega
       by_cases hc1 : cc' = 1
       ·subst hc1
        obtain rfl : cr = [] := List.length_eq_zero_iff.1 (by omega)
        go_wp2_with fail
        go_quiet (fail)
        go_wp2_with fail
        go_region_held3 (fun _ => True) (trivial)
         (first | (go_at_call 94; refine ((unhide HA) _ ((Fr.refl _ _).drewN _)).mono ?_; rintro e w2 ⟨v2, rfl, ho2, hf2⟩; have H2 := hide (And.intro ho2 hf2); clear ho2 hf2))
        all_goals
         go_wp2_with fail
         exact ⟨⟨m, fr, [], A ++ keptF [c], by first | (simp at hn ⊢; omega) | (simp at hn ⊢), by rw [List.length_append]; omega, ⟨(unhide HI).1.frS (unhide H2).2, FdC.nilS _ _, (unhide H2).1, (unhide HI).2.1.trans (unhide H2).2 (fun _ _ h => h)⟩, unhide HM, fun x hx => by cases hx⟩, by simp [lenOf] <;> omega⟩
       ·have hc1' : ¬ (cc' : Int) = 1 := by omega
        have hc2 : ¬ cc' - 1 = 0 := by omega
        have hc3 : (1 : Int) < (cc' : Int) := by omega
        go_wp2_with fail
        go_quiet (fail)
        go_wp2_with fail
        go_region_held3 (fun _ => True) (trivial)
         (first | (go_at_call 94; refine ((unhide HA) _ ((Fr.refl _ _).drewN _)).mono ?_; rintro e w2 ⟨v2, rfl, ho2, hf2⟩; have H2 := hide (And.intro ho2 hf2); clear ho2 hf2))
        all_goals
         go_wp2_with fail
         exact ⟨⟨m, fr, cr, A ++ keptF [c], by first | (simp at hn ⊢; omega) | (simp at hn ⊢), by rw [List.length_append]; omega, ⟨(unhide HI).1.frS (unhide H2).2, (unhide HI).2.2.frS (unhide H2).2, (unhide H2).1, (unhide HI).2.1.trans (unhide H2).2 (fun _ _ h => h)⟩, unhide HM, fun x hx => hfo x (by simp [hx])⟩, by simp [lenOf] <;> omega⟩
     | false =>
      have hmn : (if sleB f.n c.n = true then f.n else c.n) = f.n := by rw [hle]; rfl
      have hM2 : A ++ [f] ++ mrg m fr (c :: cr) = M := by rw [← hM, mrg, hle, heq]; simp
      have HM := hide hM2
      have HI := hide (And.intro hft (And.intro hI.f hI.b))
      have HAP : Hid (∀ k, ∃ ao cap w3, (Builtin.append_ #[39, 39] 39 #[.slice oo A.length oc, .slice (some ⟨(wr.drewN k).heap.size, 0, none⟩) 1 1]).run Tryz.prog ((wr.drewN k).alloc (.cells #[.string f.n, .int .u8 (f.k : Nat), .string f.t, .float .f32 f.v, .int .u8 (f.u : Nat)] 55)) = .ok (.slice ao (A.length + 1) cap) w3 ∧ OwF w3 w.heap.size (.slice ao (A.length + 1) cap) (A ++ [f]) ∧ Fr (fun k => w.heap.size ≤ k) wr w3 ∧ ((wr.drewN k).cell? ⟨fg, fo', none⟩ = some (.string f.n) ∧ (wr.drewN k).cell? ⟨fg, fo' + 1, none⟩ = some (.int .u8 (f.k : Nat)) ∧ (wr.drewN k).cell? ⟨fg, fo' + 2, none⟩ = some (.string f.t) ∧ (wr.drewN k).cell? ⟨fg, fo' + 3, none⟩ = some (.float .f32 f.v) ∧ (wr.drewN k).cell? ⟨fg, fo' + 4, none⟩ = some (.int .u8 (f.u : Nat))) ∧ (((wr.drewN k).alloc (.cells #[.string f.n, .int .u8 (f.k : Nat), .string f.t, .float .f32 f.v, .int .u8 (f.u : Nat)] 55)).cell? ⟨fg, fo', none⟩ = some (.string f.n) ∧ ((wr.drewN k).alloc (.cells #[.string f.n, .int .u8 (f.k : Nat), .string f.t, .float .f32 f.v, .int .u8 (f.u : Nat)] 55)).cell? ⟨fg, fo' + 1, none⟩ = some (.int .u8 (f.k : Nat)) ∧ ((wr.drewN k).alloc (.cells #[.string f.n, .int .u8 (f.k : Nat), .string f.t, .float .f32 f.v, .int .u8 (f.u : Nat)] 55)).cell? ⟨fg, fo' + 2, none⟩ = some (.string f.t) ∧ ((wr.drewN k).alloc (.cells #[.string f.n, .int .u8 (f.k : Nat), .string f.t, .float .f32 f.v, .int .u8 (f.u : Nat)] 55)).cell? ⟨fg, fo' + 3, none⟩ = some (.float .f32 f.v) ∧ ((wr.drewN k).alloc (.cells #[.string f.n, .int .u8 (f.k : Nat), .string f.t, .float .f32 f.v, .int .u8 (f.u : Nat)] 55)).cell? ⟨fg, fo' + 4, none⟩ = some (.int .u8 (f.u : Nat))) ∧ (w3.cell? ⟨fg, fo', none⟩ = some (.string f.n) ∧ w3.cell? ⟨fg, fo' + 1, none⟩ = some (.int .u8 (f.k : Nat)) ∧ w3.cell? ⟨fg, fo' + 2, none⟩ = some (.string f.t) ∧ w3.cell? ⟨fg, fo' + 3, none⟩ = some (.float .f32 f.v) ∧ w3.cell? ⟨fg, fo' + 4, none⟩ = some (.int .u8 (f.u : Nat)))) := fun k => by
       have hd : Fr (fun _ => False) wr (wr.drewN k) := (Fr.refl _ _).drewN k
       have hdB : Fr (fun k => w.heap.size ≤ k) wr (wr.drewN k) := hd.mono (fun _ _ h => h.elim)
       obtain ⟨ao, cap, w3, hr3, ho3, hf3, _⟩ := app_fld (wr.drewN k) w.heap.size (.slice oo A.length oc) A f (hI.o.fr hd (fun _ _ h => h)) (hI.f.trans hdB (fun _ _ h => h)).size (by omega)
       have hf3B : Fr (fun k => w.heap.size ≤ k) wr w3 := hdB.trans (hf3.mono (fun g _ hg => (hI.o.lt g hg).1)) (fun _ _ h => h)
       have hgl : fg < wr.heap.size := lt_of_cell f0
       have hgn : ¬ w.heap.size ≤ fg := by omega
       have hal : Fr (fun _ => False) wr ((wr.drewN k).alloc (.cells #[.string f.n, .int .u8 (f.k : Nat), .string f.t, .float .f32 f.v, .int .u8 (f.u : Nat)] 55)) := hd.trans (box1 _ _) (fun _ _ h => h)
       refine ⟨ao, cap, w3, hr3, ho3, hf3B, ⟨f0, f1, f2, f3, f4⟩, ⟨(hal.cell (p := ⟨fg, _, none⟩) hgl (fun h => h)).trans f0, (hal.cell (p := ⟨fg, _, none⟩) hgl (fun h => h)).trans f1, (hal.cell (p := ⟨fg, _, none⟩) hgl (fun h => h)).trans f2, (hal.cell (p := ⟨fg, _, none⟩) hgl (fun h => h)).trans f3, (hal.cell (p := ⟨fg, _, none⟩) hgl (fun h => h)).trans f4⟩, ⟨(hf3B.cell (p := ⟨fg, _, none⟩) hgl hgn).trans f0, (hf3B.cell (p := ⟨fg, _, none⟩) hgl hgn).trans f1, (hf3B.cell (p := ⟨fg, _, none⟩) hgl hgn).trans f2, (hf3B.cell (p := ⟨fg, _, none⟩) hgl hgn).trans f3, (hf3B.cell (p := ⟨fg, _, none⟩) hgl hgn).trans f4⟩⟩
      have hccL : (cr.length : Int) + 1 ≤ (cc' : Int) := by omega
      have hfcL : (fr.length : Int) + 1 ≤ (fc' : Int) := by omega
      have hcr1 : (1 : Int) ≤ (cr.length : Int) + 1 := by omega
      have hfr1 : (1 : Int) ≤ (fr.length : Int) + 1 := by omega
      clear hM hM2 hI hfh hch hft hct
      by_cases hf1 : fc' = 1
      ·subst hf1
       obtain rfl : fr = [] := List.length_eq_zero_iff.1 (by omega)
       go_wp2_with fail
       go_quiet (fail)
       go_wp2_with fail
       obtain ⟨ao, cap, w3, hr3, ho3, hf3, hS1, hS2, hS3⟩ := (unhide HAP) (nq + 1)
       have HR3 := hide hr3
       have H2 := hide (And.intro ho3 hf3)
       have HS1 := hide hS1
       have HS2 := hide hS2
       have HS3 := hide hS3
       clear hr3 ho3 hf3 hS1 hS2 hS3 HAP
       go_region_held3 (fun w' => w'.cell? ⟨fg, fo', none⟩ = some (.string f.n) ∧ w'.cell? ⟨fg, fo' + 1, none⟩ = some (.int .u8 (f.k : Nat)) ∧ w'.cell? ⟨fg, fo' + 2, none⟩ = some (.string f.t) ∧ w'.cell? ⟨fg, fo' + 3, none⟩ = some (.float .f32 f.v) ∧ w'.cell? ⟨fg, fo' + 4, none⟩ = some (.int .u8 (f.u : Nat)))
        (first | with_reducible exact unhide HS3 | with_reducible exact unhide HS2 | exact unhide HS1)
        (refine step_app rfl (.tmp 34) (.tmp 38) 39 39 rfl _ _ _ (by simp [Act.eval]) (by simp [Act.eval]) (unhide HR3) ?_)
       all_goals
        go_wp2_with fail
        exact ⟨⟨m, [], c :: cr, A ++ [f], by simp at hn ⊢; omega, by rw [List.length_append]; simp; omega, ⟨FdC.nilS _ _, (unhide HI).2.2.frS (unhide H2).2, (unhide H2).1, (unhide HI).2.1.trans (unhide H2).2 (fun _ _ h => h)⟩, unhide HM, hfo⟩, by simp [lenOf] <;> omega⟩
      ·have hf1' : ¬ (fc' : Int) = 1 := by omega
       have hf2 : ¬ fc' - 1 = 0 := by omega
       have hf3 : (1 : Int) < (fc' : Int) := by omega
       go_wp2_with fail
       go_quiet (fail)
       go_wp2_with fail
       obtain ⟨ao, cap, w3, hr3, ho3, hf3, hS1, hS2, hS3⟩ := (unhide HAP) (nq + 1)
       have HR3 := hide hr3
       have H2 := hide (And.intro ho3 hf3)
       have HS1 := hide hS1
       have HS2 := hide hS2
       have HS3 := hide hS3
       clear hr3 ho3 hf3 hS1 hS2 hS3 HAP
       go_region_held3 (fun w' => w'.cell? ⟨fg, fo', none⟩ = some (.string f.n) ∧ w'.cell? ⟨fg, fo' + 1, none⟩ = some (.int .u8 (f.k : Nat)) ∧ w'.cell? ⟨fg, fo' + 2, none⟩ = some (.string f.t) ∧ w'.cell? ⟨fg, fo' + 3, none⟩ = some (.float .f32 f.v) ∧ w'.cell? ⟨fg, fo' + 4, none⟩ = some (.int .u8 (f.u : Nat)))
        (first | with_reducible exact unhide HS3 | with_reducible exact unhide HS2 | exact unhide HS1)
        (refine step_app rfl (.tmp 34) (.tmp 38) 39 39 rfl _ _ _ (by simp [Act.eval]) (by simp [Act.eval]) (unhide HR3) ?_)
       all_goals
        go_wp2_with fail
        exact ⟨⟨m, fr, c :: cr, A ++ [f], by simp at hn ⊢; omega, by rw [List.length_append]; simp; omega, ⟨(unhide HI).1.frS (unhide H2).2, (unhide HI).2.2.frS (unhide H2).2, (unhide H2).1, (unhide HI).2.1.trans (unhide H2).2 (fun _ _ h => h)⟩, unhide HM, hfo⟩, by simp [lenOf] <;> omega⟩
end Go.Proofs.YtiknjghcjaaenaaGreatDoor
