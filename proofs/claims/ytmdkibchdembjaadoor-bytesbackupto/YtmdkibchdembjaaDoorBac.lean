import Derived.Test.YtmdkibchdembjaaDoorBal
namespace Go.Proofs.YtmdkibchdembjaaDoor
open Go.RowKit

/-- The writer, k calls done. -/
def Inv1 (w wr : World) (b1 : Nat) (A : List Pt) (k : Nat) (ea er : Addr) : Prop :=
  ∃ F1, W wr b1 F1 (runA (A.take k) ea er) ∧ Fr (fun _ => False) w wr ∧ (∀ i, F1 i → w.heap.size ≤ i)
theorem lay9_nine (st : Wst) (p : Pt) (ea er : Addr) (h : p.k = 9) : st.lay9 p ea er = st := if_pos h
theorem lay9_not (st : Wst) (p : Pt) (ea er : Addr) (h : p.k ≠ 9) : st.lay9 p ea er = st.layA p ea er := if_neg h
/-- The reader, k calls done. -/
def InvR (w wr : World) (b4 : Nat) (F4 : Nat → Prop) (A : List Pt) (k : Nat) : Prop :=
  ∃ nm part, R wr b4 F4 ⟨nm, flat A, (flat (A.take k)).length, part, none⟩ ∧ Fr (fun _ => False) w wr

theorem InvR.drewN {w wr : World} {b4 : Nat} {F4 : Nat → Prop} {A : List Pt} {k : Nat} (h : InvR w wr b4 F4 A k) (n : Nat) : InvR w (wr.drewN n) b4 F4 A k := by
  obtain ⟨nm, part, hR, hf⟩ := h
  exact ⟨nm, part, hR.frame ((Fr.refl (fun _ => False) _).drewN n) (fun _ _ h => h), hf.drewN n⟩

set_option maxRecDepth 1000000 in
set_option maxHeartbeats 4000000 in
theorem back_any (x0 : Value) (A : List Pt) (E : Nat → Addr) (er : Addr) (w : World) (hg : Gl w E) (hr : Rg w er) (hw : 9 ≤ w.heap.size) (h0 : PSrc w x0 A) (hA : weight A ≤ 16777216) (oA : ∀ p ∈ A, p.ok) (hAl : A.length ≤ 16777216) :
    Calls Tryd.prog 5 #[x0] w fun e w' => e = .returned (.bool true) ∧ Fr (fun _ => False) w w' := by
  obtain ⟨ao0, ac0, rfl⟩ := h0.form
  have HG := hide (And.intro hg (And.intro hr h0))
  have HO := hide oA
  clear hg hr h0 oA
  go_enter Tryd.func5, Tryd.ntmps5
  go_wp2_with fail
  refine (awake_any E w (unhide HG).1 hw).mono ?_
  rintro e w1 ⟨rfl, hf1⟩
  have A1 := hide hf1
  clear hf1
  go_wp2_with fail
  refine (newWriter_any w1 (Nat.le_trans hw (unhide A1).size)).mono ?_
  rintro e w2 ⟨rfl, hW2, hf2⟩
  have A2 := (unhide A1).trans hf2 (fun _ _ h => h)
  have H2 := hide (And.intro hW2 A2)
  have s1 := (unhide A1).size
  clear hW2 hf2 A2 A1
  go_wp2_with fail
  go_loopw [4] (fun i wr => ∃ k : Nat, k ≤ A.length ∧ i = .int .i64 k ∧ Inv1 w wr w1.heap.size A k (E 2) er) (fun i _ => A.length - (intOf i).toNat)
  case atStart => exact ⟨0, Nat.zero_le _, rfl, _, (unhide H2).1, (unhide H2).2, fun i h1 => by have e1 : i = w1.heap.size := h1; omega⟩
  case round =>
    obtain ⟨k, hk, rfl, F1, hV, hA4, hn1⟩ := hrel
    rename World => wr
    by_cases hlt : k < A.length
    · obtain ⟨g, o, rfl, c0, c1, c2, c3, c4⟩ := (unhide HG).2.2.at_ hA4 k hlt
      generalize hP : A[k] = P at *
      have HP := hide hP
      clear hP
      have HV := hide (And.intro hV (And.intro hA4 hn1))
      clear hV hA4 hn1
      go_wp2_with fail
      refine (fit_any P wr).mono ?_
      rintro e w4 ⟨rfl, hf4⟩
      have HF4 := hide hf4
      clear c0 c1 c2 c3 c4 hf4
      have rkp := fk_mem P.k
      generalize hkp : fk P.k = kp at *
      generalize hnp : fn P.k P.n = np at *
      have HKP := hide (And.intro hkp hnp)
      clear hkp hnp
      by_cases h9 : kp = 9
      · subst h9
        have HI : Hid (Inv1 w (w4.alloc (.cells #[.int .i64 9, .int .u64 P.u, .string P.s, .int .i64 np, .int .i64 P.m] 31)) w1.heap.size A (k + 1) (E 2) er) := hide (by
          have hf : Fr (fun _ => False) wr (w4.alloc (.cells #[.int .i64 9, .int .u64 P.u, .string P.s, .int .i64 np, .int .i64 P.m] 31)) := (unhide HF4).alloc _
          refine ⟨F1, ?_, (unhide HV).2.1.trans hf (fun _ _ h => h), (unhide HV).2.2⟩
          rw [runA_snoc A k hlt, lay9_nine _ _ _ _ (by show fk A[k].k = 9; rw [unhide HP]; exact (unhide HKP).1)]
          exact (unhide HV).1.frame hf (fun _ _ h => h))
        go_wp2_with fail
        refine ⟨⟨k + 1, by omega, by go_num, unhide HI⟩, by simp [intOf]; omega⟩
      · have b9 : (kp != 9) = true := by rw [bne_iff_ne]; exact h9
        have hm : P ∈ A := by rw [← unhide HP]; exact List.getElem_mem _
        have ok := (unhide HO) P hm
        have wt := weight_mem hm
        have lA := runA_len (A.take k) (E 2) er
        have tA := weight_take A k
        have npl : np < 9223372036854775808 := by rw [← (unhide HKP).2]; exact fn_lt ok.2.1
        have HK := hide (And.intro rkp (And.intro h9 (And.intro ok npl)))
        clear rkp h9 ok npl hm
        go_wp2_with fail
        have hfC : Fr (fun _ => False) wr (w4.alloc (.cells #[.int .i64 kp, .int .u64 P.u, .string P.s, .int .i64 np, .int .i64 P.m] 31)) := (unhide HF4).alloc _
        have hAC := (unhide HV).2.1.trans hfC (fun _ _ h => h)
        refine (layA_any ⟨kp, P.u, P.s, np, P.m⟩ w1.heap.size F1 _ E er _ (unhide HK).1 (unhide HK).2.1 (unhide HK).2.2.1.1 (unhide HK).2.2.2 ((unhide HG).1.fr0 hAC) ((unhide HG).2.1.fr0 hAC) ((unhide HV).1.frame hfC (fun _ _ h => h)) (by show P.s.size < _; omega) (by show _ + 8 + P.s.size ≤ _; omega)).mono ?_
        rintro e w6 ⟨rfl, F1', hW1, hc1⟩
        have HI : Hid (Inv1 w w6 w1.heap.size A (k + 1) (E 2) er) := hide (by
          refine ⟨F1', ?_, hAC.soak hc1.fr (unhide HV).2.2, fun i hi => ?_⟩
          · have e : A[k].fit = ⟨kp, P.u, P.s, np, P.m⟩ := by rw [Pt.fit, unhide HP, (unhide HKP).1, (unhide HKP).2]
            rw [runA_snoc A k hlt, e, lay9_not _ _ _ _ (unhide HK).2.1]
            exact hW1
          · rcases hc1.new i hi with hx | hx
            · exact (unhide HV).2.2 i hx
            · have := hAC.size; omega)
        clear hW1 hc1 hfC hAC
        go_wp2_with fail
        refine ⟨⟨k + 1, by omega, by go_num, unhide HI⟩, by simp [intOf]; omega⟩
    · have hkA : A.take k = A := List.take_of_length_le (by omega)
      rw [hkA] at hV
      have lA := runA_len A (E 2) er
      have HV := hide (And.intro hV (And.intro hA4 hn1))
      clear hV hA4 hn1 hkA
      go_wp2_with fail
      cases hfA : (runA A (E 2) er).f with
      | some y =>
        obtain ⟨what, place, ea⟩ := y
        refine (wDone_bad _ _ _ what place ea wr (unhide HV).1 hfA).mono ?_
        rintro e w4 ⟨rfl, rfl⟩
        clear hfA
        go_wp2_with fail
        go_ret
        exact ⟨rfl, (unhide HV).2.1.alloc _⟩
      | none =>
        refine (wDone_ok _ _ _ wr (unhide HV).1 hfA (by omega)).mono ?_
        rintro e w4 ⟨x, rfl, hx, hf4⟩
        obtain ⟨hfl, hgood⟩ := runA_none hfA
        rw [hfl] at hx lA
        obtain ⟨xo, xc, rfl⟩ := own_form hx
        have A4 := (unhide HV).2.1.trans hf4 (fun _ _ h => h)
        have H4 := hide (And.intro (own_src hx) (And.intro A4 hgood))
        have s4 := A4.size
        clear hx A4 hf4 hfA hgood hfl HV H2
        go_wp2_with fail
        refine (newReader_any _ (flat A) w4 (by omega) (unhide H4).1 (by omega)).mono ?_
        rintro e w5 ⟨b4, F4, rfl, hR, hf5, hl5⟩
        have H5 := hide (And.intro hR (And.intro ((unhide H4).2.1.trans hf5 (fun _ _ h => h)) (fun i hi => Nat.le_trans s4 (hl5 i hi))))
        have hb4 : w.heap.size ≤ b4 := Nat.le_trans s4 (hl5 b4 hR.fb)
        clear hR hf5 hl5
        go_wp2_with fail
        go_loopw [9] (fun i wr => ∃ k : Nat, k ≤ A.length ∧ i = .int .i64 k ∧ InvR w wr b4 F4 A k) (fun i _ => A.length - (intOf i).toNat)
        case atStart => exact ⟨0, Nat.zero_le _, rfl, _, _, (unhide H5).1, (unhide H5).2.1⟩
        case round =>
          obtain ⟨k2, hk2, rfl, nm, part, hR, hA6⟩ := hrel
          rename World => wq
          by_cases hlt2 : k2 < A.length
          · obtain ⟨g, o, rfl, c0, c1, c2, c3, c4⟩ := (unhide HG).2.2.at_ hA6 k2 hlt2
            generalize hP : A[k2] = P at *
            have HP := hide hP
            clear hP
            have HV := hide (And.intro hR hA6)
            clear hR hA6
            go_wp2_with fail
            refine (fit_any P wq).mono ?_
            rintro e w6 ⟨rfl, hf6⟩
            have HF6 := hide hf6
            clear c0 c1 c2 c3 c4 hf6
            have rkp := fk_mem P.k
            generalize hkp : fk P.k = kp at *
            generalize hnp : fn P.k P.n = np at *
            have HKP := hide (And.intro hkp hnp)
            clear hkp hnp
            have hfit : A[k2].fit = ⟨kp, P.u, P.s, np, P.m⟩ := by rw [Pt.fit, unhide HP, (unhide HKP).1, (unhide HKP).2]
            have hdrop := flat_drop A k2 hlt2
            have hlen := flat_len A k2 hlt2
            have hle := flat_le A k2
            rw [hfit] at hdrop hlen
            have HD := hide (And.intro hdrop (And.intro hlen (And.intro hle hfit)))
            clear hdrop hlen hle hfit
            have hfC : Fr (fun _ => False) wq (w6.alloc (.cells #[.int .i64 kp, .int .u64 P.u, .string P.s, .int .i64 np, .int .i64 P.m] 31)) := (unhide HF6).alloc _
            have hAC := (unhide HV).2.trans hfC (fun _ _ h => h)
            have HC := hide (And.intro hfC hAC)
            clear hfC hAC
            by_cases h9 : kp = 9
            · subst h9
              have HI : Hid (InvR w (w6.alloc (.cells #[.int .i64 9, .int .u64 P.u, .string P.s, .int .i64 np, .int .i64 P.m] 31)) b4 F4 A (k2 + 1)) := hide (by
                refine ⟨nm, part, ?_, (unhide HC).2⟩
                rw [(unhide HD).2.1]
                exact (unhide HV).1.frame (unhide HC).1 (fun _ _ h => h))
              go_wp2_with fail
              refine ⟨⟨k2 + 1, by omega, by go_num, unhide HI⟩, by simp [intOf]; omega⟩
            · have hm : P ∈ A := by rw [← unhide HP]; exact List.getElem_mem _
              have ok := (unhide HO) P hm
              have hgd : goodA ⟨kp, P.u, P.s, np, P.m⟩ := by rw [← (unhide HD).2.2.2, unhide HP]; exact (unhide H4).2.2 P hm
              have hkk : kp = 1 ∨ kp = 2 ∨ kp = 4 ∨ kp = 8 ∨ kp = 5 ∨ kp = 6 ∨ kp = 7 ∨ kp = 10 := by
                simp only [kinds, List.mem_cons, List.not_mem_nil, or_false] at rkp
                omega
              have HCALL := hide (rdA_ok ⟨kp, P.u, P.s, np, P.m⟩ b4 F4 _ E er _ _ rkp h9 ok.1 ok.2.2 hgd ((unhide HG).1.fr0 (unhide HC).2) ((unhide HG).2.1.fr0 (unhide HC).2) ((unhide HV).1.frame (unhide HC).1 (fun _ _ h => h)) rfl (unhide HD).1 (unhide HD).2.2.1 (by show (flat A).length ≤ _; omega))
              have hu := ok.1
              have HK := hide (And.intro ok hgd)
              clear ok hgd hm rkp h9
              rcases hkk with rfl | rfl | rfl | rfl | rfl | rfl | rfl | rfl
              · have hmk : bits .and .u64 (P.u : Int) 255 = (P.u : Int) % 256 := by
                  have := and_mask P.u 8 255 (by decide) (by decide) hu
                  simpa using this
                go_wp2_with fail
                refine (unhide HCALL).mono ?_
                rintro e w7 ⟨c, l', rfl, hs, hstr, nm', part', hR7, hf7⟩
                have hwant : want ⟨1, P.u, P.s, np, P.m⟩ = P.u % 256 := rfl
                rw [hwant]
                have bx : Box w7 w6.heap.size ⟨1, P.u, P.s, np, P.m⟩ := Box.fr (box_new w6 ⟨1, P.u, P.s, np, P.m⟩) hf7 (fun h => by have h' : w6.heap.size = b4 := h; have := (unhide HV).1.lt b4 (unhide HV).1.fb; have := (unhide HF6).size; omega)
                obtain ⟨p0, p1, p2, p3, p4⟩ := bx
                have hA7 := (unhide HC).2.soak hf7 (fun i h => by have h' : i = b4 := h; omega)
                have HI : Hid (InvR w w7 b4 F4 A (k2 + 1)) := hide ⟨nm', part', by rw [(unhide HD).2.1]; exact hR7, hA7⟩
                have HR7 := hide (And.intro hR7 hA7)
                clear hR7 hf7 hA7 hs hstr HCALL hwant
                go_wp2_with fail
                go_quiet (fail)
                go_wp2_with fail
                refine (rErr_ok b4 F4 _ _ ((unhide HR7).1.frame ((Fr.refl (fun _ => False) _).drewN nq) (fun _ _ h => h)) rfl).mono ?_
                rintro e w8 ⟨rfl, rfl⟩
                go_wp2_with fail
                refine ⟨⟨k2 + 1, by omega, by go_num, (unhide HI).drewN nq⟩, by simp [intOf]; omega⟩
              · have hmk : bits .and .u64 (P.u : Int) 65535 = (P.u : Int) % 65536 := by
                  have := and_mask P.u 16 65535 (by decide) (by decide) hu
                  simpa using this
                go_wp2_with fail
                refine (unhide HCALL).mono ?_
                rintro e w7 ⟨c, l', rfl, hs, hstr, nm', part', hR7, hf7⟩
                have hwant : want ⟨2, P.u, P.s, np, P.m⟩ = P.u % 65536 := rfl
                rw [hwant]
                have bx : Box w7 w6.heap.size ⟨2, P.u, P.s, np, P.m⟩ := Box.fr (box_new w6 ⟨2, P.u, P.s, np, P.m⟩) hf7 (fun h => by have h' : w6.heap.size = b4 := h; have := (unhide HV).1.lt b4 (unhide HV).1.fb; have := (unhide HF6).size; omega)
                obtain ⟨p0, p1, p2, p3, p4⟩ := bx
                have hA7 := (unhide HC).2.soak hf7 (fun i h => by have h' : i = b4 := h; omega)
                have HI : Hid (InvR w w7 b4 F4 A (k2 + 1)) := hide ⟨nm', part', by rw [(unhide HD).2.1]; exact hR7, hA7⟩
                have HR7 := hide (And.intro hR7 hA7)
                clear hR7 hf7 hA7 hs hstr HCALL hwant
                go_wp2_with fail
                go_quiet (fail)
                go_wp2_with fail
                refine (rErr_ok b4 F4 _ _ ((unhide HR7).1.frame ((Fr.refl (fun _ => False) _).drewN nq) (fun _ _ h => h)) rfl).mono ?_
                rintro e w8 ⟨rfl, rfl⟩
                go_wp2_with fail
                refine ⟨⟨k2 + 1, by omega, by go_num, (unhide HI).drewN nq⟩, by simp [intOf]; omega⟩
              · have hmk : bits .and .u64 (P.u : Int) 4294967295 = (P.u : Int) % 4294967296 := by
                  have := and_mask P.u 32 4294967295 (by decide) (by decide) hu
                  simpa using this
                go_wp2_with fail
                refine (unhide HCALL).mono ?_
                rintro e w7 ⟨c, l', rfl, hs, hstr, nm', part', hR7, hf7⟩
                have hwant : want ⟨4, P.u, P.s, np, P.m⟩ = P.u % 4294967296 := rfl
                rw [hwant]
                have bx : Box w7 w6.heap.size ⟨4, P.u, P.s, np, P.m⟩ := Box.fr (box_new w6 ⟨4, P.u, P.s, np, P.m⟩) hf7 (fun h => by have h' : w6.heap.size = b4 := h; have := (unhide HV).1.lt b4 (unhide HV).1.fb; have := (unhide HF6).size; omega)
                obtain ⟨p0, p1, p2, p3, p4⟩ := bx
                have hA7 := (unhide HC).2.soak hf7 (fun i h => by have h' : i = b4 := h; omega)
                have HI : Hid (InvR w w7 b4 F4 A (k2 + 1)) := hide ⟨nm', part', by rw [(unhide HD).2.1]; exact hR7, hA7⟩
                have HR7 := hide (And.intro hR7 hA7)
                clear hR7 hf7 hA7 hs hstr HCALL hwant
                go_wp2_with fail
                go_quiet (fail)
                go_wp2_with fail
                refine (rErr_ok b4 F4 _ _ ((unhide HR7).1.frame ((Fr.refl (fun _ => False) _).drewN nq) (fun _ _ h => h)) rfl).mono ?_
                rintro e w8 ⟨rfl, rfl⟩
                go_wp2_with fail
                refine ⟨⟨k2 + 1, by omega, by go_num, (unhide HI).drewN nq⟩, by simp [intOf]; omega⟩
              · skip
                go_wp2_with fail
                refine (unhide HCALL).mono ?_
                rintro e w7 ⟨c, l', rfl, hs, hstr, nm', part', hR7, hf7⟩
                have hwant : want ⟨8, P.u, P.s, np, P.m⟩ = P.u := rfl
                rw [hwant]
                have bx : Box w7 w6.heap.size ⟨8, P.u, P.s, np, P.m⟩ := Box.fr (box_new w6 ⟨8, P.u, P.s, np, P.m⟩) hf7 (fun h => by have h' : w6.heap.size = b4 := h; have := (unhide HV).1.lt b4 (unhide HV).1.fb; have := (unhide HF6).size; omega)
                obtain ⟨p0, p1, p2, p3, p4⟩ := bx
                have hA7 := (unhide HC).2.soak hf7 (fun i h => by have h' : i = b4 := h; omega)
                have HI : Hid (InvR w w7 b4 F4 A (k2 + 1)) := hide ⟨nm', part', by rw [(unhide HD).2.1]; exact hR7, hA7⟩
                have HR7 := hide (And.intro hR7 hA7)
                clear hR7 hf7 hA7 hs hstr HCALL hwant
                go_wp2_with fail
                refine (rErr_ok b4 F4 _ _ (unhide HR7).1 rfl).mono ?_
                rintro e w8 ⟨rfl, rfl⟩
                go_wp2_with fail
                refine ⟨⟨k2 + 1, by omega, by go_num, unhide HI⟩, by simp [intOf]; omega⟩
              · have hmk : bits .and .u64 (P.u : Int) 4294967295 = (P.u : Int) % 4294967296 := by
                  have := and_mask P.u 32 4294967295 (by decide) (by decide) hu
                  simpa using this
                go_wp2_with fail
                refine (unhide HCALL).mono ?_
                rintro e w7 ⟨c, l', rfl, hs, hstr, nm', part', hR7, hf7⟩
                have hwant : want ⟨5, P.u, P.s, np, P.m⟩ = P.u % 4294967296 := rfl
                rw [hwant]
                have bx : Box w7 w6.heap.size ⟨5, P.u, P.s, np, P.m⟩ := Box.fr (box_new w6 ⟨5, P.u, P.s, np, P.m⟩) hf7 (fun h => by have h' : w6.heap.size = b4 := h; have := (unhide HV).1.lt b4 (unhide HV).1.fb; have := (unhide HF6).size; omega)
                obtain ⟨p0, p1, p2, p3, p4⟩ := bx
                have hA7 := (unhide HC).2.soak hf7 (fun i h => by have h' : i = b4 := h; omega)
                have HI : Hid (InvR w w7 b4 F4 A (k2 + 1)) := hide ⟨nm', part', by rw [(unhide HD).2.1]; exact hR7, hA7⟩
                have HR7 := hide (And.intro hR7 hA7)
                clear hR7 hf7 hA7 hs hstr HCALL hwant
                go_wp2_with fail
                refine (rErr_ok b4 F4 _ _ (unhide HR7).1 rfl).mono ?_
                rintro e w8 ⟨rfl, rfl⟩
                go_wp2_with fail
                refine ⟨⟨k2 + 1, by omega, by go_num, unhide HI⟩, by simp [intOf]; omega⟩
              · skip
                go_wp2_with fail
                refine (unhide HCALL).mono ?_
                rintro e w7 ⟨c, l', rfl, hs, hstr, nm', part', hR7, hf7⟩
                have hwant : want ⟨6, P.u, P.s, np, P.m⟩ = 0 := rfl
                rw [hwant]
                have bx : Box w7 w6.heap.size ⟨6, P.u, P.s, np, P.m⟩ := Box.fr (box_new w6 ⟨6, P.u, P.s, np, P.m⟩) hf7 (fun h => by have h' : w6.heap.size = b4 := h; have := (unhide HV).1.lt b4 (unhide HV).1.fb; have := (unhide HF6).size; omega)
                obtain ⟨p0, p1, p2, p3, p4⟩ := bx
                have hA7 := (unhide HC).2.soak hf7 (fun i h => by have h' : i = b4 := h; omega)
                have HI : Hid (InvR w w7 b4 F4 A (k2 + 1)) := hide ⟨nm', part', by rw [(unhide HD).2.1]; exact hR7, hA7⟩
                have HR7 := hide (And.intro hR7 hA7)
                have hcv : ∀ n, (convert 25 9 c).run Tryd.prog (w7.drewN n) = .ok (.string P.s) (w7.drewN n) := fun n => by rw [conv_back (w7.drewN n) c l' (hs.fr ((Fr.refl (fun _ => False) _).drewN n) (fun _ _ _ _ _ h => h)), hstr (by simp)]
                have hcv0 : (convert 25 9 c).run Tryd.prog w7 = .ok (.string P.s) w7 := by rw [conv_back w7 c l' hs, hstr (by simp)]
                have hcv1 : (convert 25 9 c).run Tryd.prog w7.drew = .ok (.string P.s) w7.drew := hcv 1
                clear hR7 hf7 hA7 hs hstr HCALL hwant
                go_wp2_with fail
                refine (rErr_ok b4 F4 _ _ (unhide HR7).1 rfl).mono ?_
                rintro e w8 ⟨rfl, rfl⟩
                go_wp2_with fail
                refine ⟨⟨k2 + 1, by omega, by go_num, unhide HI⟩, by simp [intOf]; omega⟩
              · have hq0 := ((unhide HK).2.2.2 rfl).1
                simp only at hq0
                obtain ⟨q, rfl⟩ := Int.eq_ofNat_of_zero_le hq0
                have hq4 := ((unhide HK).2.2.2 rfl).2.2
                simp only at hq4
                have hwr : IntKind.u64.wrap (q : Int) = (q : Int) := by rw [IntKind.wrap_u64]; omega
                go_wp2_with fail
                refine (unhide HCALL).mono ?_
                rintro e w7 ⟨c, l', rfl, hs, hstr, nm', part', hR7, hf7⟩
                have hwant : want ⟨7, P.u, P.s, (q : Int), P.m⟩ = q := rfl
                rw [hwant]
                have bx : Box w7 w6.heap.size ⟨7, P.u, P.s, (q : Int), P.m⟩ := Box.fr (box_new w6 ⟨7, P.u, P.s, (q : Int), P.m⟩) hf7 (fun h => by have h' : w6.heap.size = b4 := h; have := (unhide HV).1.lt b4 (unhide HV).1.fb; have := (unhide HF6).size; omega)
                obtain ⟨p0, p1, p2, p3, p4⟩ := bx
                have hA7 := (unhide HC).2.soak hf7 (fun i h => by have h' : i = b4 := h; omega)
                have HI : Hid (InvR w w7 b4 F4 A (k2 + 1)) := hide ⟨nm', part', by rw [(unhide HD).2.1]; exact hR7, hA7⟩
                have HR7 := hide (And.intro hR7 hA7)
                clear hR7 hf7 hA7 hs hstr HCALL hwant
                go_wp2_with fail
                refine (rErr_ok b4 F4 _ _ (unhide HR7).1 rfl).mono ?_
                rintro e w8 ⟨rfl, rfl⟩
                go_wp2_with fail
                refine ⟨⟨k2 + 1, by omega, by go_num, unhide HI⟩, by simp [intOf]; omega⟩
              · skip
                go_wp2_with fail
                refine (unhide HCALL).mono ?_
                rintro e w7 ⟨c, l', rfl, hs, hstr, nm', part', hR7, hf7⟩
                have hwant : want ⟨10, P.u, P.s, np, P.m⟩ = 0 := rfl
                rw [hwant]
                have bx : Box w7 w6.heap.size ⟨10, P.u, P.s, np, P.m⟩ := Box.fr (box_new w6 ⟨10, P.u, P.s, np, P.m⟩) hf7 (fun h => by have h' : w6.heap.size = b4 := h; have := (unhide HV).1.lt b4 (unhide HV).1.fb; have := (unhide HF6).size; omega)
                obtain ⟨p0, p1, p2, p3, p4⟩ := bx
                have hA7 := (unhide HC).2.soak hf7 (fun i h => by have h' : i = b4 := h; omega)
                have HI : Hid (InvR w w7 b4 F4 A (k2 + 1)) := hide ⟨nm', part', by rw [(unhide HD).2.1]; exact hR7, hA7⟩
                have HR7 := hide (And.intro hR7 hA7)
                clear hR7 hf7 hA7 hs hstr HCALL hwant
                go_wp2_with fail
                refine (rErr_ok b4 F4 _ _ (unhide HR7).1 rfl).mono ?_
                rintro e w8 ⟨rfl, rfl⟩
                go_wp2_with fail
                refine ⟨⟨k2 + 1, by omega, by go_num, unhide HI⟩, by simp [intOf]; omega⟩
          · have e2 : A.take k2 = A := List.take_of_length_le (by omega)
            rw [e2] at hR
            have HV := hide (And.intro hR hA6)
            clear hR hA6 e2
            go_wp2_with fail
            refine (rDone_end b4 F4 _ _ (unhide HV).1 rfl rfl).mono ?_
            rintro e w7 ⟨rfl, hf7⟩
            have HV7 := hide (And.intro ((unhide HV).1.frame hf7 (fun _ _ h => h)) ((unhide HV).2.trans hf7 (fun _ _ h => h)))
            clear hf7
            go_wp2_with fail
            refine (rAt_ok b4 F4 _ _ (unhide HV7).1 rfl).mono ?_
            rintro e w8 ⟨rfl, rfl⟩
            go_wp2_with fail
            go_ret
            exact ⟨rfl, (unhide HV7).2⟩
end Go.Proofs.YtmdkibchdembjaaDoor
