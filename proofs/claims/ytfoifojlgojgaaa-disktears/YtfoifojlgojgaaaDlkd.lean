import Derived.Test.YtfoifojlgojgaaaDlj
namespace Go.Proofs.Ytfoifojlgojgaaa
open Go.RowKit Go.ChangeShapes Go.WideShapes Go.Maps Go.Sort

set_option maxHeartbeats 4000000 in
set_option maxRecDepth 100000 in
theorem tears_d (N : Nat) (pc : List Nat) (synced torn b keep : Int) (xo : Option Addr) (xc : Nat) (w : World) (hx : Src w (.slice xo pc.length xc) pc) (hN : N ≤ xc) (hN2 : N < 9223372036854775808) (hcase : N = pc.length ∧ pc.length ≤ 200 ∨ 200 < N ∧ pc.length = 200) (harm0 : 0 < torn) (harm1 : torn ≤ (pc.length : Int)) (harm : 0 ≤ b) (hbr : b ≤ 9223372036854775807) (hkr : keep ≤ 9223372036854775807) :
    Calls Try.prog 5 #[.slice xo N xc, .int .i64 synced, .int .i64 torn, .int .i64 b, .int .i64 keep] w fun e w' => e = .returned (.bool true) ∧ Fr (fun _ => False) w w' := by
  have HX := hide hx
  have HXC := hide hN
  have hl : pc.length ≤ 200 := by omega
  have HL := hide hl
  clear hx hl
  go_enter Try.func5, Try.ntmps5
  go_wp2_with fail
  refine (awake8 w).mono ?_
  rintro e w1 ⟨rfl, hf1⟩
  have H1 := hide hf1
  clear hf1
  go_wp2_with fail
  refine (new_any 65536 w1 (by decide) (by decide)).mono ?_
  rintro e w2 ⟨d, m, q, O, rfl, hD2, hf2, hO2⟩
  have H2 := hide (And.intro hD2 (And.intro hf2 hO2))
  clear hD2 hf2 hO2
  go_wp2_with fail
  refine (create_ok d m _ q O sX w2 (unhide H2).1 rfl (by decide) (by decide) (new_has _ _) (by decide)).mono ?_
  rintro e w4 ⟨rfl, fx, q4, O4, hD4, hf4, hO4⟩
  have H4 := hide (And.intro hD4 (And.intro hf4 hO4))
  clear hD4 hf4 hO4
  go_wp2_with fail
  refine (create_ok d m _ q4 O4 sY w4 (unhide H4).1 rfl (by decide) (by decide) (two_has0 _ _) (two_size0 _ _)).mono ?_
  rintro e w5 ⟨rfl, fy, q5, O5, hD5, hf5, hO5⟩
  have HT5 : Hid (TW w w5 d m (DM.two 65536 fx fy) q5 O5 (fun i => q5.fb (key2 i)) [] 0 []) := by
    have hF1 : Fr (fun _ => False) w w2 := (unhide H1).trans (unhide H2).2.1 (fun _ _ h => h)
    have ho2 : ∀ k, O k → w.heap.size ≤ k := fun k hk => Nat.le_trans (unhide H1).size ((unhide H2).2.2 k hk)
    have hF2 : Fr (fun _ => False) w w4 := hF1.absorb (unhide H4).2.1 ho2
    have ho4 : ∀ k, O4 k → w.heap.size ≤ k := fun k hk => ((unhide H4).2.2 k hk).elim (ho2 k) (Nat.le_trans hF1.size)
    have hF3 : Fr (fun _ => False) w w5 := hF2.absorb hf5 ho4
    have ho5 : ∀ k, O5 k → w.heap.size ≤ k := fun k hk => (hO5 k hk).elim (ho4 k) (Nat.le_trans hF2.size)
    refine hide ⟨hD5, hF3, ho5, two_TI _ _ _ _ (hD5.ap (key2 0) (key2 1) rfl rfl (by decide)).1, fun _ _ => rfl, ⟨_, _, two_D 65536 fx fy⟩, rfl, rfl, fun o ho => (by cases ho), fun k hk => two_oth _ _ _ k hk⟩
  clear hD5 hf5 hO5 H1 H2 H4
  have HCS := hide hcase
  clear hcase
  rcases unhide HCS with ⟨hNe, hle⟩ | ⟨hbig, hde⟩
  · subst hNe
    clear HCS
    go_wp2_with fail
    refine (arm_ok d m _ q5 O5 torn b w5 (unhide HT5).D rfl (by omega) (by omega)).mono ?_
    rintro e w6 ⟨rfl, hD6, hf6⟩
    have HT6 := hide ((unhide HT5).armed hD6 hf6)
    clear hD6 hf6
    go_wp2_with fail
    go_loopw [14, 15, 16, 17, 18, 19, 20, 21, 22] (fun ov sv iv _ _ _ _ _ _ wr => ∃ (i sf : Nat) (od : List Nat) (G : List Own3) (s : DM) (q : DW) (O : Nat → Prop) (oo : Option Addr) (oc : Nat), ov = .slice oo od.length oc ∧ sv = .int .i64 (sf : Nat) ∧ iv = .int .i64 (i : Nat) ∧ (i : Int) < torn ∧ od.length ≤ i * 6 ∧ s.writes = i ∧ s.left = torn - (i : Int) ∧ s.tear = b ∧ s.off = false ∧ wr.ownsRow w.heap.size 5 1 (.slice oo od.length oc) od.length (cellsOf od) ∧ (∀ g, (Value.slice oo od.length oc).ownBlock = some g → ¬ O g) ∧ TW w wr d m s q O (fun i => q5.fb (key2 i)) od sf G) (fun _ _ iv _ _ _ _ _ _ _ => 200 - (intOf iv).toNat)
    case atStart => exact ⟨0, 0, [], [], _, q5, O5, none, 0, rfl, rfl, rfl, by omega, Nat.zero_le _, rfl, by simp, rfl, rfl, World.ownsRow_nil _ _ _ _, fun g hg => (by cases hg), unhide HT6⟩
    case round =>
      obtain ⟨i, sf, od, G, s, q, O, oo, oc, rfl, rfl, rfl, hi, hol, hsw, hsl, hst, hso, hrow, hap, hT⟩ := hrel
      rename World => wp
      have hl := unhide HL
      have hil : i < pc.length := by omega
      obtain ⟨xg, xof, rfl, hc⟩ := src_at ((unhide HX).fr hT.fr (fun _ _ _ _ _ h => h)) i hil
      have hv256 : pc[i] % 256 < 256 := Nat.mod_lt _ (by decide)
      obtain ⟨v, hv⟩ : ∃ v, pc[i] % 256 = v := ⟨_, rfl⟩
      rw [hv] at hc hv256
      have HV := hide hv
      have HS := hide (And.intro hrow (And.intro hap (And.intro hT (And.intro hsw (And.intro hsl (And.intro hst hso))))))
      have HI := hide (And.intro hi hol)
      have HIL := hide hil
      have hle200 : i < 200 := by omega
      clear hrow hap hsw hsl hst hso hT hv hol
      by_cases htn : (i : Int) + 1 = torn
      · by_cases hv2 : v % 2 = 1
        · have hv2' : ((v : Int) % 2 = 1) := by omega
          obtain ⟨n, hn7, hnv⟩ : ∃ n : Nat, n < 7 ∧ (v : Int) % 7 = (n : Int) := ⟨v % 7, by omega, by omega⟩
          have hmk : (Instr.makeSlice 28 (.int .i64 (n : Int)) (.int .i64 (n : Int))).run Try.prog wp = .ok (.slice (some ⟨wp.heap.size, 0, none⟩) n n) (wp.alloc (.cells (madeCells #[.int .u8 0] n) 5)) := make_n n wp (by omega)
          clear hv2 hl
          obtain ⟨c, hcm⟩ : ∃ c : Nat, min (n : Int) b = (c : Nat) := ⟨(min (n : Int) b).toNat, by omega⟩
          have hc7 : c < 7 := by omega
          go_wp2_with fail
          clear hmk hnv
          go_loopw [19] (fun kv wr => ∃ k : Nat, k ≤ n ∧ kv = .int .i64 (k : Nat) ∧ Fil (wp.alloc (.cells (madeCells #[.int .u8 0] n) 5)) wr wp.heap.size n od.length k) (fun kv _ => n - (intOf kv).toNat)
          case atStart => exact ⟨0, Nat.zero_le _, rfl, fil_start _ _ _⟩
          case round =>
            obtain ⟨k, hk, rfl, hF⟩ := hrel
            have HF := hide hF
            clear hF
            by_cases hkn : k < n
            · obtain ⟨z, hz, hfz, -⟩ := (unhide HF).at_ k hkn
              go_wp2
              go_roundw
              case rel => exact ⟨k + 1, by omega, by go_num, (unhide HF).step hkn _ (wr256 od.length k (by have := (unhide HI).2; omega))⟩
              case measure => simp [intOf]; omega
            · rename World => wf
              have hkn2 : k = n := by omega
              have hF := unhide HF
              rw [hkn2] at hF
              have hfd : Fr (fun b => b = wp.heap.size) wp wf := ((Fr.refl _ _).alloc _).trans hF.fr (fun _ _ e => e)
              obtain ⟨hrow, hap, hT, hsw, hsl, hst, hso⟩ := unhide HS
              have hgO : ¬ O wp.heap.size := fun h => Nat.lt_irrefl _ (hT.D.lt _ h)
              have hTf := hT.go hfd (fun k e => ⟨fun h => hgO (e ▸ h), by rw [e]; exact hT.fr.size⟩)
              have hrowf : wf.ownsRow w.heap.size 5 1 (.slice oo od.length oc) od.length (cellsOf od) := ownsRow_of_block hrow (fun g hg => hfd.block g (hrow.lt g hg).2 (fun e => by have := (hrow.lt g hg).2; omega))
              have hol := (unhide HI).2
              have HC := hide (hTf.torn 1 (by decide) sY rfl (by decide) hso wp.heap.size n c hF.src hgO (by omega) (by omega) (by rw [hst]; omega) (by rw [hst]; omega) (by rw [hsl]; omega) (by rw [hst]; exact hcm))
              have HS2 := hide (And.intro hrowf (And.intro hap (And.intro hsw (And.intro hsl (And.intro hst (And.intro hso hTf))))))
              clear hF HF hfd hrow hap hT hsw hsl hst hso hgO hTf hrowf hol hk hkn2 HS
              go_wp2_with fail
              refine (unhide HC).mono ?_
              rintro e w1 ⟨rfl, s1, q1, O1, G1, hT1, ho1, hf1, hO1⟩
              clear HC
              have hlt1 : od.length ≤ 1200 := by have := (unhide HI).2; omega
              have HT1 := hide hT1
              have HRow1 : Hid (w1.ownsRow w.heap.size 5 1 (.slice oo od.length oc) od.length (cellsOf od) ∧ ∀ g, (Value.slice oo od.length oc).ownBlock = some g → ¬ O1 g) := by
                obtain ⟨hrow, hap, _⟩ := unhide HS2
                exact hide ⟨ownsRow_of_block hrow (fun g hg => hf1.block g (hrow.lt g hg).2 (hap g hg)), fun g hg h => (hO1 g h).elim (hap g hg) (fun h => by have := (hrow.lt g hg).2; omega)⟩
              clear hT1 hf1 hO1
              go_wp2_with fail
              go_loopw [14, 22] (fun ov kv wr => ∃ (k : Nat) (ao : Option Addr) (cap : Nat), k ≤ c ∧ kv = .int .i64 (k : Nat) ∧ ov = .slice ao (od.length + k) cap ∧ wr.ownsRow w.heap.size 5 1 (.slice ao (od.length + k) cap) (od.length + k) (cellsOf (od ++ List.replicate k 1)) ∧ (∀ g, (Value.slice ao (od.length + k) cap).ownBlock = some g → ¬ O1 g) ∧ TW w wr d m s1 q1 O1 (fun i => q5.fb (key2 i)) (od ++ List.replicate c 1) sf G1) (fun _ kv _ => c - (intOf kv).toNat)
              case atStart => exact ⟨0, oo, oc, Nat.zero_le _, rfl, rfl, by simpa using (unhide HRow1).1, (unhide HRow1).2, unhide HT1⟩
              case round =>
                obtain ⟨k, ao, cap, hk, rfl, rfl, hrk, hak, hTk⟩ := hrel
                rename World => wk
                by_cases hkn : k < c
                · have hck : wk.cell? ⟨xg, xof + i, none⟩ = some (.int .u8 (v : Int)) := by
                    have := src_cell ((unhide HX).fr hTk.fr (fun _ _ _ _ _ h => h)) i (unhide HIL)
                    rw [unhide HV] at this
                    exact this
                  have hlen : (od ++ List.replicate k 1).length = od.length + k := by simp
                  have happ := app_zo wk w.heap.size 1 (.slice ao (od.length + k) cap) (od ++ List.replicate k 1) (by rw [hlen]; exact hrk) hTk.fr.size (by rw [hlen]; omega)
                  rw [hlen] at happ
                  obtain ⟨ao2, cap2, w3, hr3, hown3, hf3, hb3⟩ := happ
                  have hr3' : (Builtin.append_ #[28, 28] 28 #[.slice ao (od.length + k) cap, .slice (some ⟨wk.heap.size, 0, none⟩) 1 1]).run Try.prog (wk.alloc (.cells #[.int .u8 1] 5)) = .ok (.slice ao2 (od.length + k + 1) cap2) w3 := hr3
                  have HR3 := hide hr3'
                  have hT3 := hTk.go hf3 (fun g hg => ⟨hak g hg, (hrk.lt g hg).1⟩)
                  have ha3 : ∀ g, (Value.slice ao2 (od.length + k + 1) cap2).ownBlock = some g → ¬ O1 g := fun g hg h => (hb3 g hg).elim (fun e => hak g e h) (fun e => by have := hTk.D.lt g h; omega)
                  have hrep : od ++ List.replicate k 1 ++ [1] = od ++ List.replicate (k + 1) 1 := by rw [List.append_assoc, ← List.replicate_succ']
                  rw [hrep] at hown3
                  have H3 := hide (And.intro hown3 (And.intro ha3 hT3))
                  clear hr3 hr3' hown3 hf3 hb3 hT3 ha3 hrep hrk hak hTk hlen
                  go_wp2_with (at_builtin; refine wpList_app rfl _ _ 28 28 rfl _ _ _ rfl rfl (unhide HR3) ?_; clear HR3)
                  go_roundw
                  case rel => exact ⟨k + 1, ao2, cap2, hkn, by go_num, rfl, (unhide H3).1, (unhide H3).2.1, (unhide H3).2.2⟩
                  case measure => simp [intOf]; omega
                · have hkn2 : k = c := by omega
                  have hfin : (od ++ List.replicate k 1).length = od.length + k := by simp
                  rw [← hkn2] at hTk
                  obtain ⟨odz, hod2⟩ : ∃ odz, odz = od ++ List.replicate k 1 := ⟨_, rfl⟩
                  rw [← hod2] at hrk hTk
                  have hlen2 : od.length + k = odz.length := by rw [hod2]; simp
                  rw [hlen2] at hrk hak
                  rw [hlen2]
                  have hb2 : odz.length ≤ 1300 := by omega
                  have HO1 := hide ho1
                  clear hkn2 hfin hk HT1 HRow1 hod2 hlen2 ho1 hlt1
                  have hrow := hrk
                  have hap := hak
                  have hT := hTk
                  clear hrk hak hTk
                  have hoff := off_any d m s1 q1 O1 wk hT.D
                  rw [unhide HO1] at hoff
                  have HOF := hide hoff
                  clear hoff
                  have HSZ := hide (And.intro hrow (And.intro hap hT))
                  clear hrow hap hT
                  go_wp2_with fail
                  refine (unhide HOF).mono ?_
                  rintro e wz ⟨rfl, rfl⟩
                  clear HOF
                  obtain ⟨hrow, hap, hT⟩ := unhide HSZ
                  clear HSZ
                  have hod : odz.length ≤ 1300 := hb2
                  have hle := hT.t.le
                  have HS := hide (And.intro hrow (And.intro hap (And.intro hT trivial)))
                  clear hrow hap hT
                  go_wp2_with fail
                  refine ((unhide HS).2.2.1.pending (by omega)).mono ?_
                  rintro e w6 ⟨rfl, hf6⟩
                  have HT6 := hide ((unhide HS).2.2.1.go hf6 (fun _ h => h.elim))
                  go_wp2_with fail
                  refine ((unhide HT6).crash keep hkr (by omega)).mono ?_
                  rintro e w7 ⟨rfl, q7, hD7, hf7⟩
                  have H7 := hide (And.intro hD7 hf7)
                  clear hD7 hf7
                  go_wp2_with fail
                  refine (start_any d m _ q7 O1 w7 (unhide H7).1).mono ?_
                  rintro e w8 ⟨rfl, hD8, hf8⟩
                  obtain ⟨LN, hLN⟩ : ∃ LN : Nat, LN = sf + min keep.toNat (odz.length - sf) := ⟨_, rfl⟩
                  have eLN : (sf : Int) + max 0 (min keep ((odz.length : Int) - (sf : Int))) = (LN : Int) := by omega
                  have hLl : LN ≤ odz.length := by omega
                  have etk : odz.take (sf + keep.toNat) = odz.take LN := by rw [List.take_eq_take_iff]; omega
                  obtain ⟨s', hs'⟩ : ∃ s' : DM, s' = { ((s1.offd).plus q1 G1 keep.toNat).crashT with off := false } := ⟨_, rfl⟩
                  rw [← hs'] at hD8
                  obtain ⟨hB1, hB2, hB3, hB4⟩ := (unhide HT6).behind keep.toNat (by omega) s' hs'
                  have hPN := pending_any d m s' q7 O1 w8 hD8 (fun x => by have h1 := hB4 x; simp only [DM.pd]; exact ⟨by omega, by omega⟩) hB3 (fun x => by have h1 := hB4 x; exact ⟨by omega, by omega⟩)
                  rw [hB2] at hPN
                  have HP := hide hPN
                  have HE := hide (And.intro eLN etk)
                  have H8 := hide (And.intro hD8 (And.intro hf8 (And.intro hB1 (And.intro hB4 hs'))))
                  have hoc := own_cap (unhide HS).1
                  clear hPN hD8 hf8 hB1 hB2 hB3 hB4 eLN etk hs' hLN
                  go_wp2_with fail
                  rw [(unhide HE).1]
                  refine (unhide HP).mono ?_
                  rintro e w9 ⟨rfl, hf9⟩
                  have hrow9 : w9.ownsRow w.heap.size 5 1 (.slice ao odz.length cap) odz.length (cellsOf odz) := by
                    obtain ⟨hrow, hap, hT, _⟩ := unhide HS
                    refine ownsRow_of_block hrow (fun g hg => ?_)
                    have hl0 := (hrow.lt g hg).2
                    have hl6 := Nat.lt_of_lt_of_le hl0 hf6.size
                    have hl7 := Nat.lt_of_lt_of_le hl6 (unhide H7).2.size
                    have hl8 := Nat.lt_of_lt_of_le hl7 (unhide H8).2.1.size
                    rw [hf9.block g hl8 (fun h => h), (unhide H8).2.1.block g hl7 (fun e => hap g hg (by rw [e]; exact hT.D.od)), (unhide H7).2.block g hl6 (hap g hg), hf6.block g hl0 (fun h => h)]
                  have hD9 : DkAt w9 d m s' q7 O1 := (unhide H8).1.fr hf9 (fun _ _ h => h)
                  have hF9 : Fr (fun _ => False) w w9 := by
                    have hT := (unhide HT6)
                    have h7 : Fr (fun _ => False) w w7 := hT.fr.absorb (unhide H7).2 hT.o
                    have h8 : Fr (fun _ => False) w w8 := h7.absorb (unhide H8).2.1 (fun k e => by rw [e]; exact hT.o _ hT.D.od)
                    exact h8.trans hf9 (fun _ _ h => h)
                  have hso : s'.off = false := by rw [(unhide H8).2.2.2.2]
                  have hx9 := src_pre hrow9 hLl
                  have hlt : (odz.take LN).length = LN := by rw [List.length_take, Nat.min_eq_left hLl]
                  have hb := (unhide H8).2.2.1
                  have HH1 := hide (holds_at d m 0 s' q7 O1 sX _ (odz.take LN) w9 hD9 hso (by decide) (hb 0 (by decide)).1 hx9 (by omega) (by decide) (by rw [← (unhide HE).2]; exact (hb 0 (by decide)).2))
                  have H9 := hide (And.intro hD9 (And.intro hF9 (And.intro hx9 hso)))
                  clear hrow9 hD9 hF9 hx9 hb hf9 hso hlt
                  go_wp2_with fail
                  refine (unhide HH1).mono ?_
                  rintro e w10 ⟨rfl, hf10⟩
                  have hlt : (odz.take LN).length ≤ 1000000 := by rw [List.length_take]; omega
                  have HH2 := hide (holds_at d m 1 s' q7 O1 sY _ (odz.take LN) w10 ((unhide H9).1.fr hf10 (fun _ _ h => h)) (unhide H9).2.2.2 (by decide) ((unhide H8).2.2.1 1 (by decide)).1 ((unhide H9).2.2.1.fr hf10 (fun _ _ _ _ _ h => h)) hlt (by decide) (by rw [← (unhide HE).2]; exact ((unhide H8).2.2.1 1 (by decide)).2))
                  have HF10 := hide ((unhide H9).2.1.trans hf10 (fun _ _ h => h))
                  clear hf10 hlt
                  go_wp2_with fail
                  refine (unhide HH2).mono ?_
                  rintro e w11 ⟨rfl, hf11⟩
                  have HF11 := hide ((unhide HF10).trans hf11 (fun _ _ h => h))
                  clear hf11
                  go_wp2_with fail
                  go_ret
                  exact ⟨rfl, unhide HF11⟩

        · have hv2' : ((v : Int) % 2 = 0) := by omega
          obtain ⟨n, hn7, hnv⟩ : ∃ n : Nat, n < 7 ∧ (v : Int) % 7 = (n : Int) := ⟨v % 7, by omega, by omega⟩
          have hmk : (Instr.makeSlice 28 (.int .i64 (n : Int)) (.int .i64 (n : Int))).run Try.prog wp = .ok (.slice (some ⟨wp.heap.size, 0, none⟩) n n) (wp.alloc (.cells (madeCells #[.int .u8 0] n) 5)) := make_n n wp (by omega)
          clear hv2 hl
          obtain ⟨c, hcm⟩ : ∃ c : Nat, min (n : Int) b = (c : Nat) := ⟨(min (n : Int) b).toNat, by omega⟩
          have hc7 : c < 7 := by omega
          go_wp2_with fail
          clear hmk hnv
          go_loopw [19] (fun kv wr => ∃ k : Nat, k ≤ n ∧ kv = .int .i64 (k : Nat) ∧ Fil (wp.alloc (.cells (madeCells #[.int .u8 0] n) 5)) wr wp.heap.size n od.length k) (fun kv _ => n - (intOf kv).toNat)
          case atStart => exact ⟨0, Nat.zero_le _, rfl, fil_start _ _ _⟩
          case round =>
            obtain ⟨k, hk, rfl, hF⟩ := hrel
            have HF := hide hF
            clear hF
            by_cases hkn : k < n
            · obtain ⟨z, hz, hfz, -⟩ := (unhide HF).at_ k hkn
              go_wp2
              go_roundw
              case rel => exact ⟨k + 1, by omega, by go_num, (unhide HF).step hkn _ (wr256 od.length k (by have := (unhide HI).2; omega))⟩
              case measure => simp [intOf]; omega
            · rename World => wf
              have hkn2 : k = n := by omega
              have hF := unhide HF
              rw [hkn2] at hF
              have hfd : Fr (fun b => b = wp.heap.size) wp wf := ((Fr.refl _ _).alloc _).trans hF.fr (fun _ _ e => e)
              obtain ⟨hrow, hap, hT, hsw, hsl, hst, hso⟩ := unhide HS
              have hgO : ¬ O wp.heap.size := fun h => Nat.lt_irrefl _ (hT.D.lt _ h)
              have hTf := hT.go hfd (fun k e => ⟨fun h => hgO (e ▸ h), by rw [e]; exact hT.fr.size⟩)
              have hrowf : wf.ownsRow w.heap.size 5 1 (.slice oo od.length oc) od.length (cellsOf od) := ownsRow_of_block hrow (fun g hg => hfd.block g (hrow.lt g hg).2 (fun e => by have := (hrow.lt g hg).2; omega))
              have hol := (unhide HI).2
              have HC := hide (hTf.torn 0 (by decide) sX rfl (by decide) hso wp.heap.size n c hF.src hgO (by omega) (by omega) (by rw [hst]; omega) (by rw [hst]; omega) (by rw [hsl]; omega) (by rw [hst]; exact hcm))
              have HS2 := hide (And.intro hrowf (And.intro hap (And.intro hsw (And.intro hsl (And.intro hst (And.intro hso hTf))))))
              clear hF HF hfd hrow hap hT hsw hsl hst hso hgO hTf hrowf hol hk hkn2 HS
              go_wp2_with fail
              refine (unhide HC).mono ?_
              rintro e w1 ⟨rfl, s1, q1, O1, G1, hT1, ho1, hf1, hO1⟩
              clear HC
              have hlt1 : od.length ≤ 1200 := by have := (unhide HI).2; omega
              have HT1 := hide hT1
              have HRow1 : Hid (w1.ownsRow w.heap.size 5 1 (.slice oo od.length oc) od.length (cellsOf od) ∧ ∀ g, (Value.slice oo od.length oc).ownBlock = some g → ¬ O1 g) := by
                obtain ⟨hrow, hap, _⟩ := unhide HS2
                exact hide ⟨ownsRow_of_block hrow (fun g hg => hf1.block g (hrow.lt g hg).2 (hap g hg)), fun g hg h => (hO1 g h).elim (hap g hg) (fun h => by have := (hrow.lt g hg).2; omega)⟩
              clear hT1 hf1 hO1
              go_wp2_with fail
              go_loopw [14, 22] (fun ov kv wr => ∃ (k : Nat) (ao : Option Addr) (cap : Nat), k ≤ c ∧ kv = .int .i64 (k : Nat) ∧ ov = .slice ao (od.length + k) cap ∧ wr.ownsRow w.heap.size 5 1 (.slice ao (od.length + k) cap) (od.length + k) (cellsOf (od ++ List.replicate k 0)) ∧ (∀ g, (Value.slice ao (od.length + k) cap).ownBlock = some g → ¬ O1 g) ∧ TW w wr d m s1 q1 O1 (fun i => q5.fb (key2 i)) (od ++ List.replicate c 0) sf G1) (fun _ kv _ => c - (intOf kv).toNat)
              case atStart => exact ⟨0, oo, oc, Nat.zero_le _, rfl, rfl, by simpa using (unhide HRow1).1, (unhide HRow1).2, unhide HT1⟩
              case round =>
                obtain ⟨k, ao, cap, hk, rfl, rfl, hrk, hak, hTk⟩ := hrel
                rename World => wk
                by_cases hkn : k < c
                · have hck : wk.cell? ⟨xg, xof + i, none⟩ = some (.int .u8 (v : Int)) := by
                    have := src_cell ((unhide HX).fr hTk.fr (fun _ _ _ _ _ h => h)) i (unhide HIL)
                    rw [unhide HV] at this
                    exact this
                  have hlen : (od ++ List.replicate k 0).length = od.length + k := by simp
                  have happ := app_zo wk w.heap.size 0 (.slice ao (od.length + k) cap) (od ++ List.replicate k 0) (by rw [hlen]; exact hrk) hTk.fr.size (by rw [hlen]; omega)
                  rw [hlen] at happ
                  obtain ⟨ao2, cap2, w3, hr3, hown3, hf3, hb3⟩ := happ
                  have hr3' : (Builtin.append_ #[28, 28] 28 #[.slice ao (od.length + k) cap, .slice (some ⟨wk.heap.size, 0, none⟩) 1 1]).run Try.prog (wk.alloc (.cells #[.int .u8 0] 5)) = .ok (.slice ao2 (od.length + k + 1) cap2) w3 := hr3
                  have HR3 := hide hr3'
                  have hT3 := hTk.go hf3 (fun g hg => ⟨hak g hg, (hrk.lt g hg).1⟩)
                  have ha3 : ∀ g, (Value.slice ao2 (od.length + k + 1) cap2).ownBlock = some g → ¬ O1 g := fun g hg h => (hb3 g hg).elim (fun e => hak g e h) (fun e => by have := hTk.D.lt g h; omega)
                  have hrep : od ++ List.replicate k 0 ++ [0] = od ++ List.replicate (k + 1) 0 := by rw [List.append_assoc, ← List.replicate_succ']
                  rw [hrep] at hown3
                  have H3 := hide (And.intro hown3 (And.intro ha3 hT3))
                  clear hr3 hr3' hown3 hf3 hb3 hT3 ha3 hrep hrk hak hTk hlen
                  go_wp2_with (at_builtin; refine wpList_app rfl _ _ 28 28 rfl _ _ _ rfl rfl (unhide HR3) ?_; clear HR3)
                  go_roundw
                  case rel => exact ⟨k + 1, ao2, cap2, hkn, by go_num, rfl, (unhide H3).1, (unhide H3).2.1, (unhide H3).2.2⟩
                  case measure => simp [intOf]; omega
                · have hkn2 : k = c := by omega
                  have hfin : (od ++ List.replicate k 0).length = od.length + k := by simp
                  rw [← hkn2] at hTk
                  obtain ⟨odz, hod2⟩ : ∃ odz, odz = od ++ List.replicate k 0 := ⟨_, rfl⟩
                  rw [← hod2] at hrk hTk
                  have hlen2 : od.length + k = odz.length := by rw [hod2]; simp
                  rw [hlen2] at hrk hak
                  rw [hlen2]
                  have hb2 : odz.length ≤ 1300 := by omega
                  have HO1 := hide ho1
                  clear hkn2 hfin hk HT1 HRow1 hod2 hlen2 ho1 hlt1
                  have hrow := hrk
                  have hap := hak
                  have hT := hTk
                  clear hrk hak hTk
                  have hoff := off_any d m s1 q1 O1 wk hT.D
                  rw [unhide HO1] at hoff
                  have HOF := hide hoff
                  clear hoff
                  have HSZ := hide (And.intro hrow (And.intro hap hT))
                  clear hrow hap hT
                  go_wp2_with fail
                  refine (unhide HOF).mono ?_
                  rintro e wz ⟨rfl, rfl⟩
                  clear HOF
                  obtain ⟨hrow, hap, hT⟩ := unhide HSZ
                  clear HSZ
                  have hod : odz.length ≤ 1300 := hb2
                  have hle := hT.t.le
                  have HS := hide (And.intro hrow (And.intro hap (And.intro hT trivial)))
                  clear hrow hap hT
                  go_wp2_with fail
                  refine ((unhide HS).2.2.1.pending (by omega)).mono ?_
                  rintro e w6 ⟨rfl, hf6⟩
                  have HT6 := hide ((unhide HS).2.2.1.go hf6 (fun _ h => h.elim))
                  go_wp2_with fail
                  refine ((unhide HT6).crash keep hkr (by omega)).mono ?_
                  rintro e w7 ⟨rfl, q7, hD7, hf7⟩
                  have H7 := hide (And.intro hD7 hf7)
                  clear hD7 hf7
                  go_wp2_with fail
                  refine (start_any d m _ q7 O1 w7 (unhide H7).1).mono ?_
                  rintro e w8 ⟨rfl, hD8, hf8⟩
                  obtain ⟨LN, hLN⟩ : ∃ LN : Nat, LN = sf + min keep.toNat (odz.length - sf) := ⟨_, rfl⟩
                  have eLN : (sf : Int) + max 0 (min keep ((odz.length : Int) - (sf : Int))) = (LN : Int) := by omega
                  have hLl : LN ≤ odz.length := by omega
                  have etk : odz.take (sf + keep.toNat) = odz.take LN := by rw [List.take_eq_take_iff]; omega
                  obtain ⟨s', hs'⟩ : ∃ s' : DM, s' = { ((s1.offd).plus q1 G1 keep.toNat).crashT with off := false } := ⟨_, rfl⟩
                  rw [← hs'] at hD8
                  obtain ⟨hB1, hB2, hB3, hB4⟩ := (unhide HT6).behind keep.toNat (by omega) s' hs'
                  have hPN := pending_any d m s' q7 O1 w8 hD8 (fun x => by have h1 := hB4 x; simp only [DM.pd]; exact ⟨by omega, by omega⟩) hB3 (fun x => by have h1 := hB4 x; exact ⟨by omega, by omega⟩)
                  rw [hB2] at hPN
                  have HP := hide hPN
                  have HE := hide (And.intro eLN etk)
                  have H8 := hide (And.intro hD8 (And.intro hf8 (And.intro hB1 (And.intro hB4 hs'))))
                  have hoc := own_cap (unhide HS).1
                  clear hPN hD8 hf8 hB1 hB2 hB3 hB4 eLN etk hs' hLN
                  go_wp2_with fail
                  rw [(unhide HE).1]
                  refine (unhide HP).mono ?_
                  rintro e w9 ⟨rfl, hf9⟩
                  have hrow9 : w9.ownsRow w.heap.size 5 1 (.slice ao odz.length cap) odz.length (cellsOf odz) := by
                    obtain ⟨hrow, hap, hT, _⟩ := unhide HS
                    refine ownsRow_of_block hrow (fun g hg => ?_)
                    have hl0 := (hrow.lt g hg).2
                    have hl6 := Nat.lt_of_lt_of_le hl0 hf6.size
                    have hl7 := Nat.lt_of_lt_of_le hl6 (unhide H7).2.size
                    have hl8 := Nat.lt_of_lt_of_le hl7 (unhide H8).2.1.size
                    rw [hf9.block g hl8 (fun h => h), (unhide H8).2.1.block g hl7 (fun e => hap g hg (by rw [e]; exact hT.D.od)), (unhide H7).2.block g hl6 (hap g hg), hf6.block g hl0 (fun h => h)]
                  have hD9 : DkAt w9 d m s' q7 O1 := (unhide H8).1.fr hf9 (fun _ _ h => h)
                  have hF9 : Fr (fun _ => False) w w9 := by
                    have hT := (unhide HT6)
                    have h7 : Fr (fun _ => False) w w7 := hT.fr.absorb (unhide H7).2 hT.o
                    have h8 : Fr (fun _ => False) w w8 := h7.absorb (unhide H8).2.1 (fun k e => by rw [e]; exact hT.o _ hT.D.od)
                    exact h8.trans hf9 (fun _ _ h => h)
                  have hso : s'.off = false := by rw [(unhide H8).2.2.2.2]
                  have hx9 := src_pre hrow9 hLl
                  have hlt : (odz.take LN).length = LN := by rw [List.length_take, Nat.min_eq_left hLl]
                  have hb := (unhide H8).2.2.1
                  have HH1 := hide (holds_at d m 0 s' q7 O1 sX _ (odz.take LN) w9 hD9 hso (by decide) (hb 0 (by decide)).1 hx9 (by omega) (by decide) (by rw [← (unhide HE).2]; exact (hb 0 (by decide)).2))
                  have H9 := hide (And.intro hD9 (And.intro hF9 (And.intro hx9 hso)))
                  clear hrow9 hD9 hF9 hx9 hb hf9 hso hlt
                  go_wp2_with fail
                  refine (unhide HH1).mono ?_
                  rintro e w10 ⟨rfl, hf10⟩
                  have hlt : (odz.take LN).length ≤ 1000000 := by rw [List.length_take]; omega
                  have HH2 := hide (holds_at d m 1 s' q7 O1 sY _ (odz.take LN) w10 ((unhide H9).1.fr hf10 (fun _ _ h => h)) (unhide H9).2.2.2 (by decide) ((unhide H8).2.2.1 1 (by decide)).1 ((unhide H9).2.2.1.fr hf10 (fun _ _ _ _ _ h => h)) hlt (by decide) (by rw [← (unhide HE).2]; exact ((unhide H8).2.2.1 1 (by decide)).2))
                  have HF10 := hide ((unhide H9).2.1.trans hf10 (fun _ _ h => h))
                  clear hf10 hlt
                  go_wp2_with fail
                  refine (unhide HH2).mono ?_
                  rintro e w11 ⟨rfl, hf11⟩
                  have HF11 := hide ((unhide HF10).trans hf11 (fun _ _ h => h))
                  clear hf11
                  go_wp2_with fail
                  go_ret
                  exact ⟨rfl, unhide HF11⟩

      · have htn' : ((i : Int) + 1 == torn) = false := by simp only [beq_eq_false_iff_ne, ne_eq]; exact htn
        have htn2 : decide ((i : Int) + 1 = torn) = false := decide_eq_false htn
        by_cases hv2 : v % 2 = 1
        · have hv2' : ((v : Int) % 2 = 1) := by omega
          obtain ⟨n, hn7, hnv⟩ : ∃ n : Nat, n < 7 ∧ (v : Int) % 7 = (n : Int) := ⟨v % 7, by omega, by omega⟩
          have hmk : (Instr.makeSlice 28 (.int .i64 (n : Int)) (.int .i64 (n : Int))).run Try.prog wp = .ok (.slice (some ⟨wp.heap.size, 0, none⟩) n n) (wp.alloc (.cells (madeCells #[.int .u8 0] n) 5)) := make_n n wp (by omega)
          clear hv2 hl
          go_wp2_with fail
          clear hmk hnv
          go_loopw [19] (fun kv wr => ∃ k : Nat, k ≤ n ∧ kv = .int .i64 (k : Nat) ∧ Fil (wp.alloc (.cells (madeCells #[.int .u8 0] n) 5)) wr wp.heap.size n od.length k) (fun kv _ => n - (intOf kv).toNat)
          case atStart => exact ⟨0, Nat.zero_le _, rfl, fil_start _ _ _⟩
          case round =>
            obtain ⟨k, hk, rfl, hF⟩ := hrel
            have HF := hide hF
            clear hF
            by_cases hkn : k < n
            · obtain ⟨z, hz, hfz, -⟩ := (unhide HF).at_ k hkn
              go_wp2
              go_roundw
              case rel => exact ⟨k + 1, by omega, by go_num, (unhide HF).step hkn _ (wr256 od.length k (by have := (unhide HI).2; omega))⟩
              case measure => simp [intOf]; omega
            · rename World => wf
              have hkn2 : k = n := by omega
              have hF := unhide HF
              rw [hkn2] at hF
              have hfd : Fr (fun b => b = wp.heap.size) wp wf := ((Fr.refl _ _).alloc _).trans hF.fr (fun _ _ e => e)
              obtain ⟨hrow, hap, hT, hsw, hsl, hst, hso⟩ := unhide HS
              have hgO : ¬ O wp.heap.size := fun h => Nat.lt_irrefl _ (hT.D.lt _ h)
              have hTf := hT.go hfd (fun k e => ⟨fun h => hgO (e ▸ h), by rw [e]; exact hT.fr.size⟩)
              have hrowf : wf.ownsRow w.heap.size 5 1 (.slice oo od.length oc) od.length (cellsOf od) := ownsRow_of_block hrow (fun g hg => hfd.block g (hrow.lt g hg).2 (fun e => by have := (hrow.lt g hg).2; omega))
              have hol := (unhide HI).2
              have HC := hide (hTf.piece 1 (by decide) sY rfl (by decide) hso wp.heap.size n hF.src hgO (by omega) (by omega) (by rw [hsl]; omega) (by rw [hsl]; omega) (by rw [hst]; omega) (by rw [hst]; omega) (by rw [hsl]; omega))
              have HS2 := hide (And.intro hrowf (And.intro hap (And.intro hsw (And.intro hsl (And.intro hst (And.intro hso hTf))))))
              clear hF HF hfd hrow hap hT hsw hsl hst hso hgO hTf hrowf hol hk hkn2 HS
              go_wp2_with fail
              refine (unhide HC).mono ?_
              rintro e w1 ⟨rfl, s1, q1, O1, G1, hT1, hw1, hl1, ht1, ho1, hf1, hO1⟩
              have H1S : Hid (s1.writes = i + 1 ∧ s1.left = torn - ((i + 1 : Nat) : Int) ∧ s1.tear = b ∧ s1.off = false) := by
                obtain ⟨-, -, hsw, hsl, hst, -⟩ := unhide HS2
                exact hide ⟨by rw [hw1, hsw], by rw [hl1, hsl, if_neg (by omega)]; omega, by rw [ht1, hst], ho1⟩
              clear hw1 hl1 ht1 ho1
              clear HC
              have hlt1 : od.length ≤ 1200 := by have := (unhide HI).2; omega
              have HT1 := hide hT1
              have HRow1 : Hid (w1.ownsRow w.heap.size 5 1 (.slice oo od.length oc) od.length (cellsOf od) ∧ ∀ g, (Value.slice oo od.length oc).ownBlock = some g → ¬ O1 g) := by
                obtain ⟨hrow, hap, _⟩ := unhide HS2
                exact hide ⟨ownsRow_of_block hrow (fun g hg => hf1.block g (hrow.lt g hg).2 (hap g hg)), fun g hg h => (hO1 g h).elim (hap g hg) (fun h => by have := (hrow.lt g hg).2; omega)⟩
              clear hT1 hf1 hO1
              go_wp2_with fail
              go_loopw [14, 22] (fun ov kv wr => ∃ (k : Nat) (ao : Option Addr) (cap : Nat), k ≤ n ∧ kv = .int .i64 (k : Nat) ∧ ov = .slice ao (od.length + k) cap ∧ wr.ownsRow w.heap.size 5 1 (.slice ao (od.length + k) cap) (od.length + k) (cellsOf (od ++ List.replicate k 1)) ∧ (∀ g, (Value.slice ao (od.length + k) cap).ownBlock = some g → ¬ O1 g) ∧ TW w wr d m s1 q1 O1 (fun i => q5.fb (key2 i)) (od ++ List.replicate n 1) sf G1) (fun _ kv _ => n - (intOf kv).toNat)
              case atStart => exact ⟨0, oo, oc, Nat.zero_le _, rfl, rfl, by simpa using (unhide HRow1).1, (unhide HRow1).2, unhide HT1⟩
              case round =>
                obtain ⟨k, ao, cap, hk, rfl, rfl, hrk, hak, hTk⟩ := hrel
                rename World => wk
                by_cases hkn : k < n
                · have hck : wk.cell? ⟨xg, xof + i, none⟩ = some (.int .u8 (v : Int)) := by
                    have := src_cell ((unhide HX).fr hTk.fr (fun _ _ _ _ _ h => h)) i (unhide HIL)
                    rw [unhide HV] at this
                    exact this
                  have hlen : (od ++ List.replicate k 1).length = od.length + k := by simp
                  have happ := app_zo wk w.heap.size 1 (.slice ao (od.length + k) cap) (od ++ List.replicate k 1) (by rw [hlen]; exact hrk) hTk.fr.size (by rw [hlen]; omega)
                  rw [hlen] at happ
                  obtain ⟨ao2, cap2, w3, hr3, hown3, hf3, hb3⟩ := happ
                  have hr3' : (Builtin.append_ #[28, 28] 28 #[.slice ao (od.length + k) cap, .slice (some ⟨wk.heap.size, 0, none⟩) 1 1]).run Try.prog (wk.alloc (.cells #[.int .u8 1] 5)) = .ok (.slice ao2 (od.length + k + 1) cap2) w3 := hr3
                  have HR3 := hide hr3'
                  have hT3 := hTk.go hf3 (fun g hg => ⟨hak g hg, (hrk.lt g hg).1⟩)
                  have ha3 : ∀ g, (Value.slice ao2 (od.length + k + 1) cap2).ownBlock = some g → ¬ O1 g := fun g hg h => (hb3 g hg).elim (fun e => hak g e h) (fun e => by have := hTk.D.lt g h; omega)
                  have hrep : od ++ List.replicate k 1 ++ [1] = od ++ List.replicate (k + 1) 1 := by rw [List.append_assoc, ← List.replicate_succ']
                  rw [hrep] at hown3
                  have H3 := hide (And.intro hown3 (And.intro ha3 hT3))
                  clear hr3 hr3' hown3 hf3 hb3 hT3 ha3 hrep hrk hak hTk hlen
                  go_wp2_with (at_builtin; refine wpList_app rfl _ _ 28 28 rfl _ _ _ rfl rfl (unhide HR3) ?_; clear HR3)
                  go_roundw
                  case rel => exact ⟨k + 1, ao2, cap2, hkn, by go_num, rfl, (unhide H3).1, (unhide H3).2.1, (unhide H3).2.2⟩
                  case measure => simp [intOf]; omega
                · have hkn2 : k = n := by omega
                  have hfin : (od ++ List.replicate k 1).length = od.length + k := by simp
                  rw [← hkn2] at hTk
                  have H4 := hide (And.intro hrk (And.intro hak (And.intro hTk (And.intro hkn2 hfin))))
                  clear hrk hak hTk hkn2 hfin hk HT1 HRow1
                  by_cases hsy : (i : Int) = synced
                  · go_wp2_with fail
                    refine (sync_at d m s1 q1 O1 sX wk (unhide H4).2.2.1.D (unhide H1S).2.2.2 (by decide) ((unhide H4).2.2.1.has 0 (by decide))).mono ?_
                    rintro e w2 ⟨rfl, q2, O2, hD2, hf2, hO2⟩
                    have H5 := hide (And.intro hD2 (And.intro hf2 hO2))
                    clear hD2 hf2 hO2
                    go_wp2_with fail
                    refine (sync_at d m _ q2 O2 sY w2 (unhide H5).1 (unhide H1S).2.2.2 (by decide) ((unhide H4).2.2.1.has 1 (by decide))).mono ?_
                    rintro e w3 ⟨rfl, q3, O3, hD3, hf3, hO3⟩
                    have hT3 := (unhide H4).2.2.1.sync2 hD3 (unhide H5).2.1 hf3 (unhide H5).2.2 hO3
                    have hap2 : ∀ g, (Value.slice ao (od.length + k) cap).ownBlock = some g → ¬ O2 g := fun g hg h => ((unhide H5).2.2 g h).elim ((unhide H4).2.1 g hg) (fun e => by have := ((unhide H4).1.lt g hg).2; omega)
                    have hlt2 : ∀ g, (Value.slice ao (od.length + k) cap).ownBlock = some g → g < w2.heap.size := fun g hg => Nat.lt_of_lt_of_le ((unhide H4).1.lt g hg).2 (unhide H5).2.1.size
                    have hap3 : ∀ g, (Value.slice ao (od.length + k) cap).ownBlock = some g → ¬ O3 g := fun g hg h => (hO3 g h).elim (hap2 g hg) (fun e => by have := hlt2 g hg; omega)
                    have hrow3 : w3.ownsRow w.heap.size 5 1 (.slice ao (od.length + k) cap) (od.length + k) (cellsOf (od ++ List.replicate k 1)) := ownsRow_of_block (unhide H4).1 (fun g hg => (hf3.block g (hlt2 g hg) (hap2 g hg)).trans ((unhide H5).2.1.block g ((unhide H4).1.lt g hg).2 ((unhide H4).2.1 g hg)))
                    have H6 := hide (And.intro hT3 (And.intro hap3 hrow3))
                    clear hD3 hf3 hO3 hT3 hap2 hlt2 hap3 hrow3 H5
                    go_wp2_with fail
                    go_roundw
                    case rel =>
                      obtain ⟨hrk, hak, hTk, hkn2, hfin⟩ := unhide H4
                      obtain ⟨hsw1, hsl1, hst1, hso1⟩ := unhide H1S
                      have hIi := unhide HI
                      have hil := unhide HIL
                      refine ⟨i + 1, (od ++ List.replicate k 1).length, od ++ List.replicate k 1, [], (s1.syn (key2 0)).syn (key2 1), q3, O3, ao, cap, by rw [hfin], by rw [hfin]; go_num, by go_num, by omega, by rw [hfin]; omega, hsw1, hsl1, hst1, hso1, ?_, ?_, (unhide H6).1⟩
                      · rw [hfin]; exact (unhide H6).2.2
                      · rw [hfin]; exact (unhide H6).2.1
                    case measure => simp [intOf]; omega
                  · go_wp2_with fail
                    go_roundw
                    case rel =>
                      obtain ⟨hrk, hak, hTk, hkn2, hfin⟩ := unhide H4
                      obtain ⟨hsw1, hsl1, hst1, hso1⟩ := unhide H1S
                      have hIi := unhide HI
                      have hil := unhide HIL
                      refine ⟨i + 1, sf, od ++ List.replicate k 1, G1, s1, q1, O1, ao, cap, by rw [hfin], rfl, by go_num, by omega, by rw [hfin]; omega, hsw1, hsl1, hst1, hso1, ?_, ?_, hTk⟩
                      · rw [hfin]; exact hrk
                      · rw [hfin]; exact hak
                    case measure => simp [intOf]; omega

        · have hv2' : ((v : Int) % 2 = 0) := by omega
          obtain ⟨n, hn7, hnv⟩ : ∃ n : Nat, n < 7 ∧ (v : Int) % 7 = (n : Int) := ⟨v % 7, by omega, by omega⟩
          have hmk : (Instr.makeSlice 28 (.int .i64 (n : Int)) (.int .i64 (n : Int))).run Try.prog wp = .ok (.slice (some ⟨wp.heap.size, 0, none⟩) n n) (wp.alloc (.cells (madeCells #[.int .u8 0] n) 5)) := make_n n wp (by omega)
          clear hv2 hl
          go_wp2_with fail
          clear hmk hnv
          go_loopw [19] (fun kv wr => ∃ k : Nat, k ≤ n ∧ kv = .int .i64 (k : Nat) ∧ Fil (wp.alloc (.cells (madeCells #[.int .u8 0] n) 5)) wr wp.heap.size n od.length k) (fun kv _ => n - (intOf kv).toNat)
          case atStart => exact ⟨0, Nat.zero_le _, rfl, fil_start _ _ _⟩
          case round =>
            obtain ⟨k, hk, rfl, hF⟩ := hrel
            have HF := hide hF
            clear hF
            by_cases hkn : k < n
            · obtain ⟨z, hz, hfz, -⟩ := (unhide HF).at_ k hkn
              go_wp2
              go_roundw
              case rel => exact ⟨k + 1, by omega, by go_num, (unhide HF).step hkn _ (wr256 od.length k (by have := (unhide HI).2; omega))⟩
              case measure => simp [intOf]; omega
            · rename World => wf
              have hkn2 : k = n := by omega
              have hF := unhide HF
              rw [hkn2] at hF
              have hfd : Fr (fun b => b = wp.heap.size) wp wf := ((Fr.refl _ _).alloc _).trans hF.fr (fun _ _ e => e)
              obtain ⟨hrow, hap, hT, hsw, hsl, hst, hso⟩ := unhide HS
              have hgO : ¬ O wp.heap.size := fun h => Nat.lt_irrefl _ (hT.D.lt _ h)
              have hTf := hT.go hfd (fun k e => ⟨fun h => hgO (e ▸ h), by rw [e]; exact hT.fr.size⟩)
              have hrowf : wf.ownsRow w.heap.size 5 1 (.slice oo od.length oc) od.length (cellsOf od) := ownsRow_of_block hrow (fun g hg => hfd.block g (hrow.lt g hg).2 (fun e => by have := (hrow.lt g hg).2; omega))
              have hol := (unhide HI).2
              have HC := hide (hTf.piece 0 (by decide) sX rfl (by decide) hso wp.heap.size n hF.src hgO (by omega) (by omega) (by rw [hsl]; omega) (by rw [hsl]; omega) (by rw [hst]; omega) (by rw [hst]; omega) (by rw [hsl]; omega))
              have HS2 := hide (And.intro hrowf (And.intro hap (And.intro hsw (And.intro hsl (And.intro hst (And.intro hso hTf))))))
              clear hF HF hfd hrow hap hT hsw hsl hst hso hgO hTf hrowf hol hk hkn2 HS
              go_wp2_with fail
              refine (unhide HC).mono ?_
              rintro e w1 ⟨rfl, s1, q1, O1, G1, hT1, hw1, hl1, ht1, ho1, hf1, hO1⟩
              have H1S : Hid (s1.writes = i + 1 ∧ s1.left = torn - ((i + 1 : Nat) : Int) ∧ s1.tear = b ∧ s1.off = false) := by
                obtain ⟨-, -, hsw, hsl, hst, -⟩ := unhide HS2
                exact hide ⟨by rw [hw1, hsw], by rw [hl1, hsl, if_neg (by omega)]; omega, by rw [ht1, hst], ho1⟩
              clear hw1 hl1 ht1 ho1
              clear HC
              have hlt1 : od.length ≤ 1200 := by have := (unhide HI).2; omega
              have HT1 := hide hT1
              have HRow1 : Hid (w1.ownsRow w.heap.size 5 1 (.slice oo od.length oc) od.length (cellsOf od) ∧ ∀ g, (Value.slice oo od.length oc).ownBlock = some g → ¬ O1 g) := by
                obtain ⟨hrow, hap, _⟩ := unhide HS2
                exact hide ⟨ownsRow_of_block hrow (fun g hg => hf1.block g (hrow.lt g hg).2 (hap g hg)), fun g hg h => (hO1 g h).elim (hap g hg) (fun h => by have := (hrow.lt g hg).2; omega)⟩
              clear hT1 hf1 hO1
              go_wp2_with fail
              go_loopw [14, 22] (fun ov kv wr => ∃ (k : Nat) (ao : Option Addr) (cap : Nat), k ≤ n ∧ kv = .int .i64 (k : Nat) ∧ ov = .slice ao (od.length + k) cap ∧ wr.ownsRow w.heap.size 5 1 (.slice ao (od.length + k) cap) (od.length + k) (cellsOf (od ++ List.replicate k 0)) ∧ (∀ g, (Value.slice ao (od.length + k) cap).ownBlock = some g → ¬ O1 g) ∧ TW w wr d m s1 q1 O1 (fun i => q5.fb (key2 i)) (od ++ List.replicate n 0) sf G1) (fun _ kv _ => n - (intOf kv).toNat)
              case atStart => exact ⟨0, oo, oc, Nat.zero_le _, rfl, rfl, by simpa using (unhide HRow1).1, (unhide HRow1).2, unhide HT1⟩
              case round =>
                obtain ⟨k, ao, cap, hk, rfl, rfl, hrk, hak, hTk⟩ := hrel
                rename World => wk
                by_cases hkn : k < n
                · have hck : wk.cell? ⟨xg, xof + i, none⟩ = some (.int .u8 (v : Int)) := by
                    have := src_cell ((unhide HX).fr hTk.fr (fun _ _ _ _ _ h => h)) i (unhide HIL)
                    rw [unhide HV] at this
                    exact this
                  have hlen : (od ++ List.replicate k 0).length = od.length + k := by simp
                  have happ := app_zo wk w.heap.size 0 (.slice ao (od.length + k) cap) (od ++ List.replicate k 0) (by rw [hlen]; exact hrk) hTk.fr.size (by rw [hlen]; omega)
                  rw [hlen] at happ
                  obtain ⟨ao2, cap2, w3, hr3, hown3, hf3, hb3⟩ := happ
                  have hr3' : (Builtin.append_ #[28, 28] 28 #[.slice ao (od.length + k) cap, .slice (some ⟨wk.heap.size, 0, none⟩) 1 1]).run Try.prog (wk.alloc (.cells #[.int .u8 0] 5)) = .ok (.slice ao2 (od.length + k + 1) cap2) w3 := hr3
                  have HR3 := hide hr3'
                  have hT3 := hTk.go hf3 (fun g hg => ⟨hak g hg, (hrk.lt g hg).1⟩)
                  have ha3 : ∀ g, (Value.slice ao2 (od.length + k + 1) cap2).ownBlock = some g → ¬ O1 g := fun g hg h => (hb3 g hg).elim (fun e => hak g e h) (fun e => by have := hTk.D.lt g h; omega)
                  have hrep : od ++ List.replicate k 0 ++ [0] = od ++ List.replicate (k + 1) 0 := by rw [List.append_assoc, ← List.replicate_succ']
                  rw [hrep] at hown3
                  have H3 := hide (And.intro hown3 (And.intro ha3 hT3))
                  clear hr3 hr3' hown3 hf3 hb3 hT3 ha3 hrep hrk hak hTk hlen
                  go_wp2_with (at_builtin; refine wpList_app rfl _ _ 28 28 rfl _ _ _ rfl rfl (unhide HR3) ?_; clear HR3)
                  go_roundw
                  case rel => exact ⟨k + 1, ao2, cap2, hkn, by go_num, rfl, (unhide H3).1, (unhide H3).2.1, (unhide H3).2.2⟩
                  case measure => simp [intOf]; omega
                · have hkn2 : k = n := by omega
                  have hfin : (od ++ List.replicate k 0).length = od.length + k := by simp
                  rw [← hkn2] at hTk
                  have H4 := hide (And.intro hrk (And.intro hak (And.intro hTk (And.intro hkn2 hfin))))
                  clear hrk hak hTk hkn2 hfin hk HT1 HRow1
                  by_cases hsy : (i : Int) = synced
                  · go_wp2_with fail
                    refine (sync_at d m s1 q1 O1 sX wk (unhide H4).2.2.1.D (unhide H1S).2.2.2 (by decide) ((unhide H4).2.2.1.has 0 (by decide))).mono ?_
                    rintro e w2 ⟨rfl, q2, O2, hD2, hf2, hO2⟩
                    have H5 := hide (And.intro hD2 (And.intro hf2 hO2))
                    clear hD2 hf2 hO2
                    go_wp2_with fail
                    refine (sync_at d m _ q2 O2 sY w2 (unhide H5).1 (unhide H1S).2.2.2 (by decide) ((unhide H4).2.2.1.has 1 (by decide))).mono ?_
                    rintro e w3 ⟨rfl, q3, O3, hD3, hf3, hO3⟩
                    have hT3 := (unhide H4).2.2.1.sync2 hD3 (unhide H5).2.1 hf3 (unhide H5).2.2 hO3
                    have hap2 : ∀ g, (Value.slice ao (od.length + k) cap).ownBlock = some g → ¬ O2 g := fun g hg h => ((unhide H5).2.2 g h).elim ((unhide H4).2.1 g hg) (fun e => by have := ((unhide H4).1.lt g hg).2; omega)
                    have hlt2 : ∀ g, (Value.slice ao (od.length + k) cap).ownBlock = some g → g < w2.heap.size := fun g hg => Nat.lt_of_lt_of_le ((unhide H4).1.lt g hg).2 (unhide H5).2.1.size
                    have hap3 : ∀ g, (Value.slice ao (od.length + k) cap).ownBlock = some g → ¬ O3 g := fun g hg h => (hO3 g h).elim (hap2 g hg) (fun e => by have := hlt2 g hg; omega)
                    have hrow3 : w3.ownsRow w.heap.size 5 1 (.slice ao (od.length + k) cap) (od.length + k) (cellsOf (od ++ List.replicate k 0)) := ownsRow_of_block (unhide H4).1 (fun g hg => (hf3.block g (hlt2 g hg) (hap2 g hg)).trans ((unhide H5).2.1.block g ((unhide H4).1.lt g hg).2 ((unhide H4).2.1 g hg)))
                    have H6 := hide (And.intro hT3 (And.intro hap3 hrow3))
                    clear hD3 hf3 hO3 hT3 hap2 hlt2 hap3 hrow3 H5
                    go_wp2_with fail
                    go_roundw
                    case rel =>
                      obtain ⟨hrk, hak, hTk, hkn2, hfin⟩ := unhide H4
                      obtain ⟨hsw1, hsl1, hst1, hso1⟩ := unhide H1S
                      have hIi := unhide HI
                      have hil := unhide HIL
                      refine ⟨i + 1, (od ++ List.replicate k 0).length, od ++ List.replicate k 0, [], (s1.syn (key2 0)).syn (key2 1), q3, O3, ao, cap, by rw [hfin], by rw [hfin]; go_num, by go_num, by omega, by rw [hfin]; omega, hsw1, hsl1, hst1, hso1, ?_, ?_, (unhide H6).1⟩
                      · rw [hfin]; exact (unhide H6).2.2
                      · rw [hfin]; exact (unhide H6).2.1
                    case measure => simp [intOf]; omega
                  · go_wp2_with fail
                    go_roundw
                    case rel =>
                      obtain ⟨hrk, hak, hTk, hkn2, hfin⟩ := unhide H4
                      obtain ⟨hsw1, hsl1, hst1, hso1⟩ := unhide H1S
                      have hIi := unhide HI
                      have hil := unhide HIL
                      refine ⟨i + 1, sf, od ++ List.replicate k 0, G1, s1, q1, O1, ao, cap, by rw [hfin], rfl, by go_num, by omega, by rw [hfin]; omega, hsw1, hsl1, hst1, hso1, ?_, ?_, hTk⟩
                      · rw [hfin]; exact hrk
                      · rw [hfin]; exact hak
                    case measure => simp [intOf]; omega

  · clear HCS
    obtain ⟨xg, xof, rfl, -⟩ := src_at (unhide HX) 0 (by omega)
    have h200 : (200 : Int) ≤ (xc : Int) := by have := unhide HXC; omega
    have h200n : 200 ≤ xc := by omega
    have HDE := hide hde
    have hbig' : (200 : Int) < (N : Int) := by omega
    have hb200 : torn ≤ (200 : Int) := by omega
    clear hde
    go_wp2_with fail
    refine (arm_ok d m _ q5 O5 torn b w5 (unhide HT5).D rfl (by omega) (by omega)).mono ?_
    rintro e w6 ⟨rfl, hD6, hf6⟩
    have HT6 := hide ((unhide HT5).armed hD6 hf6)
    clear hD6 hf6
    go_wp2_with fail
    go_loopw [14, 15, 16, 17, 18, 19, 20, 21, 22] (fun ov sv iv _ _ _ _ _ _ wr => ∃ (i sf : Nat) (od : List Nat) (G : List Own3) (s : DM) (q : DW) (O : Nat → Prop) (oo : Option Addr) (oc : Nat), ov = .slice oo od.length oc ∧ sv = .int .i64 (sf : Nat) ∧ iv = .int .i64 (i : Nat) ∧ (i : Int) < torn ∧ od.length ≤ i * 6 ∧ s.writes = i ∧ s.left = torn - (i : Int) ∧ s.tear = b ∧ s.off = false ∧ wr.ownsRow w.heap.size 5 1 (.slice oo od.length oc) od.length (cellsOf od) ∧ (∀ g, (Value.slice oo od.length oc).ownBlock = some g → ¬ O g) ∧ TW w wr d m s q O (fun i => q5.fb (key2 i)) od sf G) (fun _ _ iv _ _ _ _ _ _ _ => 200 - (intOf iv).toNat)
    case atStart => exact ⟨0, 0, [], [], _, q5, O5, none, 0, rfl, rfl, rfl, by omega, Nat.zero_le _, rfl, by simp, rfl, rfl, World.ownsRow_nil _ _ _ _, fun g hg => (by cases hg), unhide HT6⟩
    case round =>
      obtain ⟨i, sf, od, G, s, q, O, oo, oc, rfl, rfl, rfl, hi, hol, hsw, hsl, hst, hso, hrow, hap, hT⟩ := hrel
      rename World => wp
      have hl := unhide HL
      have hil : i < pc.length := by omega
      have hc := src_cell ((unhide HX).fr hT.fr (fun _ _ _ _ _ h => h)) i hil
      have hv256 : pc[i] % 256 < 256 := Nat.mod_lt _ (by decide)
      obtain ⟨v, hv⟩ : ∃ v, pc[i] % 256 = v := ⟨_, rfl⟩
      rw [hv] at hc hv256
      have HV := hide hv
      have HS := hide (And.intro hrow (And.intro hap (And.intro hT (And.intro hsw (And.intro hsl (And.intro hst hso))))))
      have HI := hide (And.intro hi hol)
      have HIL := hide hil
      have hle200 : i < 200 := by omega
      clear hrow hap hsw hsl hst hso hT hv hol
      by_cases htn : (i : Int) + 1 = torn
      · by_cases hv2 : v % 2 = 1
        · have hv2' : ((v : Int) % 2 = 1) := by omega
          obtain ⟨n, hn7, hnv⟩ : ∃ n : Nat, n < 7 ∧ (v : Int) % 7 = (n : Int) := ⟨v % 7, by omega, by omega⟩
          have hmk : (Instr.makeSlice 28 (.int .i64 (n : Int)) (.int .i64 (n : Int))).run Try.prog wp = .ok (.slice (some ⟨wp.heap.size, 0, none⟩) n n) (wp.alloc (.cells (madeCells #[.int .u8 0] n) 5)) := make_n n wp (by omega)
          clear hv2 hl
          obtain ⟨c, hcm⟩ : ∃ c : Nat, min (n : Int) b = (c : Nat) := ⟨(min (n : Int) b).toNat, by omega⟩
          have hc7 : c < 7 := by omega
          go_wp2_with fail
          clear hmk hnv
          go_loopw [19] (fun kv wr => ∃ k : Nat, k ≤ n ∧ kv = .int .i64 (k : Nat) ∧ Fil (wp.alloc (.cells (madeCells #[.int .u8 0] n) 5)) wr wp.heap.size n od.length k) (fun kv _ => n - (intOf kv).toNat)
          case atStart => exact ⟨0, Nat.zero_le _, rfl, fil_start _ _ _⟩
          case round =>
            obtain ⟨k, hk, rfl, hF⟩ := hrel
            have HF := hide hF
            clear hF
            by_cases hkn : k < n
            · obtain ⟨z, hz, hfz, -⟩ := (unhide HF).at_ k hkn
              go_wp2
              go_roundw
              case rel => exact ⟨k + 1, by omega, by go_num, (unhide HF).step hkn _ (wr256 od.length k (by have := (unhide HI).2; omega))⟩
              case measure => simp [intOf]; omega
            · rename World => wf
              have hkn2 : k = n := by omega
              have hF := unhide HF
              rw [hkn2] at hF
              have hfd : Fr (fun b => b = wp.heap.size) wp wf := ((Fr.refl _ _).alloc _).trans hF.fr (fun _ _ e => e)
              obtain ⟨hrow, hap, hT, hsw, hsl, hst, hso⟩ := unhide HS
              have hgO : ¬ O wp.heap.size := fun h => Nat.lt_irrefl _ (hT.D.lt _ h)
              have hTf := hT.go hfd (fun k e => ⟨fun h => hgO (e ▸ h), by rw [e]; exact hT.fr.size⟩)
              have hrowf : wf.ownsRow w.heap.size 5 1 (.slice oo od.length oc) od.length (cellsOf od) := ownsRow_of_block hrow (fun g hg => hfd.block g (hrow.lt g hg).2 (fun e => by have := (hrow.lt g hg).2; omega))
              have hol := (unhide HI).2
              have HC := hide (hTf.torn 1 (by decide) sY rfl (by decide) hso wp.heap.size n c hF.src hgO (by omega) (by omega) (by rw [hst]; omega) (by rw [hst]; omega) (by rw [hsl]; omega) (by rw [hst]; exact hcm))
              have HS2 := hide (And.intro hrowf (And.intro hap (And.intro hsw (And.intro hsl (And.intro hst (And.intro hso hTf))))))
              clear hF HF hfd hrow hap hT hsw hsl hst hso hgO hTf hrowf hol hk hkn2 HS
              go_wp2_with fail
              refine (unhide HC).mono ?_
              rintro e w1 ⟨rfl, s1, q1, O1, G1, hT1, ho1, hf1, hO1⟩
              clear HC
              have hlt1 : od.length ≤ 1200 := by have := (unhide HI).2; omega
              have HT1 := hide hT1
              have HRow1 : Hid (w1.ownsRow w.heap.size 5 1 (.slice oo od.length oc) od.length (cellsOf od) ∧ ∀ g, (Value.slice oo od.length oc).ownBlock = some g → ¬ O1 g) := by
                obtain ⟨hrow, hap, _⟩ := unhide HS2
                exact hide ⟨ownsRow_of_block hrow (fun g hg => hf1.block g (hrow.lt g hg).2 (hap g hg)), fun g hg h => (hO1 g h).elim (hap g hg) (fun h => by have := (hrow.lt g hg).2; omega)⟩
              clear hT1 hf1 hO1
              go_wp2_with fail
              go_loopw [14, 22] (fun ov kv wr => ∃ (k : Nat) (ao : Option Addr) (cap : Nat), k ≤ c ∧ kv = .int .i64 (k : Nat) ∧ ov = .slice ao (od.length + k) cap ∧ wr.ownsRow w.heap.size 5 1 (.slice ao (od.length + k) cap) (od.length + k) (cellsOf (od ++ List.replicate k 1)) ∧ (∀ g, (Value.slice ao (od.length + k) cap).ownBlock = some g → ¬ O1 g) ∧ TW w wr d m s1 q1 O1 (fun i => q5.fb (key2 i)) (od ++ List.replicate c 1) sf G1) (fun _ kv _ => c - (intOf kv).toNat)
              case atStart => exact ⟨0, oo, oc, Nat.zero_le _, rfl, rfl, by simpa using (unhide HRow1).1, (unhide HRow1).2, unhide HT1⟩
              case round =>
                obtain ⟨k, ao, cap, hk, rfl, rfl, hrk, hak, hTk⟩ := hrel
                rename World => wk
                by_cases hkn : k < c
                · have hck : wk.cell? ⟨xg, xof + i, none⟩ = some (.int .u8 (v : Int)) := by
                    have := src_cell ((unhide HX).fr hTk.fr (fun _ _ _ _ _ h => h)) i (unhide HIL)
                    rw [unhide HV] at this
                    exact this
                  have hlen : (od ++ List.replicate k 1).length = od.length + k := by simp
                  have happ := app_zo wk w.heap.size 1 (.slice ao (od.length + k) cap) (od ++ List.replicate k 1) (by rw [hlen]; exact hrk) hTk.fr.size (by rw [hlen]; omega)
                  rw [hlen] at happ
                  obtain ⟨ao2, cap2, w3, hr3, hown3, hf3, hb3⟩ := happ
                  have hr3' : (Builtin.append_ #[28, 28] 28 #[.slice ao (od.length + k) cap, .slice (some ⟨wk.heap.size, 0, none⟩) 1 1]).run Try.prog (wk.alloc (.cells #[.int .u8 1] 5)) = .ok (.slice ao2 (od.length + k + 1) cap2) w3 := hr3
                  have HR3 := hide hr3'
                  have hT3 := hTk.go hf3 (fun g hg => ⟨hak g hg, (hrk.lt g hg).1⟩)
                  have ha3 : ∀ g, (Value.slice ao2 (od.length + k + 1) cap2).ownBlock = some g → ¬ O1 g := fun g hg h => (hb3 g hg).elim (fun e => hak g e h) (fun e => by have := hTk.D.lt g h; omega)
                  have hrep : od ++ List.replicate k 1 ++ [1] = od ++ List.replicate (k + 1) 1 := by rw [List.append_assoc, ← List.replicate_succ']
                  rw [hrep] at hown3
                  have H3 := hide (And.intro hown3 (And.intro ha3 hT3))
                  clear hr3 hr3' hown3 hf3 hb3 hT3 ha3 hrep hrk hak hTk hlen
                  go_wp2_with (at_builtin; refine wpList_app rfl _ _ 28 28 rfl _ _ _ rfl rfl (unhide HR3) ?_; clear HR3)
                  go_roundw
                  case rel => exact ⟨k + 1, ao2, cap2, hkn, by go_num, rfl, (unhide H3).1, (unhide H3).2.1, (unhide H3).2.2⟩
                  case measure => simp [intOf]; omega
                · have hkn2 : k = c := by omega
                  have hfin : (od ++ List.replicate k 1).length = od.length + k := by simp
                  rw [← hkn2] at hTk
                  obtain ⟨odz, hod2⟩ : ∃ odz, odz = od ++ List.replicate k 1 := ⟨_, rfl⟩
                  rw [← hod2] at hrk hTk
                  have hlen2 : od.length + k = odz.length := by rw [hod2]; simp
                  rw [hlen2] at hrk hak
                  rw [hlen2]
                  have hb2 : odz.length ≤ 1300 := by omega
                  have HO1 := hide ho1
                  clear hkn2 hfin hk HT1 HRow1 hod2 hlen2 ho1 hlt1
                  have hrow := hrk
                  have hap := hak
                  have hT := hTk
                  clear hrk hak hTk
                  have hoff := off_any d m s1 q1 O1 wk hT.D
                  rw [unhide HO1] at hoff
                  have HOF := hide hoff
                  clear hoff
                  have HSZ := hide (And.intro hrow (And.intro hap hT))
                  clear hrow hap hT
                  go_wp2_with fail
                  refine (unhide HOF).mono ?_
                  rintro e wz ⟨rfl, rfl⟩
                  clear HOF
                  obtain ⟨hrow, hap, hT⟩ := unhide HSZ
                  clear HSZ
                  have hod : odz.length ≤ 1300 := hb2
                  have hle := hT.t.le
                  have HS := hide (And.intro hrow (And.intro hap (And.intro hT trivial)))
                  clear hrow hap hT
                  go_wp2_with fail
                  refine ((unhide HS).2.2.1.pending (by omega)).mono ?_
                  rintro e w6 ⟨rfl, hf6⟩
                  have HT6 := hide ((unhide HS).2.2.1.go hf6 (fun _ h => h.elim))
                  go_wp2_with fail
                  refine ((unhide HT6).crash keep hkr (by omega)).mono ?_
                  rintro e w7 ⟨rfl, q7, hD7, hf7⟩
                  have H7 := hide (And.intro hD7 hf7)
                  clear hD7 hf7
                  go_wp2_with fail
                  refine (start_any d m _ q7 O1 w7 (unhide H7).1).mono ?_
                  rintro e w8 ⟨rfl, hD8, hf8⟩
                  obtain ⟨LN, hLN⟩ : ∃ LN : Nat, LN = sf + min keep.toNat (odz.length - sf) := ⟨_, rfl⟩
                  have eLN : (sf : Int) + max 0 (min keep ((odz.length : Int) - (sf : Int))) = (LN : Int) := by omega
                  have hLl : LN ≤ odz.length := by omega
                  have etk : odz.take (sf + keep.toNat) = odz.take LN := by rw [List.take_eq_take_iff]; omega
                  obtain ⟨s', hs'⟩ : ∃ s' : DM, s' = { ((s1.offd).plus q1 G1 keep.toNat).crashT with off := false } := ⟨_, rfl⟩
                  rw [← hs'] at hD8
                  obtain ⟨hB1, hB2, hB3, hB4⟩ := (unhide HT6).behind keep.toNat (by omega) s' hs'
                  have hPN := pending_any d m s' q7 O1 w8 hD8 (fun x => by have h1 := hB4 x; simp only [DM.pd]; exact ⟨by omega, by omega⟩) hB3 (fun x => by have h1 := hB4 x; exact ⟨by omega, by omega⟩)
                  rw [hB2] at hPN
                  have HP := hide hPN
                  have HE := hide (And.intro eLN etk)
                  have H8 := hide (And.intro hD8 (And.intro hf8 (And.intro hB1 (And.intro hB4 hs'))))
                  have hoc := own_cap (unhide HS).1
                  clear hPN hD8 hf8 hB1 hB2 hB3 hB4 eLN etk hs' hLN
                  go_wp2_with fail
                  rw [(unhide HE).1]
                  refine (unhide HP).mono ?_
                  rintro e w9 ⟨rfl, hf9⟩
                  have hrow9 : w9.ownsRow w.heap.size 5 1 (.slice ao odz.length cap) odz.length (cellsOf odz) := by
                    obtain ⟨hrow, hap, hT, _⟩ := unhide HS
                    refine ownsRow_of_block hrow (fun g hg => ?_)
                    have hl0 := (hrow.lt g hg).2
                    have hl6 := Nat.lt_of_lt_of_le hl0 hf6.size
                    have hl7 := Nat.lt_of_lt_of_le hl6 (unhide H7).2.size
                    have hl8 := Nat.lt_of_lt_of_le hl7 (unhide H8).2.1.size
                    rw [hf9.block g hl8 (fun h => h), (unhide H8).2.1.block g hl7 (fun e => hap g hg (by rw [e]; exact hT.D.od)), (unhide H7).2.block g hl6 (hap g hg), hf6.block g hl0 (fun h => h)]
                  have hD9 : DkAt w9 d m s' q7 O1 := (unhide H8).1.fr hf9 (fun _ _ h => h)
                  have hF9 : Fr (fun _ => False) w w9 := by
                    have hT := (unhide HT6)
                    have h7 : Fr (fun _ => False) w w7 := hT.fr.absorb (unhide H7).2 hT.o
                    have h8 : Fr (fun _ => False) w w8 := h7.absorb (unhide H8).2.1 (fun k e => by rw [e]; exact hT.o _ hT.D.od)
                    exact h8.trans hf9 (fun _ _ h => h)
                  have hso : s'.off = false := by rw [(unhide H8).2.2.2.2]
                  have hx9 := src_pre hrow9 hLl
                  have hlt : (odz.take LN).length = LN := by rw [List.length_take, Nat.min_eq_left hLl]
                  have hb := (unhide H8).2.2.1
                  have HH1 := hide (holds_at d m 0 s' q7 O1 sX _ (odz.take LN) w9 hD9 hso (by decide) (hb 0 (by decide)).1 hx9 (by omega) (by decide) (by rw [← (unhide HE).2]; exact (hb 0 (by decide)).2))
                  have H9 := hide (And.intro hD9 (And.intro hF9 (And.intro hx9 hso)))
                  clear hrow9 hD9 hF9 hx9 hb hf9 hso hlt
                  go_wp2_with fail
                  refine (unhide HH1).mono ?_
                  rintro e w10 ⟨rfl, hf10⟩
                  have hlt : (odz.take LN).length ≤ 1000000 := by rw [List.length_take]; omega
                  have HH2 := hide (holds_at d m 1 s' q7 O1 sY _ (odz.take LN) w10 ((unhide H9).1.fr hf10 (fun _ _ h => h)) (unhide H9).2.2.2 (by decide) ((unhide H8).2.2.1 1 (by decide)).1 ((unhide H9).2.2.1.fr hf10 (fun _ _ _ _ _ h => h)) hlt (by decide) (by rw [← (unhide HE).2]; exact ((unhide H8).2.2.1 1 (by decide)).2))
                  have HF10 := hide ((unhide H9).2.1.trans hf10 (fun _ _ h => h))
                  clear hf10 hlt
                  go_wp2_with fail
                  refine (unhide HH2).mono ?_
                  rintro e w11 ⟨rfl, hf11⟩
                  have HF11 := hide ((unhide HF10).trans hf11 (fun _ _ h => h))
                  clear hf11
                  go_wp2_with fail
                  go_ret
                  exact ⟨rfl, unhide HF11⟩

        · have hv2' : ((v : Int) % 2 = 0) := by omega
          obtain ⟨n, hn7, hnv⟩ : ∃ n : Nat, n < 7 ∧ (v : Int) % 7 = (n : Int) := ⟨v % 7, by omega, by omega⟩
          have hmk : (Instr.makeSlice 28 (.int .i64 (n : Int)) (.int .i64 (n : Int))).run Try.prog wp = .ok (.slice (some ⟨wp.heap.size, 0, none⟩) n n) (wp.alloc (.cells (madeCells #[.int .u8 0] n) 5)) := make_n n wp (by omega)
          clear hv2 hl
          obtain ⟨c, hcm⟩ : ∃ c : Nat, min (n : Int) b = (c : Nat) := ⟨(min (n : Int) b).toNat, by omega⟩
          have hc7 : c < 7 := by omega
          go_wp2_with fail
          clear hmk hnv
          go_loopw [19] (fun kv wr => ∃ k : Nat, k ≤ n ∧ kv = .int .i64 (k : Nat) ∧ Fil (wp.alloc (.cells (madeCells #[.int .u8 0] n) 5)) wr wp.heap.size n od.length k) (fun kv _ => n - (intOf kv).toNat)
          case atStart => exact ⟨0, Nat.zero_le _, rfl, fil_start _ _ _⟩
          case round =>
            obtain ⟨k, hk, rfl, hF⟩ := hrel
            have HF := hide hF
            clear hF
            by_cases hkn : k < n
            · obtain ⟨z, hz, hfz, -⟩ := (unhide HF).at_ k hkn
              go_wp2
              go_roundw
              case rel => exact ⟨k + 1, by omega, by go_num, (unhide HF).step hkn _ (wr256 od.length k (by have := (unhide HI).2; omega))⟩
              case measure => simp [intOf]; omega
            · rename World => wf
              have hkn2 : k = n := by omega
              have hF := unhide HF
              rw [hkn2] at hF
              have hfd : Fr (fun b => b = wp.heap.size) wp wf := ((Fr.refl _ _).alloc _).trans hF.fr (fun _ _ e => e)
              obtain ⟨hrow, hap, hT, hsw, hsl, hst, hso⟩ := unhide HS
              have hgO : ¬ O wp.heap.size := fun h => Nat.lt_irrefl _ (hT.D.lt _ h)
              have hTf := hT.go hfd (fun k e => ⟨fun h => hgO (e ▸ h), by rw [e]; exact hT.fr.size⟩)
              have hrowf : wf.ownsRow w.heap.size 5 1 (.slice oo od.length oc) od.length (cellsOf od) := ownsRow_of_block hrow (fun g hg => hfd.block g (hrow.lt g hg).2 (fun e => by have := (hrow.lt g hg).2; omega))
              have hol := (unhide HI).2
              have HC := hide (hTf.torn 0 (by decide) sX rfl (by decide) hso wp.heap.size n c hF.src hgO (by omega) (by omega) (by rw [hst]; omega) (by rw [hst]; omega) (by rw [hsl]; omega) (by rw [hst]; exact hcm))
              have HS2 := hide (And.intro hrowf (And.intro hap (And.intro hsw (And.intro hsl (And.intro hst (And.intro hso hTf))))))
              clear hF HF hfd hrow hap hT hsw hsl hst hso hgO hTf hrowf hol hk hkn2 HS
              go_wp2_with fail
              refine (unhide HC).mono ?_
              rintro e w1 ⟨rfl, s1, q1, O1, G1, hT1, ho1, hf1, hO1⟩
              clear HC
              have hlt1 : od.length ≤ 1200 := by have := (unhide HI).2; omega
              have HT1 := hide hT1
              have HRow1 : Hid (w1.ownsRow w.heap.size 5 1 (.slice oo od.length oc) od.length (cellsOf od) ∧ ∀ g, (Value.slice oo od.length oc).ownBlock = some g → ¬ O1 g) := by
                obtain ⟨hrow, hap, _⟩ := unhide HS2
                exact hide ⟨ownsRow_of_block hrow (fun g hg => hf1.block g (hrow.lt g hg).2 (hap g hg)), fun g hg h => (hO1 g h).elim (hap g hg) (fun h => by have := (hrow.lt g hg).2; omega)⟩
              clear hT1 hf1 hO1
              go_wp2_with fail
              go_loopw [14, 22] (fun ov kv wr => ∃ (k : Nat) (ao : Option Addr) (cap : Nat), k ≤ c ∧ kv = .int .i64 (k : Nat) ∧ ov = .slice ao (od.length + k) cap ∧ wr.ownsRow w.heap.size 5 1 (.slice ao (od.length + k) cap) (od.length + k) (cellsOf (od ++ List.replicate k 0)) ∧ (∀ g, (Value.slice ao (od.length + k) cap).ownBlock = some g → ¬ O1 g) ∧ TW w wr d m s1 q1 O1 (fun i => q5.fb (key2 i)) (od ++ List.replicate c 0) sf G1) (fun _ kv _ => c - (intOf kv).toNat)
              case atStart => exact ⟨0, oo, oc, Nat.zero_le _, rfl, rfl, by simpa using (unhide HRow1).1, (unhide HRow1).2, unhide HT1⟩
              case round =>
                obtain ⟨k, ao, cap, hk, rfl, rfl, hrk, hak, hTk⟩ := hrel
                rename World => wk
                by_cases hkn : k < c
                · have hck : wk.cell? ⟨xg, xof + i, none⟩ = some (.int .u8 (v : Int)) := by
                    have := src_cell ((unhide HX).fr hTk.fr (fun _ _ _ _ _ h => h)) i (unhide HIL)
                    rw [unhide HV] at this
                    exact this
                  have hlen : (od ++ List.replicate k 0).length = od.length + k := by simp
                  have happ := app_zo wk w.heap.size 0 (.slice ao (od.length + k) cap) (od ++ List.replicate k 0) (by rw [hlen]; exact hrk) hTk.fr.size (by rw [hlen]; omega)
                  rw [hlen] at happ
                  obtain ⟨ao2, cap2, w3, hr3, hown3, hf3, hb3⟩ := happ
                  have hr3' : (Builtin.append_ #[28, 28] 28 #[.slice ao (od.length + k) cap, .slice (some ⟨wk.heap.size, 0, none⟩) 1 1]).run Try.prog (wk.alloc (.cells #[.int .u8 0] 5)) = .ok (.slice ao2 (od.length + k + 1) cap2) w3 := hr3
                  have HR3 := hide hr3'
                  have hT3 := hTk.go hf3 (fun g hg => ⟨hak g hg, (hrk.lt g hg).1⟩)
                  have ha3 : ∀ g, (Value.slice ao2 (od.length + k + 1) cap2).ownBlock = some g → ¬ O1 g := fun g hg h => (hb3 g hg).elim (fun e => hak g e h) (fun e => by have := hTk.D.lt g h; omega)
                  have hrep : od ++ List.replicate k 0 ++ [0] = od ++ List.replicate (k + 1) 0 := by rw [List.append_assoc, ← List.replicate_succ']
                  rw [hrep] at hown3
                  have H3 := hide (And.intro hown3 (And.intro ha3 hT3))
                  clear hr3 hr3' hown3 hf3 hb3 hT3 ha3 hrep hrk hak hTk hlen
                  go_wp2_with (at_builtin; refine wpList_app rfl _ _ 28 28 rfl _ _ _ rfl rfl (unhide HR3) ?_; clear HR3)
                  go_roundw
                  case rel => exact ⟨k + 1, ao2, cap2, hkn, by go_num, rfl, (unhide H3).1, (unhide H3).2.1, (unhide H3).2.2⟩
                  case measure => simp [intOf]; omega
                · have hkn2 : k = c := by omega
                  have hfin : (od ++ List.replicate k 0).length = od.length + k := by simp
                  rw [← hkn2] at hTk
                  obtain ⟨odz, hod2⟩ : ∃ odz, odz = od ++ List.replicate k 0 := ⟨_, rfl⟩
                  rw [← hod2] at hrk hTk
                  have hlen2 : od.length + k = odz.length := by rw [hod2]; simp
                  rw [hlen2] at hrk hak
                  rw [hlen2]
                  have hb2 : odz.length ≤ 1300 := by omega
                  have HO1 := hide ho1
                  clear hkn2 hfin hk HT1 HRow1 hod2 hlen2 ho1 hlt1
                  have hrow := hrk
                  have hap := hak
                  have hT := hTk
                  clear hrk hak hTk
                  have hoff := off_any d m s1 q1 O1 wk hT.D
                  rw [unhide HO1] at hoff
                  have HOF := hide hoff
                  clear hoff
                  have HSZ := hide (And.intro hrow (And.intro hap hT))
                  clear hrow hap hT
                  go_wp2_with fail
                  refine (unhide HOF).mono ?_
                  rintro e wz ⟨rfl, rfl⟩
                  clear HOF
                  obtain ⟨hrow, hap, hT⟩ := unhide HSZ
                  clear HSZ
                  have hod : odz.length ≤ 1300 := hb2
                  have hle := hT.t.le
                  have HS := hide (And.intro hrow (And.intro hap (And.intro hT trivial)))
                  clear hrow hap hT
                  go_wp2_with fail
                  refine ((unhide HS).2.2.1.pending (by omega)).mono ?_
                  rintro e w6 ⟨rfl, hf6⟩
                  have HT6 := hide ((unhide HS).2.2.1.go hf6 (fun _ h => h.elim))
                  go_wp2_with fail
                  refine ((unhide HT6).crash keep hkr (by omega)).mono ?_
                  rintro e w7 ⟨rfl, q7, hD7, hf7⟩
                  have H7 := hide (And.intro hD7 hf7)
                  clear hD7 hf7
                  go_wp2_with fail
                  refine (start_any d m _ q7 O1 w7 (unhide H7).1).mono ?_
                  rintro e w8 ⟨rfl, hD8, hf8⟩
                  obtain ⟨LN, hLN⟩ : ∃ LN : Nat, LN = sf + min keep.toNat (odz.length - sf) := ⟨_, rfl⟩
                  have eLN : (sf : Int) + max 0 (min keep ((odz.length : Int) - (sf : Int))) = (LN : Int) := by omega
                  have hLl : LN ≤ odz.length := by omega
                  have etk : odz.take (sf + keep.toNat) = odz.take LN := by rw [List.take_eq_take_iff]; omega
                  obtain ⟨s', hs'⟩ : ∃ s' : DM, s' = { ((s1.offd).plus q1 G1 keep.toNat).crashT with off := false } := ⟨_, rfl⟩
                  rw [← hs'] at hD8
                  obtain ⟨hB1, hB2, hB3, hB4⟩ := (unhide HT6).behind keep.toNat (by omega) s' hs'
                  have hPN := pending_any d m s' q7 O1 w8 hD8 (fun x => by have h1 := hB4 x; simp only [DM.pd]; exact ⟨by omega, by omega⟩) hB3 (fun x => by have h1 := hB4 x; exact ⟨by omega, by omega⟩)
                  rw [hB2] at hPN
                  have HP := hide hPN
                  have HE := hide (And.intro eLN etk)
                  have H8 := hide (And.intro hD8 (And.intro hf8 (And.intro hB1 (And.intro hB4 hs'))))
                  have hoc := own_cap (unhide HS).1
                  clear hPN hD8 hf8 hB1 hB2 hB3 hB4 eLN etk hs' hLN
                  go_wp2_with fail
                  rw [(unhide HE).1]
                  refine (unhide HP).mono ?_
                  rintro e w9 ⟨rfl, hf9⟩
                  have hrow9 : w9.ownsRow w.heap.size 5 1 (.slice ao odz.length cap) odz.length (cellsOf odz) := by
                    obtain ⟨hrow, hap, hT, _⟩ := unhide HS
                    refine ownsRow_of_block hrow (fun g hg => ?_)
                    have hl0 := (hrow.lt g hg).2
                    have hl6 := Nat.lt_of_lt_of_le hl0 hf6.size
                    have hl7 := Nat.lt_of_lt_of_le hl6 (unhide H7).2.size
                    have hl8 := Nat.lt_of_lt_of_le hl7 (unhide H8).2.1.size
                    rw [hf9.block g hl8 (fun h => h), (unhide H8).2.1.block g hl7 (fun e => hap g hg (by rw [e]; exact hT.D.od)), (unhide H7).2.block g hl6 (hap g hg), hf6.block g hl0 (fun h => h)]
                  have hD9 : DkAt w9 d m s' q7 O1 := (unhide H8).1.fr hf9 (fun _ _ h => h)
                  have hF9 : Fr (fun _ => False) w w9 := by
                    have hT := (unhide HT6)
                    have h7 : Fr (fun _ => False) w w7 := hT.fr.absorb (unhide H7).2 hT.o
                    have h8 : Fr (fun _ => False) w w8 := h7.absorb (unhide H8).2.1 (fun k e => by rw [e]; exact hT.o _ hT.D.od)
                    exact h8.trans hf9 (fun _ _ h => h)
                  have hso : s'.off = false := by rw [(unhide H8).2.2.2.2]
                  have hx9 := src_pre hrow9 hLl
                  have hlt : (odz.take LN).length = LN := by rw [List.length_take, Nat.min_eq_left hLl]
                  have hb := (unhide H8).2.2.1
                  have HH1 := hide (holds_at d m 0 s' q7 O1 sX _ (odz.take LN) w9 hD9 hso (by decide) (hb 0 (by decide)).1 hx9 (by omega) (by decide) (by rw [← (unhide HE).2]; exact (hb 0 (by decide)).2))
                  have H9 := hide (And.intro hD9 (And.intro hF9 (And.intro hx9 hso)))
                  clear hrow9 hD9 hF9 hx9 hb hf9 hso hlt
                  go_wp2_with fail
                  refine (unhide HH1).mono ?_
                  rintro e w10 ⟨rfl, hf10⟩
                  have hlt : (odz.take LN).length ≤ 1000000 := by rw [List.length_take]; omega
                  have HH2 := hide (holds_at d m 1 s' q7 O1 sY _ (odz.take LN) w10 ((unhide H9).1.fr hf10 (fun _ _ h => h)) (unhide H9).2.2.2 (by decide) ((unhide H8).2.2.1 1 (by decide)).1 ((unhide H9).2.2.1.fr hf10 (fun _ _ _ _ _ h => h)) hlt (by decide) (by rw [← (unhide HE).2]; exact ((unhide H8).2.2.1 1 (by decide)).2))
                  have HF10 := hide ((unhide H9).2.1.trans hf10 (fun _ _ h => h))
                  clear hf10 hlt
                  go_wp2_with fail
                  refine (unhide HH2).mono ?_
                  rintro e w11 ⟨rfl, hf11⟩
                  have HF11 := hide ((unhide HF10).trans hf11 (fun _ _ h => h))
                  clear hf11
                  go_wp2_with fail
                  go_ret
                  exact ⟨rfl, unhide HF11⟩

      · have htn' : ((i : Int) + 1 == torn) = false := by simp only [beq_eq_false_iff_ne, ne_eq]; exact htn
        have htn2 : decide ((i : Int) + 1 = torn) = false := decide_eq_false htn
        by_cases hv2 : v % 2 = 1
        · have hv2' : ((v : Int) % 2 = 1) := by omega
          obtain ⟨n, hn7, hnv⟩ : ∃ n : Nat, n < 7 ∧ (v : Int) % 7 = (n : Int) := ⟨v % 7, by omega, by omega⟩
          have hmk : (Instr.makeSlice 28 (.int .i64 (n : Int)) (.int .i64 (n : Int))).run Try.prog wp = .ok (.slice (some ⟨wp.heap.size, 0, none⟩) n n) (wp.alloc (.cells (madeCells #[.int .u8 0] n) 5)) := make_n n wp (by omega)
          clear hv2 hl
          go_wp2_with fail
          clear hmk hnv
          go_loopw [19] (fun kv wr => ∃ k : Nat, k ≤ n ∧ kv = .int .i64 (k : Nat) ∧ Fil (wp.alloc (.cells (madeCells #[.int .u8 0] n) 5)) wr wp.heap.size n od.length k) (fun kv _ => n - (intOf kv).toNat)
          case atStart => exact ⟨0, Nat.zero_le _, rfl, fil_start _ _ _⟩
          case round =>
            obtain ⟨k, hk, rfl, hF⟩ := hrel
            have HF := hide hF
            clear hF
            by_cases hkn : k < n
            · obtain ⟨z, hz, hfz, -⟩ := (unhide HF).at_ k hkn
              go_wp2
              go_roundw
              case rel => exact ⟨k + 1, by omega, by go_num, (unhide HF).step hkn _ (wr256 od.length k (by have := (unhide HI).2; omega))⟩
              case measure => simp [intOf]; omega
            · rename World => wf
              have hkn2 : k = n := by omega
              have hF := unhide HF
              rw [hkn2] at hF
              have hfd : Fr (fun b => b = wp.heap.size) wp wf := ((Fr.refl _ _).alloc _).trans hF.fr (fun _ _ e => e)
              obtain ⟨hrow, hap, hT, hsw, hsl, hst, hso⟩ := unhide HS
              have hgO : ¬ O wp.heap.size := fun h => Nat.lt_irrefl _ (hT.D.lt _ h)
              have hTf := hT.go hfd (fun k e => ⟨fun h => hgO (e ▸ h), by rw [e]; exact hT.fr.size⟩)
              have hrowf : wf.ownsRow w.heap.size 5 1 (.slice oo od.length oc) od.length (cellsOf od) := ownsRow_of_block hrow (fun g hg => hfd.block g (hrow.lt g hg).2 (fun e => by have := (hrow.lt g hg).2; omega))
              have hol := (unhide HI).2
              have HC := hide (hTf.piece 1 (by decide) sY rfl (by decide) hso wp.heap.size n hF.src hgO (by omega) (by omega) (by rw [hsl]; omega) (by rw [hsl]; omega) (by rw [hst]; omega) (by rw [hst]; omega) (by rw [hsl]; omega))
              have HS2 := hide (And.intro hrowf (And.intro hap (And.intro hsw (And.intro hsl (And.intro hst (And.intro hso hTf))))))
              clear hF HF hfd hrow hap hT hsw hsl hst hso hgO hTf hrowf hol hk hkn2 HS
              go_wp2_with fail
              refine (unhide HC).mono ?_
              rintro e w1 ⟨rfl, s1, q1, O1, G1, hT1, hw1, hl1, ht1, ho1, hf1, hO1⟩
              have H1S : Hid (s1.writes = i + 1 ∧ s1.left = torn - ((i + 1 : Nat) : Int) ∧ s1.tear = b ∧ s1.off = false) := by
                obtain ⟨-, -, hsw, hsl, hst, -⟩ := unhide HS2
                exact hide ⟨by rw [hw1, hsw], by rw [hl1, hsl, if_neg (by omega)]; omega, by rw [ht1, hst], ho1⟩
              clear hw1 hl1 ht1 ho1
              clear HC
              have hlt1 : od.length ≤ 1200 := by have := (unhide HI).2; omega
              have HT1 := hide hT1
              have HRow1 : Hid (w1.ownsRow w.heap.size 5 1 (.slice oo od.length oc) od.length (cellsOf od) ∧ ∀ g, (Value.slice oo od.length oc).ownBlock = some g → ¬ O1 g) := by
                obtain ⟨hrow, hap, _⟩ := unhide HS2
                exact hide ⟨ownsRow_of_block hrow (fun g hg => hf1.block g (hrow.lt g hg).2 (hap g hg)), fun g hg h => (hO1 g h).elim (hap g hg) (fun h => by have := (hrow.lt g hg).2; omega)⟩
              clear hT1 hf1 hO1
              go_wp2_with fail
              go_loopw [14, 22] (fun ov kv wr => ∃ (k : Nat) (ao : Option Addr) (cap : Nat), k ≤ n ∧ kv = .int .i64 (k : Nat) ∧ ov = .slice ao (od.length + k) cap ∧ wr.ownsRow w.heap.size 5 1 (.slice ao (od.length + k) cap) (od.length + k) (cellsOf (od ++ List.replicate k 1)) ∧ (∀ g, (Value.slice ao (od.length + k) cap).ownBlock = some g → ¬ O1 g) ∧ TW w wr d m s1 q1 O1 (fun i => q5.fb (key2 i)) (od ++ List.replicate n 1) sf G1) (fun _ kv _ => n - (intOf kv).toNat)
              case atStart => exact ⟨0, oo, oc, Nat.zero_le _, rfl, rfl, by simpa using (unhide HRow1).1, (unhide HRow1).2, unhide HT1⟩
              case round =>
                obtain ⟨k, ao, cap, hk, rfl, rfl, hrk, hak, hTk⟩ := hrel
                rename World => wk
                by_cases hkn : k < n
                · have hck : wk.cell? ⟨xg, xof + i, none⟩ = some (.int .u8 (v : Int)) := by
                    have := src_cell ((unhide HX).fr hTk.fr (fun _ _ _ _ _ h => h)) i (unhide HIL)
                    rw [unhide HV] at this
                    exact this
                  have hlen : (od ++ List.replicate k 1).length = od.length + k := by simp
                  have happ := app_zo wk w.heap.size 1 (.slice ao (od.length + k) cap) (od ++ List.replicate k 1) (by rw [hlen]; exact hrk) hTk.fr.size (by rw [hlen]; omega)
                  rw [hlen] at happ
                  obtain ⟨ao2, cap2, w3, hr3, hown3, hf3, hb3⟩ := happ
                  have hr3' : (Builtin.append_ #[28, 28] 28 #[.slice ao (od.length + k) cap, .slice (some ⟨wk.heap.size, 0, none⟩) 1 1]).run Try.prog (wk.alloc (.cells #[.int .u8 1] 5)) = .ok (.slice ao2 (od.length + k + 1) cap2) w3 := hr3
                  have HR3 := hide hr3'
                  have hT3 := hTk.go hf3 (fun g hg => ⟨hak g hg, (hrk.lt g hg).1⟩)
                  have ha3 : ∀ g, (Value.slice ao2 (od.length + k + 1) cap2).ownBlock = some g → ¬ O1 g := fun g hg h => (hb3 g hg).elim (fun e => hak g e h) (fun e => by have := hTk.D.lt g h; omega)
                  have hrep : od ++ List.replicate k 1 ++ [1] = od ++ List.replicate (k + 1) 1 := by rw [List.append_assoc, ← List.replicate_succ']
                  rw [hrep] at hown3
                  have H3 := hide (And.intro hown3 (And.intro ha3 hT3))
                  clear hr3 hr3' hown3 hf3 hb3 hT3 ha3 hrep hrk hak hTk hlen
                  go_wp2_with (at_builtin; refine wpList_app rfl _ _ 28 28 rfl _ _ _ rfl rfl (unhide HR3) ?_; clear HR3)
                  go_roundw
                  case rel => exact ⟨k + 1, ao2, cap2, hkn, by go_num, rfl, (unhide H3).1, (unhide H3).2.1, (unhide H3).2.2⟩
                  case measure => simp [intOf]; omega
                · have hkn2 : k = n := by omega
                  have hfin : (od ++ List.replicate k 1).length = od.length + k := by simp
                  rw [← hkn2] at hTk
                  have H4 := hide (And.intro hrk (And.intro hak (And.intro hTk (And.intro hkn2 hfin))))
                  clear hrk hak hTk hkn2 hfin hk HT1 HRow1
                  by_cases hsy : (i : Int) = synced
                  · go_wp2_with fail
                    refine (sync_at d m s1 q1 O1 sX wk (unhide H4).2.2.1.D (unhide H1S).2.2.2 (by decide) ((unhide H4).2.2.1.has 0 (by decide))).mono ?_
                    rintro e w2 ⟨rfl, q2, O2, hD2, hf2, hO2⟩
                    have H5 := hide (And.intro hD2 (And.intro hf2 hO2))
                    clear hD2 hf2 hO2
                    go_wp2_with fail
                    refine (sync_at d m _ q2 O2 sY w2 (unhide H5).1 (unhide H1S).2.2.2 (by decide) ((unhide H4).2.2.1.has 1 (by decide))).mono ?_
                    rintro e w3 ⟨rfl, q3, O3, hD3, hf3, hO3⟩
                    have hT3 := (unhide H4).2.2.1.sync2 hD3 (unhide H5).2.1 hf3 (unhide H5).2.2 hO3
                    have hap2 : ∀ g, (Value.slice ao (od.length + k) cap).ownBlock = some g → ¬ O2 g := fun g hg h => ((unhide H5).2.2 g h).elim ((unhide H4).2.1 g hg) (fun e => by have := ((unhide H4).1.lt g hg).2; omega)
                    have hlt2 : ∀ g, (Value.slice ao (od.length + k) cap).ownBlock = some g → g < w2.heap.size := fun g hg => Nat.lt_of_lt_of_le ((unhide H4).1.lt g hg).2 (unhide H5).2.1.size
                    have hap3 : ∀ g, (Value.slice ao (od.length + k) cap).ownBlock = some g → ¬ O3 g := fun g hg h => (hO3 g h).elim (hap2 g hg) (fun e => by have := hlt2 g hg; omega)
                    have hrow3 : w3.ownsRow w.heap.size 5 1 (.slice ao (od.length + k) cap) (od.length + k) (cellsOf (od ++ List.replicate k 1)) := ownsRow_of_block (unhide H4).1 (fun g hg => (hf3.block g (hlt2 g hg) (hap2 g hg)).trans ((unhide H5).2.1.block g ((unhide H4).1.lt g hg).2 ((unhide H4).2.1 g hg)))
                    have H6 := hide (And.intro hT3 (And.intro hap3 hrow3))
                    clear hD3 hf3 hO3 hT3 hap2 hlt2 hap3 hrow3 H5
                    go_wp2_with fail
                    go_roundw
                    case rel =>
                      obtain ⟨hrk, hak, hTk, hkn2, hfin⟩ := unhide H4
                      obtain ⟨hsw1, hsl1, hst1, hso1⟩ := unhide H1S
                      have hIi := unhide HI
                      have hil := unhide HIL
                      refine ⟨i + 1, (od ++ List.replicate k 1).length, od ++ List.replicate k 1, [], (s1.syn (key2 0)).syn (key2 1), q3, O3, ao, cap, by rw [hfin], by rw [hfin]; go_num, by go_num, by omega, by rw [hfin]; omega, hsw1, hsl1, hst1, hso1, ?_, ?_, (unhide H6).1⟩
                      · rw [hfin]; exact (unhide H6).2.2
                      · rw [hfin]; exact (unhide H6).2.1
                    case measure => simp [intOf]; omega
                  · go_wp2_with fail
                    go_roundw
                    case rel =>
                      obtain ⟨hrk, hak, hTk, hkn2, hfin⟩ := unhide H4
                      obtain ⟨hsw1, hsl1, hst1, hso1⟩ := unhide H1S
                      have hIi := unhide HI
                      have hil := unhide HIL
                      refine ⟨i + 1, sf, od ++ List.replicate k 1, G1, s1, q1, O1, ao, cap, by rw [hfin], rfl, by go_num, by omega, by rw [hfin]; omega, hsw1, hsl1, hst1, hso1, ?_, ?_, hTk⟩
                      · rw [hfin]; exact hrk
                      · rw [hfin]; exact hak
                    case measure => simp [intOf]; omega

        · have hv2' : ((v : Int) % 2 = 0) := by omega
          obtain ⟨n, hn7, hnv⟩ : ∃ n : Nat, n < 7 ∧ (v : Int) % 7 = (n : Int) := ⟨v % 7, by omega, by omega⟩
          have hmk : (Instr.makeSlice 28 (.int .i64 (n : Int)) (.int .i64 (n : Int))).run Try.prog wp = .ok (.slice (some ⟨wp.heap.size, 0, none⟩) n n) (wp.alloc (.cells (madeCells #[.int .u8 0] n) 5)) := make_n n wp (by omega)
          clear hv2 hl
          go_wp2_with fail
          clear hmk hnv
          go_loopw [19] (fun kv wr => ∃ k : Nat, k ≤ n ∧ kv = .int .i64 (k : Nat) ∧ Fil (wp.alloc (.cells (madeCells #[.int .u8 0] n) 5)) wr wp.heap.size n od.length k) (fun kv _ => n - (intOf kv).toNat)
          case atStart => exact ⟨0, Nat.zero_le _, rfl, fil_start _ _ _⟩
          case round =>
            obtain ⟨k, hk, rfl, hF⟩ := hrel
            have HF := hide hF
            clear hF
            by_cases hkn : k < n
            · obtain ⟨z, hz, hfz, -⟩ := (unhide HF).at_ k hkn
              go_wp2
              go_roundw
              case rel => exact ⟨k + 1, by omega, by go_num, (unhide HF).step hkn _ (wr256 od.length k (by have := (unhide HI).2; omega))⟩
              case measure => simp [intOf]; omega
            · rename World => wf
              have hkn2 : k = n := by omega
              have hF := unhide HF
              rw [hkn2] at hF
              have hfd : Fr (fun b => b = wp.heap.size) wp wf := ((Fr.refl _ _).alloc _).trans hF.fr (fun _ _ e => e)
              obtain ⟨hrow, hap, hT, hsw, hsl, hst, hso⟩ := unhide HS
              have hgO : ¬ O wp.heap.size := fun h => Nat.lt_irrefl _ (hT.D.lt _ h)
              have hTf := hT.go hfd (fun k e => ⟨fun h => hgO (e ▸ h), by rw [e]; exact hT.fr.size⟩)
              have hrowf : wf.ownsRow w.heap.size 5 1 (.slice oo od.length oc) od.length (cellsOf od) := ownsRow_of_block hrow (fun g hg => hfd.block g (hrow.lt g hg).2 (fun e => by have := (hrow.lt g hg).2; omega))
              have hol := (unhide HI).2
              have HC := hide (hTf.piece 0 (by decide) sX rfl (by decide) hso wp.heap.size n hF.src hgO (by omega) (by omega) (by rw [hsl]; omega) (by rw [hsl]; omega) (by rw [hst]; omega) (by rw [hst]; omega) (by rw [hsl]; omega))
              have HS2 := hide (And.intro hrowf (And.intro hap (And.intro hsw (And.intro hsl (And.intro hst (And.intro hso hTf))))))
              clear hF HF hfd hrow hap hT hsw hsl hst hso hgO hTf hrowf hol hk hkn2 HS
              go_wp2_with fail
              refine (unhide HC).mono ?_
              rintro e w1 ⟨rfl, s1, q1, O1, G1, hT1, hw1, hl1, ht1, ho1, hf1, hO1⟩
              have H1S : Hid (s1.writes = i + 1 ∧ s1.left = torn - ((i + 1 : Nat) : Int) ∧ s1.tear = b ∧ s1.off = false) := by
                obtain ⟨-, -, hsw, hsl, hst, -⟩ := unhide HS2
                exact hide ⟨by rw [hw1, hsw], by rw [hl1, hsl, if_neg (by omega)]; omega, by rw [ht1, hst], ho1⟩
              clear hw1 hl1 ht1 ho1
              clear HC
              have hlt1 : od.length ≤ 1200 := by have := (unhide HI).2; omega
              have HT1 := hide hT1
              have HRow1 : Hid (w1.ownsRow w.heap.size 5 1 (.slice oo od.length oc) od.length (cellsOf od) ∧ ∀ g, (Value.slice oo od.length oc).ownBlock = some g → ¬ O1 g) := by
                obtain ⟨hrow, hap, _⟩ := unhide HS2
                exact hide ⟨ownsRow_of_block hrow (fun g hg => hf1.block g (hrow.lt g hg).2 (hap g hg)), fun g hg h => (hO1 g h).elim (hap g hg) (fun h => by have := (hrow.lt g hg).2; omega)⟩
              clear hT1 hf1 hO1
              go_wp2_with fail
              go_loopw [14, 22] (fun ov kv wr => ∃ (k : Nat) (ao : Option Addr) (cap : Nat), k ≤ n ∧ kv = .int .i64 (k : Nat) ∧ ov = .slice ao (od.length + k) cap ∧ wr.ownsRow w.heap.size 5 1 (.slice ao (od.length + k) cap) (od.length + k) (cellsOf (od ++ List.replicate k 0)) ∧ (∀ g, (Value.slice ao (od.length + k) cap).ownBlock = some g → ¬ O1 g) ∧ TW w wr d m s1 q1 O1 (fun i => q5.fb (key2 i)) (od ++ List.replicate n 0) sf G1) (fun _ kv _ => n - (intOf kv).toNat)
              case atStart => exact ⟨0, oo, oc, Nat.zero_le _, rfl, rfl, by simpa using (unhide HRow1).1, (unhide HRow1).2, unhide HT1⟩
              case round =>
                obtain ⟨k, ao, cap, hk, rfl, rfl, hrk, hak, hTk⟩ := hrel
                rename World => wk
                by_cases hkn : k < n
                · have hck : wk.cell? ⟨xg, xof + i, none⟩ = some (.int .u8 (v : Int)) := by
                    have := src_cell ((unhide HX).fr hTk.fr (fun _ _ _ _ _ h => h)) i (unhide HIL)
                    rw [unhide HV] at this
                    exact this
                  have hlen : (od ++ List.replicate k 0).length = od.length + k := by simp
                  have happ := app_zo wk w.heap.size 0 (.slice ao (od.length + k) cap) (od ++ List.replicate k 0) (by rw [hlen]; exact hrk) hTk.fr.size (by rw [hlen]; omega)
                  rw [hlen] at happ
                  obtain ⟨ao2, cap2, w3, hr3, hown3, hf3, hb3⟩ := happ
                  have hr3' : (Builtin.append_ #[28, 28] 28 #[.slice ao (od.length + k) cap, .slice (some ⟨wk.heap.size, 0, none⟩) 1 1]).run Try.prog (wk.alloc (.cells #[.int .u8 0] 5)) = .ok (.slice ao2 (od.length + k + 1) cap2) w3 := hr3
                  have HR3 := hide hr3'
                  have hT3 := hTk.go hf3 (fun g hg => ⟨hak g hg, (hrk.lt g hg).1⟩)
                  have ha3 : ∀ g, (Value.slice ao2 (od.length + k + 1) cap2).ownBlock = some g → ¬ O1 g := fun g hg h => (hb3 g hg).elim (fun e => hak g e h) (fun e => by have := hTk.D.lt g h; omega)
                  have hrep : od ++ List.replicate k 0 ++ [0] = od ++ List.replicate (k + 1) 0 := by rw [List.append_assoc, ← List.replicate_succ']
                  rw [hrep] at hown3
                  have H3 := hide (And.intro hown3 (And.intro ha3 hT3))
                  clear hr3 hr3' hown3 hf3 hb3 hT3 ha3 hrep hrk hak hTk hlen
                  go_wp2_with (at_builtin; refine wpList_app rfl _ _ 28 28 rfl _ _ _ rfl rfl (unhide HR3) ?_; clear HR3)
                  go_roundw
                  case rel => exact ⟨k + 1, ao2, cap2, hkn, by go_num, rfl, (unhide H3).1, (unhide H3).2.1, (unhide H3).2.2⟩
                  case measure => simp [intOf]; omega
                · have hkn2 : k = n := by omega
                  have hfin : (od ++ List.replicate k 0).length = od.length + k := by simp
                  rw [← hkn2] at hTk
                  have H4 := hide (And.intro hrk (And.intro hak (And.intro hTk (And.intro hkn2 hfin))))
                  clear hrk hak hTk hkn2 hfin hk HT1 HRow1
                  by_cases hsy : (i : Int) = synced
                  · go_wp2_with fail
                    refine (sync_at d m s1 q1 O1 sX wk (unhide H4).2.2.1.D (unhide H1S).2.2.2 (by decide) ((unhide H4).2.2.1.has 0 (by decide))).mono ?_
                    rintro e w2 ⟨rfl, q2, O2, hD2, hf2, hO2⟩
                    have H5 := hide (And.intro hD2 (And.intro hf2 hO2))
                    clear hD2 hf2 hO2
                    go_wp2_with fail
                    refine (sync_at d m _ q2 O2 sY w2 (unhide H5).1 (unhide H1S).2.2.2 (by decide) ((unhide H4).2.2.1.has 1 (by decide))).mono ?_
                    rintro e w3 ⟨rfl, q3, O3, hD3, hf3, hO3⟩
                    have hT3 := (unhide H4).2.2.1.sync2 hD3 (unhide H5).2.1 hf3 (unhide H5).2.2 hO3
                    have hap2 : ∀ g, (Value.slice ao (od.length + k) cap).ownBlock = some g → ¬ O2 g := fun g hg h => ((unhide H5).2.2 g h).elim ((unhide H4).2.1 g hg) (fun e => by have := ((unhide H4).1.lt g hg).2; omega)
                    have hlt2 : ∀ g, (Value.slice ao (od.length + k) cap).ownBlock = some g → g < w2.heap.size := fun g hg => Nat.lt_of_lt_of_le ((unhide H4).1.lt g hg).2 (unhide H5).2.1.size
                    have hap3 : ∀ g, (Value.slice ao (od.length + k) cap).ownBlock = some g → ¬ O3 g := fun g hg h => (hO3 g h).elim (hap2 g hg) (fun e => by have := hlt2 g hg; omega)
                    have hrow3 : w3.ownsRow w.heap.size 5 1 (.slice ao (od.length + k) cap) (od.length + k) (cellsOf (od ++ List.replicate k 0)) := ownsRow_of_block (unhide H4).1 (fun g hg => (hf3.block g (hlt2 g hg) (hap2 g hg)).trans ((unhide H5).2.1.block g ((unhide H4).1.lt g hg).2 ((unhide H4).2.1 g hg)))
                    have H6 := hide (And.intro hT3 (And.intro hap3 hrow3))
                    clear hD3 hf3 hO3 hT3 hap2 hlt2 hap3 hrow3 H5
                    go_wp2_with fail
                    go_roundw
                    case rel =>
                      obtain ⟨hrk, hak, hTk, hkn2, hfin⟩ := unhide H4
                      obtain ⟨hsw1, hsl1, hst1, hso1⟩ := unhide H1S
                      have hIi := unhide HI
                      have hil := unhide HIL
                      refine ⟨i + 1, (od ++ List.replicate k 0).length, od ++ List.replicate k 0, [], (s1.syn (key2 0)).syn (key2 1), q3, O3, ao, cap, by rw [hfin], by rw [hfin]; go_num, by go_num, by omega, by rw [hfin]; omega, hsw1, hsl1, hst1, hso1, ?_, ?_, (unhide H6).1⟩
                      · rw [hfin]; exact (unhide H6).2.2
                      · rw [hfin]; exact (unhide H6).2.1
                    case measure => simp [intOf]; omega
                  · go_wp2_with fail
                    go_roundw
                    case rel =>
                      obtain ⟨hrk, hak, hTk, hkn2, hfin⟩ := unhide H4
                      obtain ⟨hsw1, hsl1, hst1, hso1⟩ := unhide H1S
                      have hIi := unhide HI
                      have hil := unhide HIL
                      refine ⟨i + 1, sf, od ++ List.replicate k 0, G1, s1, q1, O1, ao, cap, by rw [hfin], rfl, by go_num, by omega, by rw [hfin]; omega, hsw1, hsl1, hst1, hso1, ?_, ?_, hTk⟩
                      · rw [hfin]; exact hrk
                      · rw [hfin]; exact hak
                    case measure => simp [intOf]; omega
end Go.Proofs.Ytfoifojlgojgaaa
