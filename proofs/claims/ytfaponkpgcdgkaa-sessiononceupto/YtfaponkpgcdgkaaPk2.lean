import Derived.Test.YtfaponkpgcdgkaaPk1
import Derived.Test.YtfaponkpgcdgkaaBase
import Derived.Test.YtfaponkpgcdgkaaRows
import Derived.WalkKit
import Derived.ProofKit
import Derived.OpenShut
import Derived.SizedLaws
import Derived.JoinedCond
import Derived.Deep.DeepHandedRow
import Derived.Test.YtfaponkpgcdgkaaZai
import Derived.Deep.Slices
namespace Go.Proofs.Ytfaponkpgcdgkaa
open Go.RowKit Go.Maps

set_option maxRecDepth 100000 in
set_option maxHeartbeats 4000000 in
theorem sonce_neg (w : World) (c : Int) (x : Value) (ms : List MG) (hx : MgR w x ms) (n : Nat) (hn : n ≤ 8) (hc : Int.tmod c 9 = -(n : Int)) (hp : 0 < n) : Calls Try.prog 5 #[.int .i64 c, x] w fun e w' => e = .returned (.bool true) ∧ Fr (fun _ => False) w w' := by
  obtain ⟨vo, vc, rfl, hms⟩ := hx.f
  have HX := hide hx
  have HMS := hide hms
  have hml := hx.l
  obtain ⟨N, hN⟩ : ∃ N, ms.length = N := ⟨_, rfl⟩
  have HNN := hide hN
  rw [hN] at HX hml ⊢
  clear hx hms hN
  · have hc1 : -(n : Int) < 0 := by omega
    have hneg : wrap64 (n : Int) = (n : Int) := by unfold wrap64; omega
    go_enter Try.func5, Try.ntmps5
    go_wp2_with fail
    refine (awake17 w).mono ?_
    rintro e w0 ⟨rfl, hf0⟩
    have HF0 := hide hf0
    clear hf0
    go_wp2_with fail
    refine (SS.new 1 w0 (by omega)).mono ?_
    rintro e w1 ⟨d, rfl, hs1, hf1⟩
    have HM : Hid (OI w w1 d 0 [] (Nb w0 w1)) := hide ⟨hs1, rfl, (fun q hq => by simp at hq), (fun g hg => Nat.le_trans (unhide HF0).size hg.1), (unhide HF0).trans0 hf1⟩
    clear hs1 hf1 HF0
    go_wp2_with fail
    go_loopw [8] (fun iv wr => ∃ (i : Nat) (cs : List SC) (T : Nat → Prop), i ≤ n ∧ iv = .int .i64 (i : Nat) ∧ OI w wr d i cs T) (fun iv _ => n - (intOf iv).toNat)
    case atStart => exact ⟨0, [], _, by omega, rfl, unhide HM⟩
    case round =>
      obtain ⟨i, cs, T, hi, rfl, hM⟩ := hrel
      clear HM
      rename World => wr
      have HI := hide hM
      clear hM
      by_cases hlt : i < n
      · have hlt2 : (i : Int) < (n : Int) := by omega
        go_wp2_with fail
        refine (create_any _).mono ?_
        rintro e w2 ⟨rfl, hf2⟩
        have HC : Hid (Calls Try.prog 10 #[.pointer (some ⟨d, 0, none⟩), crR.v] w2 fun e w' => e = .returned (.tuple #[.agg #[.int .u32 1, .int .u32 ((i : Int) + 1)], .int .i64 0]) ∧ (∃ v, SS w' d 1 (cs ++ [⟨⟨1, i + 1, 1, 1, 0, 0, 7, 6, v, ⟨#[]⟩⟩, [], 0, 0, none⟩]) [] (Tn T w2 w')) ∧ Fr T w2 w') := hide (by
          have := ((unhide HI).s.fr0 hf2).call crR [] (Rd.nil w2 5) (by simp) (fun f hf => by simp at hf) rfl (by rw [(unhide HI).c]; omega)
          rw [(unhide HI).c] at this
          exact this)
        have HF2 := hide hf2
        clear hf2
        go_wp2_with fail
        refine (unhide HC).mono ?_
        rintro e w3 ⟨rfl, ⟨v, hs3⟩, hf3⟩
        clear HC
        have hb := (unhide HI).b
        have hfw3 : Fr (fun _ => False) w w3 := ((unhide HI).f.trans0 (unhide HF2)).trans hf3 (fun g hg e => by have := hb g e; omega)
        have HM6 : Hid (∃ cs' T', OI w (w3.alloc (.cells #[.int .u32 1, .int .u32 ((i : Int) + 1)] 29)) d (i + 1) cs' T') := hide ⟨_, _, hs3.fr0 (box1 _ _), by simp [(unhide HI).c], (fun q hq => by
          rcases List.mem_append.1 hq with hq' | hq'
          · exact (unhide HI).a q hq'
          · simp at hq'; subst hq'; exact ⟨rfl, rfl⟩), (fun g hg => by
            rcases hg with hg | hg
            · exact hb g hg
            · have := hg.1; have := (unhide HI).f.size; have := (unhide HF2).size; omega), hfw3.trans0 (box1 _ _)⟩
        clear hs3 hf3 hb hfw3 HF2
        have hw1 := wrapS i (by omega)
        have hw2 := wrapU i (by omega)
        have hq : ∀ w : World, (binOp .neq 29 (.agg #[.int .u32 1, .int .u32 ((i : Int) + 1)]) (.agg #[.int .u32 1, .int .u32 ((i : Int) + 1)])).run Try.prog w = .ok (.bool false) w := fun w => by
          have := neq_id 1 (i + 1) 1 (i + 1) w
          simpa using this
        go_wp2_with fail
        go_roundw
        case rel =>
          obtain ⟨cs', T', hm⟩ := unhide HM6
          exact ⟨i + 1, cs', T', by omega, by go_num, hm⟩
        case measure => simp [intOf]; omega
      · obtain rfl : i = n := by omega
        clear hlt
        obtain ⟨A, hA⟩ : ∃ A, wr.heap.size = A := ⟨_, rfl⟩
        have HP : Hid (PI w ((wr.alloc (.cells zF.toArray 72)).alloc (.cells zH.toArray 73)) d A (A + 1) i 0 cs [] T zF zH) := hide (hA ▸ (unhide HI).start hn)
        go_wp2_with fail
        go_loopw [13, 14] (fun cv iv wq => ∃ (k D : Nat) (cs : List SC) (dn : List Nat) (T : Nat → Prop) (fs hs : List Value), k ≤ N ∧ dn.length = D ∧ cv = .int .i64 (D : Nat) ∧ iv = .int .i64 (k : Nat) ∧ PI w wq d A (A + 1) i k cs dn T fs hs) (fun _ iv _ => N - (intOf iv).toNat)
        case atStart => exact ⟨0, 0, cs, [], T, zF, zH, Nat.zero_le _, rfl, rfl, rfl, unhide HP⟩
        case round =>
          clear HP HI hA
          clear cs T
          obtain ⟨k, D, cs, dn, T, fs, hs, hk, hD, rfl, rfl, hP⟩ := hrel
          rename World => wr
          have HP := hide hP
          clear hP
          by_cases hlt : k < N
          · have hlt2 : (k : Int) < (N : Int) := by omega
            obtain ⟨m, hm⟩ : ∃ m, ms[k]? = some m := ⟨_, List.getElem?_eq_getElem (by have := unhide HNN; omega)⟩
            obtain ⟨hok, g, o, rfl, hrg⟩ := (unhide HMS) k m hm
            obtain ⟨xs, ki, icl, inu, co, ⟨cl, nu, aco, arc, ave, afv, ahv⟩, F, H⟩ := m
            simp only at hrg
            have hrg2 : wr.rangeAt g (o + k * 35) xs := fun j v hv => ((unhide HP).f.cell (p := ⟨g, o + k * 35 + j, none⟩) (lt_of_cell (hrg j v hv)) (fun h => h)).trans (hrg j v hv)
            obtain ⟨W8, hst, hb8, hf8⟩ := st_all (P := Try.prog) (ty := 49) zM xs (heap_alloc_new wr (.cells zM.toArray 49)) hok.len.symm (by rw [hok.len]; exact Try.sizeMs) hok.one
            have hsz : (Try.prog.info? 49).map (·.size) = some xs.length := by rw [hok.len]; exact Try.sizeMs
            have HRG := hide hrg2
            have HST := hide hst
            have HR8 := hide (range_of_block hb8)
            have HSZ := hide hsz
            have hjj : (0 : Int) ≤ (k : Int) := by omega
            clear hrg hrg2 hst hsz hm
            obtain ⟨X, hXe⟩ : ∃ X, wr.heap.size = X := ⟨_, rfl⟩
            have hfr8 : Fr (fun _ => False) wr W8 := (box1 wr _).trans hf8 (fun g hg e => by rw [e] at hg; exact Nat.lt_irrefl _ hg)
            have HXT : Hid (∀ g, T g → g ≠ X) := hide (fun g hg e => by have := (unhide HP).s.lt g hg; omega)
            have HP8 := hide ((unhide HP).fr0 hfr8)
            have HOK := hide hok
            rw [hXe] at hb8 HR8 HST
            have HB8 := hide hb8
            have HX2 : Hid (A + 1 < X) := hide (by have := lt_of_block (unhide HP).bb; omega)
            clear hok hfr8 hb8 hf8 HP
            go_wp2_with (first | refine wpList_load_mid rfl 49 (.tmp 63) rfl g (o + k * 35) rfl _ _ (unhide HRG) Try.underlying49 rfl (unhide HSZ) ?_ | refine wpList_stN rfl 49 (.tmp 15) (.tmp 64) rfl _ _ rfl rfl (unhide HST) ?_ | refine wpList_load_mid rfl 49 (.tmp 15) rfl X 0 rfl _ _ (unhide HR8) Try.underlying49 rfl (unhide HSZ) ?_)
            by_cases hfr : fresh 1 cs ⟨xs, ki, icl, inu, co, ⟨cl, nu, aco, arc, ave, afv, ahv⟩, F, H⟩
            · obtain ⟨rfl, rfl, j, q, hnj, hq, hd⟩ := hfr
              simp only at hnj
              have hil : j < i := by have := (unhide HP8).c; have := (List.getElem?_eq_some_iff.1 hq).1; omega
              have hdl : dn.length ≤ 1048575 := by have h1 := (unhide HP8).dl; have h2 := nWA cs; have h3 := (unhide HP8).c; omega
              have hwD := wrapS D (by have h1 := (unhide HP8).dl; have h2 := nWA cs; have h3 := (unhide HP8).c; omega)
              have hwn : wrap64 (nu : Int) = (nu : Int) := by have := (unhide HOK).an; simp only at this; unfold wrap64; omega
              have e6 : j < 9 := Nat.lt_of_lt_of_le hil (Nat.le_trans hn (by decide))
              have e4 : (0 : Int) ≤ (j : Int) := Int.natCast_nonneg j
              have e5 : (j : Int) < 9 := Int.ofNat_lt.2 e6
              have e1 : (1 : Int) ≤ (nu : Int) := Int.ofNat_le.2 (by rw [hnj]; exact Nat.le_add_left 1 j)
              have e2 : (nu : Int) ≤ (i : Int) := Int.ofNat_le.2 (by rw [hnj]; exact hil)
              have e3 : IntKind.u32.wrap ((nu : Int) - 1) = (j : Int) := by
                have hz : ((nu : Int) - 1) = (j : Int) := by rw [hnj]; exact Int.add_sub_cancel (j : Int) 1
                have e : ((nu : Int) - 1) % 4294967296 = (j : Int) := by rw [hz]; exact Int.emod_eq_of_lt e4 (Int.lt_trans e5 (by decide))
                simp [IntKind.wrap, IntKind.bits, IntKind.signed, e]
              have hXA : X ≠ A + 1 := fun e => Nat.lt_irrefl _ (e ▸ unhide HX2)
              have hAA : A ≠ A + 1 := Nat.ne_of_lt (Nat.lt_succ_self A)
              have hl79 : j * 7 + 7 ≤ 63 := Nat.add_le_add_right (Nat.mul_le_mul_right 7 (Nat.le_of_lt_succ e6)) 7
              have hok8 := (unhide HOK).fr0 (unhide HP8).f
              refine ((unhide HP8).s.answer xs icl inu co _ hok8.x j q hq hd rfl hnj F H hok8.f hok8.h hok8.fl hok8.hl hdl).mono ?_
              clear hok8 hdl
              rintro e w4 ⟨r4, rfl, rfl, ⟨v4, u4', hs4⟩, hf4⟩
              have hb4 := (hf4.block X (lt_of_block (unhide HB8)) (fun e => (unhide HXT) _ e rfl)).trans (unhide HB8)
              have hX4 : X < w4.heap.size := lt_of_block hb4
              have hbA := (hf4.block A (lt_of_block (unhide HP8).ba) (fun e => ((unhide HP8).t _ e).2.1 rfl)).trans (unhide HP8).ba
              have hbB := (hf4.block (A + 1) (lt_of_block (unhide HP8).bb) (fun e => ((unhide HP8).t _ e).2.2 rfl)).trans (unhide HP8).bb
              have hA4 : A + 1 < w4.heap.size := lt_of_block hbB
              have hA5 : A < w4.heap.size := Nat.lt_of_succ_lt hA4
              have c0 : w4.cell? ⟨X, 0, none⟩ = some (.int .u8 3) := cell_of_blk hb4 (by simpa using (unhide HOK).x.k)
              have c13 : w4.cell? ⟨X, 13, none⟩ = some (.int .u32 1) := cell_of_blk hb4 (by simpa using (unhide HOK).x.an 0 _ rfl)
              have c14 : w4.cell? ⟨X, 14, none⟩ = some (.int .u32 (nu : Nat)) := cell_of_blk hb4 (by simpa using (unhide HOK).x.an 1 _ rfl)
              have cB : w4.cell? ⟨A + 1, j, none⟩ = some (.bool false) := by
                have := (unhide HP8).hh _ q hq
                rw [hd] at this
                exact cell_of_blk hbB (by simpa using this)
              have zB : w4.frozen? ⟨A + 1, j, none⟩ = false := by simp [World.frozen?, hbB]
              obtain ⟨W6, hW6⟩ : ∃ W6, (w4.alloc (.cells #[.int .u32 1, .int .u32 (nu : Nat)] 29)).setCell ⟨A + 1, j, none⟩ (.bool true) = W6 := ⟨_, rfl⟩
              have hf45 := box1 w4 (.cells #[.int .u32 1, .int .u32 (nu : Nat)] 29)
              have hf56 : Fr (fun g => g = A + 1) (w4.alloc (.cells #[.int .u32 1, .int .u32 (nu : Nat)] 29)) W6 := by rw [← hW6]; exact (Fr.refl (fun g => g = A + 1) _).setCell (p := ⟨A + 1, j, none⟩) (.inl rfl) _
              have hf46 : Fr (fun g => g = A + 1) w4 W6 := (hf45.mono (fun _ _ e => e.elim)).trans hf56 (fun _ _ e => e)
              have c16 : W6.cell? ⟨w4.heap.size, 1, none⟩ = some (.int .u32 (nu : Nat)) := cell_of_blk ((hf56.block w4.heap.size (by rw [World.size_alloc]; exact Nat.lt_succ_self _) (fun e => absurd hA4 (by rw [e]; exact Nat.lt_irrefl _))).trans (heap_alloc_new w4 _)) rfl
              have hbB6 : W6.heap[A + 1]? = some (.cells ((hs.set j (.bool true)).toArray) 73) := by
                rw [← hW6, blkset ((hf45.block (A + 1) hA4 (fun h => h)).trans hbB)]
                simp
              have hbA6 : W6.heap[A]? = _ := (hf46.block A hA5 (fun e => hAA e)).trans hbA
              have hb46 : W6.heap[X]? = _ := (hf46.block X hX4 (fun e => hXA e)).trans hb4
              have HR6 : Hid (W6.rangeAt X 13 [.int .u32 1, .int .u32 (nu : Nat), .int .u8 (aco : Nat), .int .u32 (arc : Nat), .int .u32 (ave : Nat), afv, ahv]) := hide (fun t v ht => cell_of_blk hb46 (by simpa using (unhide HOK).x.an t v ht))
              have h7 : ∀ v ∈ [.int .u32 1, .int .u32 (nu : Nat), .int .u8 (aco : Nat), .int .u32 (arc : Nat), .int .u32 (ave : Nat), afv, ahv], v.oneCell' = true := fun v hv => by
                obtain ⟨t, ht⟩ := List.getElem?_of_mem hv
                exact (unhide HOK).one v (List.mem_of_getElem? ((unhide HOK).x.an t v ht))
              obtain ⟨W7, hst7, ⟨fs', hbA7, hfl7, hfi7, hfo7⟩, hf67⟩ := st_mid (P := Try.prog) (ty := 44) (o := j * 7) fs [.int .u32 1, .int .u32 (nu : Nat), .int .u8 (aco : Nat), .int .u32 (arc : Nat), .int .u32 (ave : Nat), afv, ahv] hbA6 (by rw [(unhide HP8).fl]; exact hl79) Try.sizeAn h7
              have hbB7 : W7.heap[A + 1]? = _ := (hf67.block (A + 1) (lt_of_block hbB6) (fun e => hAA e.symm)).trans hbB6
              have hP7 := (unhide HP8).new (fs' := fs') (hs' := hs.set j (.bool true)) hq hd hs4 hf4 ((hf46.mono (fun _ _ e => .inr e)).trans (hf67.mono (fun _ _ e => .inl e)) (fun _ _ e => e)) hbA7 (hfl7.trans (unhide HP8).fl) hbB7 (by rw [List.length_set]; exact (unhide HP8).hl) (List.getElem?_set_self (by rw [(unhide HP8).hl]; exact e6)) (fun t ht => List.getElem?_set_ne (fun e => ht e.symm)) ⟨rfl, rfl⟩ afv ahv (unhide HOK).f (unhide HOK).h (by subst hnj; exact hfi7) (fun t ht => hfo7 t ht)
              have hD5 : (dn ++ [j + 1]).length = D + 1 := by rw [List.length_append, hD]; rfl
              clear hD
              have HST7 := hide hst7
              generalize hcs : cs.set j { q with d := some ⟨⟨1, j + 1, aco, arc, ave, v4, u4'⟩, F, H⟩ } = cs' at hP7
              have HP5 := hide hP7
              clear hP7 hs4 hf4 hb4 hbA hbB hf45 hf56 hf46 hbB6 hbA6 hb46 h7 hst7 hbA7 hfl7 hfi7 hfo7 hf67 hbB7 hnj hcs hd hq
              go_wp2_with (first | refine wpList_load_mid rfl 44 (.tmp 106) rfl X 13 rfl _ _ (unhide HR6) Try.underlying44 rfl Try.sizeAn ?_ | refine wpList_stN rfl 44 (.tmp 108) (.tmp 107) rfl _ _ rfl rfl (unhide HST7) ?_)
              simp only [hwD]
              clear e3 hwn hwD
              clear c0 c13 c14 cB zB c16 hW6 e1 e2 HR6 HST7
              have HD5 := hide hD5
              clear hD5
              refine (unhide HP5).s.done.mono ?_
              rintro e w6 ⟨v6, rfl, ho6, hf6⟩
              obtain ⟨ao6, cap6, e6⟩ := own_formX ho6
              rw [List.length_map, unhide HD5] at e6
              subst e6
              have HP6 := hide ((unhide HP5).fr0 hf6)
              clear HP5 ho6 hf6
              go_wp2_with fail
              refine (unhide HP6).s.waiting.mono ?_
              rintro e w7 ⟨v7, rfl, ho7, hf7⟩
              obtain ⟨ao7, cap7, e7⟩ := own_formX ho7
              rw [List.length_map] at e7
              obtain ⟨Wn, hWn⟩ : ∃ Wn, (wl cs').length = Wn := ⟨_, rfl⟩
              rw [hWn] at e7
              subst e7
              have hsub : wrap64 ((i : Int) - ((D : Int) + 1)) = (Wn : Int) := by
                have h0 := unhide HD5
                have h1 := wl_count cs'
                have h2 := nWA cs'
                have h3 := (unhide HP6).dl
                have h4 := (unhide HP6).c
                unfold wrap64
                omega
              have HP7 := hide ((unhide HP6).fr0 hf7)
              clear HP6 ho7 hf7 hWn
              go_wp2_with fail
              go_roundw
              case rel => exact ⟨k + 1, D + 1, _, _, _, _, _, by omega, unhide HD5, by go_num, by go_num, unhide HP7⟩
              case measure => simp [intOf]; omega
            · have hko := SS.takeOld (unhide HP8).s _ ((unhide HOK).fr0 (unhide HP8).f) hfr (fun q hq => by have := (unhide HP8).nb q hq; omega)
              refine hko.mono ?_
              clear hko
              rintro e w4 ⟨r4, cs', rfl, hkept, hs4, hf4⟩
              have hP4 := (unhide HP8).old hkept hs4 hf4
              have hb4 := (hf4.block X (lt_of_block (unhide HB8)) (fun e => (unhide HXT) _ e rfl)).trans (unhide HB8)
              have hX4 : X < w4.heap.size := lt_of_block hb4
              have hA4 : A + 1 < w4.heap.size := lt_of_block hP4.bb
              have c0 : w4.cell? ⟨X, 0, none⟩ = some (.int .u8 (ki : Nat)) := cell_of_blk hb4 (by simpa using (unhide HOK).x.k)
              have c13 : w4.cell? ⟨X, 13, none⟩ = some (.int .u32 (cl : Nat)) := cell_of_blk hb4 (by simpa using (unhide HOK).x.an 0 _ rfl)
              have c14 : w4.cell? ⟨X, 14, none⟩ = some (.int .u32 (nu : Nat)) := cell_of_blk hb4 (by simpa using (unhide HOK).x.an 1 _ rfl)
              have hD5 := hD
              clear hD
              have HP5 : Hid (PI w (w4.alloc (.cells #[.int .u32 (cl : Nat), .int .u32 (nu : Nat)] 29)) d A (A + 1) i (k + 1) cs' dn T fs hs) := hide (hP4.fr0 (box1 _ _))
              have hcase : ki ≠ 3 ∨ (ki = 3 ∧ cl ≠ 1) ∨ (ki = 3 ∧ cl = 1 ∧ nu = 0) ∨ (ki = 3 ∧ cl = 1 ∧ nu ≠ 0 ∧ i < nu) ∨ (ki = 3 ∧ cl = 1 ∧ ∃ j, nu = j + 1 ∧ j < i ∧ w4.cell? ⟨A + 1, j, none⟩ = some (.bool true)) := by
                by_cases h1 : ki = 3
                · by_cases h2 : cl = 1
                  · by_cases h3 : nu = 0
                    · exact .inr (.inr (.inl ⟨h1, h2, h3⟩))
                    · by_cases h4 : i < nu
                      · exact .inr (.inr (.inr (.inl ⟨h1, h2, h3, h4⟩)))
                      · refine .inr (.inr (.inr (.inr ⟨h1, h2, nu - 1, by omega, by omega, ?_⟩)))
                        have hcl := (unhide HP8).c
                        obtain ⟨q, hq⟩ : ∃ q, cs[nu - 1]? = some q := ⟨_, List.getElem?_eq_getElem (by omega)⟩
                        have hqd : q.d.isSome = true := by
                          cases hd : q.d with
                          | none => exact absurd ⟨h1, h2, nu - 1, q, by simp only; omega, hq, hd⟩ hfr
                          | some x => rfl
                        have := (unhide HP8).hh _ q hq
                        rw [hqd] at this
                        exact cell_of_blk hP4.bb (by simpa using this)
                  · exact .inr (.inl ⟨h1, h2⟩)
                · exact .inl h1
              have hwn : wrap64 (nu : Int) = (nu : Int) := by have := (unhide HOK).an; simp only at this; unfold wrap64; omega
              clear hP4 hs4 hf4 hb4 hkept hfr
              rcases hcase with h1 | ⟨rfl, h2⟩ | ⟨rfl, rfl, rfl⟩ | ⟨rfl, rfl, h3, h4⟩ | ⟨rfl, rfl, j, hnj, hj, cB⟩
              · have e1 : ¬ (ki : Int) = 3 := by omega
                have e2 : ((ki : Int) == 3) = false := by simpa using e1
                go_wp2_with fail
                have HD5 := hide hD5
                clear hD5
                refine (unhide HP5).s.done.mono ?_
                rintro e w6 ⟨v6, rfl, ho6, hf6⟩
                obtain ⟨ao6, cap6, e6⟩ := own_formX ho6
                rw [List.length_map, unhide HD5] at e6
                subst e6
                have HP6 := hide ((unhide HP5).fr0 hf6)
                clear HP5 ho6 hf6
                go_wp2_with fail
                refine (unhide HP6).s.waiting.mono ?_
                rintro e w7 ⟨v7, rfl, ho7, hf7⟩
                obtain ⟨ao7, cap7, e7⟩ := own_formX ho7
                rw [List.length_map] at e7
                obtain ⟨Wn, hWn⟩ : ∃ Wn, (wl cs').length = Wn := ⟨_, rfl⟩
                rw [hWn] at e7
                subst e7
                have hsub : wrap64 ((i : Int) - (D : Int)) = (Wn : Int) := by
                  have h0 := unhide HD5
                  have h1 := wl_count cs'
                  have h2 := nWA cs'
                  have h3 := (unhide HP6).dl
                  have h4 := (unhide HP6).c
                  unfold wrap64
                  omega
                have HP7 := hide ((unhide HP6).fr0 hf7)
                clear HP6 ho7 hf7 hWn
                go_wp2_with fail
                go_roundw
                case rel => exact ⟨k + 1, D, _, _, _, _, _, by omega, unhide HD5, by go_num, by go_num, unhide HP7⟩
                case measure => simp [intOf]; omega
              · have e1 : ¬ (cl : Int) = 1 := by omega
                have e2 : ((cl : Int) == 1) = false := by simpa using e1
                go_wp2_with fail
                have HD5 := hide hD5
                clear hD5
                refine (unhide HP5).s.done.mono ?_
                rintro e w6 ⟨v6, rfl, ho6, hf6⟩
                obtain ⟨ao6, cap6, e6⟩ := own_formX ho6
                rw [List.length_map, unhide HD5] at e6
                subst e6
                have HP6 := hide ((unhide HP5).fr0 hf6)
                clear HP5 ho6 hf6
                go_wp2_with fail
                refine (unhide HP6).s.waiting.mono ?_
                rintro e w7 ⟨v7, rfl, ho7, hf7⟩
                obtain ⟨ao7, cap7, e7⟩ := own_formX ho7
                rw [List.length_map] at e7
                obtain ⟨Wn, hWn⟩ : ∃ Wn, (wl cs').length = Wn := ⟨_, rfl⟩
                rw [hWn] at e7
                subst e7
                have hsub : wrap64 ((i : Int) - (D : Int)) = (Wn : Int) := by
                  have h0 := unhide HD5
                  have h1 := wl_count cs'
                  have h2 := nWA cs'
                  have h3 := (unhide HP6).dl
                  have h4 := (unhide HP6).c
                  unfold wrap64
                  omega
                have HP7 := hide ((unhide HP6).fr0 hf7)
                clear HP6 ho7 hf7 hWn
                go_wp2_with fail
                go_roundw
                case rel => exact ⟨k + 1, D, _, _, _, _, _, by omega, unhide HD5, by go_num, by go_num, unhide HP7⟩
                case measure => simp [intOf]; omega
              · go_wp2_with fail
                have HD5 := hide hD5
                clear hD5
                refine (unhide HP5).s.done.mono ?_
                rintro e w6 ⟨v6, rfl, ho6, hf6⟩
                obtain ⟨ao6, cap6, e6⟩ := own_formX ho6
                rw [List.length_map, unhide HD5] at e6
                subst e6
                have HP6 := hide ((unhide HP5).fr0 hf6)
                clear HP5 ho6 hf6
                go_wp2_with fail
                refine (unhide HP6).s.waiting.mono ?_
                rintro e w7 ⟨v7, rfl, ho7, hf7⟩
                obtain ⟨ao7, cap7, e7⟩ := own_formX ho7
                rw [List.length_map] at e7
                obtain ⟨Wn, hWn⟩ : ∃ Wn, (wl cs').length = Wn := ⟨_, rfl⟩
                rw [hWn] at e7
                subst e7
                have hsub : wrap64 ((i : Int) - (D : Int)) = (Wn : Int) := by
                  have h0 := unhide HD5
                  have h1 := wl_count cs'
                  have h2 := nWA cs'
                  have h3 := (unhide HP6).dl
                  have h4 := (unhide HP6).c
                  unfold wrap64
                  omega
                have HP7 := hide ((unhide HP6).fr0 hf7)
                clear HP6 ho7 hf7 hWn
                go_wp2_with fail
                go_roundw
                case rel => exact ⟨k + 1, D, _, _, _, _, _, by omega, unhide HD5, by go_num, by go_num, unhide HP7⟩
                case measure => simp [intOf]; omega
              · have e1 : (1 : Int) ≤ (nu : Int) := by omega
                have e2 : ¬ (nu : Int) ≤ (i : Int) := by omega
                go_wp2_with fail
                have HD5 := hide hD5
                clear hD5
                refine (unhide HP5).s.done.mono ?_
                rintro e w6 ⟨v6, rfl, ho6, hf6⟩
                obtain ⟨ao6, cap6, e6⟩ := own_formX ho6
                rw [List.length_map, unhide HD5] at e6
                subst e6
                have HP6 := hide ((unhide HP5).fr0 hf6)
                clear HP5 ho6 hf6
                go_wp2_with fail
                refine (unhide HP6).s.waiting.mono ?_
                rintro e w7 ⟨v7, rfl, ho7, hf7⟩
                obtain ⟨ao7, cap7, e7⟩ := own_formX ho7
                rw [List.length_map] at e7
                obtain ⟨Wn, hWn⟩ : ∃ Wn, (wl cs').length = Wn := ⟨_, rfl⟩
                rw [hWn] at e7
                subst e7
                have hsub : wrap64 ((i : Int) - (D : Int)) = (Wn : Int) := by
                  have h0 := unhide HD5
                  have h1 := wl_count cs'
                  have h2 := nWA cs'
                  have h3 := (unhide HP6).dl
                  have h4 := (unhide HP6).c
                  unfold wrap64
                  omega
                have HP7 := hide ((unhide HP6).fr0 hf7)
                clear HP6 ho7 hf7 hWn
                go_wp2_with fail
                go_roundw
                case rel => exact ⟨k + 1, D, _, _, _, _, _, by omega, unhide HD5, by go_num, by go_num, unhide HP7⟩
                case measure => simp [intOf]; omega
              · have e1 : (1 : Int) ≤ (nu : Int) := by omega
                have e2 : (nu : Int) ≤ (i : Int) := by omega
                have e3 : IntKind.u32.wrap ((nu : Int) - 1) = (j : Int) := by
                  have e : ((nu : Int) - 1) % 4294967296 = (j : Int) := by have := (unhide HOK).an; simp only at this; omega
                  simp [IntKind.wrap, IntKind.bits, IntKind.signed, e]
                have e4 : (0 : Int) ≤ (j : Int) := by omega
                have e5 : (j : Int) < 9 := by omega
                have e6 : j < 9 := by omega
                clear hnj
                go_wp2_with fail
                have HD5 := hide hD5
                clear hD5
                refine (unhide HP5).s.done.mono ?_
                rintro e w6 ⟨v6, rfl, ho6, hf6⟩
                obtain ⟨ao6, cap6, e6⟩ := own_formX ho6
                rw [List.length_map, unhide HD5] at e6
                subst e6
                have HP6 := hide ((unhide HP5).fr0 hf6)
                clear HP5 ho6 hf6
                go_wp2_with fail
                refine (unhide HP6).s.waiting.mono ?_
                rintro e w7 ⟨v7, rfl, ho7, hf7⟩
                obtain ⟨ao7, cap7, e7⟩ := own_formX ho7
                rw [List.length_map] at e7
                obtain ⟨Wn, hWn⟩ : ∃ Wn, (wl cs').length = Wn := ⟨_, rfl⟩
                rw [hWn] at e7
                subst e7
                have hsub : wrap64 ((i : Int) - (D : Int)) = (Wn : Int) := by
                  have h0 := unhide HD5
                  have h1 := wl_count cs'
                  have h2 := nWA cs'
                  have h3 := (unhide HP6).dl
                  have h4 := (unhide HP6).c
                  unfold wrap64
                  omega
                have HP7 := hide ((unhide HP6).fr0 hf7)
                clear HP6 ho7 hf7 hWn
                go_wp2_with fail
                go_roundw
                case rel => exact ⟨k + 1, D, _, _, _, _, _, by omega, unhide HD5, by go_num, by go_num, unhide HP7⟩
                case measure => simp [intOf]; omega
          · have hkn : ¬ (k : Int) < (N : Int) := by omega
            clear hlt
            go_wp2_with fail
            go_loopw [17] (fun iv wq => ∃ t : Nat, t ≤ i ∧ iv = .int .i64 (t : Nat) ∧ PI w wq d A (A + 1) i k cs dn T fs hs) (fun iv _ => i - (intOf iv).toNat)
            case atStart => exact ⟨0, Nat.zero_le _, rfl, unhide HP⟩
            case round =>
              clear HP
              obtain ⟨t, hti, rfl, hP⟩ := hrel
              rename World => wr
              have HP := hide hP
              clear hP
              by_cases hlt : t < i
              · have hlt2 : (t : Int) < (i : Int) := by omega
                have hw1 := wrapS t (by omega)
                have hw2 := wrapU t (by omega)
                have e4 : (0 : Int) ≤ (t : Int) := by omega
                have e5 : (t : Int) < 9 := by omega
                have e6 : t < 9 := by omega
                obtain ⟨q, hq⟩ : ∃ q, cs[t]? = some q := ⟨_, List.getElem?_eq_getElem (by have := (unhide HP).c; omega)⟩
                cases hd : q.d with
                | none =>
                  have HC : Hid (Calls Try.prog 19 #[.pointer (some ⟨d, 0, none⟩), .agg #[.int .u32 1, .int .u32 ((t : Int) + 1)]] wr fun e w' => ∃ v u, e = .returned (.tuple #[.agg #[.int .u32 0, .int .u32 0, .int .u8 0, .int .u32 0, .int .u32 0, v, u], .bool false]) ∧ OwF w' wr.heap.size v [] ∧ OwS w' wr.heap.size u [] ∧ Fr (fun _ => False) wr w') := hide ((unhide HP).s.aNo 1 (t + 1) (by omega) (by omega) (fun _ => by simp [fA, hq, hd]))
                  go_wp2_with fail
                  refine (unhide HC).mono ?_
                  rintro e w2 ⟨v2, u2, rfl, hF2, hH2, hf2⟩
                  obtain ⟨fo, fc, rfl⟩ := own_formX hF2
                  obtain ⟨ho, hc2, rfl⟩ := own_formX hH2
                  clear HC hF2 hH2
                  have HP2 := hide ((unhide HP).fr0 hf2)
                  clear HP hf2
                  go_wp2_with fail
                  obtain ⟨W3, hW3⟩ : ∃ W3, w2.alloc (.cells #[.int .u32 0, .int .u32 0, .int .u8 0, .int .u32 0, .int .u32 0, .slice fo 0 fc, .slice ho 0 hc2] 44) = W3 := ⟨_, rfl⟩
                  have hf3 : Fr (fun _ => False) w2 W3 := by rw [← hW3]; exact box1 w2 _
                  rw [hW3]
                  have HP3 := hide ((unhide HP2).fr0 hf3)
                  clear hW3 hf3 HP2 hw1 hw2
                  have HS : Hid (∀ W', Fr (fun _ => False) W3 W' → (fun W : World => W.cell? ⟨A + 1, t, none⟩ = some (.bool false)) W') := hide (fun W' hf => by
                    have h := (unhide HP3).fr0 hf
                    have hb := h.hh t q hq
                    rw [hd] at hb
                    exact cell_of_blk h.bb (by simpa using hb))
                  refine wp_region_held_drew (S := (fun W : World => W.cell? ⟨A + 1, t, none⟩ = some (.bool false))) (by kernel_rfl) ((unhide HS) _ (Fr.refl _ _).drew) (fun hHeld => ?_)
                  refine wtk2 (i := 0) rfl hHeld ?_
                  (try simp only [Act.put, nrm])
                  refine wtk2 (i := 1) rfl hHeld ?_
                  (try simp only [Act.put, nrm])
                  refine wtk2 (i := 2) rfl hHeld ?_
                  (try simp only [Act.put, nrm])
                  refine wtk2 (i := 3) rfl hHeld ?_
                  (try simp only [Act.put, nrm])
                  refine wtk2 (i := 4) rfl hHeld ?_
                  (try simp only [Act.put, nrm])
                  refine wtk2 (i := 5) rfl hHeld ?_
                  (try simp only [Act.put, nrm])
                  refine wtk2 (i := 6) rfl hHeld ?_
                  (try simp only [Act.put, nrm])
                  refine wtk2 (i := 7) rfl hHeld ?_
                  (try simp only [Act.put, nrm])
                  refine wtk (i := 8) rfl (Or.inr ⟨rfl, rfl⟩) hHeld ?_
                  (try simp only [Act.put, nrm])
                  refine wtk (i := 9) rfl (Or.inr ⟨rfl, rfl⟩) hHeld ?_
                  (try simp only [Act.put, nrm])
                  refine wtk (i := 10) rfl (Or.inr ⟨rfl, rfl⟩) hHeld ?_
                  (try simp only [Act.put, nrm])
                  refine wtk (i := 11) rfl (Or.inr ⟨rfl, rfl⟩) hHeld ?_
                  (try simp only [Act.put, nrm])
                  refine wtk (i := 12) rfl (Or.inr ⟨rfl, rfl⟩) hHeld ?_
                  (try simp only [Act.put, nrm])
                  refine wtk (i := 13) rfl (Or.inr ⟨rfl, rfl⟩) hHeld ?_
                  (try simp only [Act.put, nrm])
                  refine wtk2 (i := 14) rfl hHeld ?_
                  (try simp only [Act.put, nrm])
                  refine wtk2 (i := 15) rfl hHeld ?_
                  (try simp only [Act.put, nrm])
                  refine wpAnyH_done (by kernel_rfl) ?_ _
                  clear hHeld HS
                  have HP4 := hide ((unhide HP3).fr0 (Fr.refl _ _).drew)
                  clear HP3
                  go_wp2_with fail
                  go_roundw
                  case rel => exact ⟨t + 1, by omega, by go_num, unhide HP4⟩
                  case measure => simp [intOf]; omega
                | some x =>
                  obtain ⟨⟨xcl, xnu, xco, xrc, xve, xfv, xhv⟩, F, H⟩ := x
                  obtain ⟨hcl, hnu, fv, hv, hRf, hRh, hfs⟩ := (unhide HP).hf t q _ hq hd
                  obtain ⟨_, _, lF, lH⟩ := (unhide HP).s.fdsX (List.mem_of_getElem? hq) hd
                  simp only at hcl hnu hRf hRh hfs lF lH
                  subst hcl hnu
                  have HC : Hid (Calls Try.prog 19 #[.pointer (some ⟨d, 0, none⟩), .agg #[.int .u32 1, .int .u32 ((t : Int) + 1)]] wr fun e w' => ∃ v u, e = .returned (.tuple #[.agg #[.int .u32 1, .int .u32 ((t : Int) + 1), .int .u8 (xco : Nat), .int .u32 (xrc : Nat), .int .u32 (xve : Nat), v, u], .bool true]) ∧ OwF w' wr.heap.size v F ∧ OwS w' wr.heap.size u H ∧ Fr (fun _ => False) wr w') := hide ((unhide HP).s.aYes t q _ hq hd)
                  go_wp2_with fail
                  refine (unhide HC).mono ?_
                  rintro e w2 ⟨v2, u2, rfl, hF2, hH2, hf2⟩
                  obtain ⟨fo, fc, rfl⟩ := own_formX hF2
                  obtain ⟨ho, hc2, rfl⟩ := own_formX hH2
                  have HO2 := hide (And.intro hF2 hH2)
                  have HR := hide (And.intro hRf (And.intro hRh (And.intro lF (And.intro lH hfs))))
                  clear HC hF2 hH2 hRf hRh hfs lF lH
                  have HP2 := hide ((unhide HP).fr0 hf2)
                  clear HP hf2
                  go_wp2_with fail
                  obtain ⟨W3, hW3⟩ : ∃ W3, w2.alloc (.cells #[.int .u32 1, .int .u32 ((t : Int) + 1), .int .u8 (xco : Nat), .int .u32 (xrc : Nat), .int .u32 (xve : Nat), .slice fo F.length fc, .slice ho H.length hc2] 44) = W3 := ⟨_, rfl⟩
                  have hf3 : Fr (fun _ => False) w2 W3 := by rw [← hW3]; exact box1 w2 _
                  have hb3 : W3.heap[w2.heap.size]? = some (.cells #[.int .u32 1, .int .u32 ((t : Int) + 1), .int .u8 (xco : Nat), .int .u32 (xrc : Nat), .int .u32 (xve : Nat), .slice fo F.length fc, .slice ho H.length hc2] 44) := by rw [← hW3]; exact heap_alloc_new w2 _
                  rw [hW3]
                  have HP3 := hide ((unhide HP2).fr0 hf3)
                  have HG : Hid (∀ W', Fr (fun _ => False) W3 W' → Calls Try.prog 25 #[.agg #[.int .u32 1, .int .u32 ((t : Int) + 1), .int .u8 (xco : Nat), .int .u32 (xrc : Nat), .int .u32 (xve : Nat), .slice fo F.length fc, .slice ho H.length hc2], .agg #[.int .u32 1, .int .u32 ((t : Int) + 1), .int .u8 (xco : Nat), .int .u32 (xrc : Nat), .int .u32 (xve : Nat), fv, hv]] W' fun e w' => e = .returned (.bool true) ∧ Fr (fun _ => False) W' w') := hide (fun W' hf => by
                    have hfw := (unhide HP3).f.trans0 hf
                    have := gsameAnswer_any ⟨1, t + 1, xco, xrc, xve, .slice fo F.length fc, .slice ho H.length hc2⟩ ⟨1, t + 1, xco, xrc, xve, fv, hv⟩ F F H H W' ((OwF.fds (unhide HO2).1).fr (hf3.trans0 hf)) (rd_fds ((unhide HR).1.fr0 hfw)) ((OwS.sms (unhide HO2).2).fr (hf3.trans0 hf)) (sms_of_rd ((unhide HR).2.1.fr0 hfw)) (unhide HR).2.2.1 (unhide HR).2.2.2.1
                    have e := gsameA_refl ⟨1, t + 1, xco, xrc, xve, .slice fo F.length fc, .slice ho H.length hc2⟩ ⟨1, t + 1, xco, xrc, xve, fv, hv⟩ F H rfl rfl rfl rfl rfl
                    rw [e] at this
                    exact this)
                  have HS : Hid (∀ W', Fr (fun _ => False) W3 W' → (fun W : World => W.cell? ⟨A + 1, t, none⟩ = some (.bool true) ∧ W.rangeAt w2.heap.size 0 [.int .u32 1, .int .u32 ((t : Int) + 1), .int .u8 (xco : Nat), .int .u32 (xrc : Nat), .int .u32 (xve : Nat), .slice fo F.length fc, .slice ho H.length hc2] ∧ W.rangeAt A (t * 7) [.int .u32 1, .int .u32 ((t : Int) + 1), .int .u8 (xco : Nat), .int .u32 (xrc : Nat), .int .u32 (xve : Nat), fv, hv]) W') := hide (fun W' hf => by
                    have h := (unhide HP3).fr0 hf
                    have hb := h.hh t q hq
                    rw [hd] at hb
                    refine ⟨cell_of_blk h.bb (by simpa using hb), range_of_block ((hf.block _ (lt_of_block hb3) (fun h => h)).trans hb3), fun i v hv => ?_⟩
                    exact cell_of_blk h.ba (by simpa using (unhide HR).2.2.2.2 i v hv))
                  clear hW3 hf3 HP2 HO2 HR hb3 hw1 hw2
                  refine wp_region_held_drew (S := (fun W : World => W.cell? ⟨A + 1, t, none⟩ = some (.bool true) ∧ W.rangeAt w2.heap.size 0 [.int .u32 1, .int .u32 ((t : Int) + 1), .int .u8 (xco : Nat), .int .u32 (xrc : Nat), .int .u32 (xve : Nat), .slice fo F.length fc, .slice ho H.length hc2] ∧ W.rangeAt A (t * 7) [.int .u32 1, .int .u32 ((t : Int) + 1), .int .u8 (xco : Nat), .int .u32 (xrc : Nat), .int .u32 (xve : Nat), fv, hv])) (by kernel_rfl) ((unhide HS) _ (Fr.refl _ _).drew) (fun hHeld => ?_)
                  refine wtk2 (i := 0) rfl hHeld ?_
                  (try simp only [Act.put, nrm])
                  refine wtk2 (i := 1) rfl hHeld ?_
                  (try simp only [Act.put, nrm])
                  refine wtk2 (i := 2) rfl hHeld ?_
                  (try simp only [Act.put, nrm])
                  refine wtk2 (i := 3) rfl hHeld ?_
                  (try simp only [Act.put, nrm])
                  refine wtk2 (i := 4) rfl hHeld ?_
                  (try simp only [Act.put, nrm])
                  refine wtk2 (i := 5) rfl hHeld ?_
                  (try simp only [Act.put, nrm])
                  refine wtk2 (i := 6) rfl hHeld ?_
                  (try simp only [Act.put, nrm])
                  refine wtk2 (i := 7) rfl hHeld ?_
                  (try simp only [Act.put, nrm])
                  refine wtk (i := 8) rfl (yieldsIf_load_mid rfl 44 (.tmp 18) rfl w2.heap.size 0 rfl _ _ (fun w h => h.2.1) Try.underlying44 rfl Try.sizeAn) hHeld ?_
                  (try simp only [Act.put, nrm])
                  refine wtk2 (i := 9) rfl hHeld ?_
                  (try simp only [Act.put, nrm])
                  refine wtk2 (i := 10) rfl hHeld ?_
                  (try simp only [Act.put, nrm])
                  refine wtk (i := 11) rfl (yieldsIf_load_mid rfl 44 (.tmp 149) rfl A (t * 7) rfl _ _ (fun w h => h.2.2) Try.underlying44 rfl Try.sizeAn) hHeld ?_
                  (try simp only [Act.put, nrm])
                  refine wpAnyH_ready (rs := [12]) (by kernel_rfl) (by simp) (AllReadyH.cons rfl (fun K hK => ?_) AllReadyH.nil)
                  go_simp
                  refine ((unhide HG) _ (Fr.refl _ _).drew).mono ?_
                  rintro e w4 ⟨rfl, hf4⟩
                  have hf34 : Fr (fun _ => False) W3 w4 := (Fr.refl _ _).drew.trans0 hf4
                  clear hf4
                  try dsimp only
                  refine hK.out _ _ ((unhide HS) _ hf34) (fun hHeld => ?_)
                  clear hK K
                  (try simp only [Act.put, nrm])
                  refine wtk2 (i := 13) rfl hHeld ?_
                  (try simp only [Act.put, nrm])
                  refine wtk2 (i := 14) rfl hHeld ?_
                  (try simp only [Act.put, nrm])
                  refine wtk2 (i := 15) rfl hHeld ?_
                  (try simp only [Act.put, nrm])
                  refine wpAnyH_done (by kernel_rfl) ?_ _
                  clear hHeld HS HG
                  have HP4 := hide ((unhide HP3).fr0 hf34)
                  clear HP3 hf34
                  go_wp2_with fail
                  go_roundw
                  case rel => exact ⟨t + 1, by omega, by go_num, unhide HP4⟩
                  case measure => simp [intOf]; omega
              · have hkn2 : ¬ (t : Int) < (i : Int) := by omega
                go_wp2_with fail
                go_ret
                exact ⟨rfl, (unhide HP).f⟩
end Go.Proofs.Ytfaponkpgcdgkaa

namespace Go.Proofs.Ytfaponkpgcdgkaa
open Go.RowKit Go.Maps

/-- SessionOnce. -/
theorem sonce_any (w : World) (c : Int) (x : Value) (ms : List MG) (hx : MgR w x ms) : Calls Try.prog 5 #[.int .i64 c, x] w fun e w' => e = .returned (.bool true) ∧ Fr (fun _ => False) w w' := by
  obtain ⟨n, hn, hc | ⟨hc, hp⟩⟩ := tmod_abs c
  · exact sonce_pos w c x ms hx n hn hc
  · exact sonce_neg w c x ms hx n hn hc hp
end Go.Proofs.Ytfaponkpgcdgkaa

namespace Go.Proofs.Ytfaponkpgcdgkaa
open Go.ChangeShapes Go.WideShapes Go.ChangeAt Go.RowKit
set_option maxRecDepth 100000

theorem Try.ownKnob : ownKnob Try.prog.godebug = none := by kernel_rfl
theorem Fr.below {w w' : World} (h : Fr (fun _ => False) w w') : Below w.heap.size w w' := ⟨h.os, h.tape, h.output, h.size, fun k hk => h.block k hk (fun x => x)⟩
end Go.Proofs.Ytfaponkpgcdgkaa

namespace Go.Proofs.Ytfaponkpgcdgkaa
open Go.ChangeShapes Go.WideShapes Go.ChangeAt Go.RowKit Go.Deep
set_option maxRecDepth 100000

theorem nat_u32 {a : Int} (h : (Lit.int .u32 a).wf = true) : ∃ n : Nat, a = n ∧ n < 4294967296 := ⟨a.toNat, by have := bounds_u32 h; omega, by have := bounds_u32 h; omega⟩
theorem nat_u8 {a : Int} (h : (Lit.int .u8 a).wf = true) : ∃ n : Nat, a = n ∧ n < 256 := ⟨a.toNat, by have := bounds_u8 h; omega, by have := bounds_u8 h; omega⟩
theorem bulk_pos {H : Type} (d : DataW H) : 1 ≤ Rows.uptoBulk d := by
  unfold Rows.uptoBulk
  split <;> omega
theorem bulk_len {H : Type} : ∀ l : List (DataW H), l.length ≤ Rows.uptoBulkAll l
  | [] => Nat.zero_le _
  | d :: r => by
    have h1 := bulk_pos d
    have h2 := bulk_len r
    simp only [Rows.uptoBulkAll, List.length_cons]
    omega
theorem bulk_in {H : Type} : ∀ (l : List (DataW H)) (d : DataW H), d ∈ l → Rows.uptoBulk d ≤ Rows.uptoBulkAll l
  | [], d, h => by cases h
  | x :: r, d, h => by
    simp only [Rows.uptoBulkAll]
    rcases List.mem_cons.1 h with rfl | h
    · omega
    · have := bulk_in r d h
      omega
theorem Try.zclU32 : Try.prog.cellsOf 26 = 1 := by kernel_rfl
theorem Try.zclU8 : Try.prog.cellsOf 5 = 1 := by kernel_rfl
theorem Try.zclF32 : Try.prog.cellsOf 77 = 1 := by kernel_rfl
theorem Try.zclStr : Try.prog.cellsOf 9 = 1 := by kernel_rfl
theorem Try.zclBool : Try.prog.cellsOf 4 = 1 := by kernel_rfl
theorem Try.zclFd : Try.prog.cellsOf 79 = 5 := by kernel_rfl
theorem Try.zclSm : Try.prog.cellsOf 81 = 4 := by kernel_rfl
theorem Try.zclId : Try.prog.cellsOf 29 = 2 := by kernel_rfl
theorem Try.zclSlf : Try.prog.cellsOf 32 = 1 := by kernel_rfl
theorem Try.zclSlm : Try.prog.cellsOf 42 = 1 := by kernel_rfl
theorem Try.zclSlb : Try.prog.cellsOf 45 = 1 := by kernel_rfl
theorem Try.zclRq : Try.prog.cellsOf 34 = 10 := by kernel_rfl
theorem Try.zclAn : Try.prog.cellsOf 44 = 7 := by kernel_rfl
theorem Try.zclEv : Try.prog.cellsOf 47 = 13 := by kernel_rfl
theorem Try.zclMs : Try.prog.cellsOf 49 = 35 := by kernel_rfl
theorem trod_floatw {H : Type} {enc : TypeId × Value → H} {P : Program} {w : World} {base : Nat} {spare : Nat → Bool} {held : Bool} {fuel : Nat} {t : TypeId} {cs : List Value} {x : DataW H × List MemPlace} (ht : P.underlying t = some (.float .f32)) (h : DataW.trod enc P w base spare held fuel t cs = some x) : ∃ b, cs = [.float .f32 b] ∧ b < 4294967296 := by
  cases fuel with
  | zero => simp [DataW.trod] at h
  | succ n =>
    unfold DataW.trod at h
    rw [ht] at h
    split at h <;> simp_all [Lit.wf]
    rename_i k' b hk
    subst hk
    by_cases hh : k' = FloatKind.f32 ∧ decide (b < 4294967296) = true
    · exact ⟨_, ⟨hh.1, rfl⟩, of_decide_eq_true hh.2⟩
    · exact absurd ((if_neg hh).symm.trans h) (by simp)
theorem trod_boolw {H : Type} {enc : TypeId × Value → H} {P : Program} {w : World} {base : Nat} {spare : Nat → Bool} {held : Bool} {fuel : Nat} {t : TypeId} {cs : List Value} {x : DataW H × List MemPlace} (ht : P.underlying t = some .bool) (h : DataW.trod enc P w base spare held fuel t cs = some x) : ∃ b, cs = [.bool b] := by
  cases fuel with
  | zero => simp [DataW.trod] at h
  | succ n =>
    unfold DataW.trod at h
    rw [ht] at h
    split at h <;> simp_all
/-- A row's cells, one element behind the other. -/
theorem rows_at {W : World} {a : Addr} {z : Nat} (f : Nat → List Value) : ∀ len, (∀ i, i < len → (f i).length = z) → (∀ i, i < len → ∀ j, j < z → W.cell? ((a.add (i * z)).add j) = (f i)[j]?) → ((List.range len).flatMap f).length = len * z ∧ ∀ k u, ((List.range len).flatMap f)[k]? = some u → W.cell? (a.add k) = some u
  | 0, _, _ => by simp
  | n + 1, hl, hc => by
    obtain ⟨ih1, ih2⟩ := rows_at f n (fun i hi => hl i (by omega)) (fun i hi => hc i (by omega))
    rw [List.range_succ, List.flatMap_append]
    have e : [n].flatMap f = f n := by simp
    rw [e]
    refine ⟨by rw [List.length_append, ih1, hl n (by omega), Nat.succ_mul], fun k u hk => ?_⟩
    by_cases h : k < n * z
    · rw [List.getElem?_append_left (by omega)] at hk
      exact ih2 k u hk
    · rw [List.getElem?_append_right (by omega), ih1] at hk
      have hj : k - n * z < z := by have := (List.getElem?_eq_some_iff.1 hk).1; rw [hl n (by omega)] at this; exact this
      have := hc n (by omega) (k - n * z) hj
      rw [hk] at this
      rw [← this]
      congr 1
      have e2 : n * z + (k - n * z) = k := by omega
      rw [Addr.add_add, e2]
theorem f5_of_trod {H : Type} {enc : TypeId × Value → H} {W : World} {fuel : Nat} {cs : List Value} {x : DataW H × List MemPlace} (h : DataW.trod enc Try.prog W 0 (fun _ => true) true fuel 79 cs = some x) :
    ∃ s : F5, cs = [.string s.n, .int .u8 (s.k : Nat), .string s.t, .float .f32 s.v, .int .u8 (s.u : Nat)] := by
  obtain ⟨xs, n, _, rfl, hl, hlen, hf⟩ := DataW.trod_struct Try.underlying79 h
  rw [Try.zclFd] at hl
  have h0 := hf 0 _ rfl
  have h1 := hf 1 _ rfl
  have h2 := hf 2 _ rfl
  have h3 := hf 3 _ rfl
  have h4 := hf 4 _ rfl
  match cs, hl with
  | [c0, c1, c2, c3, c4], _ =>
    match xs, hlen with
    | [y0, y1, y2, y3, y4], _ =>
      simp [Try.zclU8, Try.zclStr, Try.zclF32] at h0 h1 h2 h3 h4
      obtain ⟨a, e0, _, _⟩ := DataW.trod_string Try.underlying9 h0
      obtain ⟨b, e1, _, wb⟩ := DataW.trod_int Try.underlying5 h1
      obtain ⟨c, e2, _, _⟩ := DataW.trod_string Try.underlying9 h2
      obtain ⟨d, e3, wd⟩ := trod_floatw Try.underlying77 h3
      obtain ⟨e, e4, _, we⟩ := DataW.trod_int Try.underlying5 h4
      simp only [List.cons.injEq, and_true] at e0 e1 e2 e3 e4
      subst e0 e1 e2 e3 e4
      obtain ⟨b, rfl, _⟩ := nat_u8 wb
      obtain ⟨e, rfl, _⟩ := nat_u8 we
      exact ⟨⟨a, b, c, d, e⟩, rfl⟩
theorem sm_of_trod {H : Type} {enc : TypeId × Value → H} {W : World} {fuel : Nat} {cs : List Value} {x : DataW H × List MemPlace} (h : DataW.trod enc Try.prog W 0 (fun _ => true) true fuel 81 cs = some x) :
    ∃ s : SM, cs = [.int .u32 (s.au : Nat), .int .u32 (s.ev : Nat), .int .u32 (s.nf : Nat), .bool s.rd] := by
  obtain ⟨xs, n, _, rfl, hl, hlen, hf⟩ := DataW.trod_struct Try.underlying81 h
  rw [Try.zclSm] at hl
  have h0 := hf 0 _ rfl
  have h1 := hf 1 _ rfl
  have h2 := hf 2 _ rfl
  have h3 := hf 3 _ rfl
  match cs, hl with
  | [c0, c1, c2, c3], _ =>
    match xs, hlen with
    | [y0, y1, y2, y3], _ =>
      simp [Try.zclU32, Try.zclBool] at h0 h1 h2 h3
      obtain ⟨a, e0, _, wa⟩ := DataW.trod_int Try.underlying26 h0
      obtain ⟨b, e1, _, wb⟩ := DataW.trod_int Try.underlying26 h1
      obtain ⟨c, e2, _, wc⟩ := DataW.trod_int Try.underlying26 h2
      obtain ⟨d, e3⟩ := trod_boolw Try.underlying4 h3
      simp only [List.cons.injEq, and_true] at e0 e1 e2 e3
      subst e0 e1 e2 e3
      obtain ⟨a, rfl, _⟩ := nat_u32 wa
      obtain ⟨b, rfl, _⟩ := nat_u32 wb
      obtain ⟨c, rfl, _⟩ := nat_u32 wc
      exact ⟨⟨a, b, c, d⟩, rfl⟩
/-- A list that came in. -/
theorem rdField_of_trod {H : Type} {enc : TypeId × Value → H} {W : World} {fuel : Nat} {v : Value} {x : DataW H × List MemPlace} (hf : DataW.trod enc Try.prog W 0 (fun _ => true) true fuel 32 [v] = some x) :
    ∃ A : List F5, Rd W v A.length 5 (fcells A) ∧ A.length + 1 ≤ Rows.uptoBulk x.1 := by
  rcases open_slice Try.underlying32 hf with ⟨hcs, hx⟩ | ⟨a, len', cap', m, n, D, Pl, hcs, _, hl, hm, hmm, hx, hel⟩
  · simp only [List.cons.injEq, and_true] at hcs
    subst hcs
    exact ⟨[], Rd.nil W 5, bulk_pos _⟩
  · simp only [List.cons.injEq, and_true] at hcs
    subst hcs
    subst hx
    simp only [if_true] at hmm
    subst hmm
    have hp : ∀ i, ∃ s : F5, i < m → ∀ j, j < 5 → W.cell? ((a.add (i * 5)).add j) = [Value.string (s).n, .int .u8 ((s).k : Nat), .string (s).t, .float .f32 (s).v, .int .u8 ((s).u : Nat)][j]? := fun i => by
      by_cases hi : i < m
      · obtain ⟨cs', h1, h2⟩ := hel i hi
        rw [Try.zclFd] at h1
        obtain ⟨_, hlen, hcell⟩ := World.cells?_some h1
        obtain ⟨s, rfl⟩ := f5_of_trod h2
        exact ⟨s, fun _ => hcell⟩
      · exact ⟨⟨ByteArray.empty, 0, ByteArray.empty, 0, 0⟩, fun h => absurd h hi⟩
    obtain ⟨Q, hQ⟩ : ∃ Q : Nat → F5, ∀ i, i < m → ∀ j, j < 5 → W.cell? ((a.add (i * 5)).add j) = ((fun s : F5 => [Value.string (s).n, .int .u8 ((s).k : Nat), .string (s).t, .float .f32 (s).v, .int .u8 ((s).u : Nat)]) (Q i))[j]? := ⟨fun i => Classical.choose (hp i), fun i => Classical.choose_spec (hp i)⟩
    have hbulk := bulk_len ((List.range len').map D)
    have hd : Rows.uptoBulkAll ((List.range len').map D) + 1 ≤ Rows.uptoBulk (DataW.slice ((List.range len').map D) ((List.range (m - len')).map fun j => D (len' + j)) : DataW H) := by
      simp only [Rows.uptoBulk]; omega
    obtain ⟨hr1, hr2⟩ := rows_at (W := W) (a := a) (z := 5) (fun i => (fun s : F5 => [Value.string (s).n, .int .u8 ((s).k : Nat), .string (s).t, .float .f32 (s).v, .int .u8 ((s).u : Nat)]) (Q i)) len' (fun i _ => rfl) (fun i hi => hQ i (by omega))
    have hce : fcells ((List.range len').map Q) = (List.range len').flatMap (fun i => (fun s : F5 => [Value.string (s).n, .int .u8 ((s).k : Nat), .string (s).t, .float .f32 (s).v, .int .u8 ((s).u : Nat)]) (Q i)) := by
      unfold fcells
      rw [List.flatMap_map]
    have hll : ((List.range len').map Q).length = len' := by simp
    refine ⟨(List.range len').map Q, ⟨⟨some a, m, by rw [hll], by rw [hll]; exact hl, fun e => (by cases e), fun j u hu => ?_⟩, by rw [hll, hce, hr1], fcells_one _⟩, by simp at hbulk ⊢; omega⟩
    rw [hce] at hu
    have h1 := hr2 j u hu
    have h0 := hr2 0 _ (List.getElem?_eq_getElem (by have := (List.getElem?_eq_some_iff.1 hu).1; omega))
    obtain ⟨g, o, sp⟩ := a
    have hsp : sp = none := by simpa [Addr.add] using World.cell?_spot h0
    subst hsp
    exact ⟨g, o, rfl, by rw [Addr.add_mid] at h1; exact h1⟩
/-- A list that came in. -/
theorem rdSummary_of_trod {H : Type} {enc : TypeId × Value → H} {W : World} {fuel : Nat} {v : Value} {x : DataW H × List MemPlace} (hf : DataW.trod enc Try.prog W 0 (fun _ => true) true fuel 42 [v] = some x) :
    ∃ A : List SM, Rd W v A.length 4 (scells A) ∧ A.length + 1 ≤ Rows.uptoBulk x.1 := by
  rcases open_slice Try.underlying42 hf with ⟨hcs, hx⟩ | ⟨a, len', cap', m, n, D, Pl, hcs, _, hl, hm, hmm, hx, hel⟩
  · simp only [List.cons.injEq, and_true] at hcs
    subst hcs
    exact ⟨[], Rd.nil W 4, bulk_pos _⟩
  · simp only [List.cons.injEq, and_true] at hcs
    subst hcs
    subst hx
    simp only [if_true] at hmm
    subst hmm
    have hp : ∀ i, ∃ s : SM, i < m → ∀ j, j < 4 → W.cell? ((a.add (i * 4)).add j) = [Value.int .u32 ((s).au : Nat), .int .u32 ((s).ev : Nat), .int .u32 ((s).nf : Nat), .bool (s).rd][j]? := fun i => by
      by_cases hi : i < m
      · obtain ⟨cs', h1, h2⟩ := hel i hi
        rw [Try.zclSm] at h1
        obtain ⟨_, hlen, hcell⟩ := World.cells?_some h1
        obtain ⟨s, rfl⟩ := sm_of_trod h2
        exact ⟨s, fun _ => hcell⟩
      · exact ⟨⟨0, 0, 0, false⟩, fun h => absurd h hi⟩
    obtain ⟨Q, hQ⟩ : ∃ Q : Nat → SM, ∀ i, i < m → ∀ j, j < 4 → W.cell? ((a.add (i * 4)).add j) = ((fun s : SM => [Value.int .u32 ((s).au : Nat), .int .u32 ((s).ev : Nat), .int .u32 ((s).nf : Nat), .bool (s).rd]) (Q i))[j]? := ⟨fun i => Classical.choose (hp i), fun i => Classical.choose_spec (hp i)⟩
    have hbulk := bulk_len ((List.range len').map D)
    have hd : Rows.uptoBulkAll ((List.range len').map D) + 1 ≤ Rows.uptoBulk (DataW.slice ((List.range len').map D) ((List.range (m - len')).map fun j => D (len' + j)) : DataW H) := by
      simp only [Rows.uptoBulk]; omega
    obtain ⟨hr1, hr2⟩ := rows_at (W := W) (a := a) (z := 4) (fun i => (fun s : SM => [Value.int .u32 ((s).au : Nat), .int .u32 ((s).ev : Nat), .int .u32 ((s).nf : Nat), .bool (s).rd]) (Q i)) len' (fun i _ => rfl) (fun i hi => hQ i (by omega))
    have hce : scells ((List.range len').map Q) = (List.range len').flatMap (fun i => (fun s : SM => [Value.int .u32 ((s).au : Nat), .int .u32 ((s).ev : Nat), .int .u32 ((s).nf : Nat), .bool (s).rd]) (Q i)) := by
      unfold scells
      rw [List.flatMap_map]
    have hll : ((List.range len').map Q).length = len' := by simp
    refine ⟨(List.range len').map Q, ⟨⟨some a, m, by rw [hll], by rw [hll]; exact hl, fun e => (by cases e), fun j u hu => ?_⟩, by rw [hll, hce, hr1], scells_one _⟩, by simp at hbulk ⊢; omega⟩
    rw [hce] at hu
    have h1 := hr2 j u hu
    have h0 := hr2 0 _ (List.getElem?_eq_getElem (by have := (List.getElem?_eq_some_iff.1 hu).1; omega))
    obtain ⟨g, o, sp⟩ := a
    have hsp : sp = none := by simpa [Addr.add] using World.cell?_spot h0
    subst hsp
    exact ⟨g, o, rfl, by rw [Addr.add_mid] at h1; exact h1⟩
theorem id_of_trod {H : Type} {enc : TypeId × Value → H} {W : World} {fuel : Nat} {cs : List Value} {x : DataW H × List MemPlace} (h : DataW.trod enc Try.prog W 0 (fun _ => true) true fuel 29 cs = some x) :
    ∃ c k : Nat, cs = [.int .u32 (c : Nat), .int .u32 (k : Nat)] ∧ c < 4294967296 ∧ k < 4294967296 := by
  obtain ⟨xs, n, _, rfl, hl, hlen, hf⟩ := DataW.trod_struct Try.underlying29 h
  rw [Try.zclId] at hl
  have h0 := hf 0 _ rfl
  have h1 := hf 1 _ rfl
  match cs, hl with
  | [c0, c1], _ =>
    match xs, hlen with
    | [y0, y1], _ =>
      simp [Try.zclU32] at h0 h1
      obtain ⟨a, e0, _, wa⟩ := DataW.trod_int Try.underlying26 h0
      obtain ⟨b, e1, _, wb⟩ := DataW.trod_int Try.underlying26 h1
      simp only [List.cons.injEq, and_true] at e0 e1
      subst e0 e1
      obtain ⟨a, rfl, ha⟩ := nat_u32 wa
      obtain ⟨b, rfl, hb⟩ := nat_u32 wb
      exact ⟨a, b, rfl, ha, hb⟩
theorem sl_of_trod {H : Type} {enc : TypeId × Value → H} {P : Program} {W : World} {fuel : Nat} {t e : TypeId} {v : Value} {x : DataW H × List MemPlace} (ht : P.underlying t = some (.slice e)) (hf : DataW.trod enc P W 0 (fun _ => true) true fuel t [v] = some x) : ∃ a n c, v = .slice a n c := by
  rcases open_slice ht hf with ⟨hcs, hx⟩ | ⟨a, len', cap', m, n, D, Pl, hcs, _⟩
  · simp only [List.cons.injEq, and_true] at hcs
    exact ⟨_, _, _, hcs⟩
  · simp only [List.cons.injEq, and_true] at hcs
    exact ⟨_, _, _, hcs⟩
/-- A request that came in: cells, whatever they hold. -/
theorem rq_one {H : Type} {enc : TypeId × Value → H} {W : World} {fuel : Nat} {cs : List Value} {x : DataW H × List MemPlace} (h : DataW.trod enc Try.prog W 0 (fun _ => true) true fuel 34 cs = some x) : cs.length = 10 ∧ ∀ v ∈ cs, v.oneCell' = true := by
  obtain ⟨xs, n, _, rfl, hl, hlen, hf⟩ := DataW.trod_struct Try.underlying34 h
  rw [Try.zclRq] at hl
  have h0 := hf 0 _ rfl
  have h1 := hf 1 _ rfl
  have h2 := hf 2 _ rfl
  have h3 := hf 3 _ rfl
  have h4 := hf 4 _ rfl
  have h5 := hf 5 _ rfl
  have h6 := hf 6 _ rfl
  have h7 := hf 7 _ rfl
  have h8 := hf 8 _ rfl
  match cs, hl with
  | [c0, c1, c2, c3, c4, c5, c6, c7, c8, c9], _ =>
    match xs, hlen with
    | [y0, y1, y2, y3, y4, y5, y6, y7, y8], _ =>
      simp [Try.zclU32, Try.zclU8, Try.zclId, Try.zclSlf, Try.zclStr] at h0 h1 h2 h3 h4 h5 h6 h7 h8
      obtain ⟨cl, nu, e0, _⟩ := id_of_trod h0
      obtain ⟨ac, e1, q1, w1⟩ := DataW.trod_int Try.underlying26 h1
      obtain ⟨op, e2, q2, w2⟩ := DataW.trod_int Try.underlying5 h2
      obtain ⟨rc, e3, q3, w3⟩ := DataW.trod_int Try.underlying26 h3
      obtain ⟨ve, e4, q4, w4⟩ := DataW.trod_int Try.underlying26 h4
      obtain ⟨wa, e5, q5, w5⟩ := DataW.trod_int Try.underlying26 h5
      obtain ⟨ow, e6, q6, w6⟩ := DataW.trod_int Try.underlying26 h6
      obtain ⟨a7, n7, k7, e7⟩ := sl_of_trod Try.underlying32 h7
      obtain ⟨rs, e8, q8, _⟩ := DataW.trod_string Try.underlying9 h8
      simp only [List.cons.injEq, and_true] at e0 e1 e2 e3 e4 e5 e6 e8
      obtain ⟨rfl, rfl⟩ := e0
      subst e1 e2 e3 e4 e5 e6 e7 e8
      exact ⟨rfl, fun v hv => by
        simp only [List.mem_cons, List.not_mem_nil, or_false] at hv
        rcases hv with rfl | rfl | rfl | rfl | rfl | rfl | rfl | rfl | rfl | rfl <;> rfl⟩
theorem ev_one {H : Type} {enc : TypeId × Value → H} {W : World} {fuel : Nat} {cs : List Value} {x : DataW H × List MemPlace} (h : DataW.trod enc Try.prog W 0 (fun _ => true) true fuel 47 cs = some x) : cs.length = 13 ∧ ∀ v ∈ cs, v.oneCell' = true := by
  obtain ⟨xs, n, _, rfl, hl, hlen, hf⟩ := DataW.trod_struct Try.underlying47 h
  rw [Try.zclEv] at hl
  have h0 := hf 0 _ rfl
  have h1 := hf 1 _ rfl
  have h2 := hf 2 _ rfl
  have h3 := hf 3 _ rfl
  match cs, hl with
  | [c0, c1, c2, c3, c4, c5, c6, c7, c8, c9, c10, c11, c12], _ =>
    match xs, hlen with
    | [y0, y1, y2, y3], _ =>
      simp [Try.zclU32, Try.zclU8, Try.zclRq, Try.zclSlb] at h0 h1 h2 h3
      obtain ⟨pl, e0, _, _⟩ := DataW.trod_int Try.underlying26 h0
      obtain ⟨_, hr⟩ := rq_one h1
      obtain ⟨co, e2, _, _⟩ := DataW.trod_int Try.underlying5 h2
      obtain ⟨a3, n3, k3, e3⟩ := sl_of_trod Try.underlying45 h3
      simp only [List.cons.injEq, and_true] at e0 e2
      subst e0 e2 e3
      exact ⟨rfl, fun v hv => by
        simp only [List.mem_cons, List.not_mem_nil, or_false] at hv
        rcases hv with rfl | h | h | h | h | h | h | h | h | h | h | rfl | rfl
        · rfl
        iterate 10 (first | exact hr v (by simp [h]) | skip)
        · rfl
        · rfl⟩
/-- An answer that came in. -/
theorem an_of_trod {H : Type} {enc : TypeId × Value → H} {W : World} {fuel : Nat} {cs : List Value} {x : DataW H × List MemPlace} (h : DataW.trod enc Try.prog W 0 (fun _ => true) true fuel 44 cs = some x) :
    ∃ (a : AN) (F : List F5) (K : List SM), cs = a.cs ∧ a.cl < 4294967296 ∧ a.nu < 4294967296 ∧ Rd W a.fv F.length 5 (fcells F) ∧ Rd W a.hv K.length 4 (scells K) ∧ F.length + 1 ≤ Rows.uptoBulk x.1 ∧ K.length + 1 ≤ Rows.uptoBulk x.1 := by
  obtain ⟨xs, n, _, rfl, hl, hlen, hf⟩ := DataW.trod_struct Try.underlying44 h
  rw [Try.zclAn] at hl
  have h0 := hf 0 _ rfl
  have h1 := hf 1 _ rfl
  have h2 := hf 2 _ rfl
  have h3 := hf 3 _ rfl
  have h4 := hf 4 _ rfl
  have h5 := hf 5 _ rfl
  match cs, hl with
  | [c0, c1, c2, c3, c4, c5, c6], _ =>
    match xs, hlen with
    | [y0, y1, y2, y3, y4, y5], _ =>
      simp [Try.zclU32, Try.zclU8, Try.zclId, Try.zclSlf, Try.zclSlm] at h0 h1 h2 h3 h4 h5
      obtain ⟨cl, nu, e0, b0, b1⟩ := id_of_trod h0
      obtain ⟨co, e1, _, w1⟩ := DataW.trod_int Try.underlying5 h1
      obtain ⟨rc, e2, _, w2⟩ := DataW.trod_int Try.underlying26 h2
      obtain ⟨ve, e3, _, w3⟩ := DataW.trod_int Try.underlying26 h3
      obtain ⟨F, hF, bF⟩ := rdField_of_trod h4
      obtain ⟨K, hK, bK⟩ := rdSummary_of_trod h5
      simp only [List.cons.injEq, and_true] at e0 e1 e2 e3
      obtain ⟨rfl, rfl⟩ := e0
      subst e1 e2 e3
      obtain ⟨co, rfl, _⟩ := nat_u8 w1
      obtain ⟨rc, rfl, _⟩ := nat_u32 w2
      obtain ⟨ve, rfl, _⟩ := nat_u32 w3
      have k4 := bulk_in ([y0, y1, y2, y3, y4, y5].map (·.1)) y4.1 (by simp)
      have k5 := bulk_in ([y0, y1, y2, y3, y4, y5].map (·.1)) y5.1 (by simp)
      exact ⟨⟨cl, nu, co, rc, ve, c5, c6⟩, F, K, rfl, b0, b1, hF, hK, by simp only [Rows.uptoBulk]; omega, by simp only [Rows.uptoBulk]; omega⟩
end Go.Proofs.Ytfaponkpgcdgkaa

namespace Go.Proofs.Ytfaponkpgcdgkaa
open Go.ChangeShapes Go.WideShapes Go.ChangeAt Go.RowKit Go.Deep
set_option maxRecDepth 100000

theorem piece {cs l : List Value} {o n : Nat} (h : (cs.drop o).take n = l) {j : Nat} (hj : j < n) : cs[o + j]? = l[j]? := by
  rw [← h, List.getElem?_take_of_lt hj, List.getElem?_drop]
/-- A message that came in. -/
theorem ms_of_trod {H : Type} {enc : TypeId × Value → H} {W : World} {fuel : Nat} {cs : List Value} {x : DataW H × List MemPlace} (h : DataW.trod enc Try.prog W 0 (fun _ => true) true fuel 49 cs = some x) (hk : Rows.uptoBulk x.1 ≤ 1048576) :
    ∃ m : MG, cs = m.xs ∧ m.Ok W := by
  obtain ⟨xs, n, _, rfl, hl, hlen, hf⟩ := DataW.trod_struct Try.underlying49 h
  rw [Try.zclMs] at hl
  have h0 := hf 0 _ rfl
  have h1 := hf 1 _ rfl
  have h2 := hf 2 _ rfl
  have h3 := hf 3 _ rfl
  have h4 := hf 4 _ rfl
  have h5 := hf 5 _ rfl
  have h6 := hf 6 _ rfl
  match xs, hlen with
  | [y0, y1, y2, y3, y4, y5, y6], _ =>
    simp [Try.zclU32, Try.zclU8, Try.zclId, Try.zclRq, Try.zclAn, Try.zclEv, -List.drop_one] at h0 h1 h2 h3 h4 h5 h6
    change DataW.trod _ _ _ _ _ _ _ _ ((cs.drop 0).take 1) = _ at h0
    change DataW.trod _ _ _ _ _ _ _ _ ((cs.drop 1).take 10) = _ at h1
    change DataW.trod _ _ _ _ _ _ _ _ ((cs.drop 11).take 2) = _ at h2
    change DataW.trod _ _ _ _ _ _ _ _ ((cs.drop 13).take 7) = _ at h3
    change DataW.trod _ _ _ _ _ _ _ _ ((cs.drop 20).take 1) = _ at h4
    change DataW.trod _ _ _ _ _ _ _ _ ((cs.drop 21).take 13) = _ at h5
    change DataW.trod _ _ _ _ _ _ _ _ ((cs.drop 34).take 1) = _ at h6
    obtain ⟨ki, e0, _, w0⟩ := DataW.trod_int Try.underlying5 h0
    obtain ⟨_, hr⟩ := rq_one h1
    obtain ⟨icl, inu, e2, b0, b1⟩ := id_of_trod h2
    obtain ⟨a, F, K, e3, ba, bn, hF, hK, bF, bK⟩ := an_of_trod h3
    obtain ⟨co, e4, _, w4⟩ := DataW.trod_int Try.underlying5 h4
    obtain ⟨_, hv⟩ := ev_one h5
    obtain ⟨le, e6, _, w6⟩ := DataW.trod_int Try.underlying26 h6
    obtain ⟨ki, rfl, bk⟩ := nat_u8 w0
    obtain ⟨co, rfl, bc⟩ := nat_u8 w4
    have k3 := bulk_in ([y0, y1, y2, y3, y4, y5, y6].map (·.1)) y3.1 (by simp)
    have hk' : Rows.uptoBulkAll ([y0, y1, y2, y3, y4, y5, y6].map (·.1)) ≤ 1048576 := by simp only [Rows.uptoBulk] at hk; omega
    obtain ⟨fo, fn, fc, ef⟩ : ∃ fo fn fc, a.fv = .slice fo fn fc := by obtain ⟨xo, c, e, _⟩ := hF.f; exact ⟨_, _, _, e⟩
    obtain ⟨ho, hn, hc, eh⟩ : ∃ fo fn fc, a.hv = .slice fo fn fc := by obtain ⟨xo, c, e, _⟩ := hK.f; exact ⟨_, _, _, e⟩
    have han : ∀ v ∈ a.cs, v.oneCell' = true := fun v hv => by
      simp only [AN.cs, List.mem_cons, List.not_mem_nil, or_false] at hv
      rcases hv with rfl | rfl | rfl | rfl | rfl | rfl | rfl
      · rfl
      · rfl
      · rfl
      · rfl
      · rfl
      · rw [ef]; rfl
      · rw [eh]; rfl
    have hin : ∀ {o n : Nat} {l : List Value} {v : Value} {j : Nat}, (cs.drop o).take n = l → cs[j]? = some v → o ≤ j → j < o + n → v ∈ l := fun {o n l v j} h hj h1 h2 => by
      have := piece h (j := j - o) (by omega)
      rw [show o + (j - o) = j by omega, hj] at this
      exact List.mem_of_getElem? this.symm
    refine ⟨⟨cs, ki, icl, inu, co, a, F, K⟩, rfl, ⟨piece e0 (j := 0) (by decide), piece e2 (j := 0) (by decide), piece e2 (j := 1) (by decide), fun j v hj => ?_, piece e4 (j := 0) (by decide)⟩, hl, fun v hm => ?_, bk, b0, b1, bc, ba, bn, hF, hK, by simp only; omega, by simp only; omega⟩
    · have hj7 : j < 7 := (List.getElem?_eq_some_iff.1 hj).1
      exact (piece e3 hj7).trans hj
    · obtain ⟨j, hj⟩ := List.getElem?_of_mem hm
      have hj35 : j < 35 := by have := (List.getElem?_eq_some_iff.1 hj).1; simp only at this; omega
      by_cases j1 : j < 1
      · have := hin e0 hj (by omega) (by omega)
        simp only [List.mem_cons, List.not_mem_nil, or_false] at this; subst this; rfl
      by_cases j2 : j < 11
      · exact hr v (hin rfl hj (by omega) (by omega))
      by_cases j3 : j < 13
      · have := hin e2 hj (by omega) (by omega)
        simp only [List.mem_cons, List.not_mem_nil, or_false] at this; rcases this with rfl | rfl <;> rfl
      by_cases j4 : j < 20
      · exact han v (hin e3 hj (by omega) (by omega))
      by_cases j5 : j < 21
      · have := hin e4 hj (by omega) (by omega)
        simp only [List.mem_cons, List.not_mem_nil, or_false] at this; subst this; rfl
      by_cases j6 : j < 34
      · exact hv v (hin rfl hj (by omega) (by omega))
      · have := hin e6 hj (by omega) (by omega)
        simp only [List.mem_cons, List.not_mem_nil, or_false] at this; subst this; rfl
/-- Messages that came in. -/
theorem ms_of_reading {H : Type} {enc : TypeId × Value → H} {W : World} {base : Nat} {v : Value} {d : DataW H} {p : List MemPlace} (hval : Value.okWide Try.prog W .any base 39 v) (h : DataW.Trod enc Try.prog W 0 (fun _ => true) true 39 v d p) (hk : Rows.uptoBulk d ≤ 1048576) :
    ∃ l : List MG, MgR W v l := by
  obtain ⟨a0, len, cap, rfl⟩ := okWide_slice Try.underlying39 hval
  obtain ⟨fuel, hf⟩ := h
  rcases open_slice Try.underlying39 hf with ⟨hcs, hx⟩ | ⟨a, len', cap', m, n, D, Pl, hcs, _, hl, hm, hmm, hx, hel⟩
  · simp [Value.cells] at hcs
    obtain ⟨rfl, rfl, rfl⟩ := hcs
    exact ⟨[], ⟨none, 0, rfl, fun j m hj => by simp at hj⟩, by simp⟩
  · simp [Value.cells] at hcs
    obtain ⟨rfl, rfl, rfl⟩ := hcs
    simp only [Prod.mk.injEq] at hx
    obtain ⟨rfl, -⟩ := hx
    simp only [if_true] at hmm
    subst hmm
    have hbl : Rows.uptoBulkAll ((List.range len).map D) + 1 ≤ 1048576 := by simp only [Rows.uptoBulk] at hk; omega
    have hp : ∀ i, ∃ s : MG, i < len → (∀ j, j < 35 → W.cell? ((a.add (i * 35)).add j) = s.xs[j]?) ∧ s.Ok W := fun i => by
      by_cases hi : i < len
      · obtain ⟨cs', h1, h2⟩ := hel i (by omega)
        rw [Try.zclMs] at h1
        obtain ⟨_, hlen, hcell⟩ := World.cells?_some h1
        have := bulk_in ((List.range len).map D) (D i) (List.mem_map.2 ⟨i, by simpa using hi, rfl⟩)
        obtain ⟨s, rfl, hs⟩ := ms_of_trod h2 (by simp only; omega)
        exact ⟨s, fun _ => ⟨hcell, hs⟩⟩
      · exact ⟨⟨[], 0, 0, 0, 0, ⟨0, 0, 0, 0, 0, .slice none 0 0, .slice none 0 0⟩, [], []⟩, fun h => absurd h hi⟩
    obtain ⟨Q, hQ⟩ : ∃ Q : Nat → MG, ∀ i, i < len → (∀ j, j < 35 → W.cell? ((a.add (i * 35)).add j) = (Q i).xs[j]?) ∧ (Q i).Ok W := ⟨fun i => Classical.choose (hp i), fun i => Classical.choose_spec (hp i)⟩
    have hbulk := bulk_len ((List.range len).map D)
    have hll : ((List.range len).map Q).length = len := by simp
    refine ⟨(List.range len).map Q, ⟨some a, _, by rw [hll], fun j mm hj => ?_⟩, by rw [hll]; simp at hbulk; omega⟩
    have hjl : j < len := by have := (List.getElem?_eq_some_iff.1 hj).1; rwa [hll] at this
    obtain rfl : Q j = mm := by simpa [hjl] using hj
    obtain ⟨q1, q2⟩ := hQ j hjl
    have hx0 := (hQ 0 (by omega)).1 0 (by decide)
    rw [(hQ 0 (by omega)).2.x.k] at hx0
    obtain ⟨g, o, sp⟩ := a
    have hsp : sp = none := by simpa [Addr.add] using World.cell?_spot hx0
    subst hsp
    refine ⟨q2, g, o, rfl, fun t u hu => ?_⟩
    have ht : t < 35 := by have := (List.getElem?_eq_some_iff.1 hu).1; rw [q2.len] at this; exact this
    have := q1 t ht
    rw [hu, Addr.add_mid, Addr.add_mid] at this
    exact this
end Go.Proofs.Ytfaponkpgcdgkaa

namespace Go.Proofs.Ytfaponkpgcdgkaa
open Go.ChangeShapes Go.WideShapes Go.ChangeAt Go.RowKit
set_option maxRecDepth 100000

theorem sonce_lifted (os : Os) (started : os.Started) (H : Type) (enc : TypeId × Value → H) (F : Stop.Interp) :
    ReturnsInHanded {} Try.checked os 5 .any ((Rows.OpenSpec.upto Rows.sessionOnceSpec).pre6 enc Try.prog Try.f5 Rows.sessionOnceUptoRow.domain false) (((Rows.OpenSpec.upto Rows.sessionOnceSpec).at F).post enc Try.prog Try.f5 false true false false) := by
  refine returnsInHanded_of_cond (C := Try.checked) (s := Rows.OpenSpec.upto Rows.sessionOnceSpec) (k := Rows.uptoSmall) rfl Try.ownKnob started (by kernel_rfl) Try.func5
    (OpenSpec.witness (enc := enc) (C := Try.checked) (s := Rows.OpenSpec.upto Rows.sessionOnceSpec) (k := Rows.uptoSmall) rfl false ⟨#[], #[.int .i64 0, .slice none 0 0], []⟩ 8 (by kernel_rfl) (by kernel_rfl) (by kernel_rfl)
      (x := ([.lit (.int .i64 0), .nil], [], [])) (by kernel_rfl) rfl (by kernel_rfl)) ?_
  intro W base args ds gs before hval0 hW _ hk _
  have hval : ∀ (j : Nat) t v, Try.f5.params[j]? = some t → args[j]? = some v → Value.okWide Try.prog W .any base t v := hval0
  have hW' := hW
  obtain ⟨p, q, hA0, hV, rfl, hfz, hnd⟩ := hW
  have hA : DataW.TrodAll enc Try.prog W 0 (fun _ => true) true Try.f5.params.toList args.toList ds p := hA0
  rw [Try.params5] at hA hval
  obtain ⟨v0, vs0, d0, ds0, p0, q0, hargs0, rfl, rfl, h0, r0⟩ := trodAll_cons hA
  obtain ⟨v1, vs1, d1, ds1, p1, q1, hargs1, rfl, rfl, h1, r1⟩ := trodAll_cons r0
  obtain ⟨rfl, rfl, rfl⟩ := trodAll_nil r1
  obtain rfl : args = #[v0, v1] := by cases args; simp_all
  obtain ⟨rfl, rfl⟩ := trodVars_none hV
  have hbulk : Rows.uptoBulk d0 + (Rows.uptoBulk d1 + 0) ≤ 1048576 := by
    have h := of_decide_eq_true hk
    simpa only [List.append_nil, Rows.uptoBulkAll] using h
  obtain ⟨z0, rfl, rfl, rfl, w0⟩ := open_int Try.underlying3 (hval 0 3 v0 rfl rfl) h0
  obtain ⟨A1, s1⟩ := ms_of_reading (hval 1 39 v1 rfl rfl) h1 (by omega)
  clear hA0 hval0
  refine (sonce_any W z0 v1 A1 s1).mono fun e W' ⟨he, hf⟩ => ?_
  subst he
  have hlt : ∀ x ∈ [] ++ (p1 ++ []), x.block < W.heap.size := fun x hx => hW'.lt x (by simpa using hx)
  have hb := hf.below
  refine ⟨_, rfl, _, _, _, [], [] ++ (p1 ++ []), [], hW', ?_, ?_, ?_, hb.frame _, fun h => by cases h⟩
  · exact trodAll_cons_mk (shut_bool Try.underlying4 true) trodAll_mk0
  · exact (trodAll_cons_mk (shut_int Try.underlying3 w0) (trodAll_cons_mk (Below.trod (by kernel_rfl) (by kernel_rfl) (by decide +kernel) h1 hb (fun x hx => hlt x (by simp [hx]))) trodAll_mk0))
  · rfl
theorem sonce_said : Rows.SessionOnceUptoSaid :=
  OpenClaim.holds_of_cond 5 Try.f5 rfl rfl rfl rfl rfl rfl rfl ⟨rfl, rfl, rfl, rfl, rfl⟩ rfl rfl rfl rfl rfl (by kernel_rfl) Try.func5 (by kernel_rfl)
    (of_decide_eq_true (by kernel_rfl)) (by unfold Func.isWrapper; first | (rw [if_pos (by decide +kernel)]; kernel_rfl) | (rw [if_neg (by decide +kernel)]; exact ⟨rfl, rfl⟩))
    (fun os started H enc _ F => sonce_lifted os started H enc F)
#print axioms sonce_said
end Go.Proofs.Ytfaponkpgcdgkaa

