import Derived.Test.YtkiepcdncegniaaZga
import Derived.Test.YtkiepcdncegniaaPk3
import Derived.Deep.CutRange
import Derived.Deep.CutBlock
namespace Go.Proofs.Ytkiepcdncegniaa
open Go.RowKit Go.Maps

theorem Try.sizeOp : (Try.prog.info? 62).map (·.size) = some 46 := by kernel_rfl
theorem OG.len {w : World} {o : OG} (h : o.Ok w) : o.xs.length = 46 := by
  have := h.m.len
  simp only [OG.xs, List.length_cons, List.length_append, this, RQ.cs, List.length_nil]
theorem OG.one {w : World} {o : OG} (h : o.Ok w) : ∀ v ∈ o.xs, v.oneCell' = true := by
  intro v hv
  rcases List.mem_cons.1 hv with rfl | hv
  · rfl
  · rcases List.mem_append.1 hv with hv | hv
    · have h1 := rd_one h.f
      exact (List.all_eq_true.1 (show List.all o.r.cs (fun v => v.oneCell') = true by simp [RQ.cs, Value.oneCell']; exact h1)) v hv
    · exact h.m.one v hv
/-- An Op's box, before it is written. -/
def zO : List Value := .int .i64 0 :: ([.int .u32 0, .int .u32 0, .int .u32 0, .int .u8 0, .int .u32 0, .int .u32 0, .int .u32 0, .int .u32 0, .slice none 0 0, .string ⟨#[]⟩] ++ zM)
theorem zO_len : zO.length = 46 := rfl
set_option maxRecDepth 100000 in
set_option maxHeartbeats 40000000 in
theorem splays_any (w : World) (c : Nat) (hc32 : c < 4294967296) (x : Value) (ops : List OG) (hx : OgR w x ops) : Calls Try.prog 4 #[.int .u32 (c : Nat), x] w fun e w' => e = .returned (.bool true) ∧ Fr (fun _ => False) w w' := by
  obtain ⟨vo, vc, rfl, hms⟩ := hx.f
  have HMS := hide hms
  have hml := hx.l
  obtain ⟨N, hN⟩ : ∃ N, ops.length = N := ⟨_, rfl⟩
  have HNN := hide hN
  rw [hN] at hml ⊢
  clear hx hms hN
  go_enter Try.func4, Try.ntmps4
  go_wp2_with fail
  refine (awake17 w).mono ?_
  rintro e w0 ⟨rfl, hf0⟩
  have HF0 := hide hf0
  clear hf0
  go_wp2_with fail
  by_cases hc16 : 16 ≤ c
  · have hcI : (16 : Int) ≤ (c : Int) := by omega
    refine (snew_no c w0 hc16).mono ?_
    rintro e w1 ⟨rfl, rfl⟩
    go_wp2_with fail
    go_ret
    exact ⟨rfl, unhide HF0⟩
  · have hcI : ¬ (16 : Int) ≤ (c : Int) := by omega
    refine (SS.new c w0 (by omega)).mono ?_
    rintro e w1 ⟨d, rfl, hs1, hf1⟩
    obtain ⟨B, hB⟩ : ∃ B, w1.heap.size = B := ⟨_, rfl⟩
    have HM : Hid (PJ w (w1.alloc (.cells #[.int .u32 (c : Nat), .slice none 0 0, .int .i64 0] 60)) d B c 0 [] [] (Nb w0 w1) (.slice none 0 0) []) := hide ⟨hs1.fr0 (box1 _ _), ((unhide HF0).trans0 hf1).trans0 (box1 _ _), (fun g hg => ⟨Nat.le_trans (unhide HF0).size hg.1, (fun e => by have := hg.2; omega), (fun e => by cases e)⟩), World.ownsRow_nil _ _ _ _, (fun e => by cases e), Rel.nil w c, (fun q hq => by simp at hq), Nat.le_refl _, hB ▸ heap_alloc_new w1 _, by have := ((unhide HF0).trans0 hf1).size; omega⟩
    clear hs1 hf1 HF0
    go_wp2_with fail
    go_loopw [8] (fun iv wr => ∃ (k : Nat) (cs : List SC) (dn : List Nat) (T : Nat → Prop) (v : Value) (l : List RC), k ≤ N ∧ iv = .int .i64 (k : Nat) ∧ PJ w wr d B c k cs dn T v l) (fun iv _ => N - (intOf iv).toNat)
    case atStart => exact ⟨0, [], [], _, _, [], Nat.zero_le _, rfl, unhide HM⟩
    case round =>
      obtain ⟨k, cs, dn, T, v, l, hk, rfl, hP⟩ := hrel
      clear HM hB
      rename World => wr
      have HP := hide hP
      clear hP
      by_cases hlt : k < N
      · have hlt2 : (k : Int) < (N : Int) := by omega
        obtain ⟨o, hm⟩ : ∃ o, ops[k]? = some o := ⟨_, List.getElem?_eq_getElem (by have := unhide HNN; omega)⟩
        obtain ⟨hok, g, a, rfl, hrg⟩ := (unhide HMS) k o hm
        have hrg2 : wr.rangeAt g (a + k * 46) o.xs := fun j v hv => ((unhide HP).f.cell (p := ⟨g, a + k * 46 + j, none⟩) (lt_of_cell (hrg j v hv)) (fun h => h)).trans (hrg j v hv)
        obtain ⟨W8, hst, hb8, hf8⟩ := st_all (P := Try.prog) (ty := 62) zO o.xs (heap_alloc_new wr (.cells zO.toArray 62)) (by rw [OG.len hok]; rfl) (by rw [OG.len hok]; exact Try.sizeOp) (OG.one hok)
        have hsz : (Try.prog.info? 62).map (·.size) = some o.xs.length := by rw [OG.len hok]; exact Try.sizeOp
        obtain ⟨X, hXe⟩ : ∃ X, wr.heap.size = X := ⟨_, rfl⟩
        have hfr8 : Fr (fun _ => False) wr W8 := (box1 wr _).trans hf8 (fun g hg e => by rw [e] at hg; exact Nat.lt_irrefl _ hg)
        have HXT : Hid (∀ g, T g → g ≠ X) := hide (fun g hg e => by have := (unhide HP).s.lt g hg; omega)
        have HXB : Hid (B < X) := hide (by have := lt_of_block (unhide HP).b; omega)
        have HXV : Hid (∀ g, v.ownBlock = some g → g ≠ X) := hide (fun g hg e => by have := ((unhide HP).o.lt g hg).2; omega)
        have HP8 := hide ((unhide HP).fr0 hfr8)
        rw [hXe] at hb8 hst
        obtain ⟨ki, r, F, m⟩ := o
        have c0 : W8.cell? ⟨X, 0, none⟩ = some (.int .i64 ki) := cell_of_blk hb8 rfl
        have HRG := hide hrg2
        have HST := hide hst
        have HSZ := hide hsz
        have HOK := hide hok
        have HB8 := hide hb8
        have hjj : (0 : Int) ≤ (k : Int) := by omega
        clear hrg hrg2 hst hsz hm hok hb8 hf8 hfr8 HP
        obtain ⟨XO, hXO⟩ : ∃ XO, XO = (⟨ki, r, F, m⟩ : OG).xs := ⟨_, rfl⟩
        rw [← hXO] at HRG HST HSZ
        clear hXO
        have hvf := own_formX (unhide HP8).o
        obtain ⟨LN, hLN⟩ : ∃ n, l.length = n := ⟨_, rfl⟩
        rw [hLN] at hvf
        obtain ⟨ao, cap, rfl⟩ := hvf
        go_upto_block 2 with (first | refine wpList_load_mid rfl 62 (.tmp 39) rfl g (a + k * 46) rfl _ _ (unhide HRG) Try.underlying62 rfl (unhide HSZ) ?_ | refine wpList_stN rfl 62 (.tmp 9) (.tmp 40) rfl _ _ rfl rfl (unhide HST) ?_)
        go_cut [10, 11, 12, 13, 14, 15] from 31 to 135 (fun _ _ _ _ _ _ wx => ∃ (cs2 : List SC) (dn2 : List Nat) (T2 : Nat → Prop) (v2 : Value) (l2 : List RC), PJ w wx d B c (k + 1) cs2 dn2 T2 v2 l2)
        case first =>
          by_cases h1 : ki = 1
          · cases hfm : r.frm F
            · subst h1
              have hok := unhide HOK
              have hsr : (Try.prog.info? 34).map (·.size) = some r.cs.length := Try.sizeRq
              have HRR : Hid (W8.rangeAt X 1 r.cs) := hide (fun j u hu => cell_of_blk (unhide HB8) (by
                have := (List.getElem?_eq_some_iff.1 hu).1
                simp only [OG.xs, List.getElem?_toArray]
                rw [Nat.add_comm 1 j, List.getElem?_cons_succ, List.getElem?_append_left this]
                exact hu))
              have hrd8 := hok.f.fr0 (unhide HP8).f
              have HCA := hide ((unhide HP8).s.bad r F hrd8 hok.l hok.b hfm)
              clear hrd8
              go_wp2_with (first | refine wpList_load_mid rfl 62 (.tmp 39) rfl g (a + k * 46) rfl _ _ (unhide HRG) Try.underlying62 rfl (unhide HSZ) ?_ | refine wpList_stN rfl 62 (.tmp 9) (.tmp 40) rfl _ _ rfl rfl (unhide HST) ?_ | refine wpList_load_mid rfl 34 (.tmp 47) rfl X 1 rfl _ _ (unhide HRR) Try.underlying34 rfl hsr ?_)
              refine (unhide HCA).mono ?_
              rintro e w4 ⟨rfl, hf4⟩
              have hf85 : Fr (fun _ => False) W8 (w4.alloc (.cells #[.int .u32 0, .int .u32 0] 29)) := hf4.trans0 (box1 _ _)
              have HRR5 : Hid ((w4.alloc (.cells #[.int .u32 0, .int .u32 0] 29)).rangeAt X 1 r.cs) := hide (fun j u hu => (hf85.cell (p := ⟨X, 1 + j, none⟩) (lt_of_block (unhide HB8)) (fun h => h)).trans ((unhide HRR) j u hu))
              have HFM := hide (formed_any r F (w4.alloc (.cells #[.int .u32 0, .int .u32 0] 29)) (rd_fds (hok.f.fr0 ((unhide HP8).f.trans0 hf85))) (by have := hok.l; simp only at this; omega) hok.b)
              have HF5 := hide hf85
              clear hf4 hf85 HRR HCA
              go_wp2_with (refine wpList_load_mid rfl 34 (.tmp 52) rfl X 1 rfl _ _ (unhide HRR5) Try.underlying34 rfl hsr ?_)
              refine (unhide HFM).mono ?_
              rintro e w6 ⟨rfl, hf6⟩
              rw [hfm]
              have hf86 := (unhide HF5).trans0 hf6
              have hbi : w6.heap[w4.heap.size]? = some (.cells #[.int .u32 0, .int .u32 0] 29) := (hf6.block _ (by simp) (fun h => h)).trans (heap_alloc_new w4 _)
              have HRId : Hid (w6.rangeAt w4.heap.size 0 [.int .u32 0, .int .u32 0]) := hide (range_of_block (t := 29) hbi)
              have hq : ∀ w : World, (binOp .neq 29 (.agg #[.int .u32 0, .int .u32 0]) (.agg #[.int .u32 0, .int .u32 0])).run Try.prog w = .ok (.bool false) w := fun w => by
                have := neq_id 0 0 0 0 w
                simpa using this
              have HPn := hide (((unhide HP8).fr0 hf86).up)
              clear hf6 hf86 hbi HF5 HFM HRR5
              go_wp2_with (first | refine wpList_load_midG rfl 29 (.tmp 10) rfl w4.heap.size 0 rfl _ _ (unhide HRId) Try.underlying29 rfl Try.sizeId2 ?_ | fail)
              go_meet
              case rel => exact ⟨cs, dn, T, (.slice ao LN cap), l, unhide HPn⟩
            · by_cases hfull : cs.length = 4096
              · subst h1
                have hok := unhide HOK
                have hsr : (Try.prog.info? 34).map (·.size) = some r.cs.length := Try.sizeRq
                have HRR : Hid (W8.rangeAt X 1 r.cs) := hide (fun j u hu => cell_of_blk (unhide HB8) (by
                  have := (List.getElem?_eq_some_iff.1 hu).1
                  simp only [OG.xs, List.getElem?_toArray]
                  rw [Nat.add_comm 1 j, List.getElem?_cons_succ, List.getElem?_append_left this]
                  exact hu))
                have hrd8 := hok.f.fr0 (unhide HP8).f
                have hLNI : (4096 : Int) ≤ (LN : Int) := by have := (unhide HP8).R.n; omega
                have HCA := hide ((unhide HP8).s.full r F hrd8 hok.l hok.b hfm hfull)
                clear hrd8
                go_wp2_with (first | refine wpList_load_mid rfl 62 (.tmp 39) rfl g (a + k * 46) rfl _ _ (unhide HRG) Try.underlying62 rfl (unhide HSZ) ?_ | refine wpList_stN rfl 62 (.tmp 9) (.tmp 40) rfl _ _ rfl rfl (unhide HST) ?_ | refine wpList_load_mid rfl 34 (.tmp 47) rfl X 1 rfl _ _ (unhide HRR) Try.underlying34 rfl hsr ?_)
                refine (unhide HCA).mono ?_
                rintro e w4 ⟨rfl, hf4⟩
                have hf85 : Fr (fun _ => False) W8 (w4.alloc (.cells #[.int .u32 0, .int .u32 0] 29)) := hf4.trans0 (box1 _ _)
                have HRR5 : Hid ((w4.alloc (.cells #[.int .u32 0, .int .u32 0] 29)).rangeAt X 1 r.cs) := hide (fun j u hu => (hf85.cell (p := ⟨X, 1 + j, none⟩) (lt_of_block (unhide HB8)) (fun h => h)).trans ((unhide HRR) j u hu))
                have HFM := hide (formed_any r F (w4.alloc (.cells #[.int .u32 0, .int .u32 0] 29)) (rd_fds (hok.f.fr0 ((unhide HP8).f.trans0 hf85))) (by have := hok.l; simp only at this; omega) hok.b)
                have HF5 := hide hf85
                clear hf4 hf85 HRR HCA
                go_wp2_with (refine wpList_load_mid rfl 34 (.tmp 52) rfl X 1 rfl _ _ (unhide HRR5) Try.underlying34 rfl hsr ?_)
                refine (unhide HFM).mono ?_
                rintro e w6 ⟨rfl, hf6⟩
                rw [hfm]
                have hf86 := (unhide HF5).trans0 hf6
                have hbi : w6.heap[w4.heap.size]? = some (.cells #[.int .u32 0, .int .u32 0] 29) := (hf6.block _ (by simp) (fun h => h)).trans (heap_alloc_new w4 _)
                have HRId : Hid (w6.rangeAt w4.heap.size 0 [.int .u32 0, .int .u32 0]) := hide (range_of_block (t := 29) hbi)
                have hq : ∀ w : World, (binOp .neq 29 (.agg #[.int .u32 0, .int .u32 0]) (.agg #[.int .u32 0, .int .u32 0])).run Try.prog w = .ok (.bool false) w := fun w => by
                  have := neq_id 0 0 0 0 w
                  simpa using this
                have HPn := hide (((unhide HP8).fr0 hf86).up)
                clear hf6 hf86 hbi HF5 HFM HRR5
                have cB1 : w6.cell? ⟨B, 1, none⟩ = some (.slice ao LN cap) := cell_of_blk (unhide HPn).b rfl
                go_wp2_with (first | refine wpList_load_midG rfl 29 (.tmp 10) rfl w4.heap.size 0 rfl _ _ (unhide HRId) Try.underlying29 rfl Try.sizeId2 ?_ | fail)
                go_meet
                case rel => exact ⟨cs, dn, T, (.slice ao LN cap), l, unhide HPn⟩
              · subst h1
                have hcl : cs.length = LN := by rw [← (unhide HP8).R.n]; exact hLN
                have hL4 : LN < 4096 := by have := (unhide HP8).s.len; omega
                have hLI : ¬ (4096 : Int) ≤ (LN : Int) := by omega
                have hwL := wrapS LN (by omega)
                have hrd8 := (unhide HOK).f.fr0 (unhide HP8).f
                have hca := (unhide HP8).s.call r F hrd8 (unhide HOK).l (unhide HOK).b hfm (by omega)
                rw [hcl] at hca
                have HFMG : Hid (∀ W, Fr (fun _ => False) w W → Calls Try.prog 20 #[r.v] W fun e w' => e = .returned (.bool true) ∧ Fr (fun _ => False) W w') := hide (fun W hf => by
                  have := formed_any r F W (rd_fds ((unhide HOK).f.fr0 hf)) (by have := (unhide HOK).l; simp only at this; omega) (unhide HOK).b
                  rw [hfm] at this
                  exact this)
                have HRR : Hid (W8.rangeAt X 1 r.cs) := hide (fun j u hu => cell_of_blk (unhide HB8) (by
                  have := (List.getElem?_eq_some_iff.1 hu).1
                  simp only [OG.xs, List.getElem?_toArray]
                  rw [Nat.add_comm 1 j, List.getElem?_cons_succ, List.getElem?_append_left this]
                  exact hu))
                obtain ⟨rfo, rfc, hfe, _⟩ := (unhide HOK).f.f
                have HRDW : Hid (Rd w r.fv F.length 5 (fcells F) ∧ F.length ≤ 1048576) := hide ⟨(unhide HOK).f, (unhide HOK).l⟩
                obtain ⟨rcl, rnu, rac, rop, rrc, rve, rwa, row, rfv, rrs⟩ := r
                simp only at hfe HRDW
                subst hfe
                simp only [RQ.v, RQ.cs] at hca HFMG HRR
                have HCA := hide hca
                clear hca hrd8
                go_wp2_with (first | refine wpList_load_mid rfl 62 (.tmp 39) rfl g (a + k * 46) rfl _ _ (unhide HRG) Try.underlying62 rfl (unhide HSZ) ?_ | refine wpList_stN rfl 62 (.tmp 9) (.tmp 40) rfl _ _ rfl rfl (unhide HST) ?_ | refine wpList_load_mid rfl 34 (.tmp 47) rfl X 1 rfl _ _ (unhide HRR) Try.underlying34 rfl Try.sizeRq ?_)
                refine (unhide HCA).mono ?_
                rintro e w4 ⟨rfl, ⟨sv, hs4⟩, hf4⟩
                clear HCA
                have hfw4 : Fr (fun _ => False) w w4 := (unhide HP8).f.trans hf4 (fun g hg e => by have := ((unhide HP8).t g e).1; omega)
                have hX8 := lt_of_block (unhide HB8)
                have hB8 := lt_of_block (unhide HP8).b
                have z4 := hf4.size
                have hTX : ¬ T X := fun h => (unhide HXT) X h rfl
                have hTB : ¬ T B := fun h => ((unhide HP8).t B h).2.1 rfl
                have hbB4 := (hf4.block B hB8 hTB).trans (unhide HP8).b
                have hO4 : OwC w4 w.heap.size (.slice ao LN cap) l := (unhide HP8).o.fr hf4 (fun g hg e => ((unhide HP8).t g e).2.2 hg)
                obtain ⟨W5, hW5⟩ : ∃ W5, w4.alloc (.cells #[.int .u32 (c : Nat), .int .u32 ((LN : Int) + 1)] 29) = W5 := ⟨_, rfl⟩
                have f45 : Fr (fun _ => False) w4 W5 := by rw [← hW5]; exact box1 _ _
                have z5 : W5.heap.size = w4.heap.size + 1 := by rw [← hW5]; simp
                have hbI5 : W5.heap[w4.heap.size]? = some (.cells #[.int .u32 (c : Nat), .int .u32 ((LN : Int) + 1)] 29) := by rw [← hW5]; exact heap_alloc_new w4 _
                have HRR5 : Hid (W5.rangeAt X 1 [.int .u32 (rcl : Nat), .int .u32 (rnu : Nat), .int .u32 (rac : Nat), .int .u8 (rop : Nat), .int .u32 (rrc : Nat), .int .u32 (rve : Nat), .int .u32 (rwa : Nat), .int .u32 (row : Nat), .slice rfo F.length rfc, .string rrs]) := hide (fun j u hu => (f45.cell (p := ⟨X, 1 + j, none⟩) (Nat.lt_of_lt_of_le hX8 z4) (fun h => h)).trans ((hf4.cell (p := ⟨X, 1 + j, none⟩) hX8 hTX).trans ((unhide HRR) j u hu)))
                have HFM := hide ((unhide HFMG) W5 (hfw4.trans0 f45))
                have HK4 := hide (And.intro hs4 (And.intro hfw4 (And.intro hbB4 (And.intro hO4 (And.intro f45 (And.intro hbI5 (And.intro z5 (And.intro z4 hB8))))))))
                clear hs4 hfw4 hbB4 hO4 f45 hbI5 z5 z4 hf4 HRR HFMG
                go_wp2_with (refine wpList_load_mid rfl 34 (.tmp 52) rfl X 1 rfl _ _ (unhide HRR5) Try.underlying34 rfl Try.sizeRq ?_)
                refine (unhide HFM).mono ?_
                rintro e w6 ⟨rfl, hf6⟩
                clear HFM
                obtain ⟨hs4, hfw4, hbB4, hO4, f45, hbI5, z5, z4, _⟩ := unhide HK4
                have f46 : Fr (fun _ => False) w4 w6 := f45.trans0 hf6
                have z6 := hf6.size
                obtain ⟨R, hRe⟩ : ∃ R, w6.heap.size = R := ⟨_, rfl⟩
                obtain ⟨W7, hW7⟩ : ∃ W7, w6.alloc (.cells #[.int .u32 (rcl : Nat), .int .u32 (rnu : Nat), .int .u32 (rac : Nat), .int .u8 (rop : Nat), .int .u32 (rrc : Nat), .int .u32 (rve : Nat), .int .u32 (rwa : Nat), .int .u32 (row : Nat), .slice rfo F.length rfc, .string rrs] 34) = W7 := ⟨_, rfl⟩
                have f67 : Fr (fun _ => False) w6 W7 := by rw [← hW7]; exact box1 _ _
                have z7 : W7.heap.size = R + 1 := by rw [← hW7, ← hRe]; simp
                have hbR7 : W7.heap[R]? = some (.cells #[.int .u32 (rcl : Nat), .int .u32 (rnu : Nat), .int .u32 (rac : Nat), .int .u8 (rop : Nat), .int .u32 (rrc : Nat), .int .u32 (rve : Nat), .int .u32 (rwa : Nat), .int .u32 (row : Nat), .slice rfo F.length rfc, .string rrs] 34) := by rw [← hW7, ← hRe]; exact heap_alloc_new w6 _
                have f47 := f46.trans0 f67
                have f57 := hf6.trans0 f67
                have hbB7 := (f47.block B (lt_of_block hbB4) (fun h => h)).trans hbB4
                have hbB6 := (f46.block B (lt_of_block hbB4) (fun h => h)).trans hbB4
                have cB6 : w6.cell? ⟨B, 1, none⟩ = some (.slice ao LN cap) := cell_of_blk hbB6 rfl
                have cB7 : W7.cell? ⟨B, 1, none⟩ = some (.slice ao LN cap) := cell_of_blk hbB7 rfl
                have HRB7 : Hid (W7.rangeAt B 0 [.int .u32 (c : Nat), .slice ao LN cap, .int .i64 (dn.length : Nat)]) := hide (range_of_block hbB7)
                have HRR6 : Hid (w6.rangeAt X 1 [.int .u32 (rcl : Nat), .int .u32 (rnu : Nat), .int .u32 (rac : Nat), .int .u8 (rop : Nat), .int .u32 (rrc : Nat), .int .u32 (rve : Nat), .int .u32 (rwa : Nat), .int .u32 (row : Nat), .slice rfo F.length rfc, .string rrs]) := hide (fun j u hu => (hf6.cell (p := ⟨X, 1 + j, none⟩) (show X < W5.heap.size by omega) (fun h => h)).trans ((unhide HRR5) j u hu))
                have HGI : Hid (Calls Try.prog 21 #[.agg #[.int .u32 (c : Nat), .slice ao LN cap, .int .i64 (dn.length : Nat)], .int .i64 ((LN : Int) + 1)] W7 fun e w' => e = .returned (.agg #[.int .u32 (c : Nat), .int .u32 ((LN : Int) + 1)]) ∧ Fr (fun _ => False) W7 w') := hide (gid_any c (.slice ao LN cap) dn.length (LN + 1) W7 (by omega))
                have HK7 := hide (And.intro f47 (And.intro hbR7 (And.intro hbB7 (And.intro z7 (And.intro z6 (And.intro hRe f57))))))
                clear hs4 hfw4 hbB4 hO4 f45 hbI5 z5 z4 f46 f67 f57 f47 hbR7 hbB7 hbB6 z7 z6 hf6 HRR5 hW5
                go_wp2_with (first | refine wpList_load_mid rfl 34 (.tmp 74) rfl X 1 rfl _ _ (unhide HRR6) Try.underlying34 rfl Try.sizeRq ?_ | refine wpList_load_mid rfl 60 (.tmp 7) rfl B 0 rfl _ _ (unhide HRB7) Try.underlying60 rfl Try.sizeRs ?_)
                refine (unhide HGI).mono ?_
                rintro e w8 ⟨rfl, hf8⟩
                clear HGI
                obtain ⟨hs4, hfw4, hbB4, hO4, f45, hbI5, z5, z4, hB8'⟩ := unhide HK4
                obtain ⟨f47, hbR7, hbB7, z7, z6, _, f57⟩ := unhide HK7
                have z8 := hf8.size
                have hbR8 := (hf8.block R (lt_of_block hbR7) (fun h => h)).trans hbR7
                obtain ⟨W9, hst9, ⟨fs', hb9, _, h3, h4⟩, f9⟩ := st_mid (P := Try.prog) (ty := 29) (o := 0) ([] ++ ([.int .u32 (rcl : Nat), .int .u32 (rnu : Nat)] ++ [.int .u32 (rac : Nat), .int .u8 (rop : Nat), .int .u32 (rrc : Nat), .int .u32 (rve : Nat), .int .u32 (rwa : Nat), .int .u32 (row : Nat), .slice rfo F.length rfc, .string rrs])) [.int .u32 (c : Nat), .int .u32 ((LN : Int) + 1)] hbR8 (by simp) Try.sizeId2 (fun u hu => by simp at hu; rcases hu with rfl | rfl <;> rfl)
                have e9 : fs' = ([] ++ ([.int .u32 (c : Nat), .int .u32 ((LN : Int) + 1)] ++ [.int .u32 (rac : Nat), .int .u8 (rop : Nat), .int .u32 (rrc : Nat), .int .u32 (rve : Nat), .int .u32 (rwa : Nat), .int .u32 (row : Nat), .slice rfo F.length rfc, .string rrs]) : List Value) := mid_eq (pre := []) (olds := [.int .u32 (rcl : Nat), .int .u32 (rnu : Nat)]) rfl h3 h4
                subst e9
                simp only [List.nil_append, List.cons_append] at hb9
                have hBR : B ≠ R := fun e => by omega
                have f49 : Fr (fun _ => False) w4 W9 := (f47.trans0 hf8).trans f9 (fun g hg e => by omega)
                have z9 := f9.size
                have hbB9 := (f49.block B (lt_of_block hbB4) (fun h => h)).trans hbB4
                have cB9 : W9.cell? ⟨B, 1, none⟩ = some (.slice ao LN cap) := cell_of_blk hbB9 rfl
                obtain ⟨ao1, cap1, W10, hap1, ho10, f10⟩ := app_cls W9 w.heap.size (.slice ao LN cap) l (fun y hy => ((unhide HP8).R.k y hy).1.one) (hO4.fr0 f49) (by omega)
                rw [hLN] at hap1 ho10
                have hbR10 := (f10.block R (lt_of_block hb9) (fun h => h)).trans hb9
                have HRN10 : Hid (W10.rangeAt R 0 [.int .u32 (c : Nat), .int .u32 ((LN : Int) + 1), .int .u32 (rac : Nat), .int .u8 (rop : Nat), .int .u32 (rrc : Nat), .int .u32 (rve : Nat), .int .u32 (rwa : Nat), .int .u32 (row : Nat), .slice rfo F.length rfc, .string rrs]) := hide (range_of_block hbR10)
                have z10 := f10.size
                obtain ⟨ao2, cap2, W11, hap2, ho11, f11, ht11⟩ := app_cl W10 W9.heap.size (.slice ao1 LN cap1) l (⟨⟨c, LN + 1, rac, rop, rrc, rve, rwa, row, .slice rfo F.length rfc, rrs⟩, F, 0, ⟨0, 0, 0, 0, 0, .slice none 0 0, .slice none 0 0⟩, [], [], 0, 0⟩ : RC) (List.all_eq_true.1 (show List.all (RC.cs (⟨⟨c, LN + 1, rac, rop, rrc, rve, rwa, row, .slice rfo F.length rfc, rrs⟩, F, 0, ⟨0, 0, 0, 0, 0, .slice none 0 0, .slice none 0 0⟩, [], [], 0, 0⟩ : RC)) (fun v => v.oneCell') = true from rfl)) ho10 z10 (by omega)
                obtain ⟨LQ, hLQ⟩ : ∃ n, LN + 1 = n := ⟨_, rfl⟩
                rw [hLN] at hap2 ho11 ht11
                have ho11 : OwC W11 W9.heap.size (.slice ao2 LQ cap2) (l ++ [(⟨⟨c, LN + 1, rac, rop, rrc, rve, rwa, row, .slice rfo F.length rfc, rrs⟩, F, 0, ⟨0, 0, 0, 0, 0, .slice none 0 0, .slice none 0 0⟩, [], [], 0, 0⟩ : RC)]) := by rw [← hLQ]; exact ho11
                have ht11 : ∀ g, (Value.slice ao2 LQ cap2).ownBlock = some g → (Value.slice ao1 LN cap1).ownBlock = some g ∨ W10.heap.size ≤ g := by rw [← hLQ]; exact ht11
                have hap2' : (Builtin.append_ #[58, 58] 58 #[.slice ao1 LN cap1, .slice (some ⟨W10.heap.size, 0, none⟩) 1 1]).run Try.prog (W10.alloc (.cells #[.int .u32 (c : Nat), .int .u32 ((LN : Int) + 1), .int .u32 (rac : Nat), .int .u8 (rop : Nat), .int .u32 (rrc : Nat), .int .u32 (rve : Nat), .int .u32 (rwa : Nat), .int .u32 (row : Nat), .slice rfo F.length rfc, .string rrs, .int .i64 0, .int .u32 0, .int .u32 0, .int .u8 0, .int .u32 0, .int .u32 0, .slice none 0 0, .slice none 0 0, .int .u8 0, .int .i64 0] 66)) = .ok (.slice ao2 LQ cap2) W11 := by rw [← hLQ]; exact hap2
                have z11 := f11.size
                have hown1 : ∀ g, (Value.slice ao1 LN cap1).ownBlock = some g → W9.heap.size ≤ g := fun g hg => (ho10.lt g hg).1
                have f411 : Fr (fun _ => False) w4 W11 := (f49.trans0 f10).trans f11 (fun g hg e => by have := hown1 g e; have := f49.size; omega)
                have hbB11 := (f411.block B (lt_of_block hbB4) (fun h => h)).trans hbB4
                have cB11 : W11.cell? ⟨B, 1, none⟩ = some (.slice ao LN cap) := cell_of_blk hbB11 rfl
                have zB11 : W11.frozen? ⟨B, 1, none⟩ = false := by simp [World.frozen?, hbB11]
                obtain ⟨W12, hW12⟩ : ∃ W12, W11.setCell ⟨B, 1, none⟩ (.slice ao2 LQ cap2) = W12 := ⟨_, rfl⟩
                have f12 : Fr (fun k => k = B) W11 W12 := by rw [← hW12]; exact (Fr.refl (fun k => k = B) _).setCell (p := ⟨B, 1, none⟩) (.inl rfl) _
                have hbB12 : W12.heap[B]? = some (.cells #[.int .u32 (c : Nat), .slice ao2 LQ cap2, .int .i64 (dn.length : Nat)] 60) := by
                  rw [← hW12, blkset hbB11]
                  simp
                have hown2 : ∀ g, (Value.slice ao2 LQ cap2).ownBlock = some g → W9.heap.size ≤ g := fun g hg => by
                  rcases ht11 g hg with e | e
                  · exact hown1 g e
                  · omega
                have s49 := f49.size
                have hI4 : w4.heap.size < W9.heap.size := by omega
                have HPn : Hid (PJ w W12 d B c (k + 1) (cs ++ [⟨⟨c, LN + 1, rac, rop, rrc, rve, rwa, row, sv, rrs⟩, F, 0, 0, none⟩]) dn (Tn T W8 w4) (.slice ao2 LQ cap2) (l ++ [(⟨⟨c, LN + 1, rac, rop, rrc, rve, rwa, row, .slice rfo F.length rfc, rrs⟩, F, 0, ⟨0, 0, 0, 0, 0, .slice none 0 0, .slice none 0 0⟩, [], [], 0, 0⟩ : RC)])) := hide (PJ.box (hs4.fr0 f411) (hfw4.trans0 f411) (fun g hg => ⟨by
                    rcases hg with hg | hg
                    · exact ((unhide HP8).t g hg).1
                    · have := (unhide HP8).f.size; have := hg.1; omega, fun e => by
                    rcases hg with hg | hg
                    · exact ((unhide HP8).t g hg).2.1 e
                    · have := hg.1; omega, fun e => by
                    have := hown2 g e
                    have := hs4.lt g hg
                    omega⟩) (ownsRow_base ho11 (Nat.le_trans (hfw4.trans0 f49).size (Nat.le_refl _))) (fun e => by have := hown2 B e; omega) ((unhide HP8).R.call ⟨c, LN + 1, rac, rop, rrc, rve, rwa, row, sv, rrs⟩ F (.slice rfo F.length rfc) (unhide HRDW).1 (unhide HRDW).2) (fun q hq => by
                    rcases List.mem_append.1 hq with hq | hq
                    · have := (unhide HP8).n q hq; omega
                    · simp at hq; subst hq; exact Nat.zero_le _) (by have := (unhide HP8).dl; omega) (unhide HP8).bw f12 hbB12)
                have f59 : Fr (fun _ => False) W5 W9 := (f57.trans0 hf8).trans f9 (fun g hg e => by omega)
                have s59 := f59.size
                have f511 : Fr (fun _ => False) W5 W11 := (f59.trans0 f10).trans f11 (fun g hg e => by have := hown1 g e; omega)
                have hIB : w4.heap.size ≠ B := fun e => by omega
                have hI11 : w4.heap.size < W11.heap.size := by omega
                have hbI12 := (f12.block _ hI11 (fun e => hIB e)).trans ((f511.block _ (lt_of_block hbI5) (fun h => h)).trans hbI5)
                have hR9 : R < W9.heap.size := lt_of_block hb9
                have hbR12 := (f12.block R (by omega) (fun e => hBR e.symm)).trans ((f11.block R (by omega) (fun e => by have := hown1 R e; omega)).trans hbR10)
                have HRI12 : Hid (W12.rangeAt w4.heap.size 0 [.int .u32 (c : Nat), .int .u32 ((LN : Int) + 1)]) := hide (range_of_block hbI12)
                have HRJ12 : Hid (W12.rangeAt R 0 [.int .u32 (c : Nat), .int .u32 ((LN : Int) + 1)]) := hide (fun j u hu => cell_of_blk hbR12 (by
                  match j, (List.getElem?_eq_some_iff.1 hu).1 with
                  | 0, _ => exact hu
                  | 1, _ => exact hu))
                have hq : ∀ w : World, (binOp .neq 29 (.agg #[.int .u32 (c : Nat), .int .u32 ((LN : Int) + 1)]) (.agg #[.int .u32 (c : Nat), .int .u32 ((LN : Int) + 1)])).run Try.prog w = .ok (.bool false) w := fun w => by
                  have := neq_id c (LN + 1) c (LN + 1) w
                  simpa using this
                have HAP1 := hide hap1
                have HAP2 := hide hap2'
                have HST9 := hide hst9
                have HLL : Hid (LN + 1 = LQ) := hide hLQ
                have hlq : LQ ≤ 4096 := by omega
                clear hs4 hfw4 hbB4 hO4 f45 hbI5 z5 z4 f47 hbR7 hbB7 z7 z6 z8 hbR8 hst9 hb9 h3 h4 f9 f49 z9 hbB9 hap1 ho10 f10 hbR10 z10 hap2 hap2' ho11 f11 ht11 z11 hown1 f411 hbB11 f12 hbB12 hown2 s49 hI4 f57 f59 s59 f511 hbI12 hR9 hbR12 hLQ HK4 HK7 hf8 hW7 hRe
                try clear HXT
                try clear HXB
                try clear HXV
                try clear HOK
                try clear HB8
                try clear HSZ
                try clear HRG
                try clear HST
                try clear c0
                try clear HP8
                try clear HRDW
                try clear hcl
                try clear hL4
                try clear hLI
                try clear hfm
                try clear hfull
                try clear hTX
                try clear hTB
                try clear hX8
                try clear hB8
                try clear hRR6
                try clear HRR6
                try clear HRB7
                try clear cB6
                try clear cB7
                try clear hBR
                try clear hIB
                try clear hI11
                try clear HMS
                try clear hjj
                try clear hLN
                try clear hwL
                go_wp2_with (first | refine wpList_stN rfl 29 (.tmp 82) (.tmp 81) rfl _ _ rfl rfl (unhide HST9) ?_ | refine wpList_app rfl (.tmp 83) (.tmp 85) 58 58 rfl _ _ _ (by simp [Act.eval]) (by simp [Act.eval]) (unhide HAP1) ?_ | refine wpList_load_mid rfl 34 (.tmp 12) rfl R 0 rfl _ _ (unhide HRN10) Try.underlying34 rfl Try.sizeRq ?_ | refine wpList_app rfl (.tmp 87) (.tmp 90) 58 58 rfl _ _ _ (by simp [Act.eval]) (by simp [Act.eval]) (unhide HAP2) ?_ | refine wpList_load_midG rfl 29 (.tmp 10) rfl w4.heap.size 0 rfl _ _ (unhide HRI12) Try.underlying29 rfl Try.sizeId2 ?_ | refine wpList_load_midG rfl 29 (.tmp 97) rfl R 0 rfl _ _ (unhide HRJ12) Try.underlying29 rfl Try.sizeId2 ?_ | fail)
                go_meet
                case rel => exact ⟨(cs ++ [⟨⟨c, LN + 1, rac, rop, rrc, rve, rwa, row, sv, rrs⟩, F, 0, 0, none⟩]), dn, (Tn T W8 w4), (.slice ao2 LQ cap2), (l ++ [(⟨⟨c, LN + 1, rac, rop, rrc, rve, rwa, row, .slice rfo F.length rfc, rrs⟩, F, 0, ⟨0, 0, 0, 0, 0, .slice none 0 0, .slice none 0 0⟩, [], [], 0, 0⟩ : RC)]), unhide HPn⟩
          · by_cases h2 : ki = 2
            · subst h2
              have hmk := (unhide HOK).m
              have hsm : (Try.prog.info? 49).map (·.size) = some m.xs.length := by rw [hmk.len]; exact Try.sizeMs
              have HRM : Hid (W8.rangeAt X 11 m.xs) := hide (fun j u hu => cell_of_blk (unhide HB8) (by rw [Nat.add_comm 11 j]; simpa [OG.xs, RQ.cs] using hu))
              have HRB : Hid (W8.rangeAt B 0 [.int .u32 (c : Nat), .slice ao LN cap, .int .i64 (dn.length : Nat)]) := hide (range_of_block (unhide HP8).b)
              obtain ⟨rr, dn', l', hT⟩ := both_take (unhide HP8).s (unhide HP8).f m hmk w.heap.size (.slice ao LN cap) (unhide HP8).o (unhide HP8).f.size (unhide HP8).R (by have := (unhide HP8).dl; omega) k (by omega) (unhide HP8).n
              have HT := hide hT
              clear hT
              go_wp2_with (first | refine wpList_load_mid rfl 62 (.tmp 39) rfl g (a + k * 46) rfl _ _ (unhide HRG) Try.underlying62 rfl (unhide HSZ) ?_ | refine wpList_stN rfl 62 (.tmp 9) (.tmp 40) rfl _ _ rfl rfl (unhide HST) ?_ | refine wpList_load_mid rfl 60 (.tmp 7) rfl B 0 rfl _ _ (unhide HRB) Try.underlying60 rfl Try.sizeRs ?_ | refine wpList_load_mid rfl 49 (.tmp 105) rfl X 11 rfl _ _ (unhide HRM) Try.underlying49 rfl hsm ?_)
              refine (unhide HT).ref.mono ?_
              rintro e w4 ⟨v', rfl, ho4, hf4, hv4⟩
              obtain ⟨bo, bcap, e4⟩ := own_formX ho4
              obtain ⟨LM, hLM⟩ : ∃ n, l'.length = n := ⟨_, rfl⟩
              rw [hLM] at e4
              subst e4
              obtain ⟨W5, hW5⟩ : ∃ W5, w4.alloc (.cells #[.int .u32 (c : Nat), .slice bo LM bcap, .int .i64 (dn'.length : Nat)] 60) = W5 := ⟨_, rfl⟩
              have hf85 : Fr (fun _ => False) W8 W5 := by rw [← hW5]; exact hf4.trans0 (box1 _ _)
              have HRU : Hid (W5.rangeAt w4.heap.size 0 [.int .u32 (c : Nat), .slice bo LM bcap, .int .i64 (dn'.length : Nat)]) := hide (by rw [← hW5]; exact range_of_block (heap_alloc_new w4 _))
              have hb5 := (hf85.block B (lt_of_block (unhide HP8).b) (fun h => h)).trans (unhide HP8).b
              obtain ⟨W6, hst6, hb6, hf6⟩ := st_all (P := Try.prog) (ty := 60) [.int .u32 (c : Nat), .slice ao LN cap, .int .i64 (dn.length : Nat)] [.int .u32 (c : Nat), .slice bo LM bcap, .int .i64 (dn'.length : Nat)] hb5 rfl Try.sizeRs (fun u hu => by simp at hu; rcases hu with rfl | rfl | rfl <;> rfl)
              have hXB : X ≠ B := fun e => by have := unhide HXB; omega
              have hX5 : X < W5.heap.size := Nat.lt_of_lt_of_le (lt_of_block (unhide HB8)) hf85.size
              have HRM6 : Hid (W6.rangeAt X 11 m.xs) := hide (fun j u hu => (hf6.cell (p := ⟨X, 11 + j, none⟩) hX5 (fun e => hXB e)).trans ((hf85.cell (p := ⟨X, 11 + j, none⟩) (lt_of_block (unhide HB8)) (fun h => h)).trans ((unhide HRM) j u hu)))
              have HST6 := hide hst6
              have hS6 : SS W6 d c cs dn T := ((unhide HP8).s.fr0 hf85).fr hf6 (fun g hg e => ((unhide HP8).t g hg).2.1 e)
              have hf86 : Fr (fun _ => False) w W6 := ((unhide HP8).f.trans0 hf85).trans hf6 (fun g hg e => by have := (unhide HP8).bw; omega)
              have HSES := hide ((unhide HT).ses W6 hS6 (hmk.fr0 hf86))
              have hvB : (Value.slice bo LM bcap).ownBlock ≠ some B := fun e => by
                rcases hv4 B e with e | e
                · exact (unhide HP8).vb e
                · have := lt_of_block (unhide HP8).b; omega
              have ho6 : OwC W6 w.heap.size (.slice bo LM bcap) l' := (ho4.fr0 (by rw [← hW5]; exact box1 w4 _)).fr hf6 (fun g hg e => hvB (by rw [hg, e]))
              have hv6 : ∀ g, T g → (Value.slice bo LM bcap).ownBlock ≠ some g := fun g hg e => by
                rcases hv4 g e with e | e
                · exact ((unhide HP8).t g hg).2.2 e
                · have := (unhide HP8).s.lt g hg; omega
              have HQ := hide (And.intro hvB (And.intro ho6 (And.intro hv6 (And.intro hf86 (And.intro hb6 hS6)))))
              clear hb5 hst6 hb6 hf6 hX5 hS6 hf86 hvB ho6 hv6 ho4 hf4 hv4 hf85 HRM HRB
              go_wp2_with (first | refine wpList_load_mid rfl 60 (.tmp 14) rfl w4.heap.size 0 rfl _ _ (unhide HRU) Try.underlying60 rfl Try.sizeRs ?_ | refine wpList_stN rfl 60 (.tmp 7) (.tmp 110) rfl _ _ rfl rfl (unhide HST6) ?_ | refine wpList_load_mid rfl 49 (.tmp 112) rfl X 11 rfl _ _ (unhide HRM6) Try.underlying49 rfl hsm ?_)
              refine (unhide HSES).mono ?_
              rintro e w7 ⟨cs', rfl, hs7, hf7, hR7, hn7⟩
              have HPn : Hid (PJ w w7 d B c (k + 1) cs' dn' (Tn T W6 w7) (.slice bo LM bcap) l') := hide (by
                obtain ⟨hvB, ho6, hv6, hf86, hb6, hS6⟩ := unhide HQ
                have hTB : ¬ T B := fun h => ((unhide HP8).t B h).2.1 rfl
                refine ⟨hs7, hf86.trans hf7 (fun g hg e => by have := ((unhide HP8).t g e).1; omega), fun g hg => ?_, ho6.fr hf7 (fun g hg e => hv6 g e hg), hvB, hR7, hn7, ?_, (hf7.block B (lt_of_block hb6) hTB).trans hb6, (unhide HP8).bw⟩
                · rcases hg with hg | hg
                  · exact ⟨((unhide HP8).t g hg).1, ((unhide HP8).t g hg).2.1, hv6 g hg⟩
                  · refine ⟨Nat.le_trans hf86.size hg.1, fun e => ?_, fun e => ?_⟩
                    · have := lt_of_block hb6; have := hg.1; omega
                    · have := (ho6.lt g e).2; have := hg.1; omega
                · have := (unhide HT).dl; have := (unhide HP8).dl; omega)
              clear hs7 hf7 hR7 hn7 HQ HSES HT HRU HST6 HRM6 hW5
              clear hLN
              have hLN := hLM
              go_wp2_with fail
              go_meet
              case rel => exact ⟨cs', dn', (Tn T W6 w7), (.slice bo LM bcap), l', unhide HPn⟩
            · by_cases h3 : ki = 3
              · subst h3
                have hmk := (unhide HOK).m
                have HRI : Hid (W8.rangeAt X 22 [.int .u32 (m.icl : Nat), .int .u32 (m.inu : Nat)]) := hide (fun j u hu => by
                  match j, (List.getElem?_eq_some_iff.1 hu).1 with
                  | 0, _ => exact (Option.some.inj hu) ▸ cell_of_blk (unhide HB8) (by simpa [OG.xs, RQ.cs] using hmk.x.i1)
                  | 1, _ => exact (Option.some.inj hu) ▸ cell_of_blk (unhide HB8) (by simpa [OG.xs, RQ.cs] using hmk.x.i2))
                have HRB : Hid (W8.rangeAt B 0 [.int .u32 (c : Nat), .slice ao LN cap, .int .i64 (dn.length : Nat)]) := hide (range_of_block (unhide HP8).b)
                go_wp2_with (first | refine wpList_load_mid rfl 62 (.tmp 39) rfl g (a + k * 46) rfl _ _ (unhide HRG) Try.underlying62 rfl (unhide HSZ) ?_ | refine wpList_stN rfl 62 (.tmp 9) (.tmp 40) rfl _ _ rfl rfl (unhide HST) ?_ | refine wpList_load_mid rfl 60 (.tmp 7) rfl B 0 rfl _ _ (unhide HRB) Try.underlying60 rfl Try.sizeRs ?_ | refine wpList_load_mid rfl 29 (.tmp 122) rfl X 22 rfl _ _ (unhide HRI) Try.underlying29 rfl Try.sizeId2 ?_)
                refine (looked_any (unhide HP8).s (unhide HP8).f _ _ (unhide HP8).o (unhide HP8).R hc32 m.icl m.inu hmk.bi hmk.bn).mono ?_
                rintro e w4 ⟨rfl, hf4⟩
                have HPn := hide (((unhide HP8).fr0 hf4).up)
                clear hf4 HRI HRB
                go_wp2_with fail
                go_meet
                case rel => exact ⟨cs, dn, T, (.slice ao LN cap), l, unhide HPn⟩
              · have n1 : ¬ ki = 1 := h1
                have b1 : (ki == 1) = false := by simpa using h1
                have b2 : (ki == 2) = false := by simpa using h2
                have b3 : (ki == 3) = false := by simpa using h3
                have HPn := hide (unhide HP8).up
                go_wp2_with (first | refine wpList_load_mid rfl 62 (.tmp 39) rfl g (a + k * 46) rfl _ _ (unhide HRG) Try.underlying62 rfl (unhide HSZ) ?_ | refine wpList_stN rfl 62 (.tmp 9) (.tmp 40) rfl _ _ rfl rfl (unhide HST) ?_ | fail)
                go_meet
                case rel => exact ⟨cs, dn, T, (.slice ao LN cap), l, unhide HPn⟩
        case rest =>
          obtain ⟨cs2, dn2, T2, v2, l2, hP2⟩ := hcut
          have HPn := hide hP2
          clear hP2
          obtain ⟨LM, hLM⟩ : ∃ n, l2.length = n := ⟨_, rfl⟩
          have hvf2 := own_formX (unhide HPn).o
          rw [hLM] at hvf2
          obtain ⟨bo, bcap, rfl⟩ := hvf2
          clear hLM
          have HRC : Hid (wc.rangeAt B 0 [.int .u32 (c : Nat), .slice bo LM bcap, .int .i64 (dn2.length : Nat)]) := hide (range_of_block (unhide HPn).b)
          have cB1 : wc.cell? ⟨B, 1, none⟩ = some (.slice bo LM bcap) := cell_of_blk (unhide HPn).b rfl
          have HTD : Hid (Calls Try.prog 24 #[.pointer (some ⟨d, 0, none⟩), .agg #[.int .u32 (c : Nat), .slice bo LM bcap, .int .i64 (dn2.length : Nat)]] wc fun e w' => e = .returned (.bool true) ∧ Fr (fun _ => False) wc w') := hide (told_any (unhide HPn).s (unhide HPn).f _ _ (unhide HPn).o (unhide HPn).R (by have := (unhide HPn).dl; omega))
          have hwk := wrapS k (by omega)
          by_cases h100 : LM < 100
          · have e100 : (LM : Int) < 100 := by omega
            go_wp2_with (refine wpList_load_midG rfl 60 (.tmp 7) rfl B 0 rfl _ _ (unhide HRC) Try.underlying60 rfl Try.sizeRs ?_)
            refine (unhide HTD).mono ?_
            rintro e w9 ⟨rfl, hf9⟩
            have HPz := hide ((unhide HPn).fr0 hf9)
            clear hf9 HTD
            go_wp2_with fail
            go_roundw
            case rel => exact ⟨k + 1, cs2, dn2, T2, .slice bo LM bcap, l2, by omega, by go_num, unhide HPz⟩
            case measure => simp [intOf]; omega
          · have e100 : ¬ (LM : Int) < 100 := by omega
            go_wp2_with fail
            go_roundw
            case rel => exact ⟨k + 1, cs2, dn2, T2, .slice bo LM bcap, l2, by omega, by go_num, unhide HPn⟩
            case measure => simp [intOf]; omega
      · obtain rfl : k = N := by omega
        clear hlt
        have hl2 : ¬ (k : Int) < (k : Int) := by omega
        have HR : Hid (wr.rangeAt B 0 [.int .u32 (c : Nat), v, .int .i64 (dn.length : Nat)]) := hide (range_of_block (unhide HP).b)
        go_wp2_with (refine wpList_load_mid rfl 60 (.tmp 7) rfl B 0 rfl _ _ (unhide HR) Try.underlying60 rfl Try.sizeRs ?_)
        refine (told_any (unhide HP).s (unhide HP).f _ v (unhide HP).o (unhide HP).R (by have := (unhide HP).dl; omega)).mono ?_
        rintro e w9 ⟨rfl, hf9⟩
        go_wp2_with fail
        go_ret
        exact ⟨rfl, (unhide HP).f.trans0 hf9⟩
end Go.Proofs.Ytkiepcdncegniaa

