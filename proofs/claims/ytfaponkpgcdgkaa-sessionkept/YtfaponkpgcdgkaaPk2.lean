import Derived.Test.YtfaponkpgcdgkaaPk1
import Derived.Deep.CutBlock
import Derived.Test.YtfaponkpgcdgkaaBase
import Derived.Test.YtfaponkpgcdgkaaRows
import Derived.WalkKit
import Derived.ProofKit
import Derived.OpenShut
import Derived.SizedLaws
import Derived.JoinedCond
import Derived.Deep.DeepHandedRow
import Derived.Deep.Slices
namespace Go.Proofs.Ytfaponkpgcdgkaa
open Go.RowKit Go.Maps

/-- Names that came in. -/
structure NmR (w : World) (v : Value) (l : List ByteArray) : Prop where
  f : ∃ vo c, v = .slice vo l.length c ∧ ∀ j s, l[j]? = some s → ∃ g o, vo = some ⟨g, o, none⟩ ∧ w.cell? ⟨g, o + j, none⟩ = some (.string s)
theorem frm_two (v : Value) : (⟨0, 0, 1, 1, 0, 0, 7, 6, v, ⟨#[]⟩⟩ : RQ).frm [(⟨⟨#[97]⟩, 1, ⟨#[120]⟩, 0, 0⟩ : F5), ⟨⟨#[98]⟩, 1, ⟨#[121]⟩, 0, 0⟩] = true := by kernel_rfl
set_option maxRecDepth 100000 in
set_option maxHeartbeats 16000000 in
theorem skept_any (w : World) (x : Value) (S : List ByteArray) (hx : NmR w x S) : Calls Try.prog 7 #[x] w fun e w' => e = .returned (.bool true) ∧ Fr (fun _ => False) w w' := by
  obtain ⟨vo, vc, rfl, hms⟩ := hx.f
  have HMS := hide hms
  obtain ⟨N, hN⟩ : ∃ N, S.length = N := ⟨_, rfl⟩
  have HNN := hide hN
  rw [hN]
  clear hx hms hN
  go_enter Try.func7, Try.ntmps7
  go_wp2_with fail
  refine (awake17 w).mono ?_
  rintro e w0 ⟨rfl, hf0⟩
  have HF0 := hide hf0
  clear hf0
  go_wp2_with fail
  refine (SS.new 2 w0 (by omega)).mono ?_
  rintro e w1 ⟨d, rfl, hs1, hf1⟩
  have H1 := hide (And.intro hs1 hf1)
  clear hs1 hf1
  go_wp2_with fail
  refine (create_any _).mono ?_
  rintro e w2 ⟨rfl, hf2⟩
  have H2 := hide (And.intro ((unhide H1).1.fr0 hf2) hf2)
  clear hf2
  simp only [crR, RQ.v]
  go_wp2_with fail
  obtain ⟨W3, hW3⟩ : ∃ W3, (w2.alloc (.cells #[.int .u32 0, .int .u32 0, .int .u32 1, .int .u8 1, .int .u32 0, .int .u32 0, .int .u32 7, .int .u32 6, .slice (some ⟨w2.heap.size + 1, 0, none⟩) 2 2, .string ⟨#[]⟩] 34)).alloc (.cells #[.string ⟨#[97]⟩, .int .u8 1, .string ⟨#[120]⟩, .float .f32 0, .int .u8 0, .string ⟨#[98]⟩, .int .u8 1, .string ⟨#[121]⟩, .float .f32 0, .int .u8 0] 79) = W3 := ⟨_, rfl⟩
  have hf3 : Fr (fun _ => False) w2 W3 := by rw [← hW3]; exact (box1 w2 _).alloc _
  have hR3 : W3.heap[w2.heap.size]? = some (.cells #[.int .u32 0, .int .u32 0, .int .u32 1, .int .u8 1, .int .u32 0, .int .u32 0, .int .u32 7, .int .u32 6, .slice (some ⟨w2.heap.size + 1, 0, none⟩) 2 2, .string ⟨#[]⟩] 34) := by rw [← hW3]; exact (Below.heap_alloc _ _ _ (by simp)).trans (heap_alloc_new w2 _)
  have hG3 : W3.heap[w2.heap.size + 1]? = some (.cells #[.string ⟨#[97]⟩, .int .u8 1, .string ⟨#[120]⟩, .float .f32 0, .int .u8 0, .string ⟨#[98]⟩, .int .u8 1, .string ⟨#[121]⟩, .float .f32 0, .int .u8 0] 79) := by
    rw [← hW3]
    have := heap_alloc_new (w2.alloc (.cells #[.int .u32 0, .int .u32 0, .int .u32 1, .int .u8 1, .int .u32 0, .int .u32 0, .int .u32 7, .int .u32 6, .slice (some ⟨w2.heap.size + 1, 0, none⟩) 2 2, .string ⟨#[]⟩] 34)) (.cells #[.string ⟨#[97]⟩, .int .u8 1, .string ⟨#[120]⟩, .float .f32 0, .int .u8 0, .string ⟨#[98]⟩, .int .u8 1, .string ⟨#[121]⟩, .float .f32 0, .int .u8 0] 79)
    rwa [World.size_alloc] at this
  have hz3 : W3.heap.size = w2.heap.size + 2 := by rw [← hW3]; simp
  rw [hW3]
  clear hW3
  have HC : Hid (Calls Try.prog 10 #[.pointer (some ⟨d, 0, none⟩), .agg #[.int .u32 0, .int .u32 0, .int .u32 1, .int .u8 1, .int .u32 0, .int .u32 0, .int .u32 7, .int .u32 6, .slice (some ⟨w2.heap.size + 1, 0, none⟩) 2 2, .string ⟨#[]⟩]] W3 fun e w' => e = .returned (.tuple #[.agg #[.int .u32 2, .int .u32 1], .int .i64 0]) ∧ (∃ v, SS w' d 2 [(⟨⟨2, 1, 1, 1, 0, 0, 7, 6, v, ⟨#[]⟩⟩, [(⟨⟨#[97]⟩, 1, ⟨#[120]⟩, 0, 0⟩ : F5), ⟨⟨#[98]⟩, 1, ⟨#[121]⟩, 0, 0⟩], 0, 0, none⟩ : SC)] [] (Tn (Nb w0 w1) W3 w')) ∧ Fr (Nb w0 w1) W3 w') := hide (((unhide H2).1.fr0 hf3).call ⟨0, 0, 1, 1, 0, 0, 7, 6, .slice (some ⟨w2.heap.size + 1, 0, none⟩) 2 2, ⟨#[]⟩⟩ [(⟨⟨#[97]⟩, 1, ⟨#[120]⟩, 0, 0⟩ : F5), ⟨⟨#[98]⟩, 1, ⟨#[121]⟩, 0, 0⟩] (rd_at (n := 2) (z := 5) (t := 79) (xs := fcells [(⟨⟨#[97]⟩, 1, ⟨#[120]⟩, 0, 0⟩ : F5), ⟨⟨#[98]⟩, 1, ⟨#[121]⟩, 0, 0⟩]) hG3 rfl (fcells_one _)) (by simp) (fun f hf => by simp at hf; rcases hf with rfl | rfl <;> exact ⟨by decide, by decide⟩) (frm_two _) (by simp))
  refine (unhide HC).mono ?_
  rintro e w4 ⟨rfl, ⟨v, hs4⟩, hf4⟩
  have hz1 : w1.heap.size ≤ w2.heap.size := (unhide H2).2.size
  have hR4 := (hf4.block _ (lt_of_block hR3) (fun e => by have := e.2; omega)).trans hR3
  have hG4 := (hf4.block _ (lt_of_block hG3) (fun e => by have := e.2; omega)).trans hG3
  have cR : w4.cell? ⟨w2.heap.size, 8, none⟩ = some (.slice (some ⟨w2.heap.size + 1, 0, none⟩) 2 2) := cell_of_blk hR4 rfl
  have cG : w4.cell? ⟨w2.heap.size + 1, 0, none⟩ = some (.string ⟨#[97]⟩) := cell_of_blk hG4 rfl
  have zG : w4.frozen? ⟨w2.heap.size + 1, 0, none⟩ = false := by simp [World.frozen?, hG4]
  obtain ⟨G, hG⟩ : ∃ G, w2.heap.size + 1 = G := ⟨_, rfl⟩
  have hT4 : ∀ g, Tn (Nb w0 w1) W3 w4 g → w.heap.size ≤ g ∧ g ≠ G := fun g hg => by
    have h1 := (unhide HF0).size
    rcases hg with hg | hg
    · have := hg.1; have := hg.2; omega
    · have := hg.1; have := (unhide H1).2.size; omega
  have hfw4 : Fr (fun _ => False) w w4 := ((((unhide HF0).trans0 (unhide H1).2).trans0 (unhide H2).2).trans0 hf3).trans hf4 (fun g hg e => by have h1 := (unhide HF0).size; have := e.1; omega)
  have hGw : w.heap.size ≤ G := by have h1 := (unhide HF0).size; have := (unhide H1).2.size; omega
  have H4 := hide (And.intro hs4 (And.intro hfw4 (And.intro hT4 hGw)))
  rw [hG] at cR cG zG
  clear hs4 hf4 hT4 hfw4 hR4 hG4 hR3 hG3 hz3 hf3 HC H2 H1 HF0 hz1 hGw
  generalize Tn (Nb w0 w1) W3 w4 = T at H4
  go_wp2_with fail
  obtain ⟨W5, hW5⟩ : ∃ W5, w4.setCell ⟨G, 0, none⟩ (.string ⟨#[122]⟩) = W5 := ⟨_, rfl⟩
  have hf5 : Fr (fun g => g = G) w4 W5 := by rw [← hW5]; exact (Fr.refl (fun g => g = G) _).setCell (p := ⟨G, 0, none⟩) (.inl rfl) _
  rw [hW5]
  have H5 := hide (And.intro ((unhide H4).1.fr hf5 (fun g hg e => ((unhide H4).2.2.1 g hg).2 e)) (And.intro ((unhide H4).2.1.trans hf5 (fun g hg e => by have := (unhide H4).2.2.2; omega)) (fun g hg => ((unhide H4).2.2.1 g hg).1)))
  clear hW5 hf5 H4 cR cG zG hG
  refine ((unhide H5).1.out1 rfl).mono ?_
  rintro e w6 ⟨gh, ch, tv, v6, rfl, hg6, hc6, hF6, hn6, hf6⟩
  obtain ⟨gf, cf, rfl, hgf, hfc⟩ := own_one_form hF6 (by simp)
  have c1 : w6.cell? ⟨gf, 0, none⟩ = some (.string ⟨#[97]⟩) := hfc 0 _ rfl
  have z1 : w6.frozen? ⟨gf, 0, none⟩ = false := by
    obtain ⟨cur, hb⟩ := own_blk hF6 (g := gf) rfl
    simp [World.frozen?, hb]
  have h1 : (1 : Nat) ≤ ch := hg6.1
  have H6 := hide (And.intro ((unhide H5).1.fr0 hf6) (And.intro ((unhide H5).2.1.trans0 hf6) (And.intro hgf (And.intro (fun g hg => And.intro ((unhide H5).2.2 g hg) ((unhide H5).1.lt g hg)) (unhide H5).2.1.size))))
  clear hF6 hn6 hf6 hgf hfc H5 hg6
  go_wp2_with fail
  obtain ⟨W7, hW7⟩ : ∃ W7, w6.setCell ⟨gf, 0, none⟩ (.string ⟨#[122]⟩) = W7 := ⟨_, rfl⟩
  have hf7 : Fr (fun g => g = gf) w6 W7 := by rw [← hW7]; exact (Fr.refl (fun g => g = gf) _).setCell (p := ⟨gf, 0, none⟩) (.inl rfl) _
  rw [hW7]
  have H7 := hide (And.intro ((unhide H6).1.fr hf7 (fun g hg e => by have h1 := ((unhide H6).2.2.2.1 g hg).2; have h2 := (unhide H6).2.2.1; omega)) (And.intro ((unhide H6).2.1.trans hf7 (fun g hg e => by have h2 := (unhide H6).2.2.1; have := (unhide H6).2.2.2.2; omega)) (fun g hg => ((unhide H6).2.2.2.1 g hg).1)))
  clear hW7 hf7 H6 c1 z1 h1 hc6
  refine ((unhide H7).1.out1 rfl).mono ?_
  rintro e w8 ⟨gh2, ch2, tv2, v8, rfl, hg8, hc8, hF8, hn8, hf8⟩
  obtain ⟨gf2, cf2, rfl, hgf2, hfc2⟩ := own_one_form hF8 (by simp)
  have c2 : w8.cell? ⟨gf2, 0, none⟩ = some (.string ⟨#[97]⟩) := hfc2 0 _ rfl
  have H8 := hide (And.intro ((unhide H7).1.fr0 hf8) (And.intro ((unhide H7).2.1.trans0 hf8) (And.intro (fun g hg => And.intro ((unhide H7).2.2 g hg) ((unhide H7).1.lt g hg)) (And.intro hc8 (And.intro c2 (And.intro hg8.2.2 hf8.size))))))
  have h1 : (1 : Nat) ≤ ch2 := hg8.1
  clear hF8 hn8 hf8 hgf2 hfc2 H7 hg8 hc8 c2
  go_wp2_with fail
  refine (answered_any 2 1 1 _).mono ?_
  rintro e w9 ⟨rfl, hf9⟩
  obtain ⟨W, hst, hbM, hf10⟩ := st_all (P := Try.prog) (ty := 49) zM (ansM 2 1 1) (heap_alloc_new w9 (.cells zM.toArray 49)) rfl Try.sizeMs (ansM_one 2 1 1)
  have hfa : Fr (fun _ => False) w8 W := (hf9.trans0 (box1 w9 (.cells zM.toArray 49))).trans hf10 (fun g hg e => by have := hf9.size; omega)
  have HST := hide hst
  obtain ⟨M, hM⟩ : ∃ M, w9.heap.size = M := ⟨_, rfl⟩
  rw [hM] at HST
  have HK : Hid (KB w W d M gh2 gf2 cf2 (⟨⟨2, 1, 1, 1, 0, 0, 7, 6, v, ⟨#[]⟩⟩, [(⟨⟨#[97]⟩, 1, ⟨#[120]⟩, 0, 0⟩ : F5), ⟨⟨#[98]⟩, 1, ⟨#[121]⟩, 0, 0⟩], 0, 0, none⟩ : SC) T [] [] [] (.slice none 0 0) (.slice none 0 0) (.slice none 0 0)) := hide (by
    obtain ⟨a1, a2, a3, a4, a5, a6, a7⟩ := unhide H8
    have z9 := hf9.size
    have zg : gf2 < w8.heap.size := lt_of_cell a5
    exact ⟨a1.fr0 hfa, (hfa.cell (p := ⟨gh2, 9, none⟩) (lt_of_cell a4) (fun h => h)).trans a4, (hfa.cell (p := ⟨gf2, 0, none⟩) (lt_of_cell a5) (fun h => h)).trans a5, hM ▸ hbM, World.ownsRow_nil _ _ _ _, World.ownsRow_nil _ _ _ _, World.ownsRow_nil _ _ _ _, (fun g => ⟨fun e => (by cases e), fun e => (by cases e)⟩), ⟨by have := a2.size; omega, by omega, by omega, fun g hg => ⟨(a3 g hg).1, by have := (a3 g hg).2; omega⟩⟩, a2.trans0 hfa⟩)
  clear hst hbM hf10 hfa H8 hf9
  go_upto_block 0 with (refine wpList_stN rfl 49 (.tmp 8) (.tmp 87) rfl _ _ rfl rfl (unhide HST) ?_)
  clear h1 hM HST
  obtain ⟨n, hn⟩ : ∃ n, min N 50 = n := ⟨_, rfl⟩
  have hnN : n ≤ N := by omega
  have hn50 : n ≤ 50 := by omega
  have hnm : n < N → n = 50 := by omega
  clear hn
  go_cut [9, 10] from 88 to 126 (fun tv _ wr => ∃ (fv hv : Value), KB w wr d M gh2 gf2 cf2 (⟨⟨2, 1, 1, 1, 0, 0, 7, 6, v, ⟨#[]⟩⟩, [(⟨⟨#[97]⟩, 1, ⟨#[120]⟩, 0, 0⟩ : F5), ⟨⟨#[98]⟩, 1, ⟨#[121]⟩, 0, 0⟩], 0, 0, none⟩ : SC) T ((S.take n).map fN) ((List.range n).map sN) (S.take n) fv hv tv)
  case first =>
    go_wp2_with fail
    go_loopw [9, 10] (fun tv iv wr => ∃ (i : Nat) (fv hv : Value), i ≤ n ∧ iv = .int .i64 (i : Nat) ∧ KB w wr d M gh2 gf2 cf2 (⟨⟨2, 1, 1, 1, 0, 0, 7, 6, v, ⟨#[]⟩⟩, [(⟨⟨#[97]⟩, 1, ⟨#[120]⟩, 0, 0⟩ : F5), ⟨⟨#[98]⟩, 1, ⟨#[121]⟩, 0, 0⟩], 0, 0, none⟩ : SC) T ((S.take i).map fN) ((List.range i).map sN) (S.take i) fv hv tv) (fun _ iv _ => n - (intOf iv).toNat)
    case atStart => exact ⟨0, _, _, Nat.zero_le _, rfl, unhide HK⟩
    case round =>
      clear HK
      obtain ⟨i, fv, hv, hi, rfl, hK⟩ := hrel
      rename World => wr
      have HK := hide hK
      clear hK
      by_cases hlt : i < n
      · have l1 : (i : Int) < (N : Int) := by omega
        have l2 : (i : Int) < 50 := by omega
        have l3 : (0 : Int) ≤ (i : Int) := by omega
        have hw0 := wrapU0 i (by omega)
        have hw1 := wrapS i (by omega)
        obtain ⟨s, hs⟩ : ∃ s, S[i]? = some s := ⟨_, List.getElem?_eq_getElem (by have := unhide HNN; omega)⟩
        obtain ⟨g, o, rfl, hc⟩ := (unhide HMS) i s hs
        have hgw : g < w.heap.size := lt_of_cell hc
        have hT1 : S.take (i + 1) = S.take i ++ [s] := by rw [List.take_add_one, hs]; rfl
        have hF1 : (S.take (i + 1)).map fN = (S.take i).map fN ++ [fN s] := by rw [hT1, List.map_append]; rfl
        have hH1 : (List.range (i + 1)).map sN = (List.range i).map sN ++ [sN i] := by rw [List.range_succ, List.map_append]; rfl
        have lS : (S.take i).length = i := by have := unhide HNN; simp; omega
        have lF : ((S.take i).map fN).length = i := by rw [List.length_map, lS]
        have lH : ((List.range i).map sN).length = i := by simp
        have HM : Hid (∀ (X : Nat → Prop) (W' : World), (∀ k, X k → M < k) → Fr X wr W' → W'.heap[M]? = some (.cells (mK fv hv).toArray 49) ∧ W'.cell? ⟨g, o + i, none⟩ = some (.string s)) := hide (fun X W' hX hf => by
          have h := unhide HK
          have hwM := h.lt.1
          refine ⟨(hf.block M (lt_of_block h.m) (fun e => by have : M < M := hX _ e; omega)).trans h.m, ?_⟩
          have h2 := (h.fr.cell (p := ⟨g, o + i, none⟩) hgw (fun h => h)).trans hc
          exact (hf.cell (p := ⟨g, o + i, none⟩) (lt_of_cell h2) (fun e => by have : M < g := hX _ e; omega)).trans h2)
        have HS : Hid (∀ (X : Nat → Prop) (W' : World), (∀ k, X k → M < k) → Fr X wr W' → (fun W : World => W.cell? ⟨M, 18, none⟩ = some fv ∧ W.cell? ⟨g, o + i, none⟩ = some (.string s)) W') := hide (fun X W' hX hf => by
          have h := (unhide HM) X W' hX hf
          exact ⟨cell_of_blk h.1 rfl, h.2⟩)
        obtain ⟨ao, cap, W13, hap, ho, hf13, ht⟩ := app_fld wr.drew (M + 1) fv ((S.take i).map fN) (fN s) (ownsRow_of_block (unhide HK).f (fun g hg => rfl)) (lt_of_block (unhide HK).m) (by omega)
        rw [lF] at hap ho ht
        have hX13 : ∀ k, fv.ownBlock = some k → M < k := fun k e => own_ge (unhide HK).f e
        have hf13' : Fr (fun k => fv.ownBlock = some k) wr W13 := (Fr.refl _ _).drew.trans hf13 (fun _ _ e => e)
        have HK20 := hide ((unhide HK).fld ho hf13' ht)
        have hap' : (Builtin.append_ #[32, 32] 32 #[fv, .slice (some ⟨wr.heap.size, 0, none⟩) 1 1]).run Try.prog (wr.drew.alloc (.cells #[.string s, .int .u8 0, .string ⟨#[]⟩, .float .f32 0, .int .u8 0] 79)) = .ok (.slice ao (i + 1) cap) W13 := hap
        have HAP := hide hap'
        have H13 := hide (And.intro hX13 hf13')
        have HCN := hide hc
        clear hap hap' ho hf13 hf13' ht hc hX13
        go_wp2_with fail
        refine wp_region_last (n := 12) (m := 12) (S := (fun W : World => W.cell? ⟨M, 18, none⟩ = some fv ∧ W.cell? ⟨g, o + i, none⟩ = some (.string s))) (by kernel_rfl) rfl rfl rfl (by kernel_rfl) (by kernel_rfl) ((unhide HS) (fun _ => False) _ (fun _ h => h.elim) (Fr.refl _ _).drew) (fun hHeld => ?_)
        refine wtk2 (i := 0) rfl hHeld ?_
        (try simp only [Act.put, nrm])
        refine wtk2 (i := 1) rfl hHeld ?_
        (try simp only [Act.put, nrm])
        refine wtk2 (i := 2) rfl hHeld ?_
        (try simp only [Act.put, nrm])
        refine wtk2 (i := 3) rfl hHeld ?_
        (try simp only [Act.put, nrm])
        refine wtk2 (i := 4) rfl hHeld ?_
        (try simp only [Act.put, nrm])
        refine wtk2 (i := 5) rfl hHeld ?_
        (try simp only [Act.put, nrm])
        refine wtk2 (i := 6) rfl hHeld ?_
        (try simp only [Act.put, nrm])
        refine wtk2 (i := 7) rfl hHeld ?_
        (try simp only [Act.put, nrm])
        refine wpAnyH_ready (rs := [8]) (by kernel_rfl) (by simp) (AllReadyH.cons rfl (fun K hK => ?_) AllReadyH.nil)
        go_simp
        refine hK.out _ _ ((unhide HS) (fun _ => False) _ (fun _ h => h.elim) ((Fr.refl _ _).drew.alloc _)) (fun hHeld => ?_)
        clear hK K
        (try simp only [Act.put, nrm])
        refine wpAnyH_ready (rs := [9]) (by kernel_rfl) (by simp) (AllReadyH.cons rfl (fun K hK => ?_) AllReadyH.nil)
        refine step_app rfl (.tmp 100) (.tmp 106) 32 32 rfl _ _ _ (by simp [Act.eval]) (by simp [Act.eval]) (unhide HAP) ?_
        refine hK.out _ _ ((unhide HS) _ _ (unhide H13).1 (unhide H13).2) (fun hHeld => ?_)
        clear hK K
        (try simp only [Act.put, nrm])
        refine wtk2 (i := 10) rfl hHeld ?_
        (try simp only [Act.put, nrm])
        refine wtk2 (i := 11) rfl hHeld ?_
        (try simp only [Act.put, nrm])
        refine wpAnyH_done (by kernel_rfl) ?_ _
        have hbM := ((unhide HM) _ _ (unhide H13).1 (unhide H13).2).1
        have c18 : W13.cell? ⟨M, 18, none⟩ = some fv := cell_of_blk hbM rfl
        have z18 : W13.frozen? ⟨M, 18, none⟩ = false := by simp [World.frozen?, hbM]
        clear hHeld HS HM HAP H13 hbM HK
        simp only [lastQ]
        go_simp
        obtain ⟨W20, hW20⟩ : ∃ W20, W13.setCell ⟨M, 18, none⟩ (.slice ao (i + 1) cap) = W20 := ⟨_, rfl⟩
        rw [hW20] at HK20
        clear c18 z18
        rw [hW20]
        have c19 : W20.cell? ⟨M, 19, none⟩ = some hv := cell_of_blk (unhide HK20).m rfl
        obtain ⟨bo, bcap, W21, hap2, ho2, hf21, ht2⟩ := app_sum W20 (M + 1) hv ((List.range i).map sN) (sN i) (unhide HK20).h (lt_of_block (unhide HK20).m) (by omega)
        rw [lH] at hap2 ho2 ht2
        have hbM2 := (hf21.block M (lt_of_block (unhide HK20).m) (fun e => by have := own_ge (unhide HK20).h e; omega)).trans (unhide HK20).m
        have c19b : W21.cell? ⟨M, 19, none⟩ = some hv := cell_of_blk hbM2 rfl
        have z19 : W21.frozen? ⟨M, 19, none⟩ = false := by simp [World.frozen?, hbM2]
        have HK21 := hide ((unhide HK20).sum ho2 hf21 ht2)
        have hap2' : (Builtin.append_ #[42, 42] 42 #[hv, .slice (some ⟨W20.heap.size, 0, none⟩) 1 1]).run Try.prog (W20.alloc (.cells #[.int .u32 (i : Nat), .int .u32 0, .int .u32 0, .bool false] 81)) = .ok (.slice bo (i + 1) bcap) W21 := hap2
        have HAP2 := hide hap2'
        obtain ⟨W22, hW22⟩ : ∃ W22, W21.setCell ⟨M, 19, none⟩ (.slice bo (i + 1) bcap) = W22 := ⟨_, rfl⟩
        rw [hW22] at HK21
        have cN : W22.cell? ⟨g, o + i, none⟩ = some (.string s) := ((unhide HK21).fr.cell (p := ⟨g, o + i, none⟩) hgw (fun h => h)).trans (unhide HCN)
        obtain ⟨eo, ecap, W23, hap3, ho3, hf23, ht3⟩ := app_txt W22 (M + 1) u9 (S.take i) s (unhide HK21).t (lt_of_block (unhide HK21).m) (by omega)
        rw [lS] at hap3 ho3 ht3
        have HK23 := hide ((unhide HK21).txt ho3 hf23 ht3)
        have HAP3 := hide hap3
        clear hap2 hap2' ho2 hf21 ht2 hbM2 hap3 ho3 hf23 ht3 HK20 HK21
        go_wp2_with (first | refine wpList_app rfl (.tmp 112) (.tmp 116) 42 42 rfl _ _ _ (by simp [Act.eval]) (by simp [Act.eval]) (unhide HAP2) ?_ | refine wpList_app rfl (.tmp 120) (.tmp 125) 76 76 rfl _ _ _ (by simp [Act.eval]) (by simp [Act.eval]) (unhide HAP3) ?_)
        go_roundw
        case rel => exact ⟨i + 1, _, _, by omega, by go_num, by rw [hF1, hH1, hT1]; exact unhide HK23⟩
        case measure => simp [intOf]; omega
      · obtain rfl : i = n := by omega
        clear hlt hi
        by_cases hN2 : i < N
        · obtain rfl : i = 50 := hnm hN2
          have l1 : (50 : Int) < (N : Int) := by omega
          go_wp2_with fail
          go_meet
          case rel => exact ⟨_, _, unhide HK⟩
        · have l1 : ¬ (i : Int) < (N : Int) := by omega
          go_wp2_with fail
          go_meet
          case rel => exact ⟨_, _, unhide HK⟩
  case rest =>
    clear HK
    obtain ⟨fv, hv, hK⟩ := hcut
    have HK := hide hK
    clear hK
    have lS : (S.take n).length = n := by have := unhide HNN; simp; omega
    have lF : ((S.take n).map fN).length = n := by rw [List.length_map, lS]
    have lH : ((List.range n).map sN).length = n := by simp
    have c1 := (unhide HK).hm
    have c2 := (unhide HK).hg
    have HRM := hide (range_of_block (unhide HK).m)
    have HT := hide ((unhide HK).s.answer (mK fv hv) 0 0 0 ⟨2, 1, 0, 1, 1, fv, hv⟩ (mK_x fv hv) 0 (⟨⟨2, 1, 1, 1, 0, 0, 7, 6, v, ⟨#[]⟩⟩, [(⟨⟨#[97]⟩, 1, ⟨#[120]⟩, 0, 0⟩ : F5), ⟨⟨#[98]⟩, 1, ⟨#[121]⟩, 0, 0⟩], 0, 0, none⟩ : SC) rfl rfl rfl rfl ((S.take n).map fN) ((List.range n).map sN) (own_rd (unhide HK).f (fcells_one _)) (own_rd (unhide HK).h (scells_one _)) (by omega) (by omega) (by simp))
    have hsz : (Try.prog.info? 49).map (·.size) = some (mK fv hv).length := Try.sizeMs
    go_wp2_with (refine wpList_load_midG rfl 49 (.tmp 8) rfl M 0 rfl _ _ (unhide HRM) Try.underlying49 rfl hsz ?_)
    refine (unhide HT).mono ?_
    rintro e w10 ⟨r10, rfl, rfl, ⟨va, ua, hs10⟩, hf10⟩
    have HC := hide ((unhide HK).taken (cs := [(⟨⟨2, 1, 1, 1, 0, 0, 7, 6, v, ⟨#[]⟩⟩, [(⟨⟨#[97]⟩, 1, ⟨#[120]⟩, 0, 0⟩ : F5), ⟨⟨#[98]⟩, 1, ⟨#[121]⟩, 0, 0⟩], 0, 0, some ⟨⟨2, 1, 0, 1, 1, va, ua⟩, (S.take n).map fN, (List.range n).map sN⟩⟩ : SC)]) (dn := [1]) lF lH hs10 hf10)
    generalize Tn T wc w10 = T2 at HC
    clear HT HRM hs10 hf10 HK c1 c2 hsz
    clear T
    obtain ⟨fo, fc, rfl⟩ : ∃ ao cap, fv = .slice ao n cap := by obtain ⟨xs, h⟩ := (unhide HC).f; exact own_formX h
    obtain ⟨ho, hc, rfl⟩ : ∃ ao cap, hv = .slice ao n cap := by obtain ⟨xs, h⟩ := (unhide HC).h; exact own_formX h
    go_upto_block 2 with fail
    go_cut [11] from 142 to 161 (fun _ wr => KD w wr d [(⟨⟨2, 1, 1, 1, 0, 0, 7, 6, v, ⟨#[]⟩⟩, [(⟨⟨#[97]⟩, 1, ⟨#[120]⟩, 0, 0⟩ : F5), ⟨⟨#[98]⟩, 1, ⟨#[121]⟩, 0, 0⟩], 0, 0, some ⟨⟨2, 1, 0, 1, 1, va, ua⟩, (S.take n).map fN, (List.range n).map sN⟩⟩ : SC)] [1] T2 (S.take n) u9)
    case first =>
      go_wp2_with fail
      go_loopw [11] (fun iv wr => ∃ (i : Nat), i ≤ n ∧ iv = .int .i64 (i : Nat) ∧ KC w wr d M [(⟨⟨2, 1, 1, 1, 0, 0, 7, 6, v, ⟨#[]⟩⟩, [(⟨⟨#[97]⟩, 1, ⟨#[120]⟩, 0, 0⟩ : F5), ⟨⟨#[98]⟩, 1, ⟨#[121]⟩, 0, 0⟩], 0, 0, some ⟨⟨2, 1, 0, 1, 1, va, ua⟩, (S.take n).map fN, (List.range n).map sN⟩⟩ : SC)] [1] T2 n (S.take n) (.slice fo n fc) (.slice ho n hc) u9) (fun iv _ => n - (intOf iv).toNat)
      case atStart => exact ⟨0, Nat.zero_le _, rfl, unhide HC⟩
      case round =>
        clear HC
        obtain ⟨i, hi, rfl, hC⟩ := hrel
        rename World => wr
        have c18 : wr.cell? ⟨M, 18, none⟩ = some (.slice fo n fc) := cell_of_blk hC.m rfl
        have HC := hide hC
        clear hC
        by_cases hlt : i < n
        · have l1 : (i : Int) < (n : Int) := by omega
          have l3 : (0 : Int) ≤ (i : Int) := by omega
          have hw1 := wrapS i (by omega)
          obtain ⟨xs, hx⟩ := (unhide HC).f
          obtain ⟨ys, hy⟩ := (unhide HC).h
          obtain ⟨g1, k1, e1, _, _⟩ := own_one_form hx (by omega)
          obtain ⟨g2, k2, e2, _, _⟩ := own_one_form hy (by omega)
          cases e1
          cases e2
          obtain ⟨x1, hx1⟩ : ∃ x1, wr.cell? ⟨g1, i * 5, none⟩ = some x1 := ⟨_, (hx.cellAt (i * 5) (by omega)).trans (List.getElem?_eq_getElem (by have := hx.1; omega))⟩
          have zx1 : wr.frozen? ⟨g1, i * 5, none⟩ = false := by
            obtain ⟨cur, hb⟩ := own_blk hx (g := g1) rfl
            simp [World.frozen?, hb]
          have HC2 := hide ((unhide HC).setF (i * 5) (.string ⟨#[63]⟩))
          obtain ⟨W2, hW2⟩ : ∃ W2, wr.setCell ⟨g1, i * 5, none⟩ (.string ⟨#[63]⟩) = W2 := ⟨_, rfl⟩
          rw [hW2] at HC2
          obtain ⟨ys2, hy2⟩ := (unhide HC2).h
          have c19 : W2.cell? ⟨M, 19, none⟩ = some (.slice (some ⟨g2, 0, none⟩) n hc) := cell_of_blk (unhide HC2).m rfl
          obtain ⟨x2, hx2⟩ : ∃ x2, W2.cell? ⟨g2, i * 4, none⟩ = some x2 := ⟨_, (hy2.cellAt (i * 4) (by omega)).trans (List.getElem?_eq_getElem (by have := hy2.1; omega))⟩
          have zx2 : W2.frozen? ⟨g2, i * 4, none⟩ = false := by
            obtain ⟨cur, hb⟩ := own_blk hy2 (g := g2) rfl
            simp [World.frozen?, hb]
          have HC3 := hide ((unhide HC2).setH (i * 4) (.int .u32 99))
          clear hx hy hy2 HC HC2
          go_wp2_with fail
          go_roundw
          case rel => exact ⟨i + 1, by omega, by go_num, unhide HC3⟩
          case measure => simp [intOf]; omega
        · obtain rfl : i = n := by omega
          have l1 : ¬ (i : Int) < (i : Int) := by omega
          go_wp2_with fail
          go_meet
          case rel => exact (unhide HC).kd
    case rest =>
      have HD := hide hcut
      clear hcut HC
      obtain ⟨wo, wk, e9⟩ := own_formX (unhide HD).t
      rw [lS] at e9
      subst e9
      have HT : Hid (Calls Try.prog 19 #[.pointer (some ⟨d, 0, none⟩), .agg #[.int .u32 2, .int .u32 1]] wc fun e w' => ∃ v u, e = .returned (.tuple #[.agg #[.int .u32 2, .int .u32 1, .int .u8 0, .int .u32 1, .int .u32 1, v, u], .bool true]) ∧ OwF w' wc.heap.size v ((S.take n).map fN) ∧ OwS w' wc.heap.size u ((List.range n).map sN) ∧ Fr (fun _ => False) wc w') := hide ((unhide HD).s.aYes 0 (⟨⟨2, 1, 1, 1, 0, 0, 7, 6, v, ⟨#[]⟩⟩, [(⟨⟨#[97]⟩, 1, ⟨#[120]⟩, 0, 0⟩ : F5), ⟨⟨#[98]⟩, 1, ⟨#[121]⟩, 0, 0⟩], 0, 0, some ⟨⟨2, 1, 0, 1, 1, va, ua⟩, (S.take n).map fN, (List.range n).map sN⟩⟩ : SC) _ rfl rfl)
      go_wp2_with fail
      refine (unhide HT).mono ?_
      rintro e w11 ⟨fa, ha, rfl, hFa, hHa, hf11⟩
      obtain ⟨fao, fac, ea⟩ := own_formX hFa
      rw [lF] at ea
      subst ea
      obtain ⟨hao, hac, ea⟩ := own_formX hHa
      rw [lH] at ea
      subst ea
      have HA := hide (And.intro hFa (And.intro hHa hf11))
      clear HT hFa hHa hf11
      go_wp2_with fail
      obtain ⟨W12, hW12⟩ : ∃ W12, w11.alloc (.cells #[.int .u32 2, .int .u32 1, .int .u8 0, .int .u32 1, .int .u32 1, .slice fao n fac, .slice hao n hac] 44) = W12 := ⟨_, rfl⟩
      obtain ⟨A, hA⟩ : ∃ A, w11.heap.size = A := ⟨_, rfl⟩
      have hf12 : Fr (fun _ => False) w11 W12 := by rw [← hW12]; exact box1 w11 _
      have hb12 : W12.heap[A]? = some (.cells #[.int .u32 2, .int .u32 1, .int .u8 0, .int .u32 1, .int .u32 1, .slice fao n fac, .slice hao n hac] 44) := by rw [← hW12, ← hA]; exact heap_alloc_new w11 _
      have hz12 : W12.heap.size = A + 1 := by rw [← hW12, ← hA]; simp
      have HD2 := hide ((unhide HD).fr0 ((unhide HA).2.2.trans0 hf12))
      rw [hW12]
      clear hW12
      have HT : Hid (Calls Try.prog 19 #[.pointer (some ⟨d, 0, none⟩), .agg #[.int .u32 2, .int .u32 1]] W12 fun e w' => ∃ v u, e = .returned (.tuple #[.agg #[.int .u32 2, .int .u32 1, .int .u8 0, .int .u32 1, .int .u32 1, v, u], .bool true]) ∧ OwF w' W12.heap.size v ((S.take n).map fN) ∧ OwS w' W12.heap.size u ((List.range n).map sN) ∧ Fr (fun _ => False) W12 w') := hide ((unhide HD2).s.aYes 0 (⟨⟨2, 1, 1, 1, 0, 0, 7, 6, v, ⟨#[]⟩⟩, [(⟨⟨#[97]⟩, 1, ⟨#[120]⟩, 0, 0⟩ : F5), ⟨⟨#[98]⟩, 1, ⟨#[121]⟩, 0, 0⟩], 0, 0, some ⟨⟨2, 1, 0, 1, 1, va, ua⟩, (S.take n).map fN, (List.range n).map sN⟩⟩ : SC) _ rfl rfl)
      refine (unhide HT).mono ?_
      rintro e w13 ⟨fb, hb, rfl, hFb, hHb, hf13⟩
      obtain ⟨fbo, fbc, ea⟩ := own_formX hFb
      rw [lF] at ea
      subst ea
      obtain ⟨hbo, hbc, ea⟩ := own_formX hHb
      rw [lH] at ea
      subst ea
      have HE12 := hide (And.intro hf12 (And.intro hb12 (And.intro hz12 hA)))
      have HB := hide (And.intro hFb (And.intro hHb hf13))
      clear HT hFb hHb hf13 hf12 hb12 hz12
      have hAl : A < w13.heap.size := by have h1 := (unhide HE12).2.2.1; have h2 := (unhide HB).2.2.size; omega
      obtain ⟨B, hB⟩ : ∃ B, w13.heap.size = B := ⟨_, rfl⟩
      obtain ⟨wr, hwr⟩ : ∃ W14, w13.alloc (.cells #[.int .u32 2, .int .u32 1, .int .u8 0, .int .u32 1, .int .u32 1, .slice fbo n fbc, .slice hbo n hbc] 44) = W14 := ⟨_, rfl⟩
      have HE : Hid (KE w wr d [(⟨⟨2, 1, 1, 1, 0, 0, 7, 6, v, ⟨#[]⟩⟩, [(⟨⟨#[97]⟩, 1, ⟨#[120]⟩, 0, 0⟩ : F5), ⟨⟨#[98]⟩, 1, ⟨#[121]⟩, 0, 0⟩], 0, 0, some ⟨⟨2, 1, 0, 1, 1, va, ua⟩, (S.take n).map fN, (List.range n).map sN⟩⟩ : SC)] [1] T2 (S.take n) (.slice wo n wk) B ((S.take n).map fN) ((List.range n).map sN) (.slice fbo n fbc) (.slice hbo n hbc) A (.slice fao n fac) (.slice hao n hac) (fun m xs => m = n ∧ ∀ j, 5 * 0 ≤ j → xs[j]? = (fcells ((S.take n).map fN))[j]?) (fun m xs => m = n ∧ ∀ j, 4 * 0 ≤ j → xs[j]? = (scells ((List.range n).map sN))[j]?)) := hide (by
        obtain ⟨hFa, hHa, hf11⟩ := unhide HA
        obtain ⟨hf12, hb12, hz12, hA⟩ := unhide HE12
        obtain ⟨hFb, hHb, hf13⟩ := unhide HB
        have hf14 : Fr (fun _ => False) w13 wr := by rw [← hwr]; exact box1 w13 _
        have hb14 : wr.heap[B]? = some (.cells #[.int .u32 2, .int .u32 1, .int .u8 0, .int .u32 1, .int .u32 1, .slice fbo n fbc, .slice hbo n hbc] 44) := by rw [← hwr, ← hB]; exact heap_alloc_new w13 _
        have z1 := (unhide HD).fr.size
        have z2 := hf11.size
        have z3 := hf13.size
        have fa14 := (hf12.trans0 hf13).trans0 hf14
        have hrow : ∀ {b e z m : Nat} {x : Value} {xs : List Value}, w11.ownsRow b e z x m xs → wr.ownsRow 0 e z x m xs := fun hr => ownsRow_base (ownsRow_of_block hr (fun g hg => fa14.block g (hr.lt g hg).2 (fun h => h))) (Nat.zero_le _)
        have hrowb : ∀ {e z m : Nat} {x : Value} {xs : List Value}, w13.ownsRow W12.heap.size e z x m xs → wr.ownsRow w.heap.size e z x m xs := fun hr => ownsRow_base (ownsRow_of_block hr (fun g hg => hf14.block g (hr.lt g hg).2 (fun h => h))) (by omega)
        have lo : ∀ g, wc.heap.size ≤ g → g ≤ A → KO w T2 (.slice wo n wk) B (.slice fbo n fbc) (.slice hbo n hbc) g := fun g h1 h2 =>
          ⟨by omega, fun e => by have := (unhide HD).s.lt g e; omega, fun e => by have := ((unhide HD).t.lt g e).2; omega, by omega, fun e => by have := (hFb.lt g e).1; omega, fun e => by have := (hHb.lt g e).1; omega⟩
        refine ⟨⟨((unhide HD2).fr0 hf13).fr0 hf14, hb14, hrowb hFb, hrowb hHb, by omega⟩, ((hf13.trans0 hf14).block A (lt_of_block hb12) (fun h => h)).trans hb12, ⟨_, _, hrow hFa, lF, fun _ _ => rfl⟩, ⟨_, _, hrow hHa, lH, fun _ _ => rfl⟩, lo A (by omega) (Nat.le_refl _), fun g hg => ?_, fun g hg => ?_⟩
        · have h1 := hFa.lt g hg
          refine ⟨lo g h1.1 (by omega), fun e => ?_, by omega⟩
          obtain ⟨c1, h1⟩ := own_blk hFa hg
          obtain ⟨c2, h2⟩ := own_blk hHa e
          rw [h1] at h2
          simp only [Option.some.injEq, Obj.cells.injEq] at h2
          exact absurd h2.2.1 (by decide)
        · have h1 := hHa.lt g hg
          exact ⟨lo g h1.1 (by omega), by omega⟩)
      have cA5 : wr.cell? ⟨A, 5, none⟩ = some (.slice fao n fac) := cell_of_blk (unhide HE).a rfl
      have cB5 : wr.cell? ⟨B, 5, none⟩ = some (.slice fbo n fbc) := cell_of_blk (unhide HE).k.b rfl
      have cB6 : wr.cell? ⟨B, 6, none⟩ = some (.slice hbo n hbc) := cell_of_blk (unhide HE).k.b rfl
      clear HA HE12 HB HD HD2
      go_upto_block 4 with fail
      clear cA5 cB5 cB6 hwr hAl hA hB
      go_cut [16] from 204 to 242 (fun _ wr => KE w wr d [(⟨⟨2, 1, 1, 1, 0, 0, 7, 6, v, ⟨#[]⟩⟩, [(⟨⟨#[97]⟩, 1, ⟨#[120]⟩, 0, 0⟩ : F5), ⟨⟨#[98]⟩, 1, ⟨#[121]⟩, 0, 0⟩], 0, 0, some ⟨⟨2, 1, 0, 1, 1, va, ua⟩, (S.take n).map fN, (List.range n).map sN⟩⟩ : SC)] [1] T2 (S.take n) (.slice wo n wk) B ((S.take n).map fN) ((List.range n).map sN) (.slice fbo n fbc) (.slice hbo n hbc) A (.slice fao n fac) (.slice hao n hac) (fun (m : Nat) (_ : List Value) => m = n) (fun (m : Nat) (_ : List Value) => m = n))
      case first =>
        go_wp2_with fail
        go_loopw [16] (fun iv wr => ∃ (i : Nat), i ≤ n ∧ iv = .int .i64 (i : Nat) ∧ KE w wr d [(⟨⟨2, 1, 1, 1, 0, 0, 7, 6, v, ⟨#[]⟩⟩, [(⟨⟨#[97]⟩, 1, ⟨#[120]⟩, 0, 0⟩ : F5), ⟨⟨#[98]⟩, 1, ⟨#[121]⟩, 0, 0⟩], 0, 0, some ⟨⟨2, 1, 0, 1, 1, va, ua⟩, (S.take n).map fN, (List.range n).map sN⟩⟩ : SC)] [1] T2 (S.take n) (.slice wo n wk) B ((S.take n).map fN) ((List.range n).map sN) (.slice fbo n fbc) (.slice hbo n hbc) A (.slice fao n fac) (.slice hao n hac) (fun m xs => m = n ∧ ∀ j, 5 * i ≤ j → xs[j]? = (fcells ((S.take n).map fN))[j]?) (fun m xs => m = n ∧ ∀ j, 4 * i ≤ j → xs[j]? = (scells ((List.range n).map sN))[j]?)) (fun iv _ => n - (intOf iv).toNat)
        case atStart => exact ⟨0, Nat.zero_le _, rfl, unhide HE⟩
        case round =>
          clear HE
          obtain ⟨i, hi, rfl, hE⟩ := hrel
          rename World => wr
          have c5 : wr.cell? ⟨A, 5, none⟩ = some (.slice fao n fac) := cell_of_blk hE.a rfl
          have HE := hide hE
          clear hE
          by_cases hlt : i < n
          · have l1 : (i : Int) < (n : Int) := by omega
            have l3 : (0 : Int) ≤ (i : Int) := by omega
            have hw1 := wrapS i (by omega)
            have hw0 := wrapU0 i (by omega)
            obtain ⟨m1, xs, hx, e1, px⟩ := (unhide HE).f
            obtain ⟨m2, ys, hy, e2, py⟩ := (unhide HE).h
            have ht := (unhide HE).k.k.t
            unfold OwT at ht
            rw [lS] at ht
            rw [e1] at hx
            rw [e2] at hy
            obtain ⟨g1, k1, e1, _, hg1⟩ := own_one_form hx (by omega)
            obtain ⟨g2, k2, e2, _, hg2⟩ := own_one_form hy (by omega)
            obtain ⟨g3, k3, e3, _, hg3⟩ := own_one_form ht (by omega)
            cases e1
            cases e2
            cases e3
            obtain ⟨s, hs⟩ : ∃ s, (S.take n)[i]? = some s := ⟨_, List.getElem?_eq_getElem (by omega)⟩
            have c6 : wr.cell? ⟨A, 6, none⟩ = some (.slice (some ⟨g2, 0, none⟩) n hac) := cell_of_blk (unhide HE).a rfl
            have x1 : wr.cell? ⟨g1, i * 5, none⟩ = some (.string s) := hg1 _ _ ((px (i * 5) (by omega)).trans (fN_at hs))
            have x2 : wr.cell? ⟨g2, i * 4, none⟩ = some (.int .u32 (i : Nat)) := hg2 _ _ ((py (i * 4) (by omega)).trans (sN_at hlt))
            have x3 : wr.cell? ⟨g3, i, none⟩ = some (.string s) := hg3 _ _ (by rw [List.getElem?_map, hs]; rfl)
            clear hx hy ht hg1 hg2 hg3 px py hs
            go_wp2_with fail
            go_quiet (fail)
            obtain ⟨W1, hW1⟩ : ∃ W1, wr.drewN nq = W1 := ⟨_, rfl⟩
            have HE1 := hide ((unhide HE).fr0 (W' := W1) (by rw [← hW1]; exact (Fr.refl _ _).drewN _))
            rw [hW1]
            clear hW1 c5 c6 x1 x2 x3 HE
            have c5 : W1.cell? ⟨A, 5, none⟩ = some (.slice (some ⟨g1, 0, none⟩) n fac) := cell_of_blk (unhide HE1).a rfl
            obtain ⟨⟨x1, hx1⟩, zx1⟩ : (∃ x, W1.cell? ⟨g1, i * 5, none⟩ = some x) ∧ W1.frozen? ⟨g1, i * 5, none⟩ = false := by
              obtain ⟨m1, xs, hx, e1, px⟩ := (unhide HE1).f
              rw [e1] at hx
              exact own_cell hx (by omega)
            have HE2 := hide ((unhide HE1).setF (P' := (fun m xs => m = n ∧ ∀ j, 5 * (i + 1) ≤ j → xs[j]? = (fcells ((S.take n).map fN))[j]?)) (i * 5) (.string ⟨#[33]⟩) (fun m xs h => ⟨h.1, fun j hj => by rw [List.getElem?_set_ne (by omega)]; exact h.2 j (by omega)⟩))
            obtain ⟨W2, hW2⟩ : ∃ W2, W1.setCell ⟨g1, i * 5, none⟩ (.string ⟨#[33]⟩) = W2 := ⟨_, rfl⟩
            rw [hW2] at HE2
            have c6 : W2.cell? ⟨A, 6, none⟩ = some (.slice (some ⟨g2, 0, none⟩) n hac) := cell_of_blk (unhide HE2).a rfl
            obtain ⟨⟨x2, hx2⟩, zx2⟩ : (∃ x, W2.cell? ⟨g2, i * 4, none⟩ = some x) ∧ W2.frozen? ⟨g2, i * 4, none⟩ = false := by
              obtain ⟨m1, xs, hx, e1, px⟩ := (unhide HE2).h
              rw [e1] at hx
              exact own_cell hx (by omega)
            have HE3 := hide ((unhide HE2).setH (Q' := (fun m xs => m = n ∧ ∀ j, 4 * (i + 1) ≤ j → xs[j]? = (scells ((List.range n).map sN))[j]?)) (i * 4) (.int .u32 98) (fun m xs h => ⟨h.1, fun j hj => by rw [List.getElem?_set_ne (by omega)]; exact h.2 j (by omega)⟩))
            clear HE1 HE2
            go_wp2_with fail
            go_roundw
            case rel => exact ⟨i + 1, by omega, by go_num, unhide HE3⟩
            case measure => simp [intOf]; omega
          · obtain rfl : i = n := by omega
            have l1 : ¬ (i : Int) < (i : Int) := by omega
            go_wp2_with fail
            go_meet
            case rel => exact (unhide HE).weak (fun _ _ h => h.1) (fun _ _ h => h.1)
      case rest =>
        clear HE
        have HE := hide hcut
        clear hcut
        go_upto_block 6 with fail
        go_cut [17] from 243 to 258 (fun _ wr => KS w wr d [(⟨⟨2, 1, 1, 1, 0, 0, 7, 6, v, ⟨#[]⟩⟩, [(⟨⟨#[97]⟩, 1, ⟨#[120]⟩, 0, 0⟩ : F5), ⟨⟨#[98]⟩, 1, ⟨#[121]⟩, 0, 0⟩], 0, 0, some ⟨⟨2, 1, 0, 1, 1, va, ua⟩, (S.take n).map fN, (List.range n).map sN⟩⟩ : SC)] [1] T2 (S.take n) (.slice wo n wk) B ((S.take n).map fN) ((List.range n).map sN) (.slice fbo n fbc) (.slice hbo n hbc))
        case first =>
          go_wp2_with fail
          go_loopw [17] (fun iv wr => ∃ (t : Nat) (fa ha : Value), t ≤ 4 ∧ iv = .int .i64 (t : Nat) ∧ KE w wr d [(⟨⟨2, 1, 1, 1, 0, 0, 7, 6, v, ⟨#[]⟩⟩, [(⟨⟨#[97]⟩, 1, ⟨#[120]⟩, 0, 0⟩ : F5), ⟨⟨#[98]⟩, 1, ⟨#[121]⟩, 0, 0⟩], 0, 0, some ⟨⟨2, 1, 0, 1, 1, va, ua⟩, (S.take n).map fN, (List.range n).map sN⟩⟩ : SC)] [1] T2 (S.take n) (.slice wo n wk) B ((S.take n).map fN) ((List.range n).map sN) (.slice fbo n fbc) (.slice hbo n hbc) A fa ha (fun (m : Nat) (_ : List Value) => m ≤ 50 + t) (fun (m : Nat) (_ : List Value) => m ≤ 50 + t)) (fun iv _ => 4 - (intOf iv).toNat)
          case atStart => exact ⟨0, _, _, Nat.zero_le _, rfl, (unhide HE).weak (fun m _ h => by omega) (fun m _ h => by omega)⟩
          case round =>
            clear HE
            obtain ⟨t, fa, ha, hi, rfl, hE⟩ := hrel
            rename World => wr
            have c5 : wr.cell? ⟨A, 5, none⟩ = some fa := cell_of_blk hE.a rfl
            have HE := hide hE
            clear hE
            by_cases hlt : t < 4
            · have l1 : (t : Int) < 4 := by omega
              have hw1 := wrapS t (by omega)
              obtain ⟨m1, xs, hx, p1⟩ := (unhide HE).f
              obtain ⟨ao, cap, W2, hap, ⟨zs, ho⟩, hf2, ht2⟩ := app_fldR wr 0 fa m1 xs ⟨⟨#[33]⟩, 0, ⟨#[]⟩, 0, 0⟩ hx (Nat.zero_le _) (by omega)
              have hap' : (Builtin.append_ #[32, 32] 32 #[fa, .slice (some ⟨wr.heap.size, 0, none⟩) 1 1]).run Try.prog (wr.alloc (.cells #[.string ⟨#[33]⟩, .int .u8 0, .string ⟨#[]⟩, .float .f32 0, .int .u8 0] 79)) = .ok (.slice ao (m1 + 1) cap) W2 := hap
              have HAP := hide hap'
              have hb2 := (hf2.block A (lt_of_block (unhide HE).a) (fun e => ((unhide HE).of A e).2.2 rfl)).trans (unhide HE).a
              have c5b : W2.cell? ⟨A, 5, none⟩ = some fa := cell_of_blk hb2 rfl
              have z5 : W2.frozen? ⟨A, 5, none⟩ = false := by simp [World.frozen?, hb2]
              have HE2 := hide ((unhide HE).appF (P' := (fun (m : Nat) (_ : List Value) => m ≤ 50 + (t + 1))) ho hf2 ht2 (by omega))
              obtain ⟨W3, hW3⟩ : ∃ W3, W2.setCell ⟨A, 5, none⟩ (.slice ao (m1 + 1) cap) = W3 := ⟨_, rfl⟩
              rw [hW3] at HE2
              have c6 : W3.cell? ⟨A, 6, none⟩ = some ha := cell_of_blk (unhide HE2).a rfl
              obtain ⟨m2, ys, hy, p2⟩ := (unhide HE2).h
              obtain ⟨bo, bcap, W4, hap2, ⟨us, ho2⟩, hf4, ht4⟩ := app_sumR W3 0 ha m2 ys ⟨98, 0, 0, false⟩ hy (Nat.zero_le _) (by omega)
              have hap2' : (Builtin.append_ #[42, 42] 42 #[ha, .slice (some ⟨W3.heap.size, 0, none⟩) 1 1]).run Try.prog (W3.alloc (.cells #[.int .u32 98, .int .u32 0, .int .u32 0, .bool false] 81)) = .ok (.slice bo (m2 + 1) bcap) W4 := hap2
              have HAP2 := hide hap2'
              have hb4 := (hf4.block A (lt_of_block (unhide HE2).a) (fun e => ((unhide HE2).oh A e).2 rfl)).trans (unhide HE2).a
              have c6b : W4.cell? ⟨A, 6, none⟩ = some ha := cell_of_blk hb4 rfl
              have z6 : W4.frozen? ⟨A, 6, none⟩ = false := by simp [World.frozen?, hb4]
              have HE4 := hide ((unhide HE2).appH (Q' := (fun (m : Nat) (_ : List Value) => m ≤ 50 + (t + 1))) ho2 hf4 ht4 (by omega))
              clear hap hap' hap2 hap2' ho ho2 hf2 hf4 ht2 ht4 hb2 hb4 hx hy HE HE2 p1 p2
              go_wp2_with (first | refine wpList_app rfl (.tmp 248) (.tmp 250) 32 32 rfl _ _ _ (by simp [Act.eval]) (by simp [Act.eval]) (unhide HAP) ?_ | refine wpList_app rfl (.tmp 254) (.tmp 256) 42 42 rfl _ _ _ (by simp [Act.eval]) (by simp [Act.eval]) (unhide HAP2) ?_)
              go_roundw
              case rel => exact ⟨t + 1, _, _, by omega, by go_num, unhide HE4⟩
              case measure => simp [intOf]; omega
            · obtain rfl : t = 4 := by omega
              go_wp2_with fail
              go_meet
              case rel => exact (unhide HE).k
        case rest =>
          clear HE
          have HS := hide hcut
          clear hcut
          go_wp2_with fail
          refine (unhide HS).k.s.done.mono ?_
          rintro e w15 ⟨v15, rfl, ho15, hf15⟩
          have ho15' : w15.ownsRow wc.heap.size 29 2 v15 1 (icells [(2, 1)]) := ho15
          obtain ⟨gd, cd, rfl, hgd, hcd⟩ := own_one_form ho15' (by omega)
          have c0 : w15.cell? ⟨gd, 1, none⟩ = some (.int .u32 1) := hcd 1 _ rfl
          have z0 := (own_cell ho15' (j := 1) (by omega)).2
          obtain ⟨wr, hwr⟩ : ∃ wr, w15.setCell ⟨gd, 1, none⟩ (.int .u32 7) = wr := ⟨_, rfl⟩
          have HS2 : Hid (KS w wr d [(⟨⟨2, 1, 1, 1, 0, 0, 7, 6, v, ⟨#[]⟩⟩, [(⟨⟨#[97]⟩, 1, ⟨#[120]⟩, 0, 0⟩ : F5), ⟨⟨#[98]⟩, 1, ⟨#[121]⟩, 0, 0⟩], 0, 0, some ⟨⟨2, 1, 0, 1, 1, va, ua⟩, (S.take n).map fN, (List.range n).map sN⟩⟩ : SC)] [1] T2 (S.take n) (.slice wo n wk) B ((S.take n).map fN) ((List.range n).map sN) (.slice fbo n fbc) (.slice hbo n hbc)) := hide (by
            have hf : Fr (fun g => g = gd) w15 wr := by rw [← hwr]; exact (Fr.refl (fun g => g = gd) _).setCell (p := ⟨gd, 1, none⟩) (.inl rfl) _
            exact ((unhide HS).fr0 hf15).fr hf (fun g e => by rw [e]; exact (unhide HS).new hgd))
          clear ho15 ho15' hf15 hcd hgd HS
          go_upto_block 8 with fail
          clear hwr c0 z0
          go_cut [19] from 264 to 292 (fun _ wr => KS w wr d [(⟨⟨2, 1, 1, 1, 0, 0, 7, 6, v, ⟨#[]⟩⟩, [(⟨⟨#[97]⟩, 1, ⟨#[120]⟩, 0, 0⟩ : F5), ⟨⟨#[98]⟩, 1, ⟨#[121]⟩, 0, 0⟩], 0, 0, some ⟨⟨2, 1, 0, 1, 1, va, ua⟩, (S.take n).map fN, (List.range n).map sN⟩⟩ : SC)] [1] T2 (S.take n) (.slice wo n wk) B ((S.take n).map fN) ((List.range n).map sN) (.slice fbo n fbc) (.slice hbo n hbc))
          case first =>
            go_wp2_with fail
            go_loopw [19] (fun iv wr => ∃ (i : Nat), i ≤ n ∧ iv = .int .i64 (i : Nat) ∧ KS w wr d [(⟨⟨2, 1, 1, 1, 0, 0, 7, 6, v, ⟨#[]⟩⟩, [(⟨⟨#[97]⟩, 1, ⟨#[120]⟩, 0, 0⟩ : F5), ⟨⟨#[98]⟩, 1, ⟨#[121]⟩, 0, 0⟩], 0, 0, some ⟨⟨2, 1, 0, 1, 1, va, ua⟩, (S.take n).map fN, (List.range n).map sN⟩⟩ : SC)] [1] T2 (S.take n) (.slice wo n wk) B ((S.take n).map fN) ((List.range n).map sN) (.slice fbo n fbc) (.slice hbo n hbc)) (fun iv _ => n - (intOf iv).toNat)
            case atStart => exact ⟨0, Nat.zero_le _, rfl, unhide HS2⟩
            case round =>
              clear HS2
              obtain ⟨i, hi, rfl, hE⟩ := hrel
              rename World => wr
              have c5 : wr.cell? ⟨B, 5, none⟩ = some (.slice fbo n fbc) := cell_of_blk hE.b rfl
              have HE := hide hE
              clear hE
              by_cases hlt : i < n
              · have l1 : (i : Int) < (n : Int) := by omega
                have l3 : (0 : Int) ≤ (i : Int) := by omega
                have hw1 := wrapS i (by omega)
                have hw0 := wrapU0 i (by omega)
                have hx := (unhide HE).f
                have hy := (unhide HE).h
                have ht := (unhide HE).k.t
                unfold OwF at hx
                unfold OwS at hy
                unfold OwT at ht
                rw [lS] at ht
                rw [lF] at hx
                rw [lH] at hy
                obtain ⟨g1, k1, e1, _, hg1⟩ := own_one_form hx (by omega)
                obtain ⟨g2, k2, e2, _, hg2⟩ := own_one_form hy (by omega)
                obtain ⟨g3, k3, e3, _, hg3⟩ := own_one_form ht (by omega)
                cases e1
                cases e2
                cases e3
                obtain ⟨s, hs⟩ : ∃ s, (S.take n)[i]? = some s := ⟨_, List.getElem?_eq_getElem (by omega)⟩
                have c6 : wr.cell? ⟨B, 6, none⟩ = some (.slice (some ⟨g2, 0, none⟩) n hbc) := cell_of_blk (unhide HE).b rfl
                have x1 : wr.cell? ⟨g1, i * 5, none⟩ = some (.string s) := hg1 _ _ (fN_at hs)
                have x2 : wr.cell? ⟨g2, i * 4, none⟩ = some (.int .u32 (i : Nat)) := hg2 _ _ (sN_at hlt)
                have x3 : wr.cell? ⟨g3, i, none⟩ = some (.string s) := hg3 _ _ (by rw [List.getElem?_map, hs]; rfl)
                clear hx hy ht hg1 hg2 hg3 hs
                go_wp2_with fail
                go_quiet (fail)
                obtain ⟨W1, hW1⟩ : ∃ W1, wr.drewN nq = W1 := ⟨_, rfl⟩
                have HE1 := hide ((unhide HE).fr0 (W' := W1) (by rw [← hW1]; exact (Fr.refl _ _).drewN _))
                rw [hW1]
                clear hW1 c5 c6 x1 x2 x3 HE
                go_wp2_with fail
                go_roundw
                case rel => exact ⟨i + 1, by omega, by go_num, unhide HE1⟩
                case measure => simp [intOf]; omega
              · obtain rfl : i = n := by omega
                have l1 : ¬ (i : Int) < (i : Int) := by omega
                go_wp2_with fail
                go_meet
                case rel => exact unhide HE
          case rest =>
            clear HS2
            have HS := hide hcut
            clear hcut
            go_wp2_with fail
            refine (unhide HS).k.s.done.mono ?_
            rintro e w16 ⟨v16, rfl, ho16, hf16⟩
            have ho16' : w16.ownsRow wc.heap.size 29 2 v16 1 (icells [(2, 1)]) := ho16
            obtain ⟨gd2, cd2, rfl, hgd, hcd⟩ := own_one_form ho16' (by omega)
            have HI : Hid (Calls Try.prog 12 #[.slice (some ⟨gd2, 0, none⟩) 1 cd2, .int .u32 2, .slice (some ⟨w16.heap.size, 0, none⟩) 1 1] (w16.alloc (.cells #[.int .i64 1] 3)) fun e w' => e = .returned (.bool true) ∧ Fr (fun _ => False) (w16.alloc (.cells #[.int .i64 1] 3)) w') := hide (by
              have r1 : Rd (w16.alloc (.cells #[.int .i64 1] 3)) (.slice (some ⟨gd2, 0, none⟩) 1 cd2) 1 2 (icells ([1].map fun k => (2, k))) := (own_rd ho16' (List.all_eq_true.1 (show List.all (icells ([1].map fun k => (2, k))) (fun v => v.oneCell') = true from rfl))).fr0 (box1 w16 _)
              have r2 : Rd (w16.alloc (.cells #[.int .i64 1] 3)) (.slice (some ⟨w16.heap.size, 0, none⟩) 1 1) 1 1 ([1].map fun k : Nat => .int .i64 (k : Nat)) := rd_new (W := w16) (n := 1) (z := 1) (t := 3) (xs := [1].map fun k : Nat => .int .i64 (k : Nat)) (heap_alloc_new w16 _) rfl (List.all_eq_true.1 (show List.all ([1].map fun k : Nat => Value.int .i64 (k : Nat)) (fun v => v.oneCell') = true from rfl))
              exact ids_true _ _ 2 [1] _ r1 r2 (by simp) (fun k hk => by simp at hk; omega))
            have HF := hide (((unhide HS).k.fr.trans0 hf16).trans0 (box1 w16 (.cells #[.int .i64 1] 3)))
            clear ho16 ho16' hf16 hcd hgd HS
            go_wp2_with fail
            refine (unhide HI).mono ?_
            rintro e w17 ⟨rfl, hf17⟩
            have HF2 := hide ((unhide HF).trans0 hf17)
            clear hf17 HI HF
            go_wp2_with fail
            go_ret
            exact ⟨rfl, unhide HF2⟩
end Go.Proofs.Ytfaponkpgcdgkaa

namespace Go.Proofs.Ytfaponkpgcdgkaa
open Go.ChangeShapes Go.WideShapes Go.ChangeAt Go.RowKit
set_option maxRecDepth 100000

theorem Try.ownKnob : ownKnob Try.prog.godebug = none := by kernel_rfl
theorem Fr.below {w w' : World} (h : Fr (fun _ => False) w w') : Below w.heap.size w w' := ⟨h.os, h.tape, h.output, h.size, fun k hk => h.block k hk (fun x => x)⟩
end Go.Proofs.Ytfaponkpgcdgkaa

namespace Go.Proofs.Ytfaponkpgcdgkaa
open Go.ChangeShapes Go.WideShapes Go.ChangeAt Go.RowKit Go.Deep
set_option maxRecDepth 100000

theorem Try.zclTx : Try.prog.cellsOf 9 = 1 := by kernel_rfl
/-- Names that came in. -/
theorem nm_of_reading {H : Type} {enc : TypeId × Value → H} {W : World} {base : Nat} {v : Value} {d : DataW H} {p : List MemPlace} (hval : Value.okWide Try.prog W .any base 76 v) (h : DataW.Trod enc Try.prog W 0 (fun _ => true) true 76 v d p) :
    ∃ l : List ByteArray, NmR W v l := by
  obtain ⟨a0, len, cap, rfl⟩ := okWide_slice Try.underlying76 hval
  obtain ⟨fuel, hf⟩ := h
  rcases open_slice1 Try.underlying76 Try.zclTx hf with ⟨hcs, hx⟩ | ⟨a, len', cap', m, n, V, D, Pl, hcs, _, hl, hm, hmm, hx, hel⟩
  · simp [Value.cells] at hcs
    obtain ⟨rfl, rfl, rfl⟩ := hcs
    exact ⟨[], ⟨none, 0, rfl, fun j s hj => by simp at hj⟩⟩
  · simp [Value.cells] at hcs
    obtain ⟨rfl, rfl, rfl⟩ := hcs
    simp only [if_true] at hmm
    subst hmm
    have hp : ∀ i, ∃ s : ByteArray, i < len → W.cell? (a.add i) = some (.string s) := fun i => by
      by_cases hi : i < len
      · obtain ⟨h1, h2⟩ := hel i (by omega)
        obtain ⟨b, e, _, _⟩ := DataW.trod_string Try.underlying9 h2
        simp only [List.cons.injEq, and_true] at e
        exact ⟨b, fun _ => by rw [h1, e]⟩
      · exact ⟨ByteArray.empty, fun h => absurd h hi⟩
    obtain ⟨Q, hQ⟩ : ∃ Q : Nat → ByteArray, ∀ i, i < len → W.cell? (a.add i) = some (.string (Q i)) := ⟨fun i => Classical.choose (hp i), fun i => Classical.choose_spec (hp i)⟩
    have hll : ((List.range len).map Q).length = len := by simp
    refine ⟨(List.range len).map Q, ⟨some a, _, by rw [hll], fun j s hj => ?_⟩⟩
    have hjl : j < len := by have := (List.getElem?_eq_some_iff.1 hj).1; rwa [hll] at this
    obtain rfl : Q j = s := by simpa [hjl] using hj
    have hx0 := hQ 0 (by omega)
    obtain ⟨g, o, sp⟩ := a
    have hsp : sp = none := by simpa [Addr.add] using World.cell?_spot hx0
    subst hsp
    refine ⟨g, o, rfl, ?_⟩
    have := hQ j hjl
    rw [Addr.add_mid] at this
    exact this
theorem skept_lifted (os : Os) (started : os.Started) (H : Type) (enc : TypeId × Value → H) :
    ReturnsInHanded {} Try.checked os 7 .any (Rows.sessionKeptSpec.pre6 enc Try.prog Try.f7 Rows.sessionKeptRow.domain false) (Rows.sessionKeptSpec.post enc Try.prog Try.f7 false true false false) := by
  refine returnsInHanded_of_change_sized (C := Try.checked) Try.ownKnob started (by kernel_rfl) Try.func7
    (ChangeSpec.witness6 (enc := enc) (C := Try.checked) false ⟨#[], #[.slice none 0 0], []⟩ 8 (by kernel_rfl) (by kernel_rfl) (by kernel_rfl) (by kernel_rfl)) ?_
  intro W base args ds gs before hval0 hW _ _ _
  have hval : ∀ (j : Nat) t v, Try.f7.params[j]? = some t → args[j]? = some v → Value.okWide Try.prog W .any base t v := hval0
  have hW' := hW
  obtain ⟨p, q, hA0, hV, rfl, hfz, hnd⟩ := hW
  have hA : DataW.TrodAll enc Try.prog W 0 (fun _ => true) true Try.f7.params.toList args.toList ds p := hA0
  rw [Try.params7] at hA hval
  obtain ⟨v0, vs0, d0, ds0, p0, q0, hargs, rfl, rfl, h0, r0⟩ := trodAll_cons hA
  obtain ⟨rfl, rfl, rfl⟩ := trodAll_nil r0
  obtain rfl : args = #[v0] := by cases args; simp_all
  obtain ⟨rfl, rfl⟩ := trodVars_none hV
  obtain ⟨l, hs⟩ := nm_of_reading (hval 0 76 v0 rfl rfl) h0
  clear hA0 hval0
  refine (skept_any W v0 l hs).mono fun e W' ⟨he, hf⟩ => ?_
  subst he
  have hlt : ∀ x ∈ p0 ++ [], x.block < W.heap.size := fun x hx => hW'.lt x (by simpa using hx)
  have hb := hf.below
  refine ⟨_, rfl, _, _, _, [], p0 ++ [], [], hW', ?_, ?_, ?_, hb.frame _, fun h => by cases h⟩
  · exact trodAll_cons_mk (shut_bool Try.underlying4 true) trodAll_mk0
  · exact trodAll_cons_mk (Below.trod (by kernel_rfl) (by kernel_rfl) (by decide +kernel) h0 hb (fun x hx => hlt x (by simp [hx]))) trodAll_mk0
  · rfl
theorem skept_said : Rows.SessionKeptSaid :=
  OpenClaim.holds_of_wide 7 Try.f7 rfl rfl rfl rfl rfl rfl rfl ⟨rfl, rfl, rfl, rfl, rfl⟩ rfl rfl rfl rfl rfl (by kernel_rfl) Try.func7 (by kernel_rfl)
    (of_decide_eq_true (by kernel_rfl)) (by unfold Func.isWrapper; first | (rw [if_pos (by decide +kernel)]; kernel_rfl) | (rw [if_neg (by decide +kernel)]; exact ⟨rfl, rfl⟩))
    (fun os started H enc _ => skept_lifted os started H enc)
#print axioms skept_said
end Go.Proofs.Ytfaponkpgcdgkaa

