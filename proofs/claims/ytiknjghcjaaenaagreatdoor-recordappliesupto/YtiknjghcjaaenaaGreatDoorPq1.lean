import Derived.Test.YtiknjghcjaaenaaGreatDoorKOcb
import Derived.Test.YtiknjghcjaaenaaGreatDoorKPob
import Derived.Test.YtiknjghcjaaenaaGreatDoorKOas
import Derived.Lib.AppendZerosOnto
import Derived.Lib.Overlaps
import Derived.Laws.IdiomCopy
import Derived.Deep.RegionLaw
import Derived.Test.YtiknjghcjaaenaaGreatDoorKOcc
import Derived.Test.YtiknjghcjaaenaaGreatDoorKObe
import Derived.Test.YtiknjghcjaaenaaGreatDoorKObg
import Derived.Test.YtiknjghcjaaenaaGreatDoorKObn
import Derived.Test.YtiknjghcjaaenaaGreatDoorKOac
import Derived.BigQuiet
import Derived.Laws.StructEq
namespace Go.Proofs.YtiknjghcjaaenaaGreatDoor
open Go.RowKit Go.Shelf
set_option maxHeartbeats 4000000 in
set_option maxRecDepth 100000 in
theorem seal_any (b : Nat) (s : RM) (q : RW) (M : Nat → Prop) (r : RQ) (xo : Option Addr) (xn xc : Nat) (place i : Nat) (c : CM) (w : World) (h : RsAt w b s q M) (hfv : r.fv = .slice xo xn xc) (hS : s.S.length ≤ 140737488355328) (hl : s.C.length ≤ 256) (hc : s.C[i]? = some c) (hrc : r.rc = i + 1) (hG : c.G.length ≤ 140737488355328) :
  Calls Tryz.prog 62 #[.pointer (some ⟨b, 0, none⟩), r.v, .int .u32 (place : Nat)] w fun e w' => OpPost w b s q M 0 0 (s.seal r c) e w' := by
 obtain ⟨W1, hW1⟩ : ∃ W1, W1 = (w.alloc (.cells r.cs 41)).alloc (.cells #[.int .u32 0, .int .u32 0, .int .u8 0, .int .u32 0, .int .u32 0, .slice none 0 0, .slice none 0 0] 45) := ⟨_, rfl⟩
 have hCB : CB w W1 w.heap.size r := by rw [hW1]; exact CB.new w r
 obtain ⟨g, ccap, hcv, _⟩ := h.chart hc
 obtain ⟨so, sc, hse⟩ := h.st.form
 obtain ⟨go, gc, hge⟩ := own_formX (h.gr i c hc)
 have HCt : Hid (∀ W, Fr (fun _ => False) w W → Calls Tryz.prog 72 #[.pointer (some ⟨b, 0, none⟩), .int .u32 (r.rc : Nat)] W fun e w' => e = .returned (.pointer (some ⟨g, i * 5, none⟩)) ∧ w' = W) := fun W hW => by rw [hrc]; exact chart_any b i c s q M W (h.fr hW) hc hl g ccap hcv
 have HSh : Hid (∀ W, Fr (fun _ => False) w W → Calls Tryz.prog 77 #[.pointer (some ⟨g, i * 5, none⟩)] W fun e w' => e = .returned (.agg #[.int .u32 (c.wa : Nat), .int .u32 (c.ow : Nat), .bool c.sl, .slice go c.G.length gc]) ∧ Fr (fun _ => False) W w') := fun W hW => by
  obtain ⟨g2, cc2, hcv2, k0, k1, k2, k3, k4, kz⟩ := (h.fr hW).chart hc
  rw [hcv] at hcv2
  cases hcv2
  rw [← hge]
  exact sheet_any g (i * 5) c.wa c.ow c.sl (q.gv i) go c.G.length gc W hge k0 k1 k2 k3
 have HP : Hid (∀ W, Fr (fun _ => False) w W → Calls Tryz.prog 85 #[.slice so s.S.length sc, .agg #[.int .u32 (c.wa : Nat), .int .u32 (c.ow : Nat), .bool c.sl, .slice go c.G.length gc], .int .u32 (r.ac : Nat)] W fun e w' => e = .returned (.int .u8 ((seCode s.S r.ac c : Nat) : Int)) ∧ Fr (fun _ => False) W w') := fun W hW => by
  rw [← hse, ← hge]
  exact pseal_any q.sv s.S c.wa c.ow c.sl (q.gv i) c.G r.ac W ((h.fr hW).st) hS (own_us ((h.fr hW).gr i c hc)) hG
 have HSt : Hid (∀ W, Fr (fun _ => False) w W → W.cell? ⟨b, 0, none⟩ = some (.slice so s.S.length sc)) := fun W hW => by rw [← hse]; exact (h.fr hW).cells.1
 have HC := hide hCB
 have HH := hide h
 have HS : Hid (∀ W, CB w W w.heap.size r → W.cell? ⟨b, 0, none⟩ = some (.slice so s.S.length sc) ∧ W.cell? ⟨w.heap.size, 2, none⟩ = some (.int .u32 (r.ac : Nat))) := fun W hW => ⟨(unhide HSt) W hW.f, hW.cells.2.2.1⟩
 have HR4 : Hid (∀ W, CB w W w.heap.size r → W.cell? ⟨w.heap.size, 4, none⟩ = some (.int .u32 (r.rc : Nat)) ∧ W.cell? ⟨w.heap.size, 5, none⟩ = some (.int .u32 (r.ve : Nat)) ∧ W.cell? ⟨w.heap.size, 2, none⟩ = some (.int .u32 (r.ac : Nat))) := fun W hW => ⟨hW.cells.2.2.2.2.1, hW.cells.2.2.2.2.2.1, hW.cells.2.2.1⟩
 have HRf : Hid (∀ (cd : Nat) W, Calls Tryz.prog 36 #[.int .u8 (cd : Nat)] W fun e w' => e = .returned (.agg #[.int .u32 0, .int .u32 0, .int .u8 (cd : Nat), .int .u32 0, .int .u32 0, .slice none 0 0, .slice none 0 0]) ∧ Fr (fun _ => False) W w') := fun cd W => refusal_any cd W
 have HE0 : Hid (seCode s.S r.ac c ≠ 0 → s.seal r c = (s, RA.no (seCode s.S r.ac c))) := fun h => by simp [RM.seal, h]
 have HE1 : Hid (seCode s.S r.ac c = 0 → s.seal r c = (⟨s.S, s.C.set i ⟨c.wa, c.ow, decide (r.ve = 1), [], c.V⟩⟩, ⟨0, r.rc, 0, [], []⟩)) := fun h => by rw [RM.seal, if_neg (by simp [h]), show r.rc - 1 = i by omega]
 generalize s.seal r c = X at *
 generalize seCode s.S r.ac c = code at *
 have HFIN : Hid (∀ w2 W8 : World, CB w w2 w.heap.size r → Fr (fun k => k = w.heap.size + 1) ((w2.setCell ⟨g, i * 5 + 2, none⟩ (.bool (decide (r.ve = 1)))).setCell ⟨g, i * 5 + 3, none⟩ (.slice none 0 0)) W8 → RsTo w W8 b s ⟨s.S, s.C.set i ⟨c.wa, c.ow, decide (r.ve = 1), [], c.V⟩⟩ q M) := fun w2 W8 h2 h8 => seal_end h hc hcv h2 h8
 have HK : Hid (∀ W, Fr (fun _ => False) w W → W.cell? ⟨g, i * 5 + 2, none⟩ = some (.bool c.sl) ∧ W.cell? ⟨g, i * 5 + 3, none⟩ = some (.slice go c.G.length gc) ∧ W.frozen? ⟨g, i * 5 + 2, none⟩ = false ∧ W.frozen? ⟨g, i * 5 + 3, none⟩ = false ∧ g < w.heap.size) := fun W hW => by
  obtain ⟨g2, cc2, hcv2, k0, k1, k2, k3, k4, kz⟩ := (h.fr hW).chart hc
  rw [hcv] at hcv2
  cases hcv2
  exact ⟨k2, by rw [← hge]; exact k3, kz _, kz _, h.lt g (h.mc g (by rw [hcv]; rfl))⟩
 obtain ⟨d3, d4, _⟩ := (unhide HR4) _ (unhide HC)
 simp only [RQ.v, RQ.cs] at *
 rw [hfv] at hW1 ⊢
 clear hCB h hse hge hc hrc hG
 go_enter Tryz.func62, Tryz.ntmps62
 go_wp2_with fail
 rw [← hW1]
 clear hW1
 go_wp2_with fail
 refine ((unhide HCt) _ (unhide HC).f).mono ?_
 rintro e w' ⟨rfl, rfl⟩
 clear d3 d4
 go_wp2_with fail
 go_region_held3 (fun W => W.cell? ⟨b, 0, none⟩ = some (.slice so s.S.length sc) ∧ W.cell? ⟨w.heap.size, 2, none⟩ = some (.int .u32 (r.ac : Nat)))
  (first | exact (unhide HS) _ ((unhide HC).step (Fr.refl _ _).drew) | exact (unhide HS) _ (unhide H1) | exact (unhide HS) _ (unhide H2))
  (first
   | (go_at_call 77; refine ((unhide HSh) _ ((unhide HC).step (Fr.refl _ _).drew).f).mono ?_; rintro e w1 ⟨rfl, hf1⟩; have H1 := hide (((unhide HC).step (Fr.refl _ _).drew).step hf1); clear hf1)
   | (go_at_call 85; refine ((unhide HP) _ (unhide H1).f).mono ?_; rintro e w2 ⟨rfl, hf2⟩; have H2 := hide ((unhide H1).step hf2); clear hf2))
 all_goals
  by_cases hz : code = 0
  ·subst hz
   obtain ⟨k2, k3, z2, z3, hgl⟩ := (unhide HK) _ (unhide H2).f
   obtain ⟨d3, d4, _⟩ := (unhide HR4) _ (unhide H2)
   have hve : ((r.ve : Int) == 1) = decide (r.ve = 1) := by
    by_cases h1 : r.ve = 1
    ·rw [h1]; rfl
    ·rw [decide_eq_false h1, beq_eq_false_iff_ne]; omega
   obtain ⟨e0, e1, e2, e3, e4, e5, e6, y0, y1, y2, y3, y4, y5, y6⟩ := (unhide H2).ans
   have hne : g ≠ w.heap.size + 1 := by omega
   have hne2 : g ≠ w.heap.size := by omega
   clear HRf HP HS HSt HC HCt HSh HR4 HK H1
   go_wp2_with fail
   refine bodyPost_ret (results_cell_mid rfl _ _ (w.heap.size + 1) 0 [.int .u32 0, .int .u32 0, .int .u8 0, .int .u32 (r.rc : Nat), .int .u32 0, .slice none 0 0, .slice none 0 0] _ rfl ?_ Tryz.underlying45 rfl (by kernel_rfl)) rfl ?_
   ·intro j v hv
    rcases j with _ | _ | _ | _ | _ | _ | _ | j
    ·simp at hv; subst hv; go_simp
    ·simp at hv; subst hv; go_simp
    ·simp at hv; subst hv; go_simp
    ·simp at hv; subst hv; go_simp
    ·simp at hv; subst hv; go_simp
    ·simp at hv; subst hv; go_simp
    ·simp at hv; subst hv; go_simp
    ·simp at hv
   ·rw [(unhide HE1) (by trivial)]; exact OpPost.put rfl ((unhide HFIN) w2 _ (unhide H2) (set7_fr _ _ _ _ _ _ _ _ _))
  ·have hc' : ((code : Int) != 0) = true := by rw [bne_iff_ne]; omega
   clear HP HS HSt HC HCt HSh HR4 HK H1
   go_wp2_with fail
   refine ((unhide HRf) code _).mono ?_
   rintro e w3 ⟨rfl, hf3⟩
   have h3 := (unhide H2).step hf3
   obtain ⟨e0, e1, e2, e3, e4, e5, e6, z0, z1, z2, z3, z4, z5, z6⟩ := h3.ans
   have H3 := hide h3.f
   clear h3 hf3
   go_wp2_with fail
   (try simp only [Exit.inBlock, Exit.then])
   refine bodyPost_ret (results_cell_mid rfl _ _ (w.heap.size + 1) 0 [.int .u32 0, .int .u32 0, .int .u8 ((code : Nat) : Int), .int .u32 0, .int .u32 0, .slice none 0 0, .slice none 0 0] _ rfl ?_ Tryz.underlying45 rfl (by kernel_rfl)) rfl ?_
   ·intro j v hv
    rcases j with _ | _ | _ | _ | _ | _ | _ | j
    ·simp at hv; subst hv; go_simp
    ·simp at hv; subst hv; go_simp
    ·simp at hv; subst hv; go_simp
    ·simp at hv; subst hv; go_simp
    ·simp at hv; subst hv; go_simp
    ·simp at hv; subst hv; go_simp
    ·simp at hv; subst hv; go_simp
    ·simp at hv
   ·rw [(unhide HE0) hz]; refine OpPost.no rfl ?_
    repeat refine Fr.setCell ?_ (.inr (by simp)) _
    exact unhide H3
end Go.Proofs.YtiknjghcjaaenaaGreatDoor
namespace Go.Proofs.YtiknjghcjaaenaaGreatDoor
open Go.RowKit
def posN (k : Nat) : List Nat → Nat
 | [] => 0
 | x :: r => if x < k then posN k r + 1 else 0
theorem posN_eq {k : Nat} : ∀ {l : List Nat} {i : Nat}, i ≤ l.length → (∀ t (h : t < l.length), t < i → l[t] < k) → (∀ t (h : t < l.length), i ≤ t → k ≤ l[t]) → posN k l = i
 | [], i, hi, _, _ => by simp at hi; subst hi; rfl
 | x :: r, 0, _, _, h2 => by
  have := h2 0 (by simp) (Nat.le_refl _)
  simp only [List.getElem_cons_zero] at this
  unfold posN
  rw [if_neg (by omega)]
 | x :: r, i + 1, hi, h1, h2 => by
  have := h1 0 (by simp) (by omega)
  simp only [List.getElem_cons_zero] at this
  unfold posN
  rw [if_pos this, posN_eq (l := r) (i := i) (by simpa using hi) (fun t h ht => by have := h1 (t + 1) (by simpa using h) (by omega); simpa using this) (fun t h ht => by have := h2 (t + 1) (by simpa using h) (by omega); simpa using this)]
theorem posN_le (k : Nat) : ∀ l : List Nat, posN k l ≤ l.length
 | [] => Nat.le_refl _
 | x :: r => by
  unfold posN
  split
  ·have := posN_le k r; simp; omega
  ·simp
set_option maxRecDepth 100000 in
theorem cnan_any (a : Nat) (w : World) : Calls Tryz.prog 123 #[.int .u32 (a : Nat)] w fun e w' => e = .returned (.bool false) ∧ w' = w := by
 go_enter Tryz.func123, Tryz.ntmps123
 go_wp2_with fail
 go_ret
 exact ⟨by simp, rfl⟩
set_option maxRecDepth 100000 in
theorem snan_any (a : Nat) (w : World) : Calls Tryz.prog 107 #[.int .u32 (a : Nat)] w fun e w' => e = .returned (.bool false) ∧ w' = w := by
 go_enter Tryz.func107, Tryz.ntmps107
 go_wp2_with fail
 go_ret
 exact ⟨by simp, rfl⟩
set_option maxRecDepth 100000 in
theorem cless_any (a b : Nat) (w : World) : Calls Tryz.prog 106 #[.int .u32 (a : Nat), .int .u32 (b : Nat)] w fun e w' => e = .returned (.bool (decide (a < b))) ∧ w' = w := by
 have HN := hide (cnan_any a w)
 have e1 : decide (a < b) = decide ((a : Int) < (b : Int)) := by rw [decide_eq_decide]; omega
 rw [e1]
 go_enter Tryz.func106, Tryz.ntmps106
 go_wp2_with fail
 refine (unhide HN).mono ?_
 rintro e w' ⟨rfl, rfl⟩
 go_wp2_with fail
 go_ret
 exact ⟨rfl, rfl⟩
set_option maxHeartbeats 1000000 in
set_option maxRecDepth 100000 in
theorem bsearch_any (x : Value) (l : List Nat) (k : Nat) (w : World) (hx : Us w x l) (hs : l.Pairwise (· < ·)) (hl : l.length ≤ 140737488355328) :
  Calls Tryz.prog 99 #[x, .int .u32 (k : Nat)] w fun e w' => e = .returned (.tuple #[.int .i64 ((posN k l : Nat) : Int), .bool (decide (k ∈ l))]) ∧ w' = w := by
 have HX := hide (And.intro hx hs)
 obtain ⟨xo, xc, rfl⟩ := hx.form
 have HL : Hid (∀ a W, Calls Tryz.prog 106 #[.int .u32 (a : Nat), .int .u32 (k : Nat)] W fun e w' => e = .returned (.bool (decide (a < k))) ∧ w' = W) := fun a W => cless_any a k W
 have HN : Hid (∀ a W, Calls Tryz.prog 107 #[.int .u32 (a : Nat)] W fun e w' => e = .returned (.bool false) ∧ w' = W) := fun a W => snan_any a W
 clear hx hs
 obtain ⟨z, hz⟩ : ∃ z, decide (k ∈ l) = z := ⟨_, rfl⟩
 obtain ⟨p, hp⟩ : ∃ p, posN k l = p := ⟨_, rfl⟩
 rw [hz, hp]
 have HZ := hide (And.intro hz hp)
 clear hz hp
 go_enter Tryz.func99, Tryz.ntmps99
 go_wp2_with fail
 go_loopw [7, 8, 9] (fun iv jv _ wr => ∃ a b : Nat, iv = .int .i64 (a : Nat) ∧ jv = .int .i64 (b : Nat) ∧ a ≤ b ∧ b ≤ l.length ∧ (∀ t (h : t < l.length), t < a → l[t] < k) ∧ (∀ t (h : t < l.length), b ≤ t → k ≤ l[t]) ∧ wr = w) (fun iv jv _ _ => (intOf jv).toNat - (intOf iv).toNat)
 case atStart => exact ⟨0, l.length, rfl, rfl, Nat.zero_le _, Nat.le_refl _, fun t _ hi => by omega, fun t h1 h2 => by omega, rfl⟩
 case round =>
  obtain ⟨a, b, rfl, rfl, hab, hbn, hlo, hhi, rfl⟩ := hrel
  have HI := hide (And.intro hlo hhi)
  clear hlo hhi
  by_cases hlt : a < b
  ·obtain ⟨h, hh, hah, hhb⟩ : ∃ h : Nat, ((a : Int) + (b : Int)) / 2 = (h : Int) ∧ a ≤ h ∧ h < b := ⟨(a + b) / 2, by omega, by omega, by omega⟩
   obtain ⟨g, o, rfl, c0⟩ := (unhide HX).1.at_ h (by omega)
   have HLT : Hid (l[h] < k → ∀ t (ht : t < l.length), t < h + 1 → l[t] < k) := fun h1 t ht h2 => by
    rcases Nat.lt_or_ge t h with h3 | h3
    ·exact Nat.lt_trans (List.pairwise_iff_getElem.1 (unhide HX).2 t h ht (by omega) h3) h1
    ·obtain rfl : t = h := by omega
     exact h1
   have HGE : Hid (¬ l[h] < k → ∀ t (ht : t < l.length), h ≤ t → k ≤ l[t]) := fun h1 t ht h2 => by
    rcases Nat.lt_or_ge h t with h3 | h3
    ·have := List.pairwise_iff_getElem.1 (unhide HX).2 h t (by omega) ht h3
     omega
    ·obtain rfl : t = h := by omega
     omega
   obtain ⟨y, hy⟩ : ∃ y, l[h] = y := ⟨_, rfl⟩
   rw [hy] at c0 HLT HGE
   clear hy
   have a2 : (h : Int) < (l.length : Int) := by omega
   go_wp2_with fail
   refine ((unhide HL) y _).mono ?_
   rintro e w2 ⟨rfl, hw⟩
   obtain rfl := hw.symm
   clear hh
   by_cases hp : y < k
   ·have HP := hide hp
    rw [decide_eq_true hp]
    clear hp
    go_wp2_with fail
    go_roundw
    case rel => exact ⟨h + 1, b, by go_num, rfl, hhb, hbn, (unhide HLT) (unhide HP), (unhide HI).2, trivial⟩
    case measure => simp [intOf]; omega
   ·have HP := hide hp
    rw [decide_eq_false hp]
    clear hp
    go_wp2_with fail
    go_roundw
    case rel => exact ⟨a, h, rfl, rfl, hah, by omega, (unhide HI).1, (unhide HGE) (unhide HP), trivial⟩
    case measure => simp [intOf]; omega
  ·obtain rfl : a = b := by omega
   have HQ := hide (posN_eq hbn (unhide HI).1 (unhide HI).2)
   by_cases hal : a < l.length
   ·obtain ⟨g, o, rfl, c0⟩ := (unhide HX).1.at_ a hal
    have HM : Hid (k ∈ l ↔ l[a] = k) := by
     constructor
     ·intro hk
      obtain ⟨t, ht, e⟩ := List.mem_iff_getElem.1 hk
      rcases Nat.lt_or_ge t a with h1 | h1
      ·have := (unhide HI).1 t ht h1; omega
      ·rcases Nat.lt_or_ge a t with h2 | h2
       ·have h3 := List.pairwise_iff_getElem.1 (unhide HX).2 a t hal ht h2
        have h4 := (unhide HI).2 a hal (Nat.le_refl _)
        omega
       ·obtain rfl : t = a := by omega
        exact e
     ·intro e
      rw [← e]
      exact List.getElem_mem hal
    obtain ⟨y, hy⟩ : ∃ y, l[a] = y := ⟨_, rfl⟩
    rw [hy] at c0 HM
    clear hy hlt
    have a2 : (a : Int) < (l.length : Int) := by omega
    by_cases hk : y = k
    ·subst hk
     have HE := hide (show z = true by rw [← (unhide HZ).1]; exact decide_eq_true ((unhide HM).2 rfl))
     go_wp2_with fail
     go_ret2
     rw [unhide HE, ← (unhide HZ).2, unhide HQ]
     exact ⟨by simp, rfl⟩
    ·have HE := hide (show z = false by rw [← (unhide HZ).1]; exact decide_eq_false (fun h => hk ((unhide HM).1 h)))
     have hk2 : ¬ (y : Int) = (k : Int) := by omega
     go_wp2_with fail
     refine ((unhide HN) y _).mono ?_
     rintro e w2 ⟨rfl, hw⟩
     obtain rfl := hw.symm
     go_wp2_with fail
     go_ret2
     rw [unhide HE, ← (unhide HZ).2, unhide HQ]
     exact ⟨by simp; exact hk2, rfl⟩
   ·have HE := hide (show z = false by
     rw [← (unhide HZ).1]
     refine decide_eq_false (fun hk => ?_)
     obtain ⟨t, ht, e⟩ := List.mem_iff_getElem.1 hk
     have := (unhide HI).1 t ht (by omega)
     omega)
    have a2 : ¬ (a : Int) < (l.length : Int) := by omega
    go_wp2_with fail
    go_ret2
    rw [unhide HE, ← (unhide HZ).2, unhide HQ]
    exact ⟨by simp, rfl⟩
end Go.Proofs.YtiknjghcjaaenaaGreatDoor
namespace Go.Proofs.YtiknjghcjaaenaaGreatDoor
open Go.RowKit Go.Shelf
theorem setCells_block (g : Nat) : ∀ (vs : List Value) (o : Nat) (w : World) (cur : Array Value) (e : TypeId), w.heap[g]? = some (.cells cur e) → ∃ cur', (w.setCells g o vs).heap[g]? = some (.cells cur' e) ∧ cur'.size = cur.size ∧ Fr (fun k => k = g) w (w.setCells g o vs)
 | [], o, w, cur, e, h => ⟨cur, h, rfl, Fr.refl _ _⟩
 | v :: r, o, w, cur, e, h => by
  obtain ⟨cur', h1, h2, h3⟩ := setCells_block g r (o + 1) (w.setCell ⟨g, o, none⟩ v) (cur.setIfInBounds o v) e (heap_setCell_same w g o cur e v h)
  exact ⟨cur', h1, by simpa using h2, ((Fr.refl (fun k => k = g) w).setCell (p := ⟨g, o, none⟩) (.inl rfl) v).trans h3 (fun _ _ h => h)⟩
theorem own_of_cells {w : World} {g e n cap : Nat} {cur : Array Value} {xs : List Value} (hb : w.heap[g]? = some (.cells cur e)) (hs : cur.size = cap) (hn : n ≤ cap) (hm : cap ≤ maxLen) (hl : xs.length = n) (hc : ∀ j, j < n → w.cell? ⟨g, j, none⟩ = xs[j]?) : w.ownsRow 0 e 1 (.slice (some ⟨g, 0, none⟩) n cap) n xs := by
 refine ⟨by omega, .inr ⟨g, cap, cur, rfl, Nat.zero_le _, hb, hn, hm, by omega, ?_⟩⟩
 apply List.ext_getElem?
 intro j
 rw [Nat.mul_one, List.getElem?_take]
 by_cases hj : j < n
 ·rw [if_pos hj, ← hc j hj]
  simp [World.cell?, hb]
 ·rw [if_neg hj, List.getElem?_eq_none (by omega)]
theorem ncells_len (l : List Nat) : (ncells l).length = l.length := by simp [ncells]
theorem ncells_one (l : List Nat) : ∀ u ∈ ncells l, u.oneCell' = true := by
 intro u hu
 simp only [ncells, List.mem_map] at hu
 obtain ⟨z, _, rfl⟩ := hu
 rfl
theorem ins_cells (l : List Nat) (k p j : Nat) (hp : p ≤ l.length) : (ncells (l.take p ++ k :: l.drop p))[j]? = if j < p then (ncells l)[j]? else if j = p then some (.int .u32 (k : Nat)) else (ncells l)[j - 1]? := by
 simp only [ncells, List.map_append, List.map_cons, List.map_take, List.map_drop]
 by_cases h1 : j < p
 ·rw [if_pos h1, List.getElem?_append_left (by simp; omega), List.getElem?_take, if_pos h1]
 ·rw [if_neg h1, List.getElem?_append_right (by simp; omega)]
  simp only [List.length_take, List.length_map, Nat.min_eq_left hp]
  by_cases h2 : j = p
  ·subst h2
   simp
  ·rw [if_neg h2, show j - p = (j - p - 1) + 1 by omega, List.getElem?_cons_succ, List.getElem?_drop, show p + (j - p - 1) = j - 1 by omega]
theorem Tryz.infoU : (Tryz.prog.info? 31).map (fun i => (i.zero, i.size, i.bytes)) = some (some (.int .u32 0), 1, 4) := by kernel_rfl
set_option maxHeartbeats 4000000 in
set_option maxRecDepth 100000 in
theorem insert_end (v : Value) (l : List Nat) (k vb : Nat) (w : World) (hv : w.ownsRow 0 31 1 v l.length (ncells l)) (hx : w.heap[vb]? = some (.cells #[.int .u32 (k : Nat)] 31)) (hl : l.length ≤ 4294967296) :
  Calls Tryz.prog 100 #[v, .int .i64 (l.length : Nat), .slice (some ⟨vb, 0, none⟩) 1 1] w fun e w' => ∃ v', e = .returned v' ∧ w'.ownsRow 0 31 1 v' (l.length + 1) (ncells (l ++ [k])) ∧ Fr (fun g => v.ownBlock = some g) w w' ∧ ∀ g, v'.ownBlock = some g → v.ownBlock = some g ∨ w.heap.size ≤ g := by
 obtain ⟨i0, hi, hz0, hz1, hz2⟩ := info_parts Tryz.infoU
 obtain ⟨v', w2, hr, h2, h3, _, h5⟩ := run_append_own_at (P := Tryz.prog) (w := w) 0 24 24 31 i0 (.int .u32 0) 1 4 Tryz.underlying24 hi hz0 hz1 hz2 rfl (by decide) v l.length (ncells l) hv ⟨vb, 0, none⟩ 1 1 [.int .u32 (k : Nat)] rfl (fun j u hu => by
  rw [addr_add, Nat.zero_add]
  simp only [World.cell?, hx]
  simpa using hu) (fun u hu => by simp at hu; subst hu; rfl) (by simp only [maxLen]; omega) (by omega) (Nat.zero_le _)
 obtain ⟨ao, cap, rfl⟩ := own_formX h2
 have HR := hide hr
 have HE : Hid (∃ v', Ending.returned (Value.slice ao (l.length + 1) cap) = .returned v' ∧ w2.ownsRow 0 31 1 v' (l.length + 1) (ncells (l ++ [k])) ∧ Fr (fun g => v.ownBlock = some g) w w2 ∧ ∀ g, v'.ownBlock = some g → v.ownBlock = some g ∨ w.heap.size ≤ g) := by
  refine ⟨_, rfl, by simpa [ncells] using h2, (Fr.refl _ _).grown h3 (fun g hg => .inl hg), fun g hg => ?_⟩
  rcases h5 with e | e
  ·rw [e] at hg; exact .inl hg
  ·rw [e] at hg; cases hg; exact .inr (Nat.le_refl _)
 have hzn : 0 ≤ (l.length : Int) := by omega
 rcases hv.2 with ⟨rfl, h0⟩ | ⟨g, vc, cur, rfl, _, _, hnc, hcm, _, _⟩
 ·rw [h0] at *
  clear hr h2 h3 h5 hv hx
  go_enter Tryz.func100, Tryz.ntmps100
  go_wp2_with (at_builtin; refine wpList_app rfl _ _ 24 24 rfl _ _ _ rfl rfl (unhide HR) ?_)
  go_ret
  exact unhide HE
 ·generalize l.length = n at *
  clear hr h2 h3 h5 hv hx
  go_enter Tryz.func100, Tryz.ntmps100
  go_wp2_with (at_builtin; refine wpList_app rfl _ _ 24 24 rfl _ _ _ rfl rfl (unhide HR) ?_)
  all_goals
   go_ret
   exact unhide HE
theorem cell_lt {w : World} {g e c : Nat} {l : List Nat} (hv : w.ownsRow 0 e 1 (.slice (some ⟨g, 0, none⟩) l.length c) l.length (ncells l)) : ∃ cur, w.heap[g]? = some (.cells cur e) ∧ cur.size = c ∧ c ≤ maxLen ∧ (∀ j, j < c → (w.cell? ⟨g, j, none⟩).isSome = true) ∧ (∀ j, w.frozen? ⟨g, j, none⟩ = false) ∧ ∀ j u, (ncells l)[j]? = some u → w.cell? ⟨g, j, none⟩ = some u := by
 rcases hv.2 with ⟨h, _⟩ | ⟨g', c', cur, h, _, hb, hnc, hm, hs, _⟩
 ·cases h
 ·cases h
  refine ⟨cur, hb, by omega, hm, fun j hj => ?_, fun j => by simp [World.frozen?, hb], fun j u hu => ?_⟩
  ·have h1 : j < cur.size := by omega
   simp [World.cell?, hb, h1]
  ·have hj : j < l.length := by
    have := (List.getElem?_eq_some_iff.1 hu).1
    rw [ncells_len] at this
    exact this
   exact (hv.cellAt j (by omega)).trans hu
theorem run_cp (w : World) (ty : TypeId) (b o dl dc : Nat) (a : Addr) (sl sc : Nat) (cs : List Value) (hn : cs.length = Nat.min sl dl)
  (hsrc : ∀ j v, cs[j]? = some v → w.cell? (a.add j) = some v) (hc : ∀ j, j < cs.length → (w.cell? ⟨b, o + j, none⟩).isSome = true) (hf : ∀ j, j < cs.length → w.frozen? ⟨b, o + j, none⟩ = false) (h1 : ∀ v ∈ cs, v.oneCell' = true) :
  (Builtin.copy_ #[24, 24] ty #[.slice (some ⟨b, o, none⟩) dl dc, .slice (some a) sl sc]).run Tryz.prog w = .ok (goInt cs.length) (w.setCells b o cs) := by
 obtain ⟨i0, hi, hz0, hz1, hz2⟩ := info_parts Tryz.infoU
 exact run_copy_cells w _ _ ty 31 b o dl dc a sl sc cs Tryz.underlying24 (by rw [hi]; simp [hz1]) hn hsrc hc hf h1
theorem overlaps_no (w : World) (vb g o lb cb : Nat) (x : Value) (cur : Array Value) (hx : w.heap[vb]? = some (.cells #[x] 31)) (hb : w.heap[g]? = some (.cells cur 31)) (hs : cur.size ≠ 0) (hne : vb ≠ g) :
  (callFunc 108 #[.slice (some ⟨vb, 0, none⟩) 1 1, .slice (some ⟨g, o, none⟩) lb cb]).run Tryz.prog w = .ok (.value (.bool false)) w := by
 obtain ⟨i0, hi, hz0, hz1, hz2⟩ := info_parts Tryz.infoU
 rw [run_callFunc_extern (P := Tryz.prog) Tryz.func108 (by kernel_rfl) (by kernel_rfl) (by kernel_rfl) (e := Extern.SlicesOverlaps.overlaps #[24, 24] #[4]) (by kernel_rfl),
  Lib.run_overlaps_apart w 24 4 31 Tryz.underlying24 1 (fun w => by simp [Go.sizeOf, typeInfo, hi, hz1]) ⟨vb, 0, none⟩ ⟨g, o, none⟩ 1 1 lb cb hne 31 31 1 cur.size (by simp [World.shape?, hx]) (by simp [World.shape?, hb]) hs (by simp [World.frozen?, hx]) (by simp [World.frozen?, hx])]
 rfl
set_option maxHeartbeats 4000000 in
set_option maxRecDepth 100000 in
theorem insert_room (g c : Nat) (l : List Nat) (k p vb : Nat) (w : World) (hv : w.ownsRow 0 31 1 (.slice (some ⟨g, 0, none⟩) l.length c) l.length (ncells l)) (hx : w.heap[vb]? = some (.cells #[.int .u32 (k : Nat)] 31)) (hne : vb ≠ g) (hp : p < l.length) (hroom : l.length + 1 ≤ c) :
  Calls Tryz.prog 100 #[.slice (some ⟨g, 0, none⟩) l.length c, .int .i64 (p : Nat), .slice (some ⟨vb, 0, none⟩) 1 1] w fun e w' => e = .returned (.slice (some ⟨g, 0, none⟩) (l.length + 1) c) ∧ w'.ownsRow 0 31 1 (.slice (some ⟨g, 0, none⟩) (l.length + 1) c) (l.length + 1) (ncells (l.take p ++ k :: l.drop p)) ∧ Fr (fun k => k = g) w w' := by
 obtain ⟨cur, hb, hcs, hcm, hsome, hfz, hcell⟩ := cell_lt hv
 have hgl : g < w.heap.size := lt_of_block hb
 have hvl : vb < w.heap.size := lt_of_block hx
 have HOV : Hid (∀ lb cb, (callFunc 108 #[.slice (some ⟨vb, 0, none⟩) 1 1, .slice (some ⟨g, p + 1, none⟩) lb cb]).run Tryz.prog w = .ok (.value (.bool false)) w) := fun lb cb => overlaps_no w vb g (p + 1) lb cb _ cur hx hb (by omega) hne
 obtain ⟨D, hD⟩ : ∃ D, D = (ncells l).drop p := ⟨_, rfl⟩
 have hDl : D.length = l.length - p := by rw [hD, List.length_drop, ncells_len]
 obtain ⟨W1, hW1⟩ : ∃ W1, W1 = w.drew.setCells g (p + 1) D := ⟨_, rfl⟩
 have HC1 : Hid (∀ ty dl dc sl sc, dl = l.length - p → sl = l.length + 1 - p → (Builtin.copy_ #[24, 24] ty #[.slice (some ⟨g, p + 1, none⟩) dl dc, .slice (some ⟨g, p, none⟩) sl sc]).run Tryz.prog w.drew = .ok (goInt D.length) W1) := fun ty dl dc sl sc e1 e2 => by
  rw [hW1]
  exact run_cp w.drew ty g (p + 1) dl dc ⟨g, p, none⟩ sl sc D (by rw [hDl, e1, e2]; simp only [Nat.min_def]; split <;> omega) (fun j u hu => by
   rw [addr_add]
   rw [hD, List.getElem?_drop] at hu
   exact hcell _ u hu) (fun j hj => hsome _ (by omega)) (fun j hj => hfz _) (fun u hu => ncells_one l u (by rw [hD] at hu; exact List.mem_of_mem_drop hu))
 obtain ⟨cur1, hb1, hs1, hf1⟩ := setCells_block g D (p + 1) w.drew cur 31 hb
 rw [← hW1] at hb1 hf1
 have hc1 : ∀ j, j < l.length + 1 → W1.cell? ⟨g, j, none⟩ = if j < p + 1 then w.cell? ⟨g, j, none⟩ else (ncells l)[j - 1]? := fun j hj => by
  rw [hW1]
  by_cases h1 : j < p + 1
  ·rw [if_pos h1]
   exact World.cell?_setCells_out g D (p + 1) w.drew ⟨g, j, none⟩ (fun _ _ => .inl h1)
  ·rw [if_neg h1]
   have := World.cell?_setCells_in g D (p + 1) w.drew (fun i hi => hsome _ (by omega)) (j - (p + 1)) (by omega)
   rw [show p + 1 + (j - (p + 1)) = j by omega] at this
   rw [this, ← List.getElem?_eq_getElem, hD, List.getElem?_drop, show p + (j - (p + 1)) = j - 1 by omega]
 have hx1 : W1.cell? ⟨vb, 0, none⟩ = some (.int .u32 (k : Nat)) := by
  rw [hf1.cell (p := ⟨vb, 0, none⟩) hvl hne]
  show w.cell? ⟨vb, 0, none⟩ = _
  simp [World.cell?, hx]
 obtain ⟨cur2, hb2, hs2, hf2⟩ := setCells_block g [.int .u32 (k : Nat)] p W1 cur1 31 hb1
 obtain ⟨W2, hW2⟩ : ∃ W2, W2 = W1.setCells g p [.int .u32 (k : Nat)] := ⟨_, rfl⟩
 rw [← hW2] at hb2 hf2
 have HC2 : Hid (∀ ty dl dc, dl = l.length + 1 - p → (Builtin.copy_ #[24, 24] ty #[.slice (some ⟨g, p, none⟩) dl dc, .slice (some ⟨vb, 0, none⟩) 1 1]).run Tryz.prog W1 = .ok (goInt 1) W2) := fun ty dl dc e1 => by
  rw [hW2]
  refine run_cp W1 ty g p dl dc ⟨vb, 0, none⟩ 1 1 [.int .u32 (k : Nat)] (by rw [e1]; simp only [Nat.min_def, List.length_singleton]; split <;> omega) (fun j u hu => ?_) (fun j hj => ?_) (fun j hj => by simp [World.frozen?, hb1]) (fun u hu => by simp at hu; subst hu; rfl)
  ·rcases j with _ | j
   ·simp at hu; subst hu; exact hx1
   ·simp at hu
  ·simp at hj
   subst hj
   rw [Nat.add_zero, hc1 p (by omega), if_pos (by omega)]
   exact hsome p (by omega)
 have HE : Hid (W2.ownsRow 0 31 1 (.slice (some ⟨g, 0, none⟩) (l.length + 1) c) (l.length + 1) (ncells (l.take p ++ k :: l.drop p)) ∧ Fr (fun k => k = g) w W2) := by
  refine ⟨own_of_cells hb2 (by omega) hroom hcm (by simp [ncells]; omega) (fun j hj => ?_), (((Fr.refl _ _).drew).trans hf1 (fun _ _ h => h)).trans hf2 (fun _ _ h => h)⟩
  rw [ins_cells l k p j (by omega), hW2]
  by_cases h1 : j = p
  ·subst h1
   rw [if_neg (by omega), if_pos rfl]
   have := World.cell?_setCells_in g [.int .u32 (k : Nat)] j W1 (fun i hi => by
    simp at hi
    subst hi
    rw [Nat.add_zero, hc1 j (by omega), if_pos (by omega)]
    exact hsome j (by omega)) 0 (by simp)
   simpa using this
  ·rw [World.cell?_setCells_out g [.int .u32 (k : Nat)] p W1 ⟨g, j, none⟩ (fun _ _ => by simp; omega), hc1 j hj]
   by_cases h2 : j < p
   ·rw [if_pos (by omega), if_pos h2]
    have h3 : j < (ncells l).length := by rw [ncells_len]; omega
    rw [List.getElem?_eq_getElem h3]
    exact hcell j _ (List.getElem?_eq_getElem h3)
   ·rw [if_neg (by omega), if_neg h2, if_neg h1]
 have hnl : l.length ≤ 9223372036854775806 := by simp only [maxLen] at hcm; omega
 have hc63 : c ≤ 9223372036854775807 := by simp only [maxLen] at hcm; omega
 clear hW1 hW2 hD hDl hc1 hx1 hb1 hs1 hf1 hb2 hs2 hf2 hb hcs hcm hsome hfz hcell hv hx
 generalize ncells (l.take p ++ k :: l.drop p) = XS at *
 generalize l.length = n at *
 have hw1 : IntKind.i64.wrap ((p : Int) + 1) = (p : Int) + 1 := by rw [IntKind.wrap_i64]; omega
 have hw2 : IntKind.i64.wrap ((n : Int) + 1) = (n : Int) + 1 := by rw [IntKind.wrap_i64]; omega
 have hb1 : (0 : Int) ≤ (p : Int) + 1 := by omega
 have htn : ((p : Int) + 1).toNat = p + 1 := by omega
 have htn2 : ((n : Int) + 1).toNat = n + 1 := by omega
 have hb2 : ¬ (c = p + 1) := by omega
 have hb3 : (p : Int) ≤ (n : Int) + 1 := by omega
 have hb3' : (p : Int) ≤ (n : Int) := by omega
 have hb4 : ¬ (c = p) := by omega
 have hb5 : ¬ (p : Int) = (n : Int) := by omega
 have hb6 : ¬ (c : Int) < (n : Int) + 1 := by omega
 have hb7 : (n : Int) + 1 ≤ (c : Int) := by omega
 have hov := unhide HOV
 have hcp := (unhide HC1) 3 (n - p) (c - (p + 1)) (n + 1 - p) (c - p) rfl rfl
 have hcp2 := (unhide HC2) 3 (n + 1 - p) (c - p) rfl
 go_enter Tryz.func100, Tryz.ntmps100
 go_wp2_with (simp only [hov])
 go_region
 go_wp2_with fail
 go_ret
 exact ⟨rfl, unhide HE⟩
theorem drew_cell (w : World) (a : Addr) : w.drew.cell? a = w.cell? a := rfl
set_option maxHeartbeats 4000000 in
set_option maxRecDepth 100000 in
theorem insert_grow (g c : Nat) (l : List Nat) (k p vb : Nat) (w : World) (hv : w.ownsRow 0 31 1 (.slice (some ⟨g, 0, none⟩) l.length c) l.length (ncells l)) (hx : w.heap[vb]? = some (.cells #[.int .u32 (k : Nat)] 31)) (hp : p < l.length) (hroom : c < l.length + 1) (hcl : l.length ≤ c) (hl : l.length ≤ 4294967296) :
  Calls Tryz.prog 100 #[.slice (some ⟨g, 0, none⟩) l.length c, .int .i64 (p : Nat), .slice (some ⟨vb, 0, none⟩) 1 1] w fun e w' => ∃ G, e = .returned (.slice (some ⟨w.heap.size, 0, none⟩) (l.length + 1) G) ∧ w'.ownsRow 0 31 1 (.slice (some ⟨w.heap.size, 0, none⟩) (l.length + 1) G) (l.length + 1) (ncells (l.take p ++ k :: l.drop p)) ∧ Fr (fun _ => False) w w' := by
 obtain ⟨i0, hi, hz0, hz1, hz2⟩ := info_parts Tryz.infoU
 obtain ⟨cur, hb, hcs, hcm, hsome, hfz, hcell⟩ := cell_lt hv
 have hgl : g < w.heap.size := lt_of_block hb
 have hvl : vb < w.heap.size := lt_of_block hx
 have hkk : (l.length : Int) + 1 - (p : Int) = ((l.length + 1 - p : Nat) : Int) := by omega
 have hik : p + (l.length + 1 - p) = l.length + 1 := by omega
 have hold : (Builtin.firstCells i0.size p (.slice (some ⟨g, 0, none⟩) p c)).run Tryz.prog w.drew = .ok ((ncells l).take p).toArray w.drew := by
  rw [hz1]
  exact run_firstCells_some w.drew 1 p ⟨g, 0, none⟩ p c ((ncells l).take p) (by rw [List.length_take, ncells_len]; omega) (fun j u hj => by
   rw [addr_add, Nat.zero_add]
   rw [List.getElem?_take] at hj
   split at hj
   ·exact hcell j u hj
   ·cases hj)
 obtain ⟨G, hG⟩ : ∃ G, G = grownCap w (l.length + 1) c 31 := ⟨_, rfl⟩
 obtain ⟨ROW, hROW⟩ : ∃ ROW : Array Value, ROW = ((ncells l).take p).toArray ++ Builtin.zeroCells (Value.int .u32 0).cells (l.length + 1 - p) ++ Builtin.zeroCells (Value.int .u32 0).cells (G - (l.length + 1)) := ⟨_, rfl⟩
 obtain ⟨W1, hW1⟩ : ∃ W1, W1 = w.drew.alloc (.cells ROW 31) := ⟨_, rfl⟩
 have happ : (Builtin.append_ #[24, 3] 24 #[.slice (some ⟨g, 0, none⟩) p c, .int .i64 ((l.length : Int) + 1 - (p : Int))]).run Tryz.prog w = .ok (.slice (some ⟨w.heap.size, 0, none⟩) (l.length + 1) G) W1 := by
  have h := Lib.run_append_grow_zeros w 24 3 24 31 i0 _ .i64 .i64 Tryz.underlying24 Tryz.underlying3 hi hz0 (some ⟨g, 0, none⟩) p c ((ncells l).take p) hold (l.length + 1 - p) (by omega) (by omega) (by omega) (by omega) (by rw [hz2]; omega) (by rw [hz2, hik]; exact growslice_fits hroom (by omega))
  rw [hik, ← hG, ← hROW, ← hW1] at h
  rw [hkk]
  exact h
 have hGn : l.length + 1 ≤ G := by rw [hG]; exact grownCap_ge w _ _ _
 have hGm : G ≤ maxLen := by rw [hG]; exact grownCap_le_maxLen w _ _ _ (by unfold maxLen; omega)
 have hRs : ROW.size = G := by
  rw [hROW]
  simp [Builtin.zeroCells, Value.cells, ncells_len]
  omega
 have hB1 : W1.heap[w.heap.size]? = some (.cells ROW 31) := by rw [hW1]; exact Array.getElem?_push_size
 have f01 : Fr (fun _ => False) w W1 := by rw [hW1]; exact (Fr.refl _ _).drew.alloc _
 have hR : ∀ j, j < p → W1.cell? ⟨w.heap.size, j, none⟩ = (ncells l)[j]? := fun j hj => by
  have h1 : j < (ncells l).length := by rw [ncells_len]; omega
  simp only [World.cell?, hB1]
  rw [hROW, Array.append_assoc, Array.getElem?_append_left (by simp [ncells_len]; omega)]
  simp [hj, h1]
 have hN : ∀ j, j < G → (W1.cell? ⟨w.heap.size, j, none⟩).isSome = true := fun j hj => by
  have h1 : j < ROW.size := by omega
  simp [World.cell?, hB1, h1]
 have hNf : ∀ j, W1.frozen? ⟨w.heap.size, j, none⟩ = false := fun j => by simp [World.frozen?, hB1]
 obtain ⟨W2, hW2⟩ : ∃ W2, W2 = W1.setCells w.heap.size p [.int .u32 (k : Nat)] := ⟨_, rfl⟩
 have hcpA : (Builtin.copy_ #[24, 24] 3 #[.slice (some ⟨w.heap.size, p, none⟩) (l.length + 1 - p) (G - p), .slice (some ⟨vb, 0, none⟩) 1 1]).run Tryz.prog W1 = .ok (goInt 1) W2 := by
  rw [hW2]
  refine run_cp W1 _ w.heap.size p _ _ ⟨vb, 0, none⟩ 1 1 [.int .u32 (k : Nat)] (by simp only [Nat.min_def, List.length_singleton]; split <;> omega) (fun j u hu => ?_) (fun j hj => hN _ (by simp at hj; omega)) (fun j hj => hNf _) (fun u hu => by simp at hu; subst hu; rfl)
  rcases j with _ | j
  ·simp at hu; subst hu
   refine (f01.cell (p := ⟨vb, 0, none⟩) hvl (fun h => h)).trans ?_
   simp [World.cell?, hx]
  ·simp at hu
 obtain ⟨cur2, hb2, hs2, hf2⟩ := setCells_block w.heap.size [.int .u32 (k : Nat)] p W1 ROW 31 hB1
 rw [← hW2] at hb2 hf2
 have hc2 : ∀ j, j < p + 1 → W2.cell? ⟨w.heap.size, j, none⟩ = if j < p then (ncells l)[j]? else some (.int .u32 (k : Nat)) := fun j hj => by
  rw [hW2]
  by_cases h1 : j < p
  ·rw [if_pos h1, World.cell?_setCells_out _ _ _ _ ⟨w.heap.size, j, none⟩ (fun _ _ => .inl h1), hR j h1]
  ·obtain rfl : j = p := by omega
   rw [if_neg h1]
   have := World.cell?_setCells_in w.heap.size [.int .u32 (k : Nat)] j W1 (fun i hi => hN _ (by simp at hi; omega)) 0 (by simp)
   simpa using this
 have hN2 : ∀ j, j < G → (W2.cell? ⟨w.heap.size, j, none⟩).isSome = true := fun j hj => by
  have h1 : j < cur2.size := by omega
  simp [World.cell?, hb2, h1]
 obtain ⟨D, hD⟩ : ∃ D, D = (ncells l).drop p := ⟨_, rfl⟩
 have hDl : D.length = l.length - p := by rw [hD, List.length_drop, ncells_len]
 obtain ⟨W3, hW3⟩ : ∃ W3, W3 = W2.drew.setCells w.heap.size (p + 1) D := ⟨_, rfl⟩
 have f02 : Fr (fun _ => False) w W2 := f01.absorb hf2 (fun i hi => by omega)
 have hcpB : (Builtin.copy_ #[24, 24] 3 #[.slice (some ⟨w.heap.size, p + 1, none⟩) (l.length - p) (G - (p + 1)), .slice (some ⟨g, p, none⟩) (l.length - p) (c - p)]).run Tryz.prog W2.drew = .ok (goInt D.length) W3 := by
  rw [hW3]
  exact run_cp W2.drew _ w.heap.size (p + 1) _ _ ⟨g, p, none⟩ _ _ D (by rw [hDl]; simp only [Nat.min_def]; split <;> omega) (fun j u hu => by
   rw [addr_add, drew_cell]
   rw [hD, List.getElem?_drop] at hu
   exact (f02.cell (p := ⟨g, p + j, none⟩) hgl (fun h => h)).trans (hcell _ u hu)) (fun j hj => hN2 _ (by omega)) (fun j hj => by show W2.frozen? _ = false; simp [World.frozen?, hb2]) (fun u hu => ncells_one l u (by rw [hD] at hu; exact List.mem_of_mem_drop hu))
 obtain ⟨cur3, hb3, hs3, hf3⟩ := setCells_block w.heap.size D (p + 1) W2.drew cur2 31 hb2
 rw [← hW3] at hb3 hf3
 have HE : Hid (∃ G', Ending.returned (Value.slice (some ⟨w.heap.size, 0, none⟩) (l.length + 1) G) = .returned (.slice (some ⟨w.heap.size, 0, none⟩) (l.length + 1) G') ∧ W3.ownsRow 0 31 1 (.slice (some ⟨w.heap.size, 0, none⟩) (l.length + 1) G') (l.length + 1) (ncells (l.take p ++ k :: l.drop p)) ∧ Fr (fun _ => False) w W3) := by
  refine ⟨G, rfl, own_of_cells hb3 (by omega) hGn hGm (by simp [ncells]; omega) (fun j hj => ?_), (f02.drew).absorb hf3 (fun i hi => by omega)⟩
  rw [ins_cells l k p j (by omega), hW3]
  by_cases h1 : j < p + 1
  ·rw [World.cell?_setCells_out _ _ _ _ ⟨w.heap.size, j, none⟩ (fun _ _ => .inl h1), drew_cell, hc2 j h1]
   by_cases h2 : j < p
   ·rw [if_pos h2, if_pos h2]
   ·rw [if_neg h2, if_neg h2, if_pos (by omega)]
  ·rw [if_neg (by omega), if_neg (by omega)]
   have := World.cell?_setCells_in w.heap.size D (p + 1) W2.drew (fun i hi => hN2 _ (by omega)) (j - (p + 1)) (by omega)
   rw [show p + 1 + (j - (p + 1)) = j by omega] at this
   rw [this, ← List.getElem?_eq_getElem, hD, List.getElem?_drop, show p + (j - (p + 1)) = j - 1 by omega]
 have hnl : l.length ≤ 9223372036854775806 := by omega
 have hG63 : G ≤ 9223372036854775807 := by simp only [maxLen] at hGm; omega
 clear hW1 hW2 hW3 hD hDl hc2 hR hN hNf hN2 hb2 hs2 hf2 hb3 hs3 hf3 hb hcs hcm hsome hfz hcell hv hx hB1 f01 f02 hRs hROW hG hold hkk hik hi hz0 hz1 hz2 hGm
 generalize ncells (l.take p ++ k :: l.drop p) = XS at *
 generalize l.length = n at *
 have hw1 : IntKind.i64.wrap ((p : Int) + 1) = (p : Int) + 1 := by rw [IntKind.wrap_i64]; omega
 have hw2 : IntKind.i64.wrap ((n : Int) + 1) = (n : Int) + 1 := by rw [IntKind.wrap_i64]; omega
 have hw3 : IntKind.i64.wrap ((n : Int) + 1 - (p : Int)) = (n : Int) + 1 - (p : Int) := by rw [IntKind.wrap_i64]; omega
 have hb1 : (0 : Int) ≤ (p : Int) + 1 := by omega
 have htn : ((p : Int) + 1).toNat = p + 1 := by omega
 have hb2 : ¬ (G = p + 1) := by omega
 have hb2' : ¬ (G = p) := by omega
 have hb3 : (p : Int) ≤ (n : Int) + 1 := by omega
 have hb3' : (p : Int) ≤ (n : Int) := by omega
 have hb3c : (p : Int) ≤ (c : Int) := by omega
 have hb4 : ¬ (c = p) := by omega
 have hb5 : ¬ (p : Int) = (n : Int) := by omega
 have hb6 : (c : Int) < (n : Int) + 1 := by omega
 go_enter Tryz.func100, Tryz.ntmps100
 go_wp2_with (at_builtin; refine wpList_app rfl _ _ 24 3 rfl _ _ _ rfl rfl happ ?_)
 go_region
 go_wp2_with fail
 go_ret
 exact unhide HE
theorem insert_any (v : Value) (l : List Nat) (k p vb : Nat) (w : World) (hv : w.ownsRow 0 31 1 v l.length (ncells l)) (hx : w.heap[vb]? = some (.cells #[.int .u32 (k : Nat)] 31)) (hne : v.ownBlock ≠ some vb) (hp : p ≤ l.length) (hl : l.length ≤ 4294967296) :
  Calls Tryz.prog 100 #[v, .int .i64 (p : Nat), .slice (some ⟨vb, 0, none⟩) 1 1] w fun e w' => ∃ v', e = .returned v' ∧ w'.ownsRow 0 31 1 v' (l.length + 1) (ncells (l.take p ++ k :: l.drop p)) ∧ Fr (fun g => v.ownBlock = some g) w w' ∧ ∀ g, v'.ownBlock = some g → v.ownBlock = some g ∨ w.heap.size ≤ g := by
 rcases Nat.eq_or_lt_of_le hp with rfl | h1
 ·rw [List.take_length, List.drop_length]
  exact insert_end v l k vb w hv hx hl
 ·obtain ⟨g, c, rfl, hnc, _⟩ := hv.form (by omega)
  by_cases hr : l.length + 1 ≤ c
  ·refine (insert_room g c l k p vb w hv hx (fun e => hne (by rw [e]; rfl)) h1 hr).mono ?_
   rintro e w' ⟨rfl, h2, h3⟩
   exact ⟨_, rfl, h2, h3.mono (fun i _ hi => by rw [hi]; rfl), fun i hi => .inl hi⟩
  ·have hcl : l.length ≤ c := by
    rcases hv.2 with ⟨h, _⟩ | ⟨g', c', cur, h, _, _, hnc, _⟩
    ·cases h
    ·cases h; exact hnc
   refine (insert_grow g c l k p vb w hv hx h1 (by omega) hcl hl).mono ?_
   rintro e w' ⟨G, rfl, h2, h3⟩
   exact ⟨_, rfl, h2, h3.mono (fun i _ hi => hi.elim), fun i hi => .inr (by cases hi; exact Nat.le_refl _)⟩
theorem insN_pos {k : Nat} : ∀ {l : List Nat}, ¬ k ∈ l → insN k l = l.take (posN k l) ++ k :: l.drop (posN k l)
 | [], _ => rfl
 | x :: r, h => by
  have h1 : ¬ k = x := fun e => h (by simp [e])
  have h2 : ¬ k ∈ r := fun e => h (by simp [e])
  unfold insN posN
  by_cases hx : x < k
  ·rw [if_neg (by omega), if_neg h1, if_pos hx, insN_pos h2]
   rfl
  ·rw [if_pos (by omega), if_neg hx]
   rfl
theorem insN_in {k : Nat} : ∀ {l : List Nat}, k ∈ l → l.Pairwise (· < ·) → insN k l = l
 | [], h, _ => by cases h
 | x :: r, h, hp => by
  obtain ⟨h1, h2⟩ := List.pairwise_cons.1 hp
  unfold insN
  rcases List.mem_cons.1 h with rfl | h
  ·rw [if_neg (by omega), if_pos rfl]
  ·have := h1 k h
   rw [if_neg (by omega), if_neg (by omega), insN_in h h2]
set_option maxHeartbeats 1000000 in
set_option maxRecDepth 100000 in
theorem grant_any (g o n cap k : Nat) (xs : List Value) (gv : Value) (G : List Nat) (w : World) (hr : w.ownsRow 0 87 5 (.slice (some ⟨g, 0, none⟩) n cap) n xs) (ho : xs[o + 3]? = some gv) (hg : w.ownsRow 0 31 1 gv G.length (ncells G)) (hs : G.Pairwise (· < ·)) (hl : G.length ≤ 4294967296) :
  Calls Tryz.prog 87 #[.pointer (some ⟨g, o, none⟩), .int .u32 (k : Nat)] w fun e w' => e = .returned (.tuple #[]) ∧ ∃ gv', w'.ownsRow 0 87 5 (.slice (some ⟨g, 0, none⟩) n cap) n (xs.set (o + 3) gv') ∧ w'.ownsRow 0 31 1 gv' (insN k G).length (ncells (insN k G)) ∧ Fr (fun b => b = g ∨ gv.ownBlock = some b) w w' ∧ ∀ b, gv'.ownBlock = some b → gv.ownBlock = some b ∨ w.heap.size ≤ b := by
 have hlo : o + 3 < n * 5 := by
  have h1 := (List.getElem?_eq_some_iff.1 ho).1
  have h2 := hr.1
  omega
 have hc : w.cell? ⟨g, o + 3, none⟩ = some gv := (hr.cellAt (o + 3) hlo).trans ho
 have hz : w.frozen? ⟨g, o + 3, none⟩ = false := hr.frozenAt _
 have hgl : g < w.heap.size := lt_of_cell hc
 have HB := hide (bsearch_any gv G k w (own_us hg) hs (by omega))
 obtain ⟨xo, xc, hx⟩ := own_formX hg
 have HH := hide (And.intro hr (And.intro ho (And.intro hg hs)))
 by_cases hk : k ∈ G
 ·rw [decide_eq_true hk] at HB
  have HE := hide (insN_in hk hs)
  rw [hx] at hc HB
  clear hr ho hg hs hk
  go_enter Tryz.func87, Tryz.ntmps87
  go_wp2_with fail
  refine (unhide HB).mono ?_
  rintro e w' ⟨rfl, rfl⟩
  clear HB
  go_wp2_with fail
  go_end0
  obtain ⟨hr, ho, hg, hs⟩ := unhide HH
  refine ⟨rfl, gv, ?_, by rw [unhide HE]; exact hg, Fr.refl _ _, fun b hb => .inl hb⟩
  rw [show xs.set (o + 3) gv = xs from set_id ho]
  exact hr
 ·rw [decide_eq_false hk] at HB
  have HE := hide (insN_pos hk)
  have HI : Hid (Calls Tryz.prog 100 #[gv, .int .i64 ((posN k G : Nat) : Int), .slice (some ⟨w.heap.size, 0, none⟩) 1 1] (w.alloc (.cells #[.int .u32 (k : Nat)] 31)) fun e w' => ∃ v', e = .returned v' ∧ w'.ownsRow 0 31 1 v' (G.length + 1) (ncells (G.take (posN k G) ++ k :: G.drop (posN k G))) ∧ Fr (fun b => gv.ownBlock = some b) (w.alloc (.cells #[.int .u32 (k : Nat)] 31)) w' ∧ ∀ b, v'.ownBlock = some b → gv.ownBlock = some b ∨ (w.alloc (.cells #[.int .u32 (k : Nat)] 31)).heap.size ≤ b) := insert_any gv G k (posN k G) w.heap.size _ (hg.alloc _) Array.getElem?_push_size (fun e => by have := (hg.lt _ e).2; omega) (posN_le k G) hl
  obtain ⟨W1, hW1⟩ : ∃ W1, W1 = w.alloc (.cells #[.int .u32 (k : Nat)] 31) := ⟨_, rfl⟩
  have HF1 : Hid (Fr (fun _ => False) w W1) := by rw [hW1]; exact box1 w _
  generalize posN k G = p at *
  rw [hx] at hc HB HI
  rw [← hW1] at HI
  clear hr ho hg hs hk
  go_enter Tryz.func87, Tryz.ntmps87
  go_wp2_with fail
  refine (unhide HB).mono ?_
  rintro e w' ⟨rfl, hw⟩
  obtain rfl := hw.symm
  clear HB
  go_wp2_with fail
  rw [← hW1]
  clear hW1
  refine (unhide HI).mono ?_
  rintro e w2 ⟨v', rfl, h1, h2, h3⟩
  obtain ⟨xo2, xc2, rfl⟩ := own_formX h1
  have f2 : Fr (fun b => gv.ownBlock = some b) w w2 := ((unhide HF1).mono (fun _ _ h => h.elim)).trans (by rw [hx]; exact h2) (fun _ _ h => h)
  obtain ⟨hr, ho, hg, hs⟩ := unhide HH
  have hgn : ¬ gv.ownBlock = some g := fun e => own_ne hg hr (by decide) g e rfl
  have hbk := f2.block g hgl hgn
  have hr2 := ownsRow_of_block hr (fun b hb => by cases hb; exact hbk)
  have hlen : (insN k G).length = G.length + 1 := by rw [unhide HE]; simp; omega
  have H2 := hide (And.intro hr2 (And.intro (show w2.ownsRow 0 31 1 (.slice xo2 (G.length + 1) xc2) (insN k G).length (ncells (insN k G)) by rw [hlen, unhide HE]; exact h1) (And.intro f2 (show ∀ b, (Value.slice xo2 (G.length + 1) xc2).ownBlock = some b → gv.ownBlock = some b ∨ w.heap.size ≤ b from fun b hb => by
   rcases h3 b hb with h | h
   ·exact .inl (by rw [hx]; exact h)
   ·have := (unhide HF1).size
    exact .inr (by omega)))))
  have hc2 : w2.cell? ⟨g, o + 3, none⟩ = some (.slice xo G.length xc) := by rw [f2.cell (p := ⟨g, o + 3, none⟩) hgl hgn]; exact hc
  have hz2 : w2.frozen? ⟨g, o + 3, none⟩ = false := hr2.frozenAt _
  clear h1 h2 h3 f2 hr ho hg hs hgn hbk hr2 hlen hc hz
  go_wp2_with fail
  go_end0
  obtain ⟨hr2, h1, f2, h3⟩ := unhide H2
  obtain ⟨hr, ho, hg, hs⟩ := unhide HH
  refine ⟨rfl, _, own_set hr2 rfl (o + 3) _, ownsRow_of_block h1 (fun b hb => heap_setCell_other w2 ⟨g, o + 3, none⟩ b _ (fun e => ?_)), (f2.mono (fun b _ h => .inr h)).setCell (.inl (.inl rfl)) _, h3⟩
  subst e
  exact own_ne h1 hr2 (by decide) _ hb rfl
theorem break_end {w w2 w3 W8 : World} {b : Nat} {s : RM} {q : RW} {M : Nat → Prop} {r : RQ} {i : Nat} {c : CM} {g cap : Nat} {G' : List Nat} {gv' : Value} (h : RsAt w b s q M) (hc : s.C[i]? = some c) (hcv : q.cv = .slice (some ⟨g, 0, none⟩) s.C.length cap) (h2 : CB w w2 w.heap.size r)
  (r3 : w3.ownsRow 0 87 5 q.cv s.C.length ((ccells q 0 s.C).set (i * 5 + 3) gv')) (g3 : w3.ownsRow 0 31 1 gv' G'.length (ncells G')) (f3 : Fr (fun k => k = g ∨ (q.gv i).ownBlock = some k) w2 w3) (n3 : ∀ k, gv'.ownBlock = some k → (q.gv i).ownBlock = some k ∨ w2.heap.size ≤ k)
  (h8 : Fr (fun k => k = w.heap.size + 1) w3 W8) :
  RsTo w W8 b s ⟨s.S, s.C.set i ⟨c.wa, c.ow, c.sl, G', c.V⟩⟩ q M := by
 have hg : q.cv.ownBlock = some g := by rw [hcv]; rfl
 have hgl : g < w.heap.size := h.lt g (h.mc g hg)
 have hs2 : w.heap.size + 1 < w2.heap.size := lt_of_block h2.a
 have f28 : Fr (fun k => k = g ∨ (q.gv i).ownBlock = some k ∨ k = w.heap.size + 1) w2 W8 := (f3.mono (fun k _ hk => hk.imp id .inl)).trans h8 (fun _ _ h => .inr (.inr h))
 have f08 : Fr (fun k => q.cv.ownBlock = some k ∨ (q.gv i).ownBlock = some k ∨ (q.vv i).ownBlock = some k) w W8 := (h2.f.mono (fun _ _ h => h.elim)).trans f28 (fun k hk hx => by
  rcases hx with rfl | hx | hx
  ·exact .inl hg
  ·exact .inr (.inl hx)
  ·omega)
 have hch : W8.ownsRow 0 87 5 q.cv s.C.length ((ccells q 0 s.C).set (i * 5 + 3) gv') := ownsRow_of_block r3 (fun k hk => h8.block k (r3.lt k hk).2 (fun hx => by rw [hg] at hk; cases hk; omega))
 have hgl2 : ∀ k, (q.gv i).ownBlock = some k → k < w.heap.size := fun k hk => h.lt k (h.mg i c hc k hk)
 have hgr : W8.ownsRow 0 31 1 gv' G'.length (ncells G') := ownsRow_of_block g3 (fun k hk => h8.block k (g3.lt k hk).2 (fun hx => by
  rcases n3 k hk with h1 | h1
  ·have := hgl2 k h1; omega
  ·omega))
 have hve : W8.ownsRow 0 110 4 (q.vv i) c.V.length (vcells (q.fv i) 0 c.V) := ownsRow_of_block ((h.fr h2.f).ve i c hc) (fun k hk => f28.block k ((h.fr h2.f).lt k (h.mv i c hc k hk)) (fun hx => by
  rcases hx with rfl | hx | hx
  ·exact own_ne (h.ve i c hc) h.ch (by decide) k hk hg
  ·exact own_ne (h.ve i c hc) (h.gr i c hc) (by decide) k hk hx
  ·have := h.lt k (h.mv i c hc k hk); omega))
 have hSM : ∀ k, (q.cv.ownBlock = some k ∨ (q.gv i).ownBlock = some k ∨ (q.vv i).ownBlock = some k) → M k := fun k hk => by
  rcases hk with hk | hk | hk
  ·exact h.mc k hk
  ·exact h.mg i c hc k hk
  ·exact h.mv i c hc k hk
 have hgn : ∀ k, gv'.ownBlock = some k → (q.gv i).ownBlock = some k ∨ w.heap.size ≤ k := fun k hk => (n3 k hk).imp id (fun h => by omega)
 have hMM : ∀ k, (M k ∨ gv'.ownBlock = some k ∨ (q.vv i).ownBlock = some k) → M k ∨ w.heap.size ≤ k := fun k hk => by
  rcases hk with hk | hk | hk
  ·exact .inl hk
  ·rcases hgn k hk with h1 | h1
   ·exact .inl (h.mg i c hc k h1)
   ·exact .inr h1
  ·exact .inl (h.mv i c hc k hk)
 have hput := h.put hc ⟨c.wa, c.ow, c.sl, G', c.V⟩ gv' (q.vv i) (q.fv i) f08 (by rw [cput_g (c' := ⟨c.wa, c.ow, c.sl, G', c.V⟩) hc rfl rfl rfl]; exact hch) hgr hve (fun j v hv => (h.fl i c j v hc hv).more f08 hSM hMM) hgn (fun k hk => .inl hk)
 exact ⟨_, _, hput, hMM, fun k hk => (RW.uses_put hc _ _ _ _ hk).elim .inl (fun ⟨j, u, hu, ho⟩ => .inl (.inr ⟨i, c, j, u, hc, hu, ho⟩)), f08.mono (fun k _ hk => hSM k hk)⟩
set_option maxHeartbeats 4000000 in
set_option maxRecDepth 100000 in
theorem break_any (b : Nat) (s : RM) (q : RW) (M : Nat → Prop) (r : RQ) (xo : Option Addr) (xn xc : Nat) (place i : Nat) (c : CM) (w : World) (h : RsAt w b s q M) (hfv : r.fv = .slice xo xn xc) (hS : s.S.length ≤ 140737488355328) (hl : s.C.length ≤ 256) (hc : s.C[i]? = some c) (hrc : r.rc = i + 1) (hG : c.G.length ≤ 140737488355328) (hGs : c.G.Pairwise (· < ·)) (hGl : c.G.length ≤ 4294967296) :
  Calls Tryz.prog 63 #[.pointer (some ⟨b, 0, none⟩), r.v, .int .u32 (place : Nat)] w fun e w' => OpPost w b s q M 0 0 (s.break r c) e w' := by
 obtain ⟨W1, hW1⟩ : ∃ W1, W1 = (w.alloc (.cells r.cs 41)).alloc (.cells #[.int .u32 0, .int .u32 0, .int .u8 0, .int .u32 0, .int .u32 0, .slice none 0 0, .slice none 0 0] 45) := ⟨_, rfl⟩
 have hCB : CB w W1 w.heap.size r := by rw [hW1]; exact CB.new w r
 obtain ⟨g, ccap, hcv, _⟩ := h.chart hc
 obtain ⟨so, sc, hse⟩ := h.st.form
 obtain ⟨go, gc, hge⟩ := own_formX (h.gr i c hc)
 have HCt : Hid (∀ W, Fr (fun _ => False) w W → Calls Tryz.prog 72 #[.pointer (some ⟨b, 0, none⟩), .int .u32 (r.rc : Nat)] W fun e w' => e = .returned (.pointer (some ⟨g, i * 5, none⟩)) ∧ w' = W) := fun W hW => by rw [hrc]; exact chart_any b i c s q M W (h.fr hW) hc hl g ccap hcv
 have HSh : Hid (∀ W, Fr (fun _ => False) w W → Calls Tryz.prog 77 #[.pointer (some ⟨g, i * 5, none⟩)] W fun e w' => e = .returned (.agg #[.int .u32 (c.wa : Nat), .int .u32 (c.ow : Nat), .bool c.sl, .slice go c.G.length gc]) ∧ Fr (fun _ => False) W w') := fun W hW => by
  obtain ⟨g2, cc2, hcv2, k0, k1, k2, k3, k4, kz⟩ := (h.fr hW).chart hc
  rw [hcv] at hcv2
  cases hcv2
  rw [← hge]
  exact sheet_any g (i * 5) c.wa c.ow c.sl (q.gv i) go c.G.length gc W hge k0 k1 k2 k3
 have HP : Hid (∀ W, Fr (fun _ => False) w W → Calls Tryz.prog 86 #[.slice so s.S.length sc, .agg #[.int .u32 (c.wa : Nat), .int .u32 (c.ow : Nat), .bool c.sl, .slice go c.G.length gc], .int .u32 (r.ac : Nat), .string r.rs] W fun e w' => e = .returned (.int .u8 ((brCode s.S r.ac c r.rs : Nat) : Int)) ∧ Fr (fun _ => False) W w') := fun W hW => by
  rw [← hse, ← hge]
  exact pbreak_any q.sv s.S c.wa c.ow c.sl (q.gv i) c.G r.ac r.rs W ((h.fr hW).st) hS (own_us ((h.fr hW).gr i c hc)) hG
 have HSt : Hid (∀ W, Fr (fun _ => False) w W → W.cell? ⟨b, 0, none⟩ = some (.slice so s.S.length sc)) := fun W hW => by rw [← hse]; exact (h.fr hW).cells.1
 have HC := hide hCB
 have HH := hide h
 have HS : Hid (∀ W, CB w W w.heap.size r → W.cell? ⟨b, 0, none⟩ = some (.slice so s.S.length sc) ∧ W.cell? ⟨w.heap.size, 2, none⟩ = some (.int .u32 (r.ac : Nat)) ∧ W.cell? ⟨w.heap.size, 9, none⟩ = some (.string r.rs)) := fun W hW => ⟨(unhide HSt) W hW.f, hW.cells.2.2.1, hW.cells.2.2.2.2.2.2.2.2.2⟩
 have HR4 : Hid (∀ W, CB w W w.heap.size r → W.cell? ⟨w.heap.size, 4, none⟩ = some (.int .u32 (r.rc : Nat)) ∧ W.cell? ⟨w.heap.size, 5, none⟩ = some (.int .u32 (r.ve : Nat)) ∧ W.cell? ⟨w.heap.size, 2, none⟩ = some (.int .u32 (r.ac : Nat))) := fun W hW => ⟨hW.cells.2.2.2.2.1, hW.cells.2.2.2.2.2.1, hW.cells.2.2.1⟩
 have HRf : Hid (∀ (cd : Nat) W, Calls Tryz.prog 36 #[.int .u8 (cd : Nat)] W fun e w' => e = .returned (.agg #[.int .u32 0, .int .u32 0, .int .u8 (cd : Nat), .int .u32 0, .int .u32 0, .slice none 0 0, .slice none 0 0]) ∧ Fr (fun _ => False) W w') := fun cd W => refusal_any cd W
 have HE0 : Hid (brCode s.S r.ac c r.rs ≠ 0 → s.break r c = (s, RA.no (brCode s.S r.ac c r.rs))) := fun h => by simp [RM.break, h]
 have HE1 : Hid (brCode s.S r.ac c r.rs = 0 → s.break r c = (⟨s.S, s.C.set i ⟨c.wa, c.ow, c.sl, insN r.ac c.G, c.V⟩⟩, ⟨0, r.rc, 0, [], []⟩)) := fun h => by rw [RM.break, if_neg (by simp [h]), show r.rc - 1 = i by omega]
 generalize s.break r c = X at *
 generalize brCode s.S r.ac c r.rs = code at *
 have HGr : Hid (∀ W, CB w W w.heap.size r → Calls Tryz.prog 87 #[.pointer (some ⟨g, i * 5, none⟩), .int .u32 (r.ac : Nat)] W fun e w' => e = .returned (.tuple #[]) ∧ ((w'.heap[w.heap.size]? = some (.cells r.cs 41) ∧ w'.heap[w.heap.size + 1]? = some (.cells (AN.no 0).cs.toArray 45)) ∧ ∀ W8, Fr (fun k => k = w.heap.size + 1) w' W8 → RsTo w W8 b s ⟨s.S, s.C.set i ⟨c.wa, c.ow, c.sl, insN r.ac c.G, c.V⟩⟩ q M)) := fun W hW => by
  have hr := (h.fr hW.f).ch
  have hr' := hr
  rw [hcv] at hr'
  have hat := (ccells_at q s.C 0 i c hc).2.2.2.1
  rw [Nat.zero_add] at hat
  refine (grant_any g (i * 5) s.C.length ccap r.ac (ccells q 0 s.C) (q.gv i) c.G W hr' hat ((h.fr hW.f).gr i c hc) hGs hGl).mono ?_
  rintro e w3 ⟨rfl, gv', r3, g3, f3, n3⟩
  rw [← hcv] at r3
  have hgl : g < w.heap.size := h.lt g (h.mc g (by rw [hcv]; rfl))
  have hno : ∀ k, w.heap.size ≤ k → ¬ (k = g ∨ (q.gv i).ownBlock = some k) := fun k hk hx => by
   rcases hx with hx | hx
   ·omega
   ·have := h.lt k (h.mg i c hc k hx); omega
  refine ⟨rfl, ⟨(f3.block _ (lt_of_block hW.r) (hno _ (Nat.le_refl _))).trans hW.r, (f3.block _ (lt_of_block hW.a) (hno _ (by omega))).trans hW.a⟩, fun W8 h8 => break_end h hc hcv hW r3 g3 f3 n3 h8⟩
 clear hGs hGl
 obtain ⟨d3, d4, _⟩ := (unhide HR4) _ (unhide HC)
 simp only [RQ.v, RQ.cs] at *
 rw [hfv] at hW1 ⊢
 clear hCB h hse hge hc hrc hG
 go_enter Tryz.func63, Tryz.ntmps63
 go_wp2_with fail
 rw [← hW1]
 clear hW1
 go_wp2_with fail
 refine ((unhide HCt) _ (unhide HC).f).mono ?_
 rintro e w' ⟨rfl, rfl⟩
 clear d3 d4
 go_wp2_with fail
 go_region_held3 (fun W => W.cell? ⟨b, 0, none⟩ = some (.slice so s.S.length sc) ∧ W.cell? ⟨w.heap.size, 2, none⟩ = some (.int .u32 (r.ac : Nat)) ∧ W.cell? ⟨w.heap.size, 9, none⟩ = some (.string r.rs))
  (first | exact (unhide HS) _ ((unhide HC).step (Fr.refl _ _).drew) | exact (unhide HS) _ (unhide H1) | exact (unhide HS) _ (unhide H2))
  (first
   | (go_at_call 77; refine ((unhide HSh) _ ((unhide HC).step (Fr.refl _ _).drew).f).mono ?_; rintro e w1 ⟨rfl, hf1⟩; have H1 := hide (((unhide HC).step (Fr.refl _ _).drew).step hf1); clear hf1)
   | (go_at_call 86; refine ((unhide HP) _ (unhide H1).f).mono ?_; rintro e w2 ⟨rfl, hf2⟩; have H2 := hide ((unhide H1).step hf2); clear hf2))
 all_goals
  by_cases hz : code = 0
  ·subst hz
   obtain ⟨d3, _, d5⟩ := (unhide HR4) _ (unhide H2)
   have HX := hide ((unhide HE1) (by trivial))
   clear HRf HP HS HSt HC HCt HSh HR4 H1 HE0 HE1
   go_wp2_with fail
   refine ((unhide HGr) _ (unhide H2)).mono ?_
   rintro e w3 ⟨rfl, ⟨b3, a3⟩, hfin⟩
   have HFN := hide hfin
   have d4 : w3.cell? ⟨w.heap.size, 4, none⟩ = some (.int .u32 (r.rc : Nat)) := by simp only [World.cell?, b3]; rfl
   obtain ⟨e0, e1, e2, e3, e4, e5, e6, y0, y1, y2, y3, y4, y5, y6⟩ := ansc a3
   clear b3 a3 hfin d3 d5 HGr
   go_wp2_with fail
   refine bodyPost_ret (results_cell_mid rfl _ _ (w.heap.size + 1) 0 [.int .u32 0, .int .u32 0, .int .u8 0, .int .u32 (r.rc : Nat), .int .u32 0, .slice none 0 0, .slice none 0 0] _ rfl ?_ Tryz.underlying45 rfl (by kernel_rfl)) rfl ?_
   ·intro j v hv
    rcases j with _ | _ | _ | _ | _ | _ | _ | j
    ·simp at hv; subst hv; go_simp
    ·simp at hv; subst hv; go_simp
    ·simp at hv; subst hv; go_simp
    ·simp at hv; subst hv; go_simp
    ·simp at hv; subst hv; go_simp
    ·simp at hv; subst hv; go_simp
    ·simp at hv; subst hv; go_simp
    ·simp at hv
   ·rw [unhide HX]; exact OpPost.put rfl ((unhide HFN) _ (set7_fr _ _ _ _ _ _ _ _ _))
  ·have hc' : ((code : Int) != 0) = true := by rw [bne_iff_ne]; omega
   have HX := hide ((unhide HE0) hz)
   clear HP HS HSt HC HCt HSh HR4 H1 HGr HE0 HE1
   go_wp2_with fail
   refine ((unhide HRf) code _).mono ?_
   rintro e w3 ⟨rfl, hf3⟩
   have h3 := (unhide H2).step hf3
   obtain ⟨e0, e1, e2, e3, e4, e5, e6, z0, z1, z2, z3, z4, z5, z6⟩ := h3.ans
   have H3 := hide h3.f
   clear h3 hf3
   go_wp2_with fail
   (try simp only [Exit.inBlock, Exit.then])
   refine bodyPost_ret (results_cell_mid rfl _ _ (w.heap.size + 1) 0 [.int .u32 0, .int .u32 0, .int .u8 ((code : Nat) : Int), .int .u32 0, .int .u32 0, .slice none 0 0, .slice none 0 0] _ rfl ?_ Tryz.underlying45 rfl (by kernel_rfl)) rfl ?_
   ·intro j v hv
    rcases j with _ | _ | _ | _ | _ | _ | _ | j
    ·simp at hv; subst hv; go_simp
    ·simp at hv; subst hv; go_simp
    ·simp at hv; subst hv; go_simp
    ·simp at hv; subst hv; go_simp
    ·simp at hv; subst hv; go_simp
    ·simp at hv; subst hv; go_simp
    ·simp at hv; subst hv; go_simp
    ·simp at hv
   ·rw [unhide HX]; refine OpPost.no rfl ?_
    repeat refine Fr.setCell ?_ (.inr (by simp)) _
    exact unhide H3
theorem scells_app (l : List SM) (x : SM) : scells (l ++ [x]) = scells l ++ [.int .u32 (x.au : Nat), .int .u32 (x.ev : Nat), .int .u32 (x.nf : Nat), .bool x.rd] := by simp [scells]
theorem Tryz.infoSu : (Tryz.prog.info? 83).map (fun i => (i.zero, i.size, i.bytes)) = some (some (.agg #[.int .u32 0, .int .u32 0, .int .u32 0, .bool false]), 4, 16) := by kernel_rfl
theorem app_sum (w : World) (base x : Nat) (v : Value) (l : List SM) (y : SM) (h : OwS w base v l) (hb : base ≤ w.heap.size) (hn : l.length ≤ 1000000) (hx : w.heap[x]? = some (.cells #[.int .u32 (y.au : Nat), .int .u32 (y.ev : Nat), .int .u32 (y.nf : Nat), .bool y.rd] 83)) :
  ∃ ao cap w', (Builtin.append_ #[43, 43] 43 #[v, .slice (some ⟨x, 0, none⟩) 1 1]).run Tryz.prog w = .ok (.slice ao (l.length + 1) cap) w' ∧ OwS w' base (.slice ao (l.length + 1) cap) (l ++ [y]) ∧ Fr (fun g => v.ownBlock = some g) w w' := by
 obtain ⟨i0, hi, hz0, hz1, hz2⟩ := info_parts Tryz.infoSu
 obtain ⟨v', w', hr, h2, h3, _, h5⟩ := run_append_own_at (P := Tryz.prog) (w := w) base 43 43 83 i0 (.agg #[.int .u32 0, .int .u32 0, .int .u32 0, .bool false]) 4 16 Tryz.underlying43 hi hz0 hz1 hz2 rfl (by decide) v l.length (scells l) h ⟨x, 0, none⟩ 1 1 [.int .u32 (y.au : Nat), .int .u32 (y.ev : Nat), .int .u32 (y.nf : Nat), .bool y.rd] rfl (fun j u hu => by
  rw [addr_add, Nat.zero_add]
  simp only [World.cell?, hx]
  simpa using hu) (fun u hu => by simp at hu; rcases hu with rfl | rfl | rfl | rfl <;> rfl) (by simp only [maxLen]; omega) (by omega) hb
 obtain ⟨ao, cap, rfl⟩ := own_formX h2
 refine ⟨ao, cap, w', hr, ?_, (Fr.refl _ _).grown h3 (fun g hg => .inl hg)⟩
 unfold OwS
 rw [scells_app, List.length_append, List.length_singleton]
 exact h2
set_option maxHeartbeats 1000000 in
set_option maxRecDepth 100000 in
theorem summary_any (au ev : Nat) (rd : Bool) (xo : Option Addr) (n xc : Nat) (w : World) (hn : n ≤ 1000) : Calls Tryz.prog 84 #[.agg #[.int .u32 (au : Nat), .int .u32 (ev : Nat), .slice xo n xc, .bool rd]] w fun e w' => e = .returned (.agg #[.int .u32 (au : Nat), .int .u32 (ev : Nat), .int .u32 (n : Nat), .bool rd]) ∧ Fr (fun _ => False) w w' := by
 have a2 : IntKind.u32.wrap (n : Int) = (n : Int) := by rw [IntKind.wrap_u32]; omega
 obtain ⟨W1, hW1⟩ : ∃ W1, W1 = (w.alloc (.cells #[.int .u32 (au : Nat), .int .u32 (ev : Nat), .slice xo n xc, .bool rd] 110)).alloc (.cells #[.int .u32 0, .int .u32 0, .int .u32 0, .bool false] 83) := ⟨_, rfl⟩
 have HF : Hid (Fr (fun _ => False) w W1) := by rw [hW1]; exact (box1 w _).trans (box1 _ _) (fun _ _ h => h)
 go_enter Tryz.func84, Tryz.ntmps84
 go_wp2_with fail
 refine bodyPost_ret (results_cell_mid rfl _ _ (w.heap.size + 1) 0 [.int .u32 (au : Nat), .int .u32 (ev : Nat), .int .u32 (n : Nat), .bool rd] _ rfl ?_ Tryz.underlying83 rfl (by kernel_rfl)) rfl ?_
 ·intro j v hv
  rcases j with _ | _ | _ | _ | j
  ·simp at hv; subst hv; go_simp
  ·simp at hv; subst hv; go_simp
  ·simp at hv; subst hv; go_simp
  ·simp at hv; subst hv; go_simp
  ·simp at hv
 ·refine ⟨rfl, ?_⟩
  repeat refine Fr.setCell ?_ (.inr (by simp)) _
  exact (box1 w _).trans (box1 _ _) (fun _ _ h => h)
theorem blk7 {W : World} {g t : Nat} {a0 a1 a2 a3 a4 a5 a6 : Value} (hb : W.heap[g]? = some (.cells #[a0, a1, a2, a3, a4, a5, a6] t)) : W.cell? ⟨g, 0, none⟩ = some a0 ∧ W.cell? ⟨g, 1, none⟩ = some a1 ∧ W.cell? ⟨g, 2, none⟩ = some a2 ∧ W.cell? ⟨g, 3, none⟩ = some a3 ∧ W.cell? ⟨g, 4, none⟩ = some a4 ∧ W.cell? ⟨g, 5, none⟩ = some a5 ∧ W.cell? ⟨g, 6, none⟩ = some a6 := by
 refine ⟨?_, ?_, ?_, ?_, ?_, ?_, ?_⟩ <;> (simp only [World.cell?, hb]; rfl)
structure HI (w wr : World) (r : RQ) (c : CM) (z k : Nat) (hv : Value) : Prop where
 cb : CB w wr w.heap.size r
 zb : wr.heap[z]? = some (.cells #[.int .u32 0, .int .u32 0, .int .u8 0, .int .u32 (r.rc : Nat), .int .u32 (c.V.length : Nat), .slice none 0 0, hv] 45)
 o : OwS wr (z + 1) hv ((c.V.take k).map VM.sum)
 n : w.heap.size + 1 < z
theorem HI.step {w wr W : World} {r : RQ} {c : CM} {z k : Nat} {hv : Value} (h : HI w wr r c z k hv) (hf : Fr (fun _ => False) wr W) : HI w W r c z k hv :=
 ⟨h.cb.step hf, (hf.block z (lt_of_block h.zb) (fun h => h)).trans h.zb, ownsRow_of_block h.o (fun g hg => hf.block g (h.o.lt g hg).2 (fun h => h)), h.n⟩
theorem HI.next {w Wd w7 : World} {r : RQ} {c : CM} {z k : Nat} {hv nv : Value} {v : VM} (h : HI w Wd r c z k hv) (hf : Fr (fun g => hv.ownBlock = some g) Wd w7) (ho : OwS w7 (z + 1) nv ((c.V.take k).map VM.sum ++ [v.sum])) (hk : c.V[k]? = some v) :
  w7.cell? ⟨z, 6, none⟩ = some hv ∧ w7.frozen? ⟨z, 6, none⟩ = false ∧ HI w (w7.setCell ⟨z, 6, none⟩ nv) r c z (k + 1) nv := by
 have hno : ∀ g, g ≤ z → ¬ hv.ownBlock = some g := fun g hg e => by have := (h.o.lt g e).1; omega
 have hn := h.n
 have hsz := h.cb.n
 have z7 := (hf.block z (lt_of_block h.zb) (hno z (Nat.le_refl _))).trans h.zb
 have r7 := (hf.block w.heap.size (lt_of_block h.cb.r) (hno _ (by omega))).trans h.cb.r
 have a7 := (hf.block (w.heap.size + 1) (lt_of_block h.cb.a) (hno _ (by omega))).trans h.cb.a
 refine ⟨by simp only [World.cell?, z7]; rfl, by simp [World.frozen?, z7], ⟨⟨(heap_setCell_other w7 ⟨z, 6, none⟩ _ nv (by show w.heap.size ≠ z; omega)).trans r7, (heap_setCell_other w7 ⟨z, 6, none⟩ _ nv (by show w.heap.size + 1 ≠ z; omega)).trans a7, (h.cb.f.absorb hf (fun i hi => by have := (h.o.lt i hi).1; omega)).setCell (.inr (by show w.heap.size ≤ z; omega)) _, Nat.le_refl _⟩, heap_setCell_same w7 z 6 _ _ nv z7, ?_, hn⟩⟩
 have e : (c.V.take (k + 1)).map VM.sum = (c.V.take k).map VM.sum ++ [v.sum] := by rw [List.take_add_one, hk]; simp
 rw [e]
 exact ownsRow_of_block ho (fun g hg => heap_setCell_other w7 ⟨z, 6, none⟩ g nv (by have := (ho.lt g hg).1; show g ≠ z; omega))
theorem HI.end_ {w wr W8 : World} {r : RQ} {c : CM} {z : Nat} {hv : Value} (h : HI w wr r c z c.V.length hv) (h8 : Fr (fun k => k = w.heap.size + 1) wr W8) (b : Nat) (s : RM) (q : RW) (M : Nat → Prop) : OpD w b s q M (s, ⟨0, r.rc, c.V.length, [], c.V.map VM.sum⟩) (.slice none 0 0) hv W8 := by
 have hn := h.n
 have ho := h.o
 rw [List.take_length] at ho
 exact .inl ⟨rfl, h.cb.f.absorb h8 (fun i hi => by omega), World.ownsRow_nil _ _ _ _, ownsRow_base (ownsRow_of_block ho (fun g hg => h8.block g (ho.lt g hg).2 (fun hk => by have := (ho.lt g hg).1; omega))) (by omega)⟩
set_option linter.unusedSimpArgs false in
set_option maxHeartbeats 4000000 in
set_option maxRecDepth 100000 in
theorem history_any (b : Nat) (s : RM) (q : RW) (M : Nat → Prop) (r : RQ) (xo : Option Addr) (xn xc : Nat) (place i : Nat) (c : CM) (w : World) (h : RsAt w b s q M) (hfv : r.fv = .slice xo xn xc) (hS : s.S.length ≤ 140737488355328) (hl : s.C.length ≤ 256) (hc : s.C[i]? = some c) (hrc : r.rc = i + 1) (hG : c.G.length ≤ 140737488355328) (hV : c.V.length ≤ 64) (hVF : ∀ v ∈ c.V, v.F.length ≤ 1000) :
  Calls Tryz.prog 61 #[.pointer (some ⟨b, 0, none⟩), r.v, .int .u32 (place : Nat)] w fun e w' => OpPost w b s q M 0 0 (s.history r c) e w' := by
 obtain ⟨W1, hW1⟩ : ∃ W1, W1 = (w.alloc (.cells r.cs 41)).alloc (.cells #[.int .u32 0, .int .u32 0, .int .u8 0, .int .u32 0, .int .u32 0, .slice none 0 0, .slice none 0 0] 45) := ⟨_, rfl⟩
 have hCB : CB w W1 w.heap.size r := by rw [hW1]; exact CB.new w r
 obtain ⟨g, ccap, hcv, _⟩ := h.chart hc
 obtain ⟨so, sc, hse⟩ := h.st.form
 obtain ⟨go, gc, hge⟩ := own_formX (h.gr i c hc)
 have HCt : Hid (∀ W, Fr (fun _ => False) w W → Calls Tryz.prog 72 #[.pointer (some ⟨b, 0, none⟩), .int .u32 (r.rc : Nat)] W fun e w' => e = .returned (.pointer (some ⟨g, i * 5, none⟩)) ∧ w' = W) := fun W hW => by rw [hrc]; exact chart_any b i c s q M W (h.fr hW) hc hl g ccap hcv
 have HSh : Hid (∀ W, Fr (fun _ => False) w W → Calls Tryz.prog 77 #[.pointer (some ⟨g, i * 5, none⟩)] W fun e w' => e = .returned (.agg #[.int .u32 (c.wa : Nat), .int .u32 (c.ow : Nat), .bool c.sl, .slice go c.G.length gc]) ∧ Fr (fun _ => False) W w') := fun W hW => by
  obtain ⟨g2, cc2, hcv2, k0, k1, k2, k3, k4, kz⟩ := (h.fr hW).chart hc
  rw [hcv] at hcv2
  cases hcv2
  rw [← hge]
  exact sheet_any g (i * 5) c.wa c.ow c.sl (q.gv i) go c.G.length gc W hge k0 k1 k2 k3
 have HP : Hid (∀ W, Fr (fun _ => False) w W → Calls Tryz.prog 83 #[.slice so s.S.length sc, .agg #[.int .u32 (c.wa : Nat), .int .u32 (c.ow : Nat), .bool c.sl, .slice go c.G.length gc], .int .u32 (r.ac : Nat)] W fun e w' => e = .returned (.int .u8 ((hiCode s.S r.ac c : Nat) : Int)) ∧ Fr (fun _ => False) W w') := fun W hW => by
  rw [← hse, ← hge]
  exact phistory_any q.sv s.S c.wa c.ow c.sl (q.gv i) c.G r.ac W ((h.fr hW).st) hS (own_us ((h.fr hW).gr i c hc)) hG
 have HSt : Hid (∀ W, Fr (fun _ => False) w W → W.cell? ⟨b, 0, none⟩ = some (.slice so s.S.length sc)) := fun W hW => by rw [← hse]; exact (h.fr hW).cells.1
 have HC := hide hCB
 have HH := hide h
 have HS : Hid (∀ W, CB w W w.heap.size r → W.cell? ⟨b, 0, none⟩ = some (.slice so s.S.length sc) ∧ W.cell? ⟨w.heap.size, 2, none⟩ = some (.int .u32 (r.ac : Nat))) := fun W hW => ⟨(unhide HSt) W hW.f, hW.cells.2.2.1⟩
 have HR4 : Hid (∀ W, CB w W w.heap.size r → W.cell? ⟨w.heap.size, 4, none⟩ = some (.int .u32 (r.rc : Nat)) ∧ W.cell? ⟨w.heap.size, 5, none⟩ = some (.int .u32 (r.ve : Nat)) ∧ W.cell? ⟨w.heap.size, 2, none⟩ = some (.int .u32 (r.ac : Nat))) := fun W hW => ⟨hW.cells.2.2.2.2.1, hW.cells.2.2.2.2.2.1, hW.cells.2.2.1⟩
 have HRf : Hid (∀ (cd : Nat) W, Calls Tryz.prog 36 #[.int .u8 (cd : Nat)] W fun e w' => e = .returned (.agg #[.int .u32 0, .int .u32 0, .int .u8 (cd : Nat), .int .u32 0, .int .u32 0, .slice none 0 0, .slice none 0 0]) ∧ Fr (fun _ => False) W w') := fun cd W => refusal_any cd W
 have HE0 : Hid (hiCode s.S r.ac c ≠ 0 → s.history r c = (s, RA.no (hiCode s.S r.ac c))) := fun h => by simp [RM.history, h]
 have HE1 : Hid (hiCode s.S r.ac c = 0 → s.history r c = (s, ⟨0, r.rc, c.V.length, [], c.V.map VM.sum⟩)) := fun h => by simp [RM.history, h]
 generalize s.history r c = X at *
 generalize hiCode s.S r.ac c = code at *
 obtain ⟨vo, vc, hve0⟩ := own_formX (h.ve i c hc)
 have HV4 : Hid (∀ W, Fr (fun _ => False) w W → W.cell? ⟨g, i * 5 + 4, none⟩ = some (.slice vo c.V.length vc)) := fun W hW => by
  obtain ⟨g2, cc2, hcv2, k0, k1, k2, k3, k4, kz⟩ := (h.fr hW).chart hc
  rw [hcv] at hcv2
  cases hcv2
  rw [← hve0]
  exact k4
 have HLa : Hid (∀ W, Fr (fun _ => False) w W → Calls Tryz.prog 74 #[.pointer (some ⟨g, i * 5, none⟩)] W fun e w' => e = .returned (.int .u32 (c.V.length : Nat)) ∧ w' = W) := fun W hW => last_any g (i * 5) c.V.length vo vc W ((unhide HV4) W hW) (by omega)
 have HVk : Hid (∀ k v, c.V[k]? = some v → ∃ vg xo2 xc2, vo = some ⟨vg, 0, none⟩ ∧ v.F.length ≤ 1000 ∧ vg < w.heap.size ∧ ∀ W, Fr (fun _ => False) w W → W.cell? ⟨vg, k * 4, none⟩ = some (.int .u32 (v.au : Nat)) ∧ W.cell? ⟨vg, k * 4 + 1, none⟩ = some (.int .u32 (v.ev : Nat)) ∧ W.cell? ⟨vg, k * 4 + 2, none⟩ = some (.slice xo2 v.F.length xc2) ∧ W.cell? ⟨vg, k * 4 + 3, none⟩ = some (.bool v.rd)) := fun k v hv => by
  obtain ⟨vg, cc2, e1, _⟩ := h.version hc hv
  obtain ⟨xo2, xc2, ex⟩ := (h.fl i c k v hc hv).f.form
  have e2 := hve0
  rw [e1] at e2
  cases e2
  refine ⟨vg, xo2, xc2, rfl, hVF v (List.mem_of_getElem? hv), h.lt vg (h.mv i c hc vg (by rw [e1]; rfl)), fun W hW => ?_⟩
  obtain ⟨vg3, cc3, e3, k0, k1, k2, k3, kz⟩ := (h.fr hW).version hc hv
  rw [e1] at e3
  cases e3
  rw [← ex]
  exact ⟨k0, k1, k2, k3⟩
 clear hve0 hVF
 obtain ⟨d3, d4, _⟩ := (unhide HR4) _ (unhide HC)
 simp only [RQ.v, RQ.cs] at *
 rw [hfv] at hW1 ⊢
 clear hCB h hse hge hc hrc hG
 go_enter Tryz.func61, Tryz.ntmps61
 go_wp2_with fail
 rw [← hW1]
 clear hW1
 go_wp2_with fail
 refine ((unhide HCt) _ (unhide HC).f).mono ?_
 rintro e w' ⟨rfl, rfl⟩
 clear d3 d4
 go_wp2_with fail
 go_region_held3 (fun W => W.cell? ⟨b, 0, none⟩ = some (.slice so s.S.length sc) ∧ W.cell? ⟨w.heap.size, 2, none⟩ = some (.int .u32 (r.ac : Nat)))
  (first | exact (unhide HS) _ ((unhide HC).step (Fr.refl _ _).drew) | exact (unhide HS) _ (unhide H1) | exact (unhide HS) _ (unhide H2))
  (first
   | (go_at_call 77; refine ((unhide HSh) _ ((unhide HC).step (Fr.refl _ _).drew).f).mono ?_; rintro e w1 ⟨rfl, hf1⟩; have H1 := hide (((unhide HC).step (Fr.refl _ _).drew).step hf1); clear hf1)
   | (go_at_call 83; refine ((unhide HP) _ (unhide H1).f).mono ?_; rintro e w2 ⟨rfl, hf2⟩; have H2 := hide ((unhide H1).step hf2); clear hf2))
 all_goals
  clear HP HS HSt HC HCt HSh H1
  by_cases hz : code = 0
  ·subst hz
   have HX := hide ((unhide HE1) (by trivial))
   have HS5 : Hid (∀ W, CB w W w.heap.size r → W.cell? ⟨w.heap.size, 4, none⟩ = some (.int .u32 (r.rc : Nat))) := fun W hW => ((unhide HR4) W hW).1
   clear HE0 HE1 HRf HR4
   obtain ⟨W5, hst5, hb5, hf5⟩ := ans_put (W := w2.drew.alloc (.cells #[.int .u32 0, .int .u32 0, .int .u8 0, .int .u32 0, .int .u32 0, .slice none 0 0, .slice none 0 0] 45)) (g := w2.heap.size) Array.getElem?_push_size (.int .u32 0) (.int .u32 0) (.int .u8 0) (.int .u32 (r.rc : Nat)) (.int .u32 (c.V.length : Nat)) (.slice none 0 0) (.slice none 0 0) (fun u hu => by simp at hu; rcases hu with rfl | rfl | rfl | rfl | rfl | rfl | rfl <;> rfl)
   have HST := hide hst5
   have hsz2 : w.heap.size + 1 < w2.heap.size := lt_of_block (unhide H2).a
   have f25 : Fr (fun _ => False) w2 W5 := ((Fr.refl (fun _ => False) w2).drew.alloc _).absorb hf5 (fun i hi => by omega)
   obtain ⟨z, hzz⟩ : ∃ z, z = w2.heap.size := ⟨_, rfl⟩
   have HI0 : Hid (HI w W5 r c z 0 (.slice none 0 0)) := by
    rw [hzz]
    exact ⟨(unhide H2).step f25, hb5, World.ownsRow_nil _ _ _ _, hsz2⟩
   clear hst5 hb5 hf5 hsz2 f25
   go_wp2_with fail
   refine wp_region_last (n := 6) (m := 6) (S := (fun W => W.cell? ⟨w.heap.size, 4, none⟩ = some (.int .u32 (r.rc : Nat)))) (by kernel_rfl) rfl rfl rfl (by kernel_rfl) (by kernel_rfl) ((unhide HS5) _ ((unhide H2).step (Fr.refl _ _).drew)) (fun hHeld => ?_)
   refine wtk2 (i := 0) rfl hHeld ?_
   (try simp only [Act.put, nrm])
   refine wtk2 (i := 1) rfl hHeld ?_
   (try simp only [Act.put, nrm])
   refine wtk2 (i := 2) rfl hHeld ?_
   (try simp only [Act.put, nrm])
   refine wpAnyH_ready (rs := [3, 5]) (by kernel_rfl) (by simp) (AllReadyH.cons rfl (fun K hK => ?_) (AllReadyH.cons rfl (fun K hK => ?_) AllReadyH.nil))
   focus
    go_simp
    refine ((unhide HLa) _ (((unhide H2).step (Fr.refl _ _).drew)).f).mono ?_
    rintro e w' ⟨rfl, hw⟩
    obtain rfl := hw.symm
    clear hw
    go_simp
    refine hK.out _ _ ((unhide HS5) _ ((unhide H2).step (Fr.refl _ _).drew)) (fun hHeld => ?_)
    clear hK K
    (try simp only [Act.put, nrm])
    refine wtk2 (i := 4) rfl hHeld ?_
    (try simp only [Act.put, nrm])
    refine wpAnyH_ready (rs := [5]) (by kernel_rfl) (by simp) (AllReadyH.cons rfl (fun K hK => ?_) AllReadyH.nil)
    go_simp
    refine hK.out _ _ ((unhide HS5) _ ((unhide H2).step ((Fr.refl _ _).drew.alloc _))) (fun hHeld => ?_)
    clear hK K
    (try simp only [Act.put, nrm])
    refine wpAnyH_done (by kernel_rfl) ?_ _
    simp only [lastQ]
    refine wp_stN 45 (.tmp 9) (.tmp 33) rfl _ _ (by simp [Act.eval]) (by simp [Act.eval]) (unhide HST) ?_
    (try simp only [Act.put, nrm])
   rotate_left
   focus
    go_simp
    refine hK.out _ _ ((unhide HS5) _ ((unhide H2).step ((Fr.refl _ _).drew.alloc _))) (fun hHeld => ?_)
    clear hK K
    (try simp only [Act.put, nrm])
    refine wpAnyH_ready (rs := [3]) (by kernel_rfl) (by simp) (AllReadyH.cons rfl (fun K hK => ?_) AllReadyH.nil)
    go_simp
    refine ((unhide HLa) _ (((unhide H2).step ((Fr.refl _ _).drew.alloc _))).f).mono ?_
    rintro e w' ⟨rfl, hw⟩
    obtain rfl := hw.symm
    clear hw
    go_simp
    refine hK.out _ _ ((unhide HS5) _ ((unhide H2).step ((Fr.refl _ _).drew.alloc _))) (fun hHeld => ?_)
    clear hK K
    (try simp only [Act.put, nrm])
    refine wtk2 (i := 4) rfl hHeld ?_
    (try simp only [Act.put, nrm])
    refine wpAnyH_done (by kernel_rfl) ?_ _
    simp only [lastQ]
    refine wp_stN 45 (.tmp 9) (.tmp 33) rfl _ _ (by simp [Act.eval]) (by simp [Act.eval]) (unhide HST) ?_
    (try simp only [Act.put, nrm])
   all_goals
    have hv4 := (unhide HV4) _ (unhide HI0).cb.f
    rw [← hzz]
    clear HST HS5 HLa hzz
    go_wp2_with fail
    go_loopw [39] (fun kv wr => ∃ k : Nat, k ≤ c.V.length ∧ kv = .int .i64 (k : Nat) ∧ ∃ hv, HI w wr r c z k hv) (fun kv _ => c.V.length - (intOf kv).toNat)
    case atStart => exact ⟨0, Nat.zero_le _, rfl, _, unhide HI0⟩
    case round =>
     obtain ⟨k, hk, rfl, hv, hi⟩ := hrel
     have HIk := hide hi
     by_cases hlt : k < c.V.length
     ·obtain ⟨v, hvk⟩ : ∃ v, c.V[k]? = some v := ⟨c.V[k], List.getElem?_eq_getElem hlt⟩
      obtain ⟨vg, xo2, xc2, rfl, hfl, hvgl, hcells⟩ := (unhide HVk) k v hvk
      obtain ⟨v0, v1, v2, v3⟩ := hcells _ hi.cb.f
      have HVK := hide hvk
      have hkl : (k : Int) < (c.V.length : Int) := by omega
      obtain ⟨W8, hW8⟩ : ∃ W8, W8 = wr.alloc (.cells #[.int .u32 (v.au : Nat), .int .u32 (v.ev : Nat), .slice xo2 v.F.length xc2, .bool v.rd] 110) := ⟨_, rfl⟩
      obtain ⟨zb, hzb⟩ : ∃ zb, zb = wr.heap.size := ⟨_, rfl⟩
      obtain ⟨ho4, hc4, hhv⟩ := own_formX hi.o
      obtain ⟨nk, hnk⟩ : ∃ nk, nk = ((c.V.take k).map VM.sum).length := ⟨_, rfl⟩
      rw [← hnk] at hhv
      have HI8 : Hid (HI w W8 r c z k (.slice ho4 nk hc4)) := by rw [hW8, ← hhv]; exact hi.step (box1 wr _)
      have HB8 : Hid (W8.heap[zb]? = some (.cells #[.int .u32 (v.au : Nat), .int .u32 (v.ev : Nat), .slice xo2 v.F.length xc2, .bool v.rd] 110)) := by rw [hW8, hzb]; exact Array.getElem?_push_size
      have HS9 : Hid (∀ W, Fr (fun _ => False) W8 W → W.cell? ⟨z, 6, none⟩ = some (.slice ho4 nk hc4) ∧ W.cell? ⟨zb, 0, none⟩ = some (.int .u32 (v.au : Nat)) ∧ W.cell? ⟨zb, 1, none⟩ = some (.int .u32 (v.ev : Nat)) ∧ W.cell? ⟨zb, 2, none⟩ = some (.slice xo2 v.F.length xc2) ∧ W.cell? ⟨zb, 3, none⟩ = some (.bool v.rd)) := fun W hW => by
       have e2 := (hW.block zb (lt_of_block (unhide HB8)) (fun h => h)).trans (unhide HB8)
       exact ⟨(blk7 ((unhide HI8).step hW).zb).2.2.2.2.2.2, (blk4 e2).1.1, (blk4 e2).1.2.1, (blk4 e2).1.2.2.1, (blk4 e2).1.2.2.2⟩
      have HSm : Hid (∀ W, Calls Tryz.prog 84 #[.agg #[.int .u32 (v.au : Nat), .int .u32 (v.ev : Nat), .slice xo2 v.F.length xc2, .bool v.rd]] W fun e w' => e = .returned (.agg #[.int .u32 (v.au : Nat), .int .u32 (v.ev : Nat), .int .u32 (v.F.length : Nat), .bool v.rd]) ∧ Fr (fun _ => False) W w') := fun W => summary_any v.au v.ev v.rd xo2 v.F.length xc2 W hfl
      have HAP : Hid (∀ w3, Fr (fun _ => False) W8 w3 → ∃ ao7 cap7 w7, (Builtin.append_ #[43, 43] 43 #[.slice ho4 nk hc4, .slice (some ⟨w3.heap.size, 0, none⟩) 1 1]).run Tryz.prog (w3.alloc (.cells #[.int .u32 (v.au : Nat), .int .u32 (v.ev : Nat), .int .u32 (v.F.length : Nat), .bool v.rd] 83)) = .ok (.slice ao7 (nk + 1) cap7) w7 ∧ (w7.cell? ⟨z, 6, none⟩ = some (.slice ho4 nk hc4) ∧ w7.cell? ⟨zb, 0, none⟩ = some (.int .u32 (v.au : Nat)) ∧ w7.cell? ⟨zb, 1, none⟩ = some (.int .u32 (v.ev : Nat)) ∧ w7.cell? ⟨zb, 2, none⟩ = some (.slice xo2 v.F.length xc2) ∧ w7.cell? ⟨zb, 3, none⟩ = some (.bool v.rd)) ∧ w7.frozen? ⟨z, 6, none⟩ = false ∧ HI w (w7.setCell ⟨z, 6, none⟩ (.slice ao7 (nk + 1) cap7)) r c z (k + 1) (.slice ao7 (nk + 1) cap7)) := fun w3 hw3 => by
       have hd := ((unhide HI8).step hw3).step (box1 w3 (.cells #[.int .u32 (v.au : Nat), .int .u32 (v.ev : Nat), .int .u32 (v.F.length : Nat), .bool v.rd] 83))
       have hl : ((c.V.take k).map VM.sum).length ≤ 1000000 := by simp; omega
       have hzl := lt_of_block hd.zb
       obtain ⟨ao7, cap7, w7, hr7, ho7, hf7⟩ := app_sum _ (z + 1) w3.heap.size (.slice ho4 nk hc4) _ v.sum hd.o (by omega) hl Array.getElem?_push_size
       rw [← hnk] at hr7 ho7
       obtain ⟨c7, z7, hi7⟩ := hd.next hf7 ho7 (unhide HVK)
       have e2 := ((hw3.trans (box1 w3 (.cells #[.int .u32 (v.au : Nat), .int .u32 (v.ev : Nat), .int .u32 (v.F.length : Nat), .bool v.rd] 83)) (fun _ _ h => h)).block zb (lt_of_block (unhide HB8)) (fun h => h)).trans (unhide HB8)
       have e7 := (hf7.block zb (lt_of_block e2) (fun hx => blk_ne hd.o e2 (by decide) hx)).trans e2
       exact ⟨ao7, cap7, w7, hr7, ⟨c7, (blk4 e7).1.1, (blk4 e7).1.2.1, (blk4 e7).1.2.2.1, (blk4 e7).1.2.2.2⟩, z7, hi7⟩
      clear hi hvk hcells hhv hnk hfl HI0 hv4 HIk
      go_wp2_with fail
      rw [← hW8, ← hzb]
      clear hW8 hzb v0 v1 v2 v3
      refine wp_region_last (n := 7) (m := 7) (S := (fun W => W.cell? ⟨z, 6, none⟩ = some (.slice ho4 nk hc4) ∧ W.cell? ⟨zb, 0, none⟩ = some (.int .u32 (v.au : Nat)) ∧ W.cell? ⟨zb, 1, none⟩ = some (.int .u32 (v.ev : Nat)) ∧ W.cell? ⟨zb, 2, none⟩ = some (.slice xo2 v.F.length xc2) ∧ W.cell? ⟨zb, 3, none⟩ = some (.bool v.rd))) (by kernel_rfl) rfl rfl rfl (by kernel_rfl) (by kernel_rfl) ((unhide HS9) _ (Fr.refl _ _).drew) (fun hHeld => ?_)
      refine wtk2 (i := 0) rfl hHeld ?_
      (try simp only [Act.put, nrm])
      refine wtk2 (i := 1) rfl hHeld ?_
      (try simp only [Act.put, nrm])
      refine wtk2 (i := 2) rfl hHeld ?_
      (try simp only [Act.put, nrm])
      refine wpAnyH_ready (rs := [3]) (by kernel_rfl) (by simp) (AllReadyH.cons rfl (fun K hK => ?_) AllReadyH.nil)
      go_simp
      refine ((unhide HSm) _).mono ?_
      rintro e w3 ⟨rfl, hf3⟩
      have H3 := hide ((Fr.refl (fun _ => False) W8).drew.trans hf3 (fun _ _ h => h))
      clear hf3
      obtain ⟨ao7, cap7, w7, hr7, hs7, z7, hi7⟩ := (unhide HAP) w3 (unhide H3)
      have HR7 := hide hr7
      have HS7 := hide hs7
      have HI7 := hide hi7
      clear hr7 hs7 hi7
      go_simp
      refine hK.out _ _ ((unhide HS9) _ (unhide H3)) (fun hHeld => ?_)
      clear hK K
      (try simp only [Act.put, nrm])
      refine wpAnyH_ready (rs := [4]) (by kernel_rfl) (by simp) (AllReadyH.cons rfl (fun K hK => ?_) AllReadyH.nil)
      go_simp
      refine hK.out _ _ ((unhide HS9) _ ((unhide H3).trans (box1 w3 _) (fun _ _ h => h))) (fun hHeld => ?_)
      clear hK K
      (try simp only [Act.put, nrm])
      refine wpAnyH_ready (rs := [5]) (by kernel_rfl) (by simp) (AllReadyH.cons rfl (fun K hK => ?_) AllReadyH.nil)
      refine step_app rfl (.tmp 44) (.tmp 47) 43 43 rfl _ _ _ (by simp [Act.eval]) (by simp [Act.eval]) (unhide HR7) ?_
      refine hK.out _ _ (unhide HS7) (fun hHeld => ?_)
      clear hK K
      (try simp only [Act.put, nrm])
      refine wtk2 (i := 6) rfl hHeld ?_
      (try simp only [Act.put, nrm])
      refine wpAnyH_done (by kernel_rfl) ?_ _
      have c7 := (unhide HS7).1
      simp only [lastQ]
      go_simp
      go_wp2_with fail
      go_roundw
      case rel => exact ⟨k + 1, hlt, by go_num, _, unhide HI7⟩
      case measure => simp [intOf]; omega
     ·obtain rfl : k = c.V.length := by omega
      obtain ⟨c0, c1, c2, c3, c4, c5, c6⟩ := blk7 hi.zb
      obtain ⟨e0, e1, e2, e3, e4, e5, e6, y0, y1, y2, y3, y4, y5, y6⟩ := hi.cb.ans
      obtain ⟨ho4, hc4, rfl⟩ := own_formX hi.o
      obtain ⟨nk, hnk⟩ : ∃ nk, nk = ((c.V.take c.V.length).map VM.sum).length := ⟨_, rfl⟩
      rw [← hnk] at c6 HIk
      clear hi hnk HI0 hv4 HVk HV4
      go_wp2_with fail
      refine bodyPost_ret (results_cell_mid rfl _ _ (w.heap.size + 1) 0 [.int .u32 0, .int .u32 0, .int .u8 0, .int .u32 (r.rc : Nat), .int .u32 (c.V.length : Nat), .slice none 0 0, .slice ho4 nk hc4] _ rfl ?_ Tryz.underlying45 rfl (by kernel_rfl)) rfl ?_
      ·intro j v hv
       rcases j with _ | _ | _ | _ | _ | _ | _ | j
       ·simp at hv; subst hv; go_simp
       ·simp at hv; subst hv; go_simp
       ·simp at hv; subst hv; go_simp
       ·simp at hv; subst hv; go_simp
       ·simp at hv; subst hv; go_simp
       ·simp at hv; subst hv; go_simp
       ·simp at hv; subst hv; go_simp
       ·simp at hv
      ·rw [unhide HX]; exact ⟨_, _, rfl, (unhide HIk).end_ (set7_fr _ _ _ _ _ _ _ _ _) _ _ _ _⟩
  ·have hc' : ((code : Int) != 0) = true := by rw [bne_iff_ne]; omega
   have HX := hide ((unhide HE0) hz)
   clear HR4 HE0 HE1
   go_wp2_with fail
   refine ((unhide HRf) code _).mono ?_
   rintro e w3 ⟨rfl, hf3⟩
   have h3 := (unhide H2).step hf3
   obtain ⟨e0, e1, e2, e3, e4, e5, e6, z0, z1, z2, z3, z4, z5, z6⟩ := h3.ans
   have H3 := hide h3.f
   clear h3 hf3
   go_wp2_with fail
   (try simp only [Exit.inBlock, Exit.then])
   refine bodyPost_ret (results_cell_mid rfl _ _ (w.heap.size + 1) 0 [.int .u32 0, .int .u32 0, .int .u8 ((code : Nat) : Int), .int .u32 0, .int .u32 0, .slice none 0 0, .slice none 0 0] _ rfl ?_ Tryz.underlying45 rfl (by kernel_rfl)) rfl ?_
   ·intro j v hv
    rcases j with _ | _ | _ | _ | _ | _ | _ | j
    ·simp at hv; subst hv; go_simp
    ·simp at hv; subst hv; go_simp
    ·simp at hv; subst hv; go_simp
    ·simp at hv; subst hv; go_simp
    ·simp at hv; subst hv; go_simp
    ·simp at hv; subst hv; go_simp
    ·simp at hv; subst hv; go_simp
    ·simp at hv
   ·rw [unhide HX]; refine OpPost.no rfl ?_
    repeat refine Fr.setCell ?_ (.inr (by simp)) _
    exact unhide H3
theorem create_any (b : Nat) (s : RM) (q : RW) (M : Nat → Prop) (r : RQ) (F : List F5) (place : Nat) (w : World) (h : RsAt w b s q M) (hF : Fds w r.fv F) (hl : F.length ≤ 1000) (hs : ∀ f ∈ F, FOk f) (hS : s.S.length ≤ 140737488355328) (hC : s.C.length ≤ 256) :
  Calls Tryz.prog 57 #[.pointer (some ⟨b, 0, none⟩), r.v, .int .u32 (place : Nat)] w fun e w' => OpPost w b s q M 0 0 (s.create r F place) e w' := by
 obtain ⟨xo, xc, hfv⟩ := hF.form
 by_cases hz : crCode s.S r.ac r.wa r.ow = 0
 ·by_cases hn : s.C.length = 256
  ·have e : s.create r F place = (s, RA.no 9) := by rw [RM.create, if_neg (by simp [hz]), if_pos (by omega)]
   rw [e]
   refine (create_full b s q M r xo _ xc place w h hfv hS hz hn).mono ?_
   rintro e w' ⟨he, hf⟩
   exact OpPost.no he hf
  ·have e : s.create r F place = (⟨s.S, s.C ++ [⟨r.wa, r.ow, false, [], [⟨r.ac, place, F, false⟩]⟩]⟩, ⟨0, s.C.length + 1, 1, [], []⟩) := by rw [RM.create, if_neg (by simp [hz]), if_neg (by omega)]
   rw [e]
   refine (create_ok b s q M r F place w h hF hl hs hS hz (by omega)).mono ?_
   rintro e w' ⟨he, hr⟩
   exact OpPost.put he hr
 ·have e : s.create r F place = (s, RA.no (crCode s.S r.ac r.wa r.ow)) := by rw [RM.create, if_pos hz]
  rw [e]
  refine (create_no b s q M r xo _ xc place w h hfv hS hz).mono ?_
  rintro e w' ⟨he, hf⟩
  exact OpPost.no he hf
theorem FGood.ok {f : F5} (h : FGood f) : FOk f := ⟨by have := h.1; omega, by have := h.2.1; omega⟩
theorem op_any (b : Nat) (s : RM) (q : RW) (M : Nat → Prop) (r : RQ) (F : List F5) (place : Nat) (c : CM) (w : World) (h : RsAt w b s q M) (ho : s.Ok) (hF : FdC w w.heap.size r.fv F) (hfm : r.frm F = true) (hv : ∀ f ∈ F, f.v < 4294967296 ∧ f.u < 256) (hg : GU w) (h0 : ¬ r.rc = 0) (hc : s.C[r.rc - 1]? = some c) (h2 : 2 ≤ r.op) (h7 : r.op ≤ 7) :
  Calls Tryz.prog (opN r.op) #[.pointer (some ⟨b, 0, none⟩), r.v, .int .u32 (place : Nat)] w fun e w' => OpPost w b s q M 0 0 (s.op r c F place) e w' := by
 obtain ⟨xo, xc, hfv⟩ := hF.f.form
 have hk := ho.at hc
 have hrc : r.rc = r.rc - 1 + 1 := by omega
 obtain ⟨hF1, hF2⟩ := RQ.frm_good hfm hv
 have hVF : ∀ v ∈ c.V, v.F.length ≤ 1000 := fun v hv => by have := (hk.F v hv).1; omega
 have hV := hk.V
 have hGl : c.G.length ≤ 4294967296 := by
  have := rise_len c.G 0 (fun k hk' => ⟨Nat.zero_le _, hk.g k hk'⟩) hk.G
  omega
 have : r.op = 2 ∨ r.op = 3 ∨ r.op = 4 ∨ r.op = 5 ∨ r.op = 6 ∨ r.op = 7 := by omega
 rcases this with e | e | e | e | e | e
 ·rw [show s.op r c F place = s.amend r c F place by simp [RM.op, e], e]
  exact amend_any b s q M r xo _ xc place (r.rc - 1) c w h hfv ho.S ho.C hc hrc hk.len F hF hF1 (fun f hf => (hF2 f hf).ok) (fun f hf => (hv f hf).2) hg hk.V1 hV hk.now.1 (fun f hf => (hk.now.2 f hf).2.2.2)
 ·rw [show s.op r c F place = s.read r c by simp [RM.op, e], e]
  by_cases hv0 : r.ve = 0
  ·exact read_A b s q M r xo _ xc place (r.rc - 1) c w h hfv ho.S ho.C hc hrc hk.len (by omega) hVF hv0
  ·exact read_B b s q M r xo _ xc place (r.rc - 1) c w h hfv ho.S ho.C hc hrc hk.len (by omega) hVF hv0
 ·rw [show s.op r c F place = s.redact r c by simp [RM.op, e], e]
  exact redact_any b s q M r xo _ xc place (r.rc - 1) c w h hfv ho.S ho.C hc hrc hk.len (by omega)
 ·rw [show s.op r c F place = s.history r c by simp [RM.op, e], e]
  exact history_any b s q M r xo _ xc place (r.rc - 1) c w h hfv ho.S ho.C hc hrc hk.len hV hVF
 ·rw [show s.op r c F place = s.seal r c by simp [RM.op, e], e]
  exact seal_any b s q M r xo _ xc place (r.rc - 1) c w h hfv ho.S ho.C hc hrc hk.len
 ·rw [show s.op r c F place = s.break r c by simp [RM.op, e], e]
  exact break_any b s q M r xo _ xc place (r.rc - 1) c w h hfv ho.S ho.C hc hrc hk.len hk.G hGl
set_option maxRecDepth 100000 in
theorem formed_0 (cl nu ac rc ve wa ow : Nat) (rs : ByteArray) (xo : Option Addr) (n xc : Nat) (w : World) :
  Calls Tryz.prog 35 #[(RQ.mk cl nu ac 0 rc ve wa ow (.slice xo n xc) rs).v] w fun e w' => e = .returned (.bool false) ∧ Fr (fun _ => False) w w' := by
 simp only [RQ.v]
 go_enter Tryz.func35, Tryz.ntmps35
 go_wp2_with fail
 go_ret
 exact ⟨rfl, box1 w _⟩
set_option maxRecDepth 100000 in
theorem formed_8 (cl nu ac k rc ve wa ow : Nat) (rs : ByteArray) (xo : Option Addr) (n xc : Nat) (w : World) (hk : 8 ≤ k) :
  Calls Tryz.prog 35 #[(RQ.mk cl nu ac k rc ve wa ow (.slice xo n xc) rs).v] w fun e w' => e = .returned (.bool false) ∧ Fr (fun _ => False) w w' := by
 have h1 : ¬ (k : Int) < 1 := by omega
 have h2 : (7 : Int) < (k : Int) := by omega
 simp only [RQ.v]
 go_enter Tryz.func35, Tryz.ntmps35
 go_wp2_with fail
 go_ret
 exact ⟨rfl, box1 w _⟩
theorem RQ.emp_eq (r : RQ) (n : Nat) : r.emp n = decide (r.rc = 0 ∧ r.ve = 0 ∧ r.wa = 0 ∧ r.ow = 0 ∧ n = 0 ∧ r.rs.size = 0) := by
 simp only [RQ.emp, Bool.decide_and]
theorem formed_any (r : RQ) (F : List F5) (w : World) (hx : Fds w r.fv F) (hl : F.length ≤ 140737488355328) (hv : ∀ f ∈ F, f.v < 4294967296 ∧ f.u < 256) :
  Calls Tryz.prog 35 #[r.v] w fun e w' => e = .returned (.bool (r.frm F)) ∧ Fr (fun _ => False) w w' := by
 obtain ⟨cl, nu, ac, op, rc, ve, wa, ow, fv, rs⟩ := r
 obtain ⟨xo, xc, hfv⟩ := hx.form
 simp only at hfv hx
 subst hfv
 have hnil : F.length = 0 → ∀ g, fdsB F g = true := fun e g => by
  obtain rfl := List.length_eq_zero_iff.1 e
  rfl
 rcases op with _ | _ | _ | _ | _ | _ | _ | _ | op
 ·exact (formed_0 cl nu ac rc ve wa ow rs xo _ xc w).mono (fun e w' h => h)
 ·refine (formed_1 cl nu ac rc ve wa ow rs xo _ xc F w hx hl hv).mono ?_
  rintro e w' ⟨rfl, hf⟩
  refine ⟨?_, hf⟩
  rw [RQ.emp_eq]
  simp only [RQ.frm, if_true]
  by_cases h : rc = 0 ∧ ve = 0 ∧ rs.size = 0
  ·simp [h]
  ·rw [decide_eq_false h, decide_eq_false (fun h' => h ⟨h'.1, h'.2.1, h'.2.2.2.2.2⟩)]
   rfl
 ·refine (formed_2 cl nu ac rc ve wa ow rs xo _ xc F w hx hl hv).mono ?_
  rintro e w' ⟨rfl, hf⟩
  refine ⟨?_, hf⟩
  rw [RQ.emp_eq]
  simp only [RQ.frm, if_true]
  by_cases h : wa = 0 ∧ ow = 0 ∧ rs.size = 0
  ·simp [h]
  ·rw [if_neg (by decide), decide_eq_false h, decide_eq_false (fun h' => h ⟨h'.2.2.1, h'.2.2.2.1, h'.2.2.2.2.2⟩)]
   rfl
 ·refine (formed_3 cl nu ac rc ve wa ow rs xo _ xc F w hx hl hv).mono ?_
  rintro e w' ⟨rfl, hf⟩
  refine ⟨?_, hf⟩
  rw [RQ.emp_eq]
  by_cases h : wa = 0 ∧ ow = 0 ∧ F.length = 0 ∧ rs.size = 0
  ·obtain ⟨a1, a2, a3, a4⟩ := h
   simp [RQ.frm, a1, a2, a3, a4, hnil a3]
  ·have e1 : (RQ.mk cl nu ac 3 rc ve wa ow (.slice xo F.length xc) rs).frm F = false := by
    simp only [RQ.frm]
    simpa using h
   rw [show (RQ.mk cl nu ac (3) rc ve wa ow (.slice xo F.length xc) rs).frm F = false from e1]
   congr 1
   congr 1
   rw [Bool.and_eq_false_iff]
   exact .inl (decide_eq_false (fun h' => h ⟨h'.2.2.1, h'.2.2.2.1, h'.2.2.2.2.1, h'.2.2.2.2.2⟩))
 ·refine (formed_4 cl nu ac rc ve wa ow rs xo _ xc F w hx hl hv).mono ?_
  rintro e w' ⟨rfl, hf⟩
  refine ⟨?_, hf⟩
  rw [RQ.emp_eq]
  by_cases h : wa = 0 ∧ ow = 0 ∧ F.length = 0 ∧ rs.size = 0
  ·obtain ⟨a1, a2, a3, a4⟩ := h
   simp [RQ.frm, a1, a2, a3, a4, hnil a3]
  ·have e1 : (RQ.mk cl nu ac 4 rc ve wa ow (.slice xo F.length xc) rs).frm F = false := by
    simp only [RQ.frm]
    simpa using h
   rw [show (RQ.mk cl nu ac (4) rc ve wa ow (.slice xo F.length xc) rs).frm F = false from e1]
   congr 1
   congr 1
   rw [Bool.and_eq_false_iff]
   exact .inl (decide_eq_false (fun h' => h ⟨h'.2.2.1, h'.2.2.2.1, h'.2.2.2.2.1, h'.2.2.2.2.2⟩))
 ·refine (formed_5 cl nu ac rc ve wa ow rs xo _ xc F w hx hl hv).mono ?_
  rintro e w' ⟨rfl, hf⟩
  refine ⟨?_, hf⟩
  rw [RQ.emp_eq]
  by_cases h : ve = 0 ∧ wa = 0 ∧ ow = 0 ∧ F.length = 0 ∧ rs.size = 0
  ·obtain ⟨a0, a1, a2, a3, a4⟩ := h
   simp [RQ.frm, a0, a1, a2, a3, a4, hnil a3]
  ·have e1 : (RQ.mk cl nu ac 5 rc ve wa ow (.slice xo F.length xc) rs).frm F = false := by
    simp only [RQ.frm]
    simpa using h
   rw [show (RQ.mk cl nu ac (5) rc ve wa ow (.slice xo F.length xc) rs).frm F = false from e1]
   congr 1
   congr 1
   rw [Bool.and_eq_false_iff]
   exact .inl (decide_eq_false (fun h' => h ⟨h'.2.1, h'.2.2.1, h'.2.2.2.1, h'.2.2.2.2.1, h'.2.2.2.2.2⟩))
 ·refine (formed_6 cl nu ac rc ve wa ow rs xo _ xc F w hx hl hv).mono ?_
  rintro e w' ⟨rfl, hf⟩
  refine ⟨?_, hf⟩
  rw [RQ.emp_eq]
  by_cases h : wa = 0 ∧ ow = 0 ∧ F.length = 0 ∧ rs.size = 0 ∧ ve ≤ 1
  ·obtain ⟨a1, a2, a3, a4, a5⟩ := h
   simp [RQ.frm, a1, a2, a3, a4, a5, hnil a3]
  ·have e1 : (RQ.mk cl nu ac 6 rc ve wa ow (.slice xo F.length xc) rs).frm F = false := by
    simp only [RQ.frm]
    simpa using h
   rw [show (RQ.mk cl nu ac (6) rc ve wa ow (.slice xo F.length xc) rs).frm F = false from e1]
   congr 1
   congr 1
   rw [Bool.and_eq_false_iff]
   by_cases h6 : ve ≤ 1
   ·exact .inl (decide_eq_false (fun h' => h ⟨h'.2.2.1, h'.2.2.2.1, h'.2.2.2.2.1, h'.2.2.2.2.2, h6⟩))
   ·exact .inr (by simp [h6])
 ·refine (formed_7 cl nu ac rc ve wa ow rs xo _ xc F w hx hl hv).mono ?_
  rintro e w' ⟨rfl, hf⟩
  refine ⟨?_, hf⟩
  rw [RQ.emp_eq]
  by_cases h : ve = 0 ∧ wa = 0 ∧ ow = 0 ∧ F.length = 0 ∧ rs.size ≤ 64
  ·obtain ⟨a0, a1, a2, a3, a4⟩ := h
   simp [RQ.frm, a0, a1, a2, a3, a4, hnil a3, ba_empty]
  ·have e1 : (RQ.mk cl nu ac 7 rc ve wa ow (.slice xo F.length xc) rs).frm F = false := by
    simp only [RQ.frm]
    simpa using h
   rw [show (RQ.mk cl nu ac (7) rc ve wa ow (.slice xo F.length xc) rs).frm F = false from e1]
   congr 1
   congr 1
   rw [Bool.and_eq_false_iff]
   by_cases h6 : rs.size ≤ 64
   ·exact .inl (decide_eq_false (fun h' => h ⟨h'.2.1, h'.2.2.1, h'.2.2.2.1, h'.2.2.2.2.1, h6⟩))
   ·exact .inr (by simp [h6])
 ·refine (formed_8 cl nu ac (op + 8) rc ve wa ow rs xo _ xc w (by omega)).mono ?_
  rintro e w' ⟨rfl, hf⟩
  refine ⟨?_, hf⟩
  simp [RQ.frm]
theorem CB.outside {w W W' : World} {B g : Nat} {r : RQ} (h : CB w W B r) (hg : B + 1 < g) (hf : Fr (fun k => k = g) W W') : CB w W' B r :=
 ⟨(hf.block B (lt_of_block h.r) (by omega)).trans h.r, (hf.block (B + 1) (lt_of_block h.a) (by omega)).trans h.a, h.f.absorb hf (fun i hi => by have := h.n; omega), h.n⟩
theorem stf_put {W : World} {g : Nat} {a0 a1 a2 : Value} (hb : W.heap[g]? = some (.cells #[a0, a1, a2] 33)) (p : P3) :
  ∃ W8, (Instr.storeAt 33 (.pointer (some ⟨g, 0, none⟩)) (pv p)).run Tryz.prog W = .ok () W8 ∧ Fr (fun k => k = g) W W8 := by
 refine ⟨W.setCells g 0 [.int .u32 (p.a : Nat), .int .u32 (p.r : Nat), .int .u32 (p.w : Nat)], run_storeAt_mid W g 0 33 #[.int .u32 (p.a : Nat), .int .u32 (p.r : Nat), .int .u32 (p.w : Nat)] (fun j hj => ?_) (by kernel_rfl) (all_oneCell_toArray (cs := [.int .u32 (p.a : Nat), .int .u32 (p.r : Nat), .int .u32 (p.w : Nat)]) (fun u hu => by simp at hu; rcases hu with rfl | rfl | rfl <;> rfl)), ?_⟩
 ·have hj : j < 3 := hj
  refine ⟨?_, by simp [World.frozen?, hb]⟩
  rcases j with _ | _ | _ | j
  ·simp [World.cell?, hb]
  ·simp [World.cell?, hb]
  ·simp [World.cell?, hb]
  ·omega
 ·have h0 := Fr.refl (fun k => k = g) W
  have h1 := h0.setCell (p := ⟨g, 0, none⟩) (.inl rfl) (.int .u32 (p.a : Nat))
  have h2 := h1.setCell (p := ⟨g, 1, none⟩) (.inl rfl) (.int .u32 (p.r : Nat))
  exact h2.setCell (p := ⟨g, 2, none⟩) (.inl rfl) (.int .u32 (p.w : Nat))
set_option maxRecDepth 100000 in
theorem op_enters (k : Nat) (x y z : Value) (W : World) : (callFunc (opN k) #[x, y, z]).run Tryz.prog W = .ok (.enter (opN k) #[x, y, z]) W := by
 rcases k with _ | _ | _ | _ | _ | _ | _ | k <;> rfl
theorem OpD.form {w w' : World} {b : Nat} {s : RM} {q : RW} {M : Nat → Prop} {x : RM × RA} {fv hv : Value} (h : OpD w b s q M x fv hv w') : (∃ fo fn fc, fv = .slice fo fn fc) ∧ ∃ ho hn hc, hv = .slice ho hn hc := by
 rcases h with ⟨_, _, f2, f3⟩ | ⟨_, _, rfl, rfl, _⟩
 ·obtain ⟨fo, fc, e⟩ := own_formX f2
  obtain ⟨ho, hc, e2⟩ := own_formX f3
  exact ⟨⟨_, _, _, e⟩, _, _, _, e2⟩
 ·exact ⟨⟨_, _, _, rfl⟩, _, _, _, rfl⟩
theorem OpD.kept {w W w' : World} {b B : Nat} {s : RM} {q : RW} {M : Nat → Prop} {x : RM × RA} {fv hv : Value} (h0 : RsAt w b s q M) (h : OpD W b s q M x fv hv w') (hB1 : w.heap.size ≤ B) (hB2 : B < W.heap.size) : w'.heap[B]? = W.heap[B]? := by
 rcases h with ⟨_, f1, _⟩ | ⟨_, _, _, _, _, _, _, _, _, f1⟩
 ·exact f1.block B hB2 (fun h => h)
 ·exact f1.block B hB2 (fun hM => by have := h0.lt B hM; omega)
set_option linter.unusedSimpArgs false in
set_option maxHeartbeats 4000000 in
set_option maxRecDepth 100000 in
theorem answer_any (b : Nat) (s : RM) (q : RW) (M : Nat → Prop) (r : RQ) (F : List F5) (place : Nat) (w : World) (h : RsAt w b s q M) (ho : s.Ok) (hF : FdC w w.heap.size r.fv F) (hFl : F.length ≤ 140737488355328) (hv : ∀ f ∈ F, f.v < 4294967296 ∧ f.u < 256) (hg : GU w) :
  Calls Tryz.prog 22 #[.pointer (some ⟨b, 0, none⟩), r.v, .int .u32 (place : Nat)] w fun e w' => OpPost w b s q M 0 0 (s.step r F place) e w' := by
 obtain ⟨W1, hW1⟩ : ∃ W1, W1 = (w.alloc (.cells r.cs 41)).alloc (.cells #[.int .u32 0, .int .u32 0, .int .u8 0, .int .u32 0, .int .u32 0, .slice none 0 0, .slice none 0 0] 45) := ⟨_, rfl⟩
 have hCB : CB w W1 w.heap.size r := by rw [hW1]; exact CB.new w r
 obtain ⟨xo, xc, hfv⟩ := hF.f.form
 obtain ⟨so, sc, hse⟩ := h.st.form
 have HFm : Hid (∀ W, Fr (fun _ => False) w W → Calls Tryz.prog 35 #[r.v] W fun e w' => e = .returned (.bool (r.frm F)) ∧ Fr (fun _ => False) W w') := fun W hW => formed_any r F W (hF.f.fr hW) hFl hv
 have HFi : Hid (∀ W, Fr (fun _ => False) w W → Calls Tryz.prog 37 #[.slice so s.S.length sc, .int .u32 (r.ac : Nat)] W fun e w' => e = .returned (.tuple #[pv ((perso s.S r.ac).getD p0), .bool (perso s.S r.ac).isSome]) ∧ Fr (fun _ => False) W w') := fun W hW => by rw [← hse]; exact find_any q.sv s.S r.ac W (h.fr hW).st ho.S
 have HHs : Hid (∀ W, Fr (fun _ => False) w W → Calls Tryz.prog 38 #[.pointer (some ⟨b, 0, none⟩), .int .u32 (r.rc : Nat)] W fun e w' => e = .returned (.bool (decide (1 ≤ r.rc) && decide (r.rc ≤ s.C.length))) ∧ w' = W) := fun W hW => shas_any b r.rc s q M W (h.fr hW) ho.C
 have HOp : Hid (∀ W, Calls Tryz.prog 39 #[] W fun e w' => ∃ z, e = .returned (.map (some z)) ∧ w'.heap[z]? = some (.map opsE 7) ∧ Fr (fun _ => False) W w') := fun W => (operations_any W).mono (fun e w' h => ⟨_, h⟩)
 have HRf : Hid (∀ (cd : Nat) W, Calls Tryz.prog 36 #[.int .u8 (cd : Nat)] W fun e w' => e = .returned (.agg #[.int .u32 0, .int .u32 0, .int .u8 (cd : Nat), .int .u32 0, .int .u32 0, .slice none 0 0, .slice none 0 0]) ∧ Fr (fun _ => False) W w') := fun cd W => refusal_any cd W
 have HE0 : Hid (r.frm F = false → s.step r F place = (s, RA.no 2)) := fun h => by rw [RM.step, if_pos h]
 have HE1 : Hid (r.frm F = true → (perso s.S r.ac).isSome = false → s.step r F place = (s, RA.no 1)) := fun h h1 => by rw [RM.step, if_neg (by simp [h]), if_pos h1]
 have HE3 : Hid (r.frm F = true → (perso s.S r.ac).isSome = true → ¬ r.op = 1 → (decide (1 ≤ r.rc) && decide (r.rc ≤ s.C.length)) = false → s.step r F place = (s, RA.no 3)) := fun h h1 h2 h3 => by
  rw [RM.step, if_neg (by simp [h]), if_neg (by simp [h1]), if_neg h2]
  by_cases h4 : r.rc = 0
  ·rw [if_pos h4]
  ·rw [if_neg h4]
   have h5 : ¬ r.rc ≤ s.C.length := fun h6 => by
    rw [decide_eq_true (by omega : 1 ≤ r.rc), decide_eq_true h6] at h3
    cases h3
   rw [List.getElem?_eq_none (by omega)]
 have HDO : Hid (r.frm F = true → (perso s.S r.ac).isSome = true → (r.op = 1 ∨ (decide (1 ≤ r.rc) && decide (r.rc ≤ s.C.length)) = true) → 1 ≤ r.op ∧ r.op ≤ 7 ∧ ∀ W, Fr (fun _ => False) w W → Calls Tryz.prog (opN r.op) #[.pointer (some ⟨b, 0, none⟩), r.v, .int .u32 (place : Nat)] W fun e w' => ∃ fo fn fc ho hn hc, e = .returned (.agg #[.int .u32 0, .int .u32 0, .int .u8 ((s.step r F place).2.co : Nat), .int .u32 ((s.step r F place).2.rc : Nat), .int .u32 ((s.step r F place).2.ve : Nat), .slice fo fn fc, .slice ho hn hc]) ∧ OpD W b s q M (s.step r F place) (.slice fo fn fc) (.slice ho hn hc) w') := fun h1 h2 h3 => by
  have hop : 1 ≤ r.op ∧ r.op ≤ 7 := by
   by_cases h4 : 1 ≤ r.op ∧ r.op ≤ 7
   ·exact h4
   ·exfalso
    unfold RQ.frm at h1
    rw [if_neg (by omega), if_neg (by omega), if_neg (by omega), if_neg (by omega), if_neg (by omega), if_neg (by omega), if_neg (by omega)] at h1
    cases h1
  obtain ⟨hF1, hF2⟩ := RQ.frm_good h1 hv
  refine ⟨hop.1, hop.2, fun W hW => ?_⟩
  refine Calls.mono (R := fun e w' => OpPost W b s q M 0 0 (s.step r F place) e w') ?_ (fun e w' hp => by
   obtain ⟨fv, hv', he, hd⟩ := hp
   obtain ⟨⟨fo, fn, fc, rfl⟩, ho', hn, hc, rfl⟩ := hd.form
   exact ⟨fo, fn, fc, ho', hn, hc, he, hd⟩)
  have hFW : FdC W W.heap.size r.fv F := ⟨hF.f.fr hW, fun g o n c e h0 => Nat.lt_of_lt_of_le (hF.b g o n c e h0) hW.size, hF.c, hF.z⟩
  by_cases h4 : r.op = 1
  ·rw [show s.step r F place = s.create r F place by rw [RM.step, if_neg (by simp [h1]), if_neg (by simp [h2]), if_pos h4], h4]
   exact create_any b s q M r F place W (h.fr hW) hFW.f (by omega) (fun f hf => (hF2 f hf).ok) ho.S ho.C
  ·have h5 := h3.resolve_left h4
   rw [Bool.and_eq_true, decide_eq_true_eq, decide_eq_true_eq] at h5
   obtain ⟨c, hc⟩ : ∃ c, s.C[r.rc - 1]? = some c := ⟨s.C[r.rc - 1], List.getElem?_eq_getElem (by omega)⟩
   rw [show s.step r F place = s.op r c F place by rw [RM.step, if_neg (by simp [h1]), if_neg (by simp [h2]), if_neg h4, if_neg (by omega), hc]]
   exact op_any b s q M r F place c W (h.fr hW) ho hFW h1 hv (hg.fr hW) (by omega) hc (by omega) hop.2
 have HH := hide h
 generalize s.step r F place = X at *
 generalize r.frm F = fm at *
 obtain ⟨pp, hpp⟩ : ∃ pp, (perso s.S r.ac).getD p0 = pp := ⟨_, rfl⟩
 rw [hpp] at HFi
 clear hpp
 generalize (perso s.S r.ac).isSome = fd at *
 generalize (decide (1 ≤ r.rc) && decide (r.rc ≤ s.C.length)) = hs at *
 have HSt : Hid (∀ W, Fr (fun _ => False) w W → W.cell? ⟨b, 0, none⟩ = some (.slice so s.S.length sc)) := fun W hW => by rw [← hse]; exact (h.fr hW).cells.1
 have HC := hide hCB
 have HS3 : Hid (∀ W, CB w W w.heap.size r → W.cell? ⟨b, 0, none⟩ = some (.slice so s.S.length sc) ∧ W.cell? ⟨w.heap.size, 2, none⟩ = some (.int .u32 (r.ac : Nat))) := fun W hW => ⟨(unhide HSt) W hW.f, hW.cells.2.2.1⟩
 have HR : Hid (∀ W, CB w W w.heap.size r → W.cell? ⟨w.heap.size, 3, none⟩ = some (.int .u8 (r.op : Nat)) ∧ W.cell? ⟨w.heap.size, 4, none⟩ = some (.int .u32 (r.rc : Nat))) := fun W hW => ⟨hW.cells.2.2.2.1, hW.cells.2.2.2.2.1⟩
 have HR10 : Hid (∀ W, CB w W w.heap.size r → W.cell? ⟨w.heap.size, 0, none⟩ = some (.int .u32 (r.cl : Nat)) ∧ W.cell? ⟨w.heap.size, 1, none⟩ = some (.int .u32 (r.nu : Nat)) ∧ W.cell? ⟨w.heap.size, 2, none⟩ = some (.int .u32 (r.ac : Nat)) ∧ W.cell? ⟨w.heap.size, 3, none⟩ = some (.int .u8 (r.op : Nat)) ∧ W.cell? ⟨w.heap.size, 4, none⟩ = some (.int .u32 (r.rc : Nat)) ∧ W.cell? ⟨w.heap.size, 5, none⟩ = some (.int .u32 (r.ve : Nat)) ∧ W.cell? ⟨w.heap.size, 6, none⟩ = some (.int .u32 (r.wa : Nat)) ∧ W.cell? ⟨w.heap.size, 7, none⟩ = some (.int .u32 (r.ow : Nat)) ∧ W.cell? ⟨w.heap.size, 8, none⟩ = some (.slice xo F.length xc) ∧ W.cell? ⟨w.heap.size, 9, none⟩ = some (.string r.rs)) := fun W hW => by rw [← hfv]; exact hW.cells
 simp only [RQ.v, RQ.cs] at *
 rw [hfv] at hW1 HFm HDO ⊢
 clear hCB h hse hF hFl hv hg ho
 go_enter Tryz.func22, Tryz.ntmps22
 go_wp2_with fail
 rw [← hW1]
 clear hW1
 refine ((unhide HFm) _ (unhide HC).f).mono ?_
 rintro e w2 ⟨rfl, hf2⟩
 have H2 := hide ((unhide HC).step hf2)
 clear hf2 HC HFm
 cases fm with
 | false =>
  have HX := hide ((unhide HE0) (by trivial))
  clear HE0 HE1 HE3 HDO HFi HHs HOp HSt HS3 HR HR10
  go_wp2_with fail
  refine ((unhide HRf) 2 _).mono ?_
  rintro e w3 ⟨rfl, hf3⟩
  have h3 := (unhide H2).step hf3
  obtain ⟨e0, e1, e2, e3, e4, e5, e6, z0, z1, z2, z3, z4, z5, z6⟩ := h3.ans
  have H3 := hide h3.f
  clear h3 hf3
  go_wp2_with fail
  (try simp only [Exit.inBlock, Exit.then])
  refine bodyPost_ret (results_cell_mid rfl _ _ (w.heap.size + 1) 0 [.int .u32 0, .int .u32 0, .int .u8 ((2 : Nat) : Int), .int .u32 0, .int .u32 0, .slice none 0 0, .slice none 0 0] _ rfl ?_ Tryz.underlying45 rfl (by kernel_rfl)) rfl ?_
  ·intro j v hv
   rcases j with _ | _ | _ | _ | _ | _ | _ | j
   ·simp at hv; subst hv; go_simp
   ·simp at hv; subst hv; go_simp
   ·simp at hv; subst hv; go_simp
   ·simp at hv; subst hv; go_simp
   ·simp at hv; subst hv; go_simp
   ·simp at hv; subst hv; go_simp
   ·simp at hv; subst hv; go_simp
   ·simp at hv
  ·rw [unhide HX]; refine OpPost.no rfl ?_
   repeat refine Fr.setCell ?_ (.inr (by simp)) _
   exact unhide H3
 | true =>
  go_wp2_with fail
  refine wp_region_noPanic ?_
  refine wp_region_held_drew (S := (fun W => W.cell? ⟨b, 0, none⟩ = some (.slice so s.S.length sc) ∧ W.cell? ⟨w.heap.size, 2, none⟩ = some (.int .u32 (r.ac : Nat)))) (by kernel_rfl) ((unhide HS3) _ ((unhide H2).step (Fr.refl _ _).drew)) (fun hHeld => ?_)
  refine wtk2 (i := 0) rfl hHeld ?_
  (try simp only [Act.put, nrm])
  refine wtk2 (i := 1) rfl hHeld ?_
  (try simp only [Act.put, nrm])
  refine wtk2 (i := 2) rfl hHeld ?_
  (try simp only [Act.put, nrm])
  refine wtk2 (i := 3) rfl hHeld ?_
  (try simp only [Act.put, nrm])
  refine wtk2 (i := 4) rfl hHeld ?_
  (try simp only [Act.put, nrm])
  refine wtk2 (i := 5) rfl hHeld ?_
  (try simp only [Act.put, nrm])
  refine wpAnyH_ready (rs := [6, 10]) (by kernel_rfl) (by simp) (AllReadyH.cons rfl (fun K hK => ?_) (AllReadyH.cons rfl (fun K hK => ?_) AllReadyH.nil))
  focus
   go_simp
   refine ((unhide HFi) _ ((unhide H2).step (Fr.refl _ _).drew).f).mono ?_
   rintro e w3 ⟨rfl, hf3⟩
   have H3 := hide (((unhide H2).step (Fr.refl _ _).drew).step hf3)
   have HF3 := hide hf3
   clear hf3
   go_simp
   refine hK.out _ _ ((unhide HS3) _ (unhide H3)) (fun hHeld => ?_)
   clear hK K
   (try simp only [Act.put, nrm])
   refine wtk2 (i := 7) rfl hHeld ?_
   (try simp only [Act.put, nrm])
   refine wtk2 (i := 8) rfl hHeld ?_
   (try simp only [Act.put, nrm])
   refine wtk2 (i := 9) rfl hHeld ?_
   (try simp only [Act.put, nrm])
   refine wpAnyH_ready (rs := [10]) (by kernel_rfl) (by simp) (AllReadyH.cons rfl (fun K hK => ?_) AllReadyH.nil)
   go_simp
   refine hK.out _ _ ((unhide HS3) _ ((unhide H3).step (box1 w3 _))) (fun hHeld => ?_)
   clear hK K
   (try simp only [Act.put, nrm])
   obtain ⟨W8, hst, hf8⟩ := stf_put (W := w3.alloc (.cells #[.int .u32 0, .int .u32 0, .int .u32 0] 33)) (g := w3.heap.size) Array.getElem?_push_size pp
   have HST := hide hst
   have H8 := hide ((unhide H3).step ((box1 w3 _).absorb hf8 (fun i hi => by omega)))
   clear hst hf8
   refine wpAnyH_ready (rs := [11]) (by kernel_rfl) (by simp) (AllReadyH.cons rfl (fun K hK => ?_) AllReadyH.nil)
   refine step_stN rfl 33 (.tmp 7) (.tmp 22) rfl _ _ (by simp [Act.eval]) (by simp [Act.eval]) (unhide HST) ?_
   refine hK.out _ _ ((unhide HS3) _ (unhide H8)) (fun hHeld => ?_)
   clear hK K
   (try simp only [Act.put, nrm])
   refine wtk2 (i := 12) rfl hHeld ?_
   (try simp only [Act.put, nrm])
   refine wpAnyH_done (by kernel_rfl) ?_ _
   refine NoPanic.normal ?_
  rotate_left
  focus
   go_simp
   refine hK.out _ _ ((unhide HS3) _ ((unhide H2).step ((Fr.refl _ _).drew.alloc _))) (fun hHeld => ?_)
   clear hK K
   (try simp only [Act.put, nrm])
   refine wpAnyH_ready (rs := [6]) (by kernel_rfl) (by simp) (AllReadyH.cons rfl (fun K hK => ?_) AllReadyH.nil)
   go_simp
   refine ((unhide HFi) _ ((unhide H2).step ((Fr.refl _ _).drew.alloc _)).f).mono ?_
   rintro e w3 ⟨rfl, hf3⟩
   have H3 := hide (((unhide H2).step ((Fr.refl _ _).drew.alloc _)).step hf3)
   have HF3 := hide hf3
   clear hf3
   go_simp
   refine hK.out _ _ ((unhide HS3) _ (unhide H3)) (fun hHeld => ?_)
   clear hK K
   (try simp only [Act.put, nrm])
   refine wtk2 (i := 7) rfl hHeld ?_
   (try simp only [Act.put, nrm])
   refine wtk2 (i := 8) rfl hHeld ?_
   (try simp only [Act.put, nrm])
   refine wtk2 (i := 9) rfl hHeld ?_
   (try simp only [Act.put, nrm])
   obtain ⟨W8, hst, hf8⟩ := stf_put (W := w3) (g := w2.heap.size) (((unhide HF3).block w2.heap.size (by simp) (fun h => h)).trans Array.getElem?_push_size) pp
   have HST := hide hst
   have H8 := hide ((unhide H3).outside (lt_of_block (unhide H2).a) hf8)
   clear hst hf8
   refine wpAnyH_ready (rs := [11]) (by kernel_rfl) (by simp) (AllReadyH.cons rfl (fun K hK => ?_) AllReadyH.nil)
   refine step_stN rfl 33 (.tmp 7) (.tmp 22) rfl _ _ (by simp [Act.eval]) (by simp [Act.eval]) (unhide HST) ?_
   refine hK.out _ _ ((unhide HS3) _ (unhide H8)) (fun hHeld => ?_)
   clear hK K
   (try simp only [Act.put, nrm])
   refine wtk2 (i := 12) rfl hHeld ?_
   (try simp only [Act.put, nrm])
   refine wpAnyH_done (by kernel_rfl) ?_ _
   refine NoPanic.normal ?_
  all_goals
   clear HST H3 HF3 H2
   have H2 := H8
   clear H8
   cases fd with
   | false =>
    have HX := hide ((unhide HE1) (by trivial) (by trivial))
    clear HE0 HE1 HE3 HDO HFi HHs HOp HSt HS3 HR HR10
    go_wp2_with fail
    refine ((unhide HRf) 1 _).mono ?_
    rintro e w3 ⟨rfl, hf3⟩
    have h3 := (unhide H2).step hf3
    obtain ⟨e0, e1, e2, e3, e4, e5, e6, z0, z1, z2, z3, z4, z5, z6⟩ := h3.ans
    have H3 := hide h3.f
    clear h3 hf3
    go_wp2_with fail
    (try simp only [Exit.inBlock, Exit.then])
    refine bodyPost_ret (results_cell_mid rfl _ _ (w.heap.size + 1) 0 [.int .u32 0, .int .u32 0, .int .u8 ((1 : Nat) : Int), .int .u32 0, .int .u32 0, .slice none 0 0, .slice none 0 0] _ rfl ?_ Tryz.underlying45 rfl (by kernel_rfl)) rfl ?_
    ·intro j v hv
     rcases j with _ | _ | _ | _ | _ | _ | _ | j
     ·simp at hv; subst hv; go_simp
     ·simp at hv; subst hv; go_simp
     ·simp at hv; subst hv; go_simp
     ·simp at hv; subst hv; go_simp
     ·simp at hv; subst hv; go_simp
     ·simp at hv; subst hv; go_simp
     ·simp at hv; subst hv; go_simp
     ·simp at hv
    ·rw [unhide HX]; refine OpPost.no rfl ?_
     repeat refine Fr.setCell ?_ (.inr (by simp)) _
     exact unhide H3
   | true =>
    obtain ⟨d3, d4⟩ := (unhide HR) _ (unhide H2)
    have HS8 : Hid (∀ W, CB w W w.heap.size r → W.cell? ⟨w.heap.size, 3, none⟩ = some (.int .u8 (r.op : Nat))) := fun W hW => ((unhide HR) W hW).1
    by_cases hop : r.op = 1
    ·have hdo := (unhide HDO) (by trivial) (by trivial) (.inl hop)
     rw [hop] at d3
     have H4 := H2
     clear H2 hop
     obtain ⟨h1, h7, hdo⟩ := hdo
     obtain ⟨N, hN⟩ : ∃ N, opN r.op = N := ⟨_, rfl⟩
     have he : ∀ x y z W, (callFunc N #[x, y, z]).run Tryz.prog W = .ok (.enter N #[x, y, z]) W := fun x y z W => by rw [← hN]; exact op_enters r.op x y z W
     rw [hN] at hdo
     have HD := hide hdo
     have HLk : Hid (∀ W z, W.heap[z]? = some (.map opsE 7) → (Instr.lookup 97 (.map (some z)) (.int .u8 (r.op : Nat)) false).run Tryz.prog W = .ok (.func (.func N) #[] #[]) W) := fun W z hz => by rw [← hN]; exact ops_at W z r.op h1 h7 hz
     clear hdo hN h1 h7 HE0 HE1 HE3 HDO HFi HHs HRf HSt HS3
     go_wp2_with fail
     refine wp_region_noPanic ?_
     refine wp_region_held_drew (S := (fun W => W.cell? ⟨w.heap.size, 3, none⟩ = some (.int .u8 (r.op : Nat)))) (by kernel_rfl) ((unhide HS8) _ ((unhide H4).step (Fr.refl _ _).drew)) (fun hHeld => ?_)
     refine wtk2 (i := 1) rfl hHeld ?_
     (try simp only [Act.put, nrm])
     refine wtk2 (i := 2) rfl hHeld ?_
     (try simp only [Act.put, nrm])
     refine wpAnyH_ready (rs := [0]) (by kernel_rfl) (by simp) (AllReadyH.cons rfl (fun K hK => ?_) AllReadyH.nil)
     go_simp
     refine ((unhide HOp) _).mono ?_
     rintro e w5 ⟨z, rfl, hm5, hf5⟩
     have H5 := hide (((unhide H4).step (Fr.refl _ _).drew).step hf5)
     have hlk := (unhide HLk) w5 z hm5
     clear hf5 hm5
     go_simp
     refine hK.out _ _ ((unhide HS8) _ (unhide H5)) (fun hHeld => ?_)
     clear hK K
     (try simp only [Act.put, nrm])
     refine wpAnyH_ready (rs := [3]) (by kernel_rfl) (by simp) (AllReadyH.cons rfl (fun K hK => ?_) AllReadyH.nil)
     go_simp
     refine hK.out _ _ ((unhide HS8) _ (unhide H5)) (fun hHeld => ?_)
     clear hK K
     (try simp only [Act.put, nrm])
     refine wtk2 (i := 4) rfl hHeld ?_
     (try simp only [Act.put, nrm])
     refine wpAnyH_done (by kernel_rfl) ?_ _
     refine NoPanic.normal ?_
     obtain ⟨q0, q1, q2, q3, q4, q5, q6, q7, q8, q9⟩ := (unhide HR10) _ (unhide H5)
     clear hlk HLk HOp HR
     go_wp2_with fail
     refine ((unhide HD) _ (unhide H5).f).mono ?_
     rintro e w7 ⟨fo, fn, fc, ho, hn, hc, rfl, hd⟩
     have a7 := (OpD.kept (unhide HH) hd (B := w.heap.size + 1) (by omega) (lt_of_block (unhide H5).a)).trans (unhide H5).a
     have HD7 := hide hd
     obtain ⟨e0, e1, e2, e3, e4, e5, e6, y0, y1, y2, y3, y4, y5, y6⟩ := ansc a7
     clear a7 hd HD q0 q1 q2 q3 q4 q5 q6 q7 q8 q9 he
     go_wp2_with fail
     refine bodyPost_ret (results_cell_mid rfl _ _ (w.heap.size + 1) 0 [.int .u32 0, .int .u32 0, .int .u8 (X.2.co : Nat), .int .u32 (X.2.rc : Nat), .int .u32 (X.2.ve : Nat), .slice fo fn fc, .slice ho hn hc] _ rfl ?_ Tryz.underlying45 rfl (by kernel_rfl)) rfl ?_
     ·intro j v hv
      rcases j with _ | _ | _ | _ | _ | _ | _ | j
      ·simp at hv; subst hv; go_simp
      ·simp at hv; subst hv; go_simp
      ·simp at hv; subst hv; go_simp
      ·simp at hv; subst hv; go_simp
      ·simp at hv; subst hv; go_simp
      ·simp at hv; subst hv; go_simp
      ·simp at hv; subst hv; go_simp
      ·simp at hv
     ·exact ⟨_, _, rfl, OpD.out (unhide HH) (unhide H5).f (B := w.heap.size + 1) (by omega) (lt_of_block (unhide H5).a) (unhide HD7) (set7_fr _ _ _ _ _ _ _ _ _)⟩
    ·have hq : ¬ (r.op : Int) = 1 := by omega
     go_wp2_with fail
     refine ((unhide HHs) _ (unhide H2).f).mono ?_
     rintro e w' ⟨rfl, hw⟩
     obtain rfl := hw.symm
     clear hw
     cases hs with
     | false =>
      have HX := hide ((unhide HE3) (by trivial) (by trivial) hop (by trivial))
      clear HE0 HE1 HE3 HDO HFi HHs HOp HSt HS3 HR HR10 HS8
      go_wp2_with fail
      refine ((unhide HRf) 3 _).mono ?_
      rintro e w3 ⟨rfl, hf3⟩
      have h3 := (unhide H2).step hf3
      obtain ⟨e0, e1, e2, e3, e4, e5, e6, z0, z1, z2, z3, z4, z5, z6⟩ := h3.ans
      have H3 := hide h3.f
      clear h3 hf3
      go_wp2_with fail
      (try simp only [Exit.inBlock, Exit.then])
      refine bodyPost_ret (results_cell_mid rfl _ _ (w.heap.size + 1) 0 [.int .u32 0, .int .u32 0, .int .u8 ((3 : Nat) : Int), .int .u32 0, .int .u32 0, .slice none 0 0, .slice none 0 0] _ rfl ?_ Tryz.underlying45 rfl (by kernel_rfl)) rfl ?_
      ·intro j v hv
       rcases j with _ | _ | _ | _ | _ | _ | _ | j
       ·simp at hv; subst hv; go_simp
       ·simp at hv; subst hv; go_simp
       ·simp at hv; subst hv; go_simp
       ·simp at hv; subst hv; go_simp
       ·simp at hv; subst hv; go_simp
       ·simp at hv; subst hv; go_simp
       ·simp at hv; subst hv; go_simp
       ·simp at hv
      ·rw [unhide HX]; refine OpPost.no rfl ?_
       repeat refine Fr.setCell ?_ (.inr (by simp)) _
       exact unhide H3
     | true =>
      have hdo := (unhide HDO) (by trivial) (by trivial) (.inr (by trivial))
      have H4 := H2
      clear H2 hop d3 d4
      obtain ⟨h1, h7, hdo⟩ := hdo
      obtain ⟨N, hN⟩ : ∃ N, opN r.op = N := ⟨_, rfl⟩
      have he : ∀ x y z W, (callFunc N #[x, y, z]).run Tryz.prog W = .ok (.enter N #[x, y, z]) W := fun x y z W => by rw [← hN]; exact op_enters r.op x y z W
      rw [hN] at hdo
      have HD := hide hdo
      have HLk : Hid (∀ W z, W.heap[z]? = some (.map opsE 7) → (Instr.lookup 97 (.map (some z)) (.int .u8 (r.op : Nat)) false).run Tryz.prog W = .ok (.func (.func N) #[] #[]) W) := fun W z hz => by rw [← hN]; exact ops_at W z r.op h1 h7 hz
      clear hdo hN h1 h7 HE0 HE1 HE3 HDO HFi HHs HRf HSt HS3
      go_wp2_with fail
      refine wp_region_noPanic ?_
      refine wp_region_held_drew (S := (fun W => W.cell? ⟨w.heap.size, 3, none⟩ = some (.int .u8 (r.op : Nat)))) (by kernel_rfl) ((unhide HS8) _ ((unhide H4).step (Fr.refl _ _).drew)) (fun hHeld => ?_)
      refine wtk2 (i := 1) rfl hHeld ?_
      (try simp only [Act.put, nrm])
      refine wtk2 (i := 2) rfl hHeld ?_
      (try simp only [Act.put, nrm])
      refine wpAnyH_ready (rs := [0]) (by kernel_rfl) (by simp) (AllReadyH.cons rfl (fun K hK => ?_) AllReadyH.nil)
      go_simp
      refine ((unhide HOp) _).mono ?_
      rintro e w5 ⟨z, rfl, hm5, hf5⟩
      have H5 := hide (((unhide H4).step (Fr.refl _ _).drew).step hf5)
      have hlk := (unhide HLk) w5 z hm5
      clear hf5 hm5
      go_simp
      refine hK.out _ _ ((unhide HS8) _ (unhide H5)) (fun hHeld => ?_)
      clear hK K
      (try simp only [Act.put, nrm])
      refine wpAnyH_ready (rs := [3]) (by kernel_rfl) (by simp) (AllReadyH.cons rfl (fun K hK => ?_) AllReadyH.nil)
      go_simp
      refine hK.out _ _ ((unhide HS8) _ (unhide H5)) (fun hHeld => ?_)
      clear hK K
      (try simp only [Act.put, nrm])
      refine wtk2 (i := 4) rfl hHeld ?_
      (try simp only [Act.put, nrm])
      refine wpAnyH_done (by kernel_rfl) ?_ _
      refine NoPanic.normal ?_
      obtain ⟨q0, q1, q2, q3, q4, q5, q6, q7, q8, q9⟩ := (unhide HR10) _ (unhide H5)
      clear hlk HLk HOp HR
      go_wp2_with fail
      refine ((unhide HD) _ (unhide H5).f).mono ?_
      rintro e w7 ⟨fo, fn, fc, ho, hn, hc, rfl, hd⟩
      have a7 := (OpD.kept (unhide HH) hd (B := w.heap.size + 1) (by omega) (lt_of_block (unhide H5).a)).trans (unhide H5).a
      have HD7 := hide hd
      obtain ⟨e0, e1, e2, e3, e4, e5, e6, y0, y1, y2, y3, y4, y5, y6⟩ := ansc a7
      clear a7 hd HD q0 q1 q2 q3 q4 q5 q6 q7 q8 q9 he
      go_wp2_with fail
      refine bodyPost_ret (results_cell_mid rfl _ _ (w.heap.size + 1) 0 [.int .u32 0, .int .u32 0, .int .u8 (X.2.co : Nat), .int .u32 (X.2.rc : Nat), .int .u32 (X.2.ve : Nat), .slice fo fn fc, .slice ho hn hc] _ rfl ?_ Tryz.underlying45 rfl (by kernel_rfl)) rfl ?_
      ·intro j v hv
       rcases j with _ | _ | _ | _ | _ | _ | _ | j
       ·simp at hv; subst hv; go_simp
       ·simp at hv; subst hv; go_simp
       ·simp at hv; subst hv; go_simp
       ·simp at hv; subst hv; go_simp
       ·simp at hv; subst hv; go_simp
       ·simp at hv; subst hv; go_simp
       ·simp at hv; subst hv; go_simp
       ·simp at hv
      ·exact ⟨_, _, rfl, OpD.out (unhide HH) (unhide H5).f (B := w.heap.size + 1) (by omega) (lt_of_block (unhide H5).a) (unhide HD7) (set7_fr _ _ _ _ _ _ _ _ _)⟩
set_option linter.unusedSimpArgs false in
set_option maxHeartbeats 4000000 in
set_option maxRecDepth 100000 in
theorem apply_any (b : Nat) (s : RM) (q : RW) (M : Nat → Prop) (r : RQ) (F : List F5) (place : Nat) (w : World) (h : RsAt w b s q M) (ho : s.Ok) (hF : FdC w w.heap.size r.fv F) (hFl : F.length ≤ 140737488355328) (hv : ∀ f ∈ F, f.v < 4294967296 ∧ f.u < 256) (hg : GU w) :
  Calls Tryz.prog 10 #[.pointer (some ⟨b, 0, none⟩), r.v, .int .u32 (place : Nat)] w fun e w' => OpPost w b s q M r.cl r.nu (s.step r F place) e w' := by
 obtain ⟨W1, hW1⟩ : ∃ W1, W1 = (w.alloc (.cells r.cs 41)).alloc (.cells #[.int .u32 0, .int .u32 0, .int .u8 0, .int .u32 0, .int .u32 0, .slice none 0 0, .slice none 0 0] 45) := ⟨_, rfl⟩
 have hCB : CB w W1 w.heap.size r := by rw [hW1]; exact CB.new w r
 obtain ⟨xo, xc, hfv⟩ := hF.f.form
 have HAn : Hid (Calls Tryz.prog 22 #[.pointer (some ⟨b, 0, none⟩), r.v, .int .u32 (place : Nat)] W1 fun e w' => ∃ fo fn fc ho hn hc, e = .returned (.agg #[.int .u32 0, .int .u32 0, .int .u8 ((s.step r F place).2.co : Nat), .int .u32 ((s.step r F place).2.rc : Nat), .int .u32 ((s.step r F place).2.ve : Nat), .slice fo fn fc, .slice ho hn hc]) ∧ OpD W1 b s q M (s.step r F place) (.slice fo fn fc) (.slice ho hn hc) w') := by
  have hW := hCB.f
  refine (answer_any b s q M r F place W1 (h.fr hW) ho ⟨hF.f.fr hW, fun g o n c e h0 => Nat.lt_of_lt_of_le (hF.b g o n c e h0) hW.size, hF.c, hF.z⟩ hFl hv (hg.fr hW)).mono ?_
  rintro e w' ⟨fv, hv', he, hd⟩
  obtain ⟨⟨fo, fn, fc, rfl⟩, ho', hn, hc, rfl⟩ := hd.form
  exact ⟨fo, fn, fc, ho', hn, hc, he, hd⟩
 have HH := hide h
 have HC := hide hCB
 generalize s.step r F place = X at *
 simp only [RQ.v, RQ.cs] at *
 rw [hfv] at hW1 HAn ⊢
 clear hCB h hF hFl hv hg ho
 go_enter Tryz.func10, Tryz.ntmps10
 go_wp2_with fail
 rw [← hW1]
 clear hW1
 refine (unhide HAn).mono ?_
 rintro e w3 ⟨fo, fn, fc, ho, hn, hc, rfl, hd⟩
 have a3 := (OpD.kept (unhide HH) hd (B := w.heap.size + 1) (by omega) (lt_of_block (unhide HC).a)).trans (unhide HC).a
 have r3 := (OpD.kept (unhide HH) hd (B := w.heap.size) (by omega) (lt_of_block (unhide HC).r)).trans (unhide HC).r
 have hB := lt_of_block r3
 have hB1 := lt_of_block a3
 have hn1 : w3.heap.size ≠ w.heap.size := by omega
 have hn2 : w3.heap.size ≠ w.heap.size + 1 := by omega
 have q0 : w3.cell? ⟨w.heap.size, 0, none⟩ = some (.int .u32 (r.cl : Nat)) := by simp only [World.cell?, r3]; rfl
 have q1 : w3.cell? ⟨w.heap.size, 1, none⟩ = some (.int .u32 (r.nu : Nat)) := by simp only [World.cell?, r3]; rfl
 obtain ⟨e0, e1, e2, e3, e4, e5, e6, y0, y1, y2, y3, y4, y5, y6⟩ := ansc a3
 have HD3 := hide hd
 clear a3 r3 hd HAn
 go_wp2_with fail
 refine bodyPost_ret (results_cell_mid rfl _ _ (w.heap.size + 1) 0 [.int .u32 (r.cl : Nat), .int .u32 (r.nu : Nat), .int .u8 (X.2.co : Nat), .int .u32 (X.2.rc : Nat), .int .u32 (X.2.ve : Nat), .slice fo fn fc, .slice ho hn hc] _ rfl ?_ Tryz.underlying45 rfl (by kernel_rfl)) rfl ?_
 ·intro j v hv
  rcases j with _ | _ | _ | _ | _ | _ | _ | j
  ·simp at hv; subst hv; go_simp
  ·simp at hv; subst hv; go_simp
  ·simp at hv; subst hv; go_simp
  ·simp at hv; subst hv; go_simp
  ·simp at hv; subst hv; go_simp
  ·simp at hv; subst hv; go_simp
  ·simp at hv; subst hv; go_simp
  ·simp at hv
 ·exact ⟨_, _, rfl, OpD.out (unhide HH) (unhide HC).f (B := w.heap.size + 1) (by omega) (lt_of_block (unhide HC).a) (unhide HD3) ((set7_fr _ _ _ _ _ _ _ _ _).alloc _)⟩
def R10 (w : World) (g p : Nat) (r : RQ) : Prop := w.cell? ⟨g, p, none⟩ = some (.int .u32 (r.cl : Nat)) ∧ w.cell? ⟨g, p + 1, none⟩ = some (.int .u32 (r.nu : Nat)) ∧ w.cell? ⟨g, p + 2, none⟩ = some (.int .u32 (r.ac : Nat)) ∧ w.cell? ⟨g, p + 3, none⟩ = some (.int .u8 (r.op : Nat)) ∧ w.cell? ⟨g, p + 4, none⟩ = some (.int .u32 (r.rc : Nat)) ∧ w.cell? ⟨g, p + 5, none⟩ = some (.int .u32 (r.ve : Nat)) ∧ w.cell? ⟨g, p + 6, none⟩ = some (.int .u32 (r.wa : Nat)) ∧ w.cell? ⟨g, p + 7, none⟩ = some (.int .u32 (r.ow : Nat)) ∧ w.cell? ⟨g, p + 8, none⟩ = some r.fv ∧ w.cell? ⟨g, p + 9, none⟩ = some (.string r.rs)
theorem R10.frS {w w' : World} {g p : Nat} {r : RQ} {S : Nat → Prop} (h : R10 w g p r) (hf : Fr S w w') (hS : ¬ S g) : R10 w' g p r := by
 obtain ⟨h0, h1, h2, h3, h4, h5, h6, h7, h8, h9⟩ := h
 have hg : g < w.heap.size := lt_of_cell h0
 exact ⟨(hf.cell (p := ⟨g, _, none⟩) hg hS).trans h0, (hf.cell (p := ⟨g, _, none⟩) hg hS).trans h1, (hf.cell (p := ⟨g, _, none⟩) hg hS).trans h2, (hf.cell (p := ⟨g, _, none⟩) hg hS).trans h3, (hf.cell (p := ⟨g, _, none⟩) hg hS).trans h4, (hf.cell (p := ⟨g, _, none⟩) hg hS).trans h5, (hf.cell (p := ⟨g, _, none⟩) hg hS).trans h6, (hf.cell (p := ⟨g, _, none⟩) hg hS).trans h7, (hf.cell (p := ⟨g, _, none⟩) hg hS).trans h8, (hf.cell (p := ⟨g, _, none⟩) hg hS).trans h9⟩
structure Rqs (w : World) (x : Value) (l : List (RQ × List F5)) : Prop where
 f : (∃ a c, x = .slice a 0 c ∧ l = []) ∨ ∃ g o c, x = .slice (some ⟨g, o, none⟩) l.length c ∧ ∀ j (h : j < l.length), R10 w g (o + j * 10) l[j].1
 d : ∀ p ∈ l, FdC w w.heap.size p.1.fv p.2
theorem FdC.frF {w w' : World} {x : Value} {l : List F5} (h : FdC w w.heap.size x l) (hf : Fr (fun _ => False) w w') : FdC w' w'.heap.size x l := ⟨h.f.fr hf, fun g o n c e h0 => Nat.lt_of_lt_of_le (h.b g o n c e h0) hf.size, h.c, h.z⟩
theorem Rqs.fr {w w' : World} {x : Value} {l : List (RQ × List F5)} (h : Rqs w x l) (hf : Fr (fun _ => False) w w') : Rqs w' x l := by
 refine ⟨?_, fun p hp => (h.d p hp).frF hf⟩
 rcases h.f with h1 | ⟨g, o, c, h1, h2⟩
 ·exact .inl h1
 ·exact .inr ⟨g, o, c, h1, fun j hj => (h2 j hj).frS hf (fun h => h)⟩
theorem Rqs.form {w : World} {x : Value} {l : List (RQ × List F5)} (h : Rqs w x l) : ∃ xo xc, x = .slice xo l.length xc := by
 rcases h.f with ⟨a, c, rfl, rfl⟩ | ⟨g, o, c, rfl, _⟩ <;> exact ⟨_, _, rfl⟩
theorem Rqs.at_ {w : World} {xo : Option Addr} {n c : Nat} {l : List (RQ × List F5)} (h : Rqs w (.slice xo n c) l) (j : Nat) (hj : j < l.length) : ∃ g o, xo = some ⟨g, o, none⟩ ∧ R10 w g (o + j * 10) l[j].1 := by
 rcases h.f with ⟨_, _, _, rfl⟩ | ⟨g, o, c', e, h2⟩
 ·simp at hj
 ·simp only [Value.slice.injEq] at e
  obtain ⟨rfl, _, _⟩ := e
  exact ⟨g, o, rfl, h2 j hj⟩
def kn : List P3 := [⟨1, 1, 7⟩, ⟨2, 2, 7⟩, ⟨3, 3, 7⟩, ⟨4, 3, 8⟩, ⟨5, 4, 0⟩, ⟨6, 5, 0⟩]
set_option maxHeartbeats 2000000 in
set_option maxRecDepth 100000 in
theorem known_any (w : World) : Calls Tryz.prog 20 #[] w fun e w' => ∃ ao, e = .returned (.slice (some ao) 6 6) ∧ Stf w' (.slice (some ao) 6 6) kn ∧ Fr (fun _ => False) w w' := by
 go_enter Tryz.func20, Tryz.ntmps20
 go_wp2_with fail
 go_ret
 refine ⟨_, rfl, .inr ⟨w.heap.size, 0, 6, rfl, ?_⟩, (Fr.refl _ _).alloc _⟩
 intro j hj
 have hj6 : j < 6 := hj
 simp only [World.cell?_alloc_at _ _ _ _ rfl]
 match j, hj6 with
 | 0, _ => exact ⟨rfl, rfl, rfl⟩
 | 1, _ => exact ⟨rfl, rfl, rfl⟩
 | 2, _ => exact ⟨rfl, rfl, rfl⟩
 | 3, _ => exact ⟨rfl, rfl, rfl⟩
 | 4, _ => exact ⟨rfl, rfl, rfl⟩
 | 5, _ => exact ⟨rfl, rfl, rfl⟩
def fT (s : ByteArray) : F5 := ⟨⟨#[110, 97, 109, 101]⟩, 1, s, 0, 0⟩
def fQ (v : Nat) : F5 := ⟨⟨#[116, 101, 109, 112]⟩, 2, ⟨#[]⟩, v, 11⟩
def fG : F5 := ⟨⟨#[110, 97, 109, 101]⟩, 3, ⟨#[]⟩, 0, 0⟩
def f8 : F5 := ⟨⟨#[116, 101, 109, 112]⟩, 2, ⟨#[]⟩, 1084227584, 8⟩
set_option maxRecDepth 100000 in
theorem fq_any (v : Nat) (w : World) : Calls Tryz.prog 34 #[.float .f32 v] w fun e w' => e = .returned (.agg #[.string ⟨#[116, 101, 109, 112]⟩, .int .u8 2, .string ⟨#[]⟩, .float .f32 v, .int .u8 11]) ∧ Fr (fun _ => False) w w' := by
 go_enter Tryz.func34, Tryz.ntmps34
 go_wp2_with fail
 refine bodyPost_ret (results_cell_mid rfl _ _ w.heap.size 0 [.string ⟨#[116, 101, 109, 112]⟩, .int .u8 2, .string ⟨#[]⟩, .float .f32 v, .int .u8 11] _ rfl ?_ Tryz.underlying55 rfl (by kernel_rfl)) rfl ?_
 ·exact range_new w _ _ _ rfl
 ·exact ⟨rfl, box1 w _⟩
set_option maxRecDepth 100000 in
theorem ft_any (s : ByteArray) (w : World) : Calls Tryz.prog 33 #[.string s] w fun e w' => e = .returned (.agg #[.string ⟨#[110, 97, 109, 101]⟩, .int .u8 1, .string s, .float .f32 0, .int .u8 0]) ∧ Fr (fun _ => False) w w' := by
 go_enter Tryz.func33, Tryz.ntmps33
 go_wp2_with fail
 refine bodyPost_ret (results_cell_mid rfl _ _ w.heap.size 0 [.string ⟨#[110, 97, 109, 101]⟩, .int .u8 1, .string s, .float .f32 0, .int .u8 0] _ rfl ?_ Tryz.underlying55 rfl (by kernel_rfl)) rfl ?_
 ·exact range_new w _ _ _ rfl
 ·exact ⟨rfl, box1 w _⟩
def stL (z0 z1 z2 z3 z4 z5 : Nat) : List (RQ × List F5) := [(⟨0, 0, 1, 1, 0, 0, 7, 6, .slice (some ⟨z0, 0, none⟩) 1 1, ⟨#[]⟩⟩, [fT ⟨#[65, 100, 97]⟩]),
 (⟨0, 0, 2, 2, 1, 1, 0, 0, .slice (some ⟨z1, 0, none⟩) 1 1, ⟨#[]⟩⟩, [fQ 1108606976]),
 (⟨0, 0, 1, 2, 1, 2, 0, 0, .slice (some ⟨z2, 0, none⟩) 1 1, ⟨#[]⟩⟩, [fQ 1108869120]),
 (⟨0, 0, 3, 2, 1, 1, 0, 0, .slice (some ⟨z3, 0, none⟩) 1 1, ⟨#[]⟩⟩, [fQ 1109131264]),
 (⟨0, 0, 3, 2, 1, 2, 0, 0, .slice (some ⟨z4, 0, none⟩) 2 2, ⟨#[]⟩⟩, [fG, fQ 1109131264]),
 (⟨0, 0, 6, 3, 1, 0, 0, 0, .slice none 0 0, ⟨#[]⟩⟩, []),
 (⟨0, 0, 6, 3, 1, 2, 0, 0, .slice none 0 0, ⟨#[]⟩⟩, []),
 (⟨0, 0, 6, 3, 1, 9, 0, 0, .slice none 0 0, ⟨#[]⟩⟩, []),
 (⟨0, 0, 6, 6, 1, 1, 0, 0, .slice none 0 0, ⟨#[]⟩⟩, []),
 (⟨0, 0, 2, 3, 1, 0, 0, 0, .slice none 0 0, ⟨#[]⟩⟩, []),
 (⟨0, 0, 4, 7, 1, 0, 0, 0, .slice none 0 0, ⟨#[104, 101, 97, 114, 116]⟩⟩, []),
 (⟨0, 0, 4, 3, 1, 1, 0, 0, .slice none 0 0, ⟨#[]⟩⟩, []),
 (⟨0, 0, 6, 6, 1, 1, 0, 0, .slice none 0 0, ⟨#[]⟩⟩, []),
 (⟨0, 0, 4, 3, 1, 0, 0, 0, .slice none 0 0, ⟨#[]⟩⟩, []),
 (⟨0, 0, 3, 4, 1, 1, 0, 0, .slice none 0 0, ⟨#[]⟩⟩, []),
 (⟨0, 0, 3, 3, 1, 1, 0, 0, .slice none 0 0, ⟨#[]⟩⟩, []),
 (⟨0, 0, 5, 5, 1, 0, 0, 0, .slice none 0 0, ⟨#[]⟩⟩, []),
 (⟨0, 0, 3, 2, 1, 3, 0, 0, .slice (some ⟨z5, 0, none⟩) 1 1, ⟨#[]⟩⟩, [f8]),
 (⟨0, 0, 9, 3, 1, 0, 0, 0, .slice none 0 0, ⟨#[]⟩⟩, []),
 (⟨0, 0, 3, 3, 2, 0, 0, 0, .slice none 0 0, ⟨#[]⟩⟩, [])]
theorem lit_fdc {w : World} {z n : Nat} {l : List F5} {cs : Array Value} (hb : w.heap[z]? = some (.cells cs 55)) (hc : cs.toList = fcells l) (hn : l.length = n) : FdC w w.heap.size (.slice (some ⟨z, 0, none⟩) n n) l := by
 subst hn
 refine ⟨.inr ⟨z, 0, l.length, rfl, fun j hj => ?_⟩, fun g o n c e _ => by cases e; exact lt_of_block hb, fun xo n c e => by cases e; exact Nat.le_refl _, fun n c e => by cases e⟩
 have ha := fcells_at l j hj
 rw [← hc] at ha
 simp only [Nat.zero_add]
 obtain ⟨a0, a1, a2, a3, a4⟩ := ha
 simp only [Array.getElem?_toList] at a0 a1 a2 a3 a4
 simp only [World.cell?, hb]
 exact ⟨a0, a1, a2, a3, a4⟩
theorem nil_fdc {w : World} : FdC w w.heap.size (.slice none 0 0) [] := ⟨fds_nil w, fun g o n c e _ => (by cases e), fun xo n c e => (by cases e; exact Nat.le_refl _), fun n c e => (by cases e; rfl)⟩
def Rqb (x : Value) (l : List (RQ × List F5)) (k : Nat) : Prop := (∃ o n c, x = .slice (some ⟨k, o, none⟩) n c ∧ 0 < n) ∨ ∃ p ∈ l, ∃ o n c, p.1.fv = .slice (some ⟨k, o, none⟩) n c ∧ 0 < n
theorem Rqs.frS {w w' : World} {x : Value} {l : List (RQ × List F5)} {S : Nat → Prop} (h : Rqs w x l) (hf : Fr S w w') (hS : ∀ k, Rqb x l k → ¬ S k) : Rqs w' x l := by
 refine ⟨?_, fun p hp => ⟨(h.d p hp).f.frS hf (fun g o n c e h0 => hS g (.inr ⟨p, hp, o, n, c, e, h0⟩)), fun g o n c e h0 => Nat.lt_of_lt_of_le ((h.d p hp).b g o n c e h0) hf.size, (h.d p hp).c, (h.d p hp).z⟩⟩
 rcases h.f with h1 | ⟨g, o, c, h1, h2⟩
 ·exact .inl h1
 ·exact .inr ⟨g, o, c, h1, fun j hj => (h2 j hj).frS hf (hS g (.inl ⟨o, _, c, h1, by omega⟩))⟩
theorem Rqs.lt {w : World} {x : Value} {l : List (RQ × List F5)} (h : Rqs w x l) {k : Nat} (hk : Rqb x l k) : k < w.heap.size := by
 rcases hk with ⟨o, n, c, e, h0⟩ | ⟨p, hp, o, n, c, e, h0⟩
 ·subst e
  rcases h.f with ⟨a, c', e, _⟩ | ⟨g, o', c', e, h2⟩
  ·cases e; omega
  ·cases e
   exact lt_of_cell (h2 0 h0).1
 ·exact (h.d p hp).b k o n c e h0
def rcells (l : List (RQ × List F5)) : List Value := l.flatMap fun p => p.1.cs.toList
theorem rcells_at (l : List (RQ × List F5)) : ∀ (j : Nat) (h : j < l.length) (k : Nat), k < 10 → (rcells l)[j * 10 + k]? = l[j].1.cs.toList[k]? := by
 induction l with
 | nil => intro j h; simp at h
 | cons p r ih =>
  intro j h k hk
  have e : rcells (p :: r) = p.1.cs.toList ++ rcells r := by simp [rcells]
  have hl : p.1.cs.toList.length = 10 := rfl
  rw [e]
  rcases j with _ | j
  ·rw [List.getElem?_append_left (by omega)]
   simp
  ·rw [List.getElem?_append_right (by omega), hl, show (j + 1) * 10 + k - 10 = j * 10 + k by omega, ih j (by simpa using h) k hk]
   rfl
theorem row_rqs {w : World} {z : Nat} {l : List (RQ × List F5)} {cs : Array Value} (hb : w.heap[z]? = some (.cells cs 41)) (hc : cs.toList = rcells l) (hd : ∀ p ∈ l, FdC w w.heap.size p.1.fv p.2) : Rqs w (.slice (some ⟨z, 0, none⟩) l.length l.length) l := by
 refine ⟨.inr ⟨z, 0, l.length, rfl, fun j hj => ?_⟩, hd⟩
 have ha : ∀ k, k < 10 → w.cell? ⟨z, j * 10 + k, none⟩ = l[j].1.cs.toList[k]? := fun k hk => by
  rw [← rcells_at l j hj k hk, ← hc]
  simp only [World.cell?, hb]
  simp
 rw [Nat.zero_add]
 exact ⟨ha 0 (by omega), ha 1 (by omega), ha 2 (by omega), ha 3 (by omega), ha 4 (by omega), ha 5 (by omega), ha 6 (by omega), ha 7 (by omega), ha 8 (by omega), ha 9 (by omega)⟩
theorem wp_bs {P : Program} {w : World} {op : Oper} {a : Act} {K : Act → World → Prop} {Q : Exit → Act → World → Prop} (v : Value) (w' : World) (hr : (execOp a.eval op).run P w = .ok (.value v) w') (h : K (a.put op.dst v) w') : op.wp P a w K Q := by
 unfold Oper.wp
 rw [hr]
 exact h
set_option maxHeartbeats 4000000 in
set_option maxRecDepth 100000 in
theorem story_any (w : World) : Calls Tryz.prog 21 #[] w fun e w' => ∃ g z0 z1 z2 z3 z4 z5, e = .returned (.slice (some ⟨g, 0, none⟩) 20 20) ∧ Rqs w' (.slice (some ⟨g, 0, none⟩) 20 20) (stL z0 z1 z2 z3 z4 z5) ∧ (∀ k, Rqb (.slice (some ⟨g, 0, none⟩) 20 20) (stL z0 z1 z2 z3 z4 z5) k → w.heap.size ≤ k) ∧ Fr (fun _ => False) w w' := by
 have HT := hide (ft_any ⟨#[65, 100, 97]⟩)
 have HQ := hide fq_any
 go_enter Tryz.func21, Tryz.ntmps21
 go_wp2_with fail
 refine ((unhide HT) _).mono ?_
 rintro e w0 ⟨rfl, hf0⟩
 have H0 := hide hf0
 have SZ0 := hide hf0.size
 clear hf0 HT
 go_wp2_with fail
 refine ((unhide HQ) _ _).mono ?_
 rintro e w1 ⟨rfl, hf1⟩
 have HZ0 := hide ((lit_fdc (l := [fT ⟨#[65, 100, 97]⟩]) (n := 1) (w := w0.alloc (.cells (fT ⟨#[65, 100, 97]⟩).cs 55)) Array.getElem?_push_size rfl rfl).frF hf1)
 have H1 := hide ((unhide H0).trans ((box1 w0 _).trans hf1 (fun _ _ h => h)) (fun _ _ h => h))
 have SZ1 := hide (unhide H1).size
 clear hf1 H0
 go_wp2_with fail
 refine ((unhide HQ) _ _).mono ?_
 rintro e w2 ⟨rfl, hf2⟩
 have HZ1 := hide ((lit_fdc (l := [fQ 1108606976]) (n := 1) (w := w1.alloc (.cells (fQ 1108606976).cs 55)) Array.getElem?_push_size rfl rfl).frF hf2)
 replace HZ0 := hide ((unhide HZ0).frF ((box1 w1 _).trans hf2 (fun _ _ h => h)))
 have H2 := hide ((unhide H1).trans ((box1 w1 _).trans hf2 (fun _ _ h => h)) (fun _ _ h => h))
 have SZ2 := hide (unhide H2).size
 clear hf2 H1
 go_wp2_with fail
 refine ((unhide HQ) _ _).mono ?_
 rintro e w3 ⟨rfl, hf3⟩
 have HZ2 := hide ((lit_fdc (l := [fQ 1108869120]) (n := 1) (w := w2.alloc (.cells (fQ 1108869120).cs 55)) Array.getElem?_push_size rfl rfl).frF hf3)
 replace HZ0 := hide ((unhide HZ0).frF ((box1 w2 _).trans hf3 (fun _ _ h => h)))
 replace HZ1 := hide ((unhide HZ1).frF ((box1 w2 _).trans hf3 (fun _ _ h => h)))
 have H3 := hide ((unhide H2).trans ((box1 w2 _).trans hf3 (fun _ _ h => h)) (fun _ _ h => h))
 have SZ3 := hide (unhide H3).size
 clear hf3 H2
 go_wp2_with fail
 refine ((unhide HQ) _ _).mono ?_
 rintro e w4 ⟨rfl, hf4⟩
 have HZ3 := hide ((lit_fdc (l := [fQ 1109131264]) (n := 1) (w := w3.alloc (.cells (fQ 1109131264).cs 55)) Array.getElem?_push_size rfl rfl).frF hf4)
 replace HZ0 := hide ((unhide HZ0).frF ((box1 w3 _).trans hf4 (fun _ _ h => h)))
 replace HZ1 := hide ((unhide HZ1).frF ((box1 w3 _).trans hf4 (fun _ _ h => h)))
 replace HZ2 := hide ((unhide HZ2).frF ((box1 w3 _).trans hf4 (fun _ _ h => h)))
 have H4 := hide ((unhide H3).trans ((box1 w3 _).trans hf4 (fun _ _ h => h)) (fun _ _ h => h))
 have SZ4 := hide (unhide H4).size
 clear hf4 H3
 clear HQ
 go_wp2_with fail
 generalize hW5 : w4.alloc (.cells #[.string ⟨#[110, 97, 109, 101]⟩, .int .u8 3, .string ⟨#[]⟩, .float .f32 0, .int .u8 0, .string ⟨#[116, 101, 109, 112]⟩, .int .u8 2, .string ⟨#[]⟩, .float .f32 1109131264, .int .u8 11] 55) = W5
 have hs5 : W5.heap.size = w4.heap.size + 1 := by rw [← hW5]; simp
 generalize hW6 : W5.alloc (.cells #[.string ⟨#[116, 101, 109, 112]⟩, .int .u8 2, .string ⟨#[]⟩, .float .f32 1084227584, .int .u8 8] 55) = W6
 have h45 : Fr (fun _ => False) w4 W5 := by rw [← hW5]; exact box1 w4 _
 have h56 : Fr (fun _ => False) W5 W6 := by rw [← hW6]; exact box1 W5 _
 have HZ4 := hide ((lit_fdc (l := [fG, fQ 1109131264]) (n := 2) (w := W5) (by rw [← hW5]; exact Array.getElem?_push_size) rfl rfl).frF h56)
 have HZ5 : Hid (FdC W6 W6.heap.size (.slice (some ⟨W5.heap.size, 0, none⟩) 1 1) [f8]) := lit_fdc (l := [f8]) (n := 1) (w := W6) (by rw [← hW6]; exact Array.getElem?_push_size) rfl rfl
 replace HZ0 := hide ((unhide HZ0).frF (h45.trans h56 (fun _ _ h => h)))
 replace HZ1 := hide ((unhide HZ1).frF (h45.trans h56 (fun _ _ h => h)))
 replace HZ2 := hide ((unhide HZ2).frF (h45.trans h56 (fun _ _ h => h)))
 replace HZ3 := hide ((unhide HZ3).frF (h45.trans h56 (fun _ _ h => h)))
 have H6 := hide ((unhide H4).trans (h45.trans h56 (fun _ _ h => h)) (fun _ _ h => h))
 rw [hs5] at HZ5
 clear hW5 hW6 h45 h56 hs5 H4
 generalize w0.heap.size = z0 at *
 generalize w1.heap.size = z1 at *
 generalize w2.heap.size = z2 at *
 generalize w3.heap.size = z3 at *
 generalize w4.heap.size = z4 at *
 refine wp_bs (.slice (some ⟨W6.heap.size, 0, none⟩) 20 20) (W6.alloc (.cells (rcells (stL z0 z1 z2 z3 z4 (z4 + 1))).toArray 41)) (by kernel_rfl) ?_
 rename_i K1 hK1 K2 hK2
 refine hK2 _ _ ?_
 simp only [Act.put, List.setIfInBounds_toArray, List.set_cons_zero, List.set_cons_succ]
 clear hK2
 go_wp2_with fail
 go_ret
 have hb := box1 W6 (.cells (rcells (stL z0 z1 z2 z3 z4 (z4 + 1))).toArray 41)
 refine ⟨W6.heap.size, z0, z1, z2, z3, z4, z4 + 1, rfl, row_rqs (l := stL z0 z1 z2 z3 z4 (z4 + 1)) Array.getElem?_push_size (by simp) (fun p hp => ?_), fun k hk => ?_, (unhide H6).trans hb (fun _ _ h => h)⟩
 rotate_left
 ·have s0 := unhide SZ0
  have s1 := unhide SZ1
  have s2 := unhide SZ2
  have s3 := unhide SZ3
  have s4 := unhide SZ4
  have s6 := (unhide H6).size
  rcases hk with ⟨o, n, c, e, _⟩ | ⟨p, hp, o, n, c, e, _⟩
  ·cases e; exact s6
  ·simp only [stL, List.mem_cons, List.not_mem_nil, or_false] at hp
   rcases hp with rfl | rfl | rfl | rfl | rfl | rfl | rfl | rfl | rfl | rfl | rfl | rfl | rfl | rfl | rfl | rfl | rfl | rfl | rfl | rfl <;> cases e <;> omega
 simp only [stL, List.mem_cons, List.not_mem_nil, or_false] at hp
 rcases hp with rfl | rfl | rfl | rfl | rfl | rfl | rfl | rfl | rfl | rfl | rfl | rfl | rfl | rfl | rfl | rfl | rfl | rfl | rfl | rfl
 ·exact (unhide HZ0).frF hb
 ·exact (unhide HZ1).frF hb
 ·exact (unhide HZ2).frF hb
 ·exact (unhide HZ3).frF hb
 ·exact (unhide HZ4).frF hb
 ·exact nil_fdc
 ·exact nil_fdc
 ·exact nil_fdc
 ·exact nil_fdc
 ·exact nil_fdc
 ·exact nil_fdc
 ·exact nil_fdc
 ·exact nil_fdc
 ·exact nil_fdc
 ·exact nil_fdc
 ·exact nil_fdc
 ·exact nil_fdc
 ·exact (unhide HZ5).frF hb
 ·exact nil_fdc
 ·exact nil_fdc
theorem OpD.to {w w' : World} {b : Nat} {s : RM} {q : RW} {M : Nat → Prop} {x : RM × RA} {fv hv : Value} (h0 : RsAt w b s q M) (h : OpD w b s q M x fv hv w') : RsTo w w' b s x.1 q M ∧ OwF w' w.heap.size fv x.2.F ∧ OwS w' w.heap.size hv x.2.H := by
 rcases h with ⟨e, f1, f2, f3⟩ | ⟨e1, e2, rfl, rfl, hr⟩
 ·refine ⟨?_, f2, f3⟩
  rw [e]
  exact ⟨q, M, h0.fr f1, fun k hk => .inl hk, fun k hk => .inl hk, f1.mono (fun _ _ h => h.elim)⟩
 ·refine ⟨hr, ?_, ?_⟩
  ·rw [e1]; exact World.ownsRow_nil _ _ _ _
  ·rw [e2]; exact World.ownsRow_nil _ _ _ _
def RsB (w : World) (b : Nat) (T : Nat → Prop) (s : RM) : Prop := ∃ q M, RsAt w b s q M ∧ (∀ k, M k → T k) ∧ ∀ k, q.uses s k → T k
theorem RsB.fr {w w' : World} {b : Nat} {T : Nat → Prop} {s : RM} (h : RsB w b T s) (hf : Fr (fun _ => False) w w') : RsB w' b T s := by
 obtain ⟨q, M, h1, h2⟩ := h
 exact ⟨q, M, h1.fr hf, h2⟩
theorem RsB.frS {w w' : World} {b : Nat} {T S : Nat → Prop} {s : RM} (h : RsB w b T s) (hf : Fr S w w') (hS : ∀ k, S k → ¬ T k) : RsB w' b T s := by
 obtain ⟨q, M, h1, h2, h3⟩ := h
 exact ⟨q, M, h1.frD hf (fun k hk hM => hS k hk (h2 k hM)) (fun k hk hU => hS k hk (h3 k hU)), h2, h3⟩
theorem apply_B (b : Nat) (T : Nat → Prop) (s : RM) (r : RQ) (F : List F5) (place : Nat) (w : World) (h : RsB w b T s) (ho : s.Ok) (hF : FdC w w.heap.size r.fv F) (hFl : F.length ≤ 140737488355328) (hv : ∀ f ∈ F, f.v < 4294967296 ∧ f.u < 256) (hg : GU w) (X : RM × RA) (hX : s.step r F place = X) :
  Calls Tryz.prog 10 #[.pointer (some ⟨b, 0, none⟩), r.v, .int .u32 (place : Nat)] w fun e w' => ∃ fo fn fc ho hn hc, e = .returned (.agg #[.int .u32 (r.cl : Nat), .int .u32 (r.nu : Nat), .int .u8 (X.2.co : Nat), .int .u32 (X.2.rc : Nat), .int .u32 (X.2.ve : Nat), .slice fo fn fc, .slice ho hn hc]) ∧ RsB w' b (fun k => T k ∨ (w.heap.size ≤ k ∧ k < w'.heap.size)) X.1 ∧ OwF w' w.heap.size (.slice fo fn fc) X.2.F ∧ OwS w' w.heap.size (.slice ho hn hc) X.2.H ∧ Fr T w w' := by
 subst hX
 obtain ⟨q, M, h1, h2, h3⟩ := h
 refine (apply_any b s q M r F place w h1 ho hF hFl hv hg).mono ?_
 rintro e w' ⟨fv, hv', he, hd⟩
 obtain ⟨⟨fo, fn, fc, rfl⟩, ho', hn, hc, rfl⟩ := hd.form
 obtain ⟨⟨q', M', k1, k2, k3, k4⟩, o1, o2⟩ := hd.to h1
 exact ⟨fo, fn, fc, ho', hn, hc, he, ⟨q', M', k1, fun k hk => (k2 k hk).imp (h2 k) (fun h => ⟨h, k1.lt k hk⟩), fun k hk => (k3 k hk).imp (h3 k) (fun h => ⟨h, k1.usesLt hk⟩)⟩, o1, o2, k4.mono (fun k _ hk => h2 k hk)⟩
theorem GU.frT {w w' : World} {T : Nat → Prop} (h : GU w) (hf : Fr T w w') (h0 : ¬ T 1) : GU w' := fun i hi => (hf.cell (p := ⟨_, _, none⟩) (lt_of_cell (h i hi)) h0).trans (h i hi)
theorem records_B (b : Nat) (T : Nat → Prop) (s : RM) (w : World) (h : RsB w b T s) : Calls Tryz.prog 15 #[.pointer (some ⟨b, 0, none⟩)] w fun e w' => e = .returned (.int .i64 (s.C.length : Nat)) ∧ w' = w := by
 obtain ⟨q, M, h1, h2⟩ := h
 exact records_any b s q M w h1
set_option maxRecDepth 100000 in
theorem new_B (x : Value) (S : List P3) (w : World) (hx : Stf w x S) (hz : ∀ n c, x = .slice none n c → c = 0) (hl : S.length ≤ 1000000) :
  Calls Tryz.prog 8 #[x] w fun e w' => ∃ b, e = .returned (.pointer (some ⟨b, 0, none⟩)) ∧ RsB w' b (fun k => w.heap.size ≤ k ∧ k < w'.heap.size) ⟨S, []⟩ ∧ Fr (fun _ => False) w w' := by
 obtain ⟨v, w1, hr, ho, hf⟩ := app_stf w x S hx hz hl
 obtain ⟨xo, xc, rfl⟩ := hx.form
 obtain ⟨vo, vc, rfl⟩ := own_formX ho
 have HR := hide hr
 have H1 := hide (And.intro ho hf)
 clear hr ho hf hx hz
 go_enter Tryz.func8, Tryz.ntmps8
 go_wp2_with (at_builtin; refine wpList_app rfl _ _ 22 22 rfl _ _ _ rfl rfl (unhide HR) ?_; clear HR)
 go_ret
 have hbx := box1 w1 (.cells #[.slice vo S.length vc, .slice none 0 0] 66)
 have hs1 := (unhide H1).2.size
 have hown : ∀ g o n c, Value.slice vo S.length vc = .slice (some ⟨g, o, none⟩) n c → w.heap.size ≤ g ∧ g < w1.heap.size := fun g o n c e => (unhide H1).1.lt g (by rw [e]; rfl)
 refine ⟨w1.heap.size, rfl, ⟨⟨.slice vo S.length vc, .slice none 0 0, fun _ => .slice none 0 0, fun _ => .slice none 0 0, fun _ _ => .slice none 0 0⟩, fun k => k = w1.heap.size, ⟨Array.getElem?_push_size, (own_stf (unhide H1).1).fr hbx, fun g o n c e h0 hM => ?_, World.ownsRow_nil _ _ _ _, fun i c hc => (by simp at hc), fun i c hc => (by simp at hc), fun i c j v hc => (by simp at hc), rfl, fun g hg => (by cases hg), fun i c hc => (by simp at hc), fun i c hc => (by simp at hc), fun i j c d hc => (by simp at hc), fun i j c d hc => (by simp at hc), fun k hk => (by subst hk; simp)⟩, fun k hk => ?_, fun k hk => ?_⟩, (unhide H1).2.trans hbx (fun _ _ h => h)⟩
 ·have := (hown g o n c e).2
  omega
 ·subst hk
  exact ⟨hs1, by simp⟩
 ·rcases hk with ⟨o, n, c, e, _⟩ | ⟨i, c, j, v, hc, _⟩
  ·have := hown k o n c e
   exact ⟨this.1, by simp; omega⟩
  ·simp at hc
theorem RsB.mono {w : World} {b : Nat} {T T' : Nat → Prop} {s : RM} (h : RsB w b T s) (hT : ∀ k, T k → T' k) : RsB w b T' s := by
 obtain ⟨q, M, h1, h2, h3⟩ := h
 exact ⟨q, M, h1, fun k hk => hT k (h2 k hk), fun k hk => hT k (h3 k hk)⟩
theorem apply_C (b : Nat) (T : Nat → Prop) (s : RM) (r : RQ) (F : List F5) (place : Nat) (w : World) (h : RsB w b T s) (hT : ∀ k, T k → k < w.heap.size) (ho : s.Ok) (hF : FdC w w.heap.size r.fv F) (hFl : F.length ≤ 140737488355328) (hv : ∀ f ∈ F, f.v < 4294967296 ∧ f.u < 256) (hg : GU w) (X : RM × RA) (hX : s.step r F place = X) :
  Calls Tryz.prog 10 #[.pointer (some ⟨b, 0, none⟩), r.v, .int .u32 (place : Nat)] w fun e w' => ∃ fo fn fc ho hn hc, e = .returned (.agg #[.int .u32 (r.cl : Nat), .int .u32 (r.nu : Nat), .int .u8 (X.2.co : Nat), .int .u32 (X.2.rc : Nat), .int .u32 (X.2.ve : Nat), .slice fo fn fc, .slice ho hn hc]) ∧ OwF w' w.heap.size (.slice fo fn fc) X.2.F ∧ OwS w' w.heap.size (.slice ho hn hc) X.2.H ∧ Fr T w w' ∧ ∃ T', RsB w' b T' X.1 ∧ (∀ k, T' k → T k ∨ w.heap.size ≤ k) ∧ (∀ k, T' k → k < w'.heap.size) ∧ (∀ g, (Value.slice fo fn fc).ownBlock = some g → ¬ T' g) ∧ (∀ g, (Value.slice ho hn hc).ownBlock = some g → ¬ T' g) := by
 subst hX
 obtain ⟨q, M, h1, h2, h3⟩ := h
 refine (apply_any b s q M r F place w h1 ho hF hFl hv hg).mono ?_
 rintro e w' ⟨fv, hv', he, hd⟩
 obtain ⟨⟨fo, fn, fc, rfl⟩, ho', hn, hc, rfl⟩ := hd.form
 obtain ⟨hto, o1, o2⟩ := hd.to h1
 refine ⟨fo, fn, fc, ho', hn, hc, he, o1, o2, ?_, ?_⟩
 ·obtain ⟨q', M', k1, k2, k3, k4⟩ := hto
  exact k4.mono (fun k _ hk => h2 k hk)
 ·rcases hd with ⟨e1, f1, f2, f3⟩ | ⟨e1, e2, e3, e4, hr⟩
  ·refine ⟨T, ?_, fun k hk => .inl hk, fun k hk => Nat.lt_of_lt_of_le (hT k hk) f1.size, fun g hg hT' => ?_, fun g hg hT' => ?_⟩
   ·rw [e1]
    exact ⟨q, M, h1.fr f1, h2, h3⟩
   ·have := (f2.lt g hg).1
    have := hT g hT'
    omega
   ·have := (f3.lt g hg).1
    have := hT g hT'
    omega
  ·obtain ⟨q', M', k1, k2, k3, k4⟩ := hr
   refine ⟨fun k => M' k ∨ q'.uses _ k, ⟨q', M', k1, fun k hk => .inl hk, fun k hk => .inr hk⟩, fun k hk => hk.elim (fun hk => (k2 k hk).imp (h2 k) id) (fun hk => (k3 k hk).imp (h3 k) id), fun k hk => hk.elim (k1.lt k) k1.usesLt, fun g hg => ?_, fun g hg => ?_⟩
   ·rw [e3] at hg; cases hg
   ·rw [e4] at hg; cases hg
def runM : RM → Nat → List (RQ × List F5) → List RA
 | _, _, [] => []
 | s, i, p :: r => (s.step p.1 p.2 i).2 :: runM (s.step p.1 p.2 i).1 (i + 1) r
def endM : RM → Nat → List (RQ × List F5) → RM
 | s, _, [] => s
 | s, i, p :: r => endM (s.step p.1 p.2 i).1 (i + 1) r
theorem runM_snoc : ∀ (l : List (RQ × List F5)) (s : RM) (i : Nat) (p : RQ × List F5), runM s i (l ++ [p]) = runM s i l ++ [((endM s i l).step p.1 p.2 (i + l.length)).2] ∧ endM s i (l ++ [p]) = ((endM s i l).step p.1 p.2 (i + l.length)).1
 | [], s, i, p => ⟨rfl, rfl⟩
 | x :: r, s, i, p => by
  obtain ⟨h1, h2⟩ := runM_snoc r (s.step x.1 x.2 i).1 (i + 1) p
  refine ⟨?_, ?_⟩
  ·show _ :: runM _ _ (r ++ [p]) = _
   rw [h1]
   simp only [runM, endM, List.length_cons, List.cons_append]
   rw [show i + 1 + r.length = i + (r.length + 1) by omega]
  ·show endM _ _ (r ++ [p]) = _
   rw [h2]
   simp only [endM, List.length_cons]
   rw [show i + 1 + r.length = i + (r.length + 1) by omega]
theorem runM_len : ∀ (l : List (RQ × List F5)) (s : RM) (i : Nat), (runM s i l).length = l.length
 | [], _, _ => rfl
 | x :: r, s, i => by simp only [runM, List.length_cons, runM_len r]
def PGood (p : RQ × List F5) : Prop := p.1.ac < 4294967296 ∧ p.2.length ≤ 140737488355328 ∧ ∀ f ∈ p.2, f.v < 4294967296 ∧ f.u < 256
def acells (l : List AN) : List Value := l.flatMap AN.cs
theorem acells_app (l : List AN) (a : AN) : acells (l ++ [a]) = acells l ++ a.cs := by simp [acells]
theorem Tryz.infoAn : (Tryz.prog.info? 45).map (fun i => (i.zero, i.size, i.bytes)) = some (some (.agg #[.int .u32 0, .int .u32 0, .int .u8 0, .int .u32 0, .int .u32 0, .slice none 0 0, .slice none 0 0]), 7, 72) := by kernel_rfl
theorem app_ans (w : World) (base x : Nat) (v : Value) (l : List AN) (a : AN) (h : w.ownsRow base 45 7 v l.length (acells l)) (hb : base ≤ w.heap.size) (hn : l.length ≤ 1000000000) (hx : w.heap[x]? = some (.cells a.cs.toArray 45)) (h1 : ∀ u ∈ a.cs, u.oneCell' = true) :
  ∃ ao cap w', (Builtin.append_ #[58, 58] 58 #[v, .slice (some ⟨x, 0, none⟩) 1 1]).run Tryz.prog w = .ok (.slice ao (l.length + 1) cap) w' ∧ w'.ownsRow base 45 7 (.slice ao (l.length + 1) cap) (l ++ [a]).length (acells (l ++ [a])) ∧ Fr (fun g => v.ownBlock = some g) w w' ∧ ∀ g, (Value.slice ao (l.length + 1) cap).ownBlock = some g → v.ownBlock = some g ∨ w.heap.size ≤ g := by
 obtain ⟨i0, hi, hz0, hz1, hz2⟩ := info_parts Tryz.infoAn
 obtain ⟨v', w', hr, h2, h3, _, h5⟩ := run_append_own_at (P := Tryz.prog) (w := w) base 58 58 45 i0 (.agg #[.int .u32 0, .int .u32 0, .int .u8 0, .int .u32 0, .int .u32 0, .slice none 0 0, .slice none 0 0]) 7 72 Tryz.underlying58 hi hz0 hz1 hz2 rfl (by decide) v l.length (acells l) h ⟨x, 0, none⟩ 1 1 a.cs rfl (fun j u hu => by
  rw [addr_add, Nat.zero_add]
  simp only [World.cell?, hx]
  simpa using hu) h1 (by simp only [maxLen]; omega) (by omega) hb
 obtain ⟨ao, cap, rfl⟩ := own_formX h2
 refine ⟨ao, cap, w', hr, by rw [acells_app, List.length_append, List.length_singleton]; exact h2, (Fr.refl _ _).grown h3 (fun g hg => .inl hg), fun g hg => ?_⟩
 rcases h5 with e | e
 ·rw [e] at hg; exact .inl hg
 ·rw [e] at hg; cases hg; exact .inr (Nat.le_refl _)
structure AnOk (w : World) (base : Nat) (T : Nat → Prop) (r : RQ) (a : AN) (x : RA) : Prop where
 e : a.cl = r.cl ∧ a.nu = r.nu ∧ a.co = x.co ∧ a.rc = x.rc ∧ a.ve = x.ve
 f : OwF w base a.fv x.F
 h : OwS w base a.hv x.H
 tf : ∀ g, a.fv.ownBlock = some g → ¬ T g
 th : ∀ g, a.hv.ownBlock = some g → ¬ T g
theorem AnOk.frS {w w' : World} {base : Nat} {T T' S : Nat → Prop} {r : RQ} {a : AN} {x : RA} (h : AnOk w base T r a x) (hf : Fr S w w') (hS : ∀ g, (a.fv.ownBlock = some g ∨ a.hv.ownBlock = some g) → ¬ S g) (hT : ∀ g, g < w.heap.size → T' g → T g) : AnOk w' base T' r a x :=
 ⟨h.e, ownsRow_of_block h.f (fun g hg => hf.block g (h.f.lt g hg).2 (hS g (.inl hg))), ownsRow_of_block h.h (fun g hg => hf.block g (h.h.lt g hg).2 (hS g (.inr hg))), fun g hg hT' => h.tf g hg (hT g (h.f.lt g hg).2 hT'), fun g hg hT' => h.th g hg (hT g (h.h.lt g hg).2 hT')⟩
theorem pcells_app (l : List P3) (p : P3) : pcells (l ++ [p]) = pcells l ++ [.int .u32 (p.a : Nat), .int .u32 (p.r : Nat), .int .u32 (p.w : Nat)] := by simp [pcells, P3.cells]
theorem app_staff (w : World) (base x : Nat) (v : Value) (l : List P3) (p : P3) (h : w.ownsRow base 33 3 v l.length (pcells l)) (hb : base ≤ w.heap.size) (hn : l.length ≤ 1000000000) (hx : w.heap[x]? = some (.cells #[.int .u32 (p.a : Nat), .int .u32 (p.r : Nat), .int .u32 (p.w : Nat)] 33)) :
  ∃ ao cap w', (Builtin.append_ #[22, 22] 22 #[v, .slice (some ⟨x, 0, none⟩) 1 1]).run Tryz.prog w = .ok (.slice ao (l.length + 1) cap) w' ∧ w'.ownsRow base 33 3 (.slice ao (l.length + 1) cap) (l.length + 1) (pcells (l ++ [p])) ∧ Fr (fun g => v.ownBlock = some g) w w' := by
 obtain ⟨i0, hi, hz0, hz1, hz2⟩ := info_parts Tryz.infoStf
 obtain ⟨v', w', hr, h2, h3, _, h5⟩ := run_append_own_at (P := Tryz.prog) (w := w) base 22 22 33 i0 (.agg #[.int .u32 0, .int .u32 0, .int .u32 0]) 3 12 Tryz.underlying22 hi hz0 hz1 hz2 rfl (by decide) v l.length (pcells l) h ⟨x, 0, none⟩ 1 1 [.int .u32 (p.a : Nat), .int .u32 (p.r : Nat), .int .u32 (p.w : Nat)] rfl (fun j u hu => by
  rw [addr_add, Nat.zero_add]
  simp only [World.cell?, hx]
  simpa using hu) (fun u hu => by simp at hu; rcases hu with rfl | rfl | rfl <;> rfl) (by simp only [maxLen]; omega) (by omega) hb
 obtain ⟨ao, cap, rfl⟩ := own_formX h2
 exact ⟨ao, cap, w', hr, by rw [pcells_app]; exact h2, (Fr.refl _ _).grown h3 (fun g hg => .inl hg)⟩
set_option maxHeartbeats 2000000 in
set_option maxRecDepth 100000 in
theorem staff_any (x : Value) (l : List P3) (w : World) (hx : Stf w x l) (hl : l.length ≤ 1000000) :
  Calls Tryz.prog 7 #[x] w fun e w' => ∃ v, e = .returned v ∧ w'.ownsRow w.heap.size 33 3 v l.length (pcells l) ∧ Fr (fun _ => False) w w' := by
 have HX := hide hx
 obtain ⟨xo, xc, rfl⟩ := hx.form
 clear hx
 go_enter Tryz.func7, Tryz.ntmps7
 go_wp2_with fail
 go_loopw [3, 4] (fun av iv wr => ∃ (j : Nat) (ao : Option Addr) (cap : Nat), j ≤ l.length ∧ iv = .int .i64 (j : Nat) ∧ av = .slice ao j cap ∧ wr.ownsRow w.heap.size 33 3 (.slice ao j cap) j (pcells (l.take j)) ∧ Fr (fun _ => False) w wr) (fun _ iv _ => l.length - (intOf iv).toNat)
 case atStart => exact ⟨0, none, 0, Nat.zero_le _, rfl, rfl, World.ownsRow_nil _ _ _ _, Fr.refl _ _⟩
 case round =>
  obtain ⟨j, ao, cap, hj, rfl, rfl, hown, hfr⟩ := hrel
  have hlen : (l.take j).length = j := by simp; omega
  by_cases hlt : j < l.length
  ·obtain ⟨g, o, rfl, c0, c1, c2⟩ := ((unhide HX).fr hfr).at_ j hlt
   obtain ⟨P, hPe⟩ : ∃ P, l[j] = P := ⟨_, rfl⟩
   rw [hPe] at c0 c1 c2
   have htk : l.take (j + 1) = l.take j ++ [P] := by rw [List.take_add_one, List.getElem?_eq_getElem hlt, hPe]; rfl
   obtain ⟨pa, pr, pw⟩ := P
   obtain ⟨ao2, cap2, w2, hr, hown2, hf2⟩ := app_staff (wr.alloc (.cells #[.int .u32 (pa : Nat), .int .u32 (pr : Nat), .int .u32 (pw : Nat)] 33)) w.heap.size wr.heap.size (.slice ao j cap) (l.take j) ⟨pa, pr, pw⟩ (by rw [hlen]; exact hown.alloc _) (by have := hfr.size; simp; omega) (by omega) Array.getElem?_push_size
   rw [hlen] at hr hown2
   rw [← htk] at hown2
   have hf3 : Fr (fun _ => False) w w2 := (hfr.trans (box1 wr _) (fun _ _ h => h)).absorb hf2 (fun k hk => (hown.lt k hk).1)
   have HR := hide hr
   have HO := hide (And.intro hown2 hf3)
   simp only at c0 c1 c2
   have hkl : (j : Int) < (l.length : Int) := by omega
   clear hown hfr hPe htk hr hown2 hf2 hf3 hlen
   go_wp2_with (at_builtin; refine wpList_app rfl (.tmp 11) (.tmp 16) 22 22 rfl _ _ _ rfl rfl (unhide HR) ?_)
   go_roundw
   case rel => exact ⟨j + 1, ao2, cap2, hlt, by go_num, rfl, (unhide HO).1, (unhide HO).2⟩
   case measure => simp [intOf]; omega
  ·obtain rfl : j = l.length := by omega
   have HO := hide (And.intro hown hfr)
   clear hown hfr
   go_wp2_with fail
   go_ret
   obtain ⟨h1, h2⟩ := unhide HO
   rw [List.take_length] at h1
   exact ⟨_, rfl, h1, h2⟩
def plc (l : List Nat) (j : Nat) : Nat := if h : j < l.length then l[j] else j
set_option maxHeartbeats 2000000 in
set_option maxRecDepth 100000 in
theorem place_any (sv rv pv : Value) (l : List Nat) (j : Nat) (w : World) (hp : Us w pv l) (hj : j < 4294967296) (hs : ∃ a n c, sv = .slice a n c) (hr : ∃ a n c, rv = .slice a n c) :
  Calls Tryz.prog 11 #[.agg #[sv, rv, pv], .int .i64 (j : Nat)] w fun e w' => e = .returned (.int .u32 (plc l j : Nat)) ∧ Fr (fun _ => False) w w' := by
 have HP := hide hp
 obtain ⟨xo, xc, rfl⟩ := hp.form
 obtain ⟨sa, sn, sc, rfl⟩ := hs
 obtain ⟨ra, rn, rc, rfl⟩ := hr
 clear hp
 by_cases hlt : j < l.length
 ·obtain ⟨g, o, rfl, c0⟩ := (unhide HP).at_ j hlt
  have hgl : g < w.heap.size := lt_of_cell c0
  have hkl : (j : Int) < (l.length : Int) := by omega
  have HE := hide (show plc l j = l[j] from dif_pos hlt)
  obtain ⟨v, hv⟩ : ∃ v, l[j] = v := ⟨_, rfl⟩
  rw [hv] at c0 HE
  clear hv
  go_enter Tryz.func11, Tryz.ntmps11
  go_wp2_with fail
  go_ret
  rw [unhide HE]
  exact ⟨rfl, box1 w _⟩
 ·have hkl : ¬ (j : Int) < (l.length : Int) := by omega
  have hwr : IntKind.u32.wrap (j : Int) = (j : Int) := by rw [IntKind.wrap_u32]; omega
  have HE := hide (show plc l j = j from dif_neg hlt)
  go_enter Tryz.func11, Tryz.ntmps11
  go_wp2_with fail
  go_ret
  rw [unhide HE]
  exact ⟨rfl, box1 w _⟩
end Go.Proofs.YtiknjghcjaaenaaGreatDoor
namespace Go.Proofs.YtiknjghcjaaenaaGreatDoor
open Go.RowKit
set_option maxRecDepth 100000 in
theorem gbits_any (x : Nat) (w : World) : Calls Tryz.prog 50 #[.float .f32 x] w fun e w' => e = .returned (.int .u32 (x : Nat)) ∧ w' = w := by
 have hb := Tryz.fbitsO x
 go_enter Tryz.func50, Tryz.ntmps50
 go_wp2_with fail
 go_ret
 exact ⟨rfl, rfl⟩
set_option maxHeartbeats 2000000 in
set_option maxRecDepth 100000 in
theorem sameF_any (x y : Value) (l : List F5) (w : World) (hx : Fds w x l) (hy : Fds w y l) (hl : l.length ≤ 140737488355328) :
  Calls Tryz.prog 31 #[x, y] w fun e w' => e = .returned (.bool true) ∧ ∃ q, w' = w.drewN q := by
 have HX := hide (And.intro hx hy)
 obtain ⟨xo, xc, rfl⟩ := hx.form
 obtain ⟨yo, yc, rfl⟩ := hy.form
 clear hx hy
 go_enter Tryz.func31, Tryz.ntmps31
 go_wp2_with fail
 go_loopw [5] (fun iv wr => ∃ j q : Nat, j ≤ l.length ∧ iv = .int .i64 (j : Nat) ∧ wr = w.drewN q) (fun iv _ => l.length - (intOf iv).toNat)
 case atStart => exact ⟨0, 0, Nat.zero_le _, rfl, rfl⟩
 case round =>
  obtain ⟨j, q, hj, rfl, hwq⟩ := hrel
  have HW := hide hwq
  have hfr : Fr (fun _ => False) w wr := by rw [hwq]; exact (Fr.refl _ _).drewN q
  clear hwq
  by_cases hlt : j < l.length
  ·obtain ⟨g, o, rfl, c0, c1, c2, c3, c4⟩ := ((unhide HX).1.fr hfr).at_ j hlt
   obtain ⟨g2, o2, rfl, d0, d1, d2, d3, d4⟩ := ((unhide HX).2.fr hfr).at_ j hlt
   obtain ⟨⟨fn, fk, ft, fv, fu⟩, hf⟩ : ∃ f, l[j] = f := ⟨_, rfl⟩
   rw [hf] at c0 c1 c2 c3 c4 d0 d1 d2 d3 d4
   simp only at c0 c1 c2 c3 c4 d0 d1 d2 d3 d4
   have hkl : (j : Int) < (l.length : Int) := by omega
   clear hf hfr
   go_wp2_with fail
   go_quiet ((go_at_call 50; exact Calls.quiet_of_same (gbits_any fv _)))
   go_wp2_with fail
   go_roundw
   case rel => exact ⟨j + 1, q + nq, hlt, by go_num, by rw [unhide HW, World.drewN_drewN]⟩
   case measure => simp [intOf]; omega
  ·obtain rfl : j = l.length := by omega
   clear hfr
   go_wp2_with fail
   go_ret
   exact ⟨rfl, q, unhide HW⟩
end Go.Proofs.YtiknjghcjaaenaaGreatDoor
namespace Go.Proofs.YtiknjghcjaaenaaGreatDoor
open Go.RowKit Go.Shelf
def Sms (w : World) (x : Value) (l : List SM) : Prop :=
 (∃ a c, x = .slice a 0 c ∧ l = []) ∨ ∃ g o c, x = .slice (some ⟨g, o, none⟩) l.length c ∧ ∀ j (h : j < l.length), w.cell? ⟨g, o + j * 4, none⟩ = some (.int .u32 (l[j].au : Nat)) ∧ w.cell? ⟨g, o + j * 4 + 1, none⟩ = some (.int .u32 (l[j].ev : Nat)) ∧ w.cell? ⟨g, o + j * 4 + 2, none⟩ = some (.int .u32 (l[j].nf : Nat)) ∧ w.cell? ⟨g, o + j * 4 + 3, none⟩ = some (.bool l[j].rd)
theorem Sms.form {w : World} {x : Value} {l : List SM} (h : Sms w x l) : ∃ xo xc, x = .slice xo l.length xc := by
 rcases h with ⟨a, c, rfl, rfl⟩ | ⟨g, o, c, rfl, _⟩ <;> exact ⟨_, _, rfl⟩
theorem Sms.fr {w w' : World} {x : Value} {l : List SM} (h : Sms w x l) (hf : Fr (fun _ => False) w w') : Sms w' x l := by
 rcases h with h | ⟨g, o, c, h1, h2⟩
 ·exact .inl h
 ·refine .inr ⟨g, o, c, h1, fun j hj => ?_⟩
  obtain ⟨c0, c1, c2, c3⟩ := h2 j hj
  have hg : g < w.heap.size := lt_of_cell c0
  exact ⟨(hf.cell (p := ⟨g, _, none⟩) hg (fun h => h)).trans c0, (hf.cell (p := ⟨g, _, none⟩) hg (fun h => h)).trans c1, (hf.cell (p := ⟨g, _, none⟩) hg (fun h => h)).trans c2, (hf.cell (p := ⟨g, _, none⟩) hg (fun h => h)).trans c3⟩
theorem Sms.at_ {w : World} {xo : Option Addr} {n c : Nat} {l : List SM} (h : Sms w (.slice xo n c) l) (j : Nat) (hj : j < l.length) : ∃ g o, xo = some ⟨g, o, none⟩ ∧ w.cell? ⟨g, o + j * 4, none⟩ = some (.int .u32 (l[j].au : Nat)) ∧ w.cell? ⟨g, o + j * 4 + 1, none⟩ = some (.int .u32 (l[j].ev : Nat)) ∧ w.cell? ⟨g, o + j * 4 + 2, none⟩ = some (.int .u32 (l[j].nf : Nat)) ∧ w.cell? ⟨g, o + j * 4 + 3, none⟩ = some (.bool l[j].rd) := by
 rcases h with ⟨_, _, _, rfl⟩ | ⟨g, o, c', e, h2⟩
 ·simp at hj
 ·simp only [Value.slice.injEq] at e
  obtain ⟨rfl, _, _⟩ := e
  exact ⟨g, o, rfl, h2 j hj⟩
theorem scells_at : ∀ (l : List SM) (k : Nat) (h : k < l.length), (scells l)[k * 4]? = some (.int .u32 (l[k].au : Nat)) ∧ (scells l)[k * 4 + 1]? = some (.int .u32 (l[k].ev : Nat)) ∧ (scells l)[k * 4 + 2]? = some (.int .u32 (l[k].nf : Nat)) ∧ (scells l)[k * 4 + 3]? = some (.bool l[k].rd)
 | [], k, h => by simp at h
 | f :: r, 0, _ => by simp [scells]
 | f :: r, k + 1, h => by
  have ih := scells_at r k (by simpa using h)
  have e : scells (f :: r) = [.int .u32 (f.au : Nat), .int .u32 (f.ev : Nat), .int .u32 (f.nf : Nat), .bool f.rd] ++ scells r := by simp [scells]
  have hl : ([Value.int .u32 (f.au : Nat), .int .u32 (f.ev : Nat), .int .u32 (f.nf : Nat), .bool f.rd]).length = 4 := rfl
  rw [e]
  refine ⟨?_, ?_, ?_, ?_⟩
  ·rw [List.getElem?_append_right (by rw [hl]; omega), hl, show (k + 1) * 4 - 4 = k * 4 by omega]; exact ih.1
  ·rw [List.getElem?_append_right (by rw [hl]; omega), hl, show (k + 1) * 4 + 1 - 4 = k * 4 + 1 by omega]; exact ih.2.1
  ·rw [List.getElem?_append_right (by rw [hl]; omega), hl, show (k + 1) * 4 + 2 - 4 = k * 4 + 2 by omega]; exact ih.2.2.1
  ·rw [List.getElem?_append_right (by rw [hl]; omega), hl, show (k + 1) * 4 + 3 - 4 = k * 4 + 3 by omega]; exact ih.2.2.2
theorem OwS.sms {w : World} {base : Nat} {v : Value} {l : List SM} (h : OwS w base v l) : Sms w v l := by
 have ho : w.ownsRow base 83 4 v l.length (scells l) := h
 rcases Nat.eq_zero_or_pos l.length with h0 | h0
 ·obtain rfl := List.length_eq_zero_iff.1 h0
  obtain ⟨ao, cap, rfl⟩ := own_formX ho
  exact .inl ⟨ao, cap, rfl, rfl⟩
 ·obtain ⟨g, cap, e, _, _⟩ := ho.form h0
  rw [e] at ho
  refine .inr ⟨g, 0, cap, e, fun j hj => ?_⟩
  obtain ⟨a0, a1, a2, a3⟩ := scells_at l j hj
  rw [Nat.zero_add]
  exact ⟨(ho.cellAt _ (by omega)).trans a0, (ho.cellAt _ (by omega)).trans a1, (ho.cellAt _ (by omega)).trans a2, (ho.cellAt _ (by omega)).trans a3⟩
theorem Tryz.held_id : Tryz.prog.stoodInHeld 38 = false := by kernel_rfl
theorem Tryz.fields_id : Tryz.prog.underlying 38 = some (.struct (Tryz.prog.fieldsOf 38)) := by kernel_rfl
theorem Tryz.held_sm : Tryz.prog.stoodInHeld 83 = false := by kernel_rfl
theorem Tryz.fields_sm : Tryz.prog.underlying 83 = some (.struct (Tryz.prog.fieldsOf 83)) := by kernel_rfl
theorem neq_id (a b : Nat) (w : World) : (binOp .neq 38 (.agg #[.int .u32 (a : Nat), .int .u32 (b : Nat)]) (.agg #[.int .u32 (a : Nat), .int .u32 (b : Nat)])).run Tryz.prog w = .ok (.bool false) w := by
 rw [run_neq_struct, show (10000 : Nat) = 9999 + 1 from rfl, run_equalIn_agg _ 9999 _ _ _ Tryz.fields_id Tryz.held_id]
 simp [Program.fieldsOf, Tryz.underlying38, Op.eqFields, go_sem]
theorem neq_sm (a b c : Nat) (d : Bool) (w : World) : (binOp .neq 83 (.agg #[.int .u32 (a : Nat), .int .u32 (b : Nat), .int .u32 (c : Nat), .bool d]) (.agg #[.int .u32 (a : Nat), .int .u32 (b : Nat), .int .u32 (c : Nat), .bool d])).run Tryz.prog w = .ok (.bool false) w := by
 rw [run_neq_struct, show (10000 : Nat) = 9999 + 1 from rfl, run_equalIn_agg _ 9999 _ _ _ Tryz.fields_sm Tryz.held_sm]
 simp [Program.fieldsOf, Tryz.underlying83, Op.eqFields, go_sem]
theorem Fr.ofDrew (w : World) (q : Nat) : Fr (fun _ => False) w (w.drewN q) := (Fr.refl _ _).drewN q
set_option maxHeartbeats 4000000 in
set_option maxRecDepth 100000 in
theorem sameA_any (cl nu co rc ve : Nat) (fv hv fv' hv' : Value) (F : List F5) (H : List SM) (w : World) (hf : Fds w fv F) (hf' : Fds w fv' F) (hh : Sms w hv H) (hh' : Sms w hv' H) (hF : F.length ≤ 140737488355328) (hH : H.length ≤ 140737488355328) :
  Calls Tryz.prog 14 #[.agg #[.int .u32 (cl : Nat), .int .u32 (nu : Nat), .int .u8 (co : Nat), .int .u32 (rc : Nat), .int .u32 (ve : Nat), fv, hv], .agg #[.int .u32 (cl : Nat), .int .u32 (nu : Nat), .int .u8 (co : Nat), .int .u32 (rc : Nat), .int .u32 (ve : Nat), fv', hv']] w fun e w' => e = .returned (.bool true) ∧ Fr (fun _ => False) w w' := by
 have HSF : Hid (∀ W, Fr (fun _ => False) w W → Calls Tryz.prog 31 #[fv, fv'] W fun e w' => e = .returned (.bool true) ∧ ∃ q, w' = W.drewN q) := fun W hW => sameF_any fv fv' F W (hf.fr hW) (hf'.fr hW) hF
 have HH := hide (And.intro hh hh')
 obtain ⟨fo, fc, rfl⟩ := hf.form
 obtain ⟨fo', fc', rfl⟩ := hf'.form
 obtain ⟨ho, hc, rfl⟩ := hh.form
 obtain ⟨ho', hc', rfl⟩ := hh'.form
 have hni := neq_id cl nu
 obtain ⟨W1, hW1⟩ : ∃ W1, W1 = (w.alloc (.cells #[.int .u32 (cl : Nat), .int .u32 (nu : Nat), .int .u8 (co : Nat), .int .u32 (rc : Nat), .int .u32 (ve : Nat), .slice fo F.length fc, .slice ho H.length hc] 45)).alloc (.cells #[.int .u32 (cl : Nat), .int .u32 (nu : Nat), .int .u8 (co : Nat), .int .u32 (rc : Nat), .int .u32 (ve : Nat), .slice fo' F.length fc', .slice ho' H.length hc'] 45) := ⟨_, rfl⟩
 have F1 : Hid (Fr (fun _ => False) w W1) := by rw [hW1]; exact (box1 w _).trans (box1 _ _) (fun _ _ h => h)
 have e1 : w.heap.size + 1 = (w.alloc (.cells #[.int .u32 (cl : Nat), .int .u32 (nu : Nat), .int .u8 (co : Nat), .int .u32 (rc : Nat), .int .u32 (ve : Nat), .slice fo F.length fc, .slice ho H.length hc] 45)).heap.size := by simp
 have a6 : W1.cell? ⟨w.heap.size, 6, none⟩ = some (.slice ho H.length hc) := by
  rw [hW1]
  refine ((box1 _ _).cell (p := ⟨w.heap.size, 6, none⟩) (by simp) (fun h => h)).trans ?_
  rw [World.cell?_alloc_at _ _ _ _ rfl]; rfl
 have b6 : W1.cell? ⟨w.heap.size + 1, 6, none⟩ = some (.slice ho' H.length hc') := by
  rw [hW1, e1, World.cell?_alloc_at _ _ _ _ rfl]; rfl
 clear hf hf' hh hh' e1
 go_enter Tryz.func14, Tryz.ntmps14
 go_wp2_with fail
 rw [← hW1]
 clear hW1
 refine ((unhide HSF) _ (unhide F1)).mono ?_
 rintro e w2 ⟨rfl, q0, hq0⟩
 have HW2 := hide hq0
 have hf2 : Fr (fun _ => False) W1 w2 := by rw [hq0]; exact Fr.ofDrew _ _
 have x6 := (hf2.cell (p := ⟨w.heap.size, 6, none⟩) (lt_of_cell a6) (fun h => h)).trans a6
 have y6 := (hf2.cell (p := ⟨w.heap.size + 1, 6, none⟩) (lt_of_cell b6) (fun h => h)).trans b6
 clear HSF hq0 hf2
 go_wp2_with fail
 clear x6 y6
 go_loopw [5] (fun iv wr => ∃ j q : Nat, j ≤ H.length ∧ iv = .int .i64 (j : Nat) ∧ wr = W1.drewN q) (fun iv _ => H.length - (intOf iv).toNat)
 case atStart => exact ⟨0, q0, Nat.zero_le _, rfl, unhide HW2⟩
 case round =>
  obtain ⟨j, q, hj, rfl, hwq⟩ := hrel
  have HW := hide hwq
  have hfr : Fr (fun _ => False) W1 wr := by rw [hwq]; exact Fr.ofDrew _ _
  have x6 := (hfr.cell (p := ⟨w.heap.size, 6, none⟩) (lt_of_cell a6) (fun h => h)).trans a6
  have y6 := (hfr.cell (p := ⟨w.heap.size + 1, 6, none⟩) (lt_of_cell b6) (fun h => h)).trans b6
  clear hwq
  by_cases hlt : j < H.length
  ·obtain ⟨g, o, rfl, c0, c1, c2, c3⟩ := (((unhide HH).1.fr (unhide F1)).fr hfr).at_ j hlt
   obtain ⟨g2, o2, rfl, d0, d1, d2, d3⟩ := (((unhide HH).2.fr (unhide F1)).fr hfr).at_ j hlt
   obtain ⟨⟨sa, se, sn, sr⟩, hs⟩ : ∃ f, H[j] = f := ⟨_, rfl⟩
   rw [hs] at c0 c1 c2 c3 d0 d1 d2 d3
   simp only at c0 c1 c2 c3 d0 d1 d2 d3
   have hns := neq_sm sa se sn sr
   have hkl : (j : Int) < (H.length : Int) := by omega
   clear hs hfr a6 b6
   go_wp2_with fail
   go_quiet (fail)
   go_wp2_with fail
   go_roundw
   case rel => exact ⟨j + 1, q + nq, hlt, by go_num, by rw [unhide HW, World.drewN_drewN]⟩
   case measure => simp [intOf]; omega
  ·obtain rfl : j = H.length := by omega
   clear hfr a6 b6
   go_wp2_with fail
   go_ret
   refine ⟨rfl, ?_⟩
   rw [unhide HW]
   exact (unhide F1).drewN q
end Go.Proofs.YtiknjghcjaaenaaGreatDoor
