import Derived.Test.YtedmhpplhbaglaaNtq
import Derived.Test.YtedmhpplhbaglaaNtk
namespace Go.Proofs.Ytedmhpplhbaglaa
open Go.RowKit Go.ChangeShapes Go.WideShapes Go.Maps

theorem wrap_le (i : Nat) (h : i ≤ 1048576) : IntKind.i64.wrap (i : Int) = (i : Int) := by
  rw [IntKind.wrap_i64]
  omega
theorem pks_at {Rs : List RK} {i : Nat} {x : RK} (h : Rs[i]? = some x) : (pks Rs)[i]? = some x.1 := by rw [pks, List.getElem?_map, h]; rfl
set_option maxHeartbeats 2000000 in
set_option maxRecDepth 100000 in
/-- under: the packets that the net tells are the document's own. -/
theorem under_any (w0 w W : World) (d m : Nat) (pl : Int) (ao : Option Addr) (c : Nat) (Rs : List RK) (hN : NS w W d m pl (pks Rs)) (h : RfAt w0 W (.slice ao Rs.length c) Rs) (hl : Rs.length ≤ 1048576) (hw0 : Fr (fun _ => False) w0 W) :
    Calls Try.prog 18 #[.pointer (some ⟨d, 0, none⟩), .agg #[.int .i64 pl, .slice ao Rs.length c]] W fun e w' => e = .returned (.bool true) ∧ Fr (fun _ => False) W w' := by
  have HX := hide (And.intro hN (And.intro h hw0))
  clear hN h hw0
  go_enter Try.func18, Try.ntmps18
  go_wp2_with fail
  refine (ns_wait d m pl (pks Rs) w _ ((unhide HX).1.go (box1 _ _)) (by rw [pks_len]; exact hl)).mono ?_
  rintro e w1 ⟨vo, L, vc, rfl, hO, hL, _, hf1⟩
  have hcB : w1.cell? ⟨W.heap.size, 1, none⟩ = some (.slice ao Rs.length c) := (hf1.cell (p := ⟨W.heap.size, 1, none⟩) (by simp) (fun h => h)).trans (World.cell?_alloc_at _ _ _ _ rfl)
  have hcA : w1.cell? ⟨W.heap.size, 0, none⟩ = some (.int .i64 pl) := (hf1.cell (p := ⟨W.heap.size, 0, none⟩) (by simp) (fun h => h)).trans (World.cell?_alloc_at _ _ _ _ rfl)
  have hLl : L.length = (up (pks Rs)).length := by simpa [wl] using congrArg List.length hL
  have hul := up_len (pks Rs)
  rw [pks_len] at hul
  have HO := hide (And.intro hO (And.intro hL (And.intro ((box1 W _).trans hf1 (fun _ _ h => h)) (And.intro hcA (And.intro hcB hLl)))))
  clear hO hL hf1 hcB hcA hLl
  go_wp2_with fail
  go_loopw [6, 7] (fun kv iv wr => ∃ i : Nat, i ≤ Rs.length ∧ iv = .int .i64 ((i : Int) + 1) ∧ kv = .int .i64 ((upK (pks Rs) i).length : Nat) ∧ Fr (fun _ => False) w1 wr) (fun _ iv _ => Rs.length + 1 - (intOf iv).toNat)
  case atStart => exact ⟨0, Nat.zero_le _, rfl, rfl, Fr.refl _ _⟩
  case round =>
    obtain ⟨i, hi, rfl, rfl, hf⟩ := hrel
    rename World => wr
    have HF := hide hf
    have c1 : wr.cell? ⟨W.heap.size, 1, none⟩ = some (.slice ao Rs.length c) := (hf.cell (p := ⟨W.heap.size, 1, none⟩) (lt_of_cell (unhide HO).2.2.2.2.1) (fun h => h)).trans (unhide HO).2.2.2.2.1
    have c0 : wr.cell? ⟨W.heap.size, 0, none⟩ = some (.int .i64 pl) := (hf.cell (p := ⟨W.heap.size, 0, none⟩) (lt_of_cell (unhide HO).2.2.2.1) (fun h => h)).trans (unhide HO).2.2.2.1
    have hks := upK_short (pks Rs) i
    clear hf
    by_cases hlt : i < Rs.length
    · have hle : (i : Int) + 1 ≤ (Rs.length : Int) := by omega
      have hsu := upK_succ (pks Rs) i
      have hRw := ((unhide HX).2.1.fr0 (unhide HO).2.2.1).fr0 (unhide HF)
      have HU := hide (gunder_any w0 wr pl ((i : Int) + 1) ao c Rs hRw hl)
      cases hu : und (pks Rs) ((i : Int) + 1) with
      | false =>
        rw [hu] at hsu
        simp only [Bool.false_eq_true, if_false, List.append_nil] at hsu
        have HSU := hide hsu
        clear hsu hRw
        go_wp2_with fail
        refine (unhide HU).mono ?_
        rintro e w2 ⟨rfl, hf2⟩
        rw [hu]
        have HF2 := hide ((unhide HF).trans hf2 (fun _ _ h => h))
        clear hf2
        go_wp2_with fail
        go_roundw
        case rel => exact ⟨i + 1, by omega, by go_num, by rw [unhide HSU], unhide HF2⟩
        case measure => simp [intOf]; omega
      | true =>
        rw [hu] at hsu
        simp only [if_true] at hsu
        have hat := up_at (pks Rs) i (by rw [pks_len]; exact hlt) hu
        have hsl : (upK (pks Rs) (i + 1)).length = (upK (pks Rs) i).length + 1 := by rw [hsu]; simp
        have HSL := hide hsl
        generalize hK : (upK (pks Rs) i).length = K at *
        have hKl : K < L.length := by
          rw [(unhide HO).2.2.2.2.2]
          exact (List.getElem?_eq_some_iff.1 hat).1
        have hx := List.getElem?_eq_getElem hlt
        obtain ⟨y, hy⟩ : ∃ y, L[K]? = some y := ⟨_, List.getElem?_eq_getElem hKl⟩
        have hyt : told y = ((i : Int) + 1, Rs[i].1.f, Rs[i].1.t, Rs[i].1.b) := by
          have e1 : (L.map told)[K]? = some (told y) := by rw [List.getElem?_map, hy]; rfl
          rw [(unhide HO).2.1, wl, List.getElem?_map, hat] at e1
          simp only [Option.map_some, Option.some.injEq] at e1
          rw [← e1]
          unfold pkAt
          rw [show ((i : Int) + 1 - 1).toNat = i by omega, pks_at hx]
        have hO2 := (unhide HO).1.fr (unhide HF) (fun _ _ h => h)
        obtain ⟨g, rfl⟩ := owk_at hO2 (by omega)
        obtain ⟨l0, l1, l2, l3, _⟩ := owk_cell hO2 K y hy
        obtain ⟨g2, rfl, r0, r1, r2, r3, r4, _⟩ := hRw.at_ hx
        have hyl := (hO2.el K y hy).1
        have hys := own_src (hO2.el K y hy).2
        simp only [told, Prod.mk.injEq] at hyt
        obtain ⟨y0, y1, y2, y3⟩ := hyt
        have hxs := (unhide HX).2.1.src Rs[i] (List.getElem_mem hlt)
        have hxw : Src wr (.slice Rs[i].2.1 Rs[i].1.b.length Rs[i].2.2) Rs[i].1.b := ((hxs.1.fr (unhide HX).2.2 (fun _ _ _ _ _ h => h)).fr (unhide HO).2.2.1 (fun _ _ _ _ _ h => h)).fr (unhide HF) (fun _ _ _ _ _ h => h)
        rw [y0] at l0
        rw [y1] at l1
        rw [y2] at l2
        rw [y3] at hyl hys
        unfold PV.sl at l3 hys
        rw [hyl] at l3 hys
        have hcl : L.length ≤ vc := by
          rcases hO2.row.2 with ⟨e, _⟩ | ⟨g', c', cur, e, _, _, hc, _⟩
          · cases e
          · simp only [Value.slice.injEq] at e; omega
        have hcr : Rs.length ≤ c := by
          rcases hRw.row.2 with ⟨e, _⟩ | ⟨g', c', cur, e, _, _, hc, _⟩
          · cases e
          · simp only [Value.slice.injEq] at e; omega
        have hbl := hxs.2
        clear hO2 hRw hxs hy hx y0 y1 y2 y3 hyl hat hsu hsl
        generalize Rs[i].1.b = bl at *
        generalize Rs[i].1.f = xf at *
        generalize Rs[i].1.t = xt at *
        generalize Rs[i].1.gone = xg at *
        generalize Rs[i].1.cp = xp at *
        generalize Rs[i].2.1 = xa at *
        generalize Rs[i].2.2 = xc at *
        generalize y.1.a = ya at *
        generalize y.1.c = yc at *
        have HY := hide (And.intro hys hxw)
        have HK : Hid (∀ W', Fr (fun _ => False) wr W' → W'.cell? ⟨W.heap.size, 1, none⟩ = some (.slice (some ⟨g2, 0, none⟩) Rs.length c) ∧ W'.cell? ⟨g, K * 4, none⟩ = some (.int .i64 ((i : Int) + 1)) ∧ W'.cell? ⟨g, K * 4 + 1, none⟩ = some (.int .i64 xf) ∧ W'.cell? ⟨g, K * 4 + 2, none⟩ = some (.int .i64 xt) ∧ W'.cell? ⟨g, K * 4 + 3, none⟩ = some (.slice ya bl.length yc) ∧ W'.cell? ⟨g2, i * 5, none⟩ = some (.int .i64 xf) ∧ W'.cell? ⟨g2, i * 5 + 1, none⟩ = some (.int .i64 xt) ∧ W'.cell? ⟨g2, i * 5 + 2, none⟩ = some (.slice xa bl.length xc) ∧ W'.cell? ⟨g2, i * 5 + 3, none⟩ = some (.int .i64 (xg : Nat)) ∧ W'.cell? ⟨g2, i * 5 + 4, none⟩ = some (.bool xp)) := fun W' hf =>
          ⟨(hf.cell (p := ⟨W.heap.size, 1, none⟩) (lt_of_cell c1) (fun h => h)).trans c1, (hf.cell (p := ⟨g, K * 4, none⟩) (lt_of_cell l0) (fun h => h)).trans l0, (hf.cell (p := ⟨g, K * 4 + 1, none⟩) (lt_of_cell l1) (fun h => h)).trans l1, (hf.cell (p := ⟨g, K * 4 + 2, none⟩) (lt_of_cell l2) (fun h => h)).trans l2, (hf.cell (p := ⟨g, K * 4 + 3, none⟩) (lt_of_cell l3) (fun h => h)).trans l3, (hf.cell (p := ⟨g2, i * 5, none⟩) (lt_of_cell r0) (fun h => h)).trans r0, (hf.cell (p := ⟨g2, i * 5 + 1, none⟩) (lt_of_cell r1) (fun h => h)).trans r1, (hf.cell (p := ⟨g2, i * 5 + 2, none⟩) (lt_of_cell r2) (fun h => h)).trans r2, (hf.cell (p := ⟨g2, i * 5 + 3, none⟩) (lt_of_cell r3) (fun h => h)).trans r3, (hf.cell (p := ⟨g2, i * 5 + 4, none⟩) (lt_of_cell r4) (fun h => h)).trans r4⟩
        have HI : Hid (∀ W', Fr (fun _ => False) wr W' → Calls Try.prog 29 #[.agg #[.int .i64 ((i : Int) + 1), .int .i64 xf, .int .i64 xt, .slice ya bl.length yc], .int .i64 ((i : Int) + 1), .agg #[.int .i64 xf, .int .i64 xt, .slice xa bl.length xc, .int .i64 (xg : Nat), .bool xp]] W' fun e w' => e = .returned (.bool true) ∧ Fr (fun _ => False) wr w') := fun W' hf => by
          refine (is_any ((i : Int) + 1) xf xt _ _ bl xg xp W' ((unhide HY).1.fr hf (fun _ _ _ _ _ h => h)) ((unhide HY).2.fr hf (fun _ _ _ _ _ h => h)) hbl).mono ?_
          rintro e w' ⟨rfl, hf'⟩
          exact ⟨rfl, hf.trans hf' (fun _ _ h => h)⟩
        have hKi : ¬ ((K : Int) ≥ (L.length : Int)) := by omega
        have hKj : decide ((K : Int) ≥ (L.length : Int)) = false := by simp; omega
        have hKk : decide ((L.length : Int) ≤ (K : Int)) = false := by simp; omega
        have hKm : decide (L.length ≤ K) = false := by simp; omega
        have hKn : ¬ L.length ≤ K := by omega
        have i1 : (i : Int) + 1 - 1 = (i : Int) := by omega
        have i2 : IntKind.i64.wrap ((i : Int) + 1 - 1) = (i : Int) := by rw [i1]; exact wrap_le i (by omega)
        have i3 : (0 : Int) ≤ (i : Int) := by omega
        have i4 : (i : Int) < (Rs.length : Int) := by omega
        have i5 : ((i : Int)).toNat = i := by omega
        have i6 : wrap64 ((i : Int) + 1 - 1) = (i : Int) := by rw [i1]; unfold wrap64; omega
        have i7 : IntKind.i64.wrap (i : Int) = (i : Int) := by rw [i1] at i2; exact i2
        clear hys hxw hbl l0 l1 l2 l3 r0 r1 r2 r3 r4
        go_wp2_with fail
        refine (unhide HU).mono ?_
        rintro e w2 ⟨rfl, hf2⟩
        rw [hu]
        have HF2 := hide hf2
        have hk2 := (unhide HK) w2 hf2
        obtain ⟨k1, l0, l1, l2, l3, r0, r1, r2, r3, r4⟩ := hk2
        clear hf2 HU
        go_wp2_with fail
        go_region_held3 (fun W' => W'.cell? ⟨W.heap.size, 1, none⟩ = some (.slice (some ⟨g2, 0, none⟩) Rs.length c) ∧ W'.cell? ⟨g, K * 4, none⟩ = some (.int .i64 ((i : Int) + 1)) ∧ W'.cell? ⟨g, K * 4 + 1, none⟩ = some (.int .i64 xf) ∧ W'.cell? ⟨g, K * 4 + 2, none⟩ = some (.int .i64 xt) ∧ W'.cell? ⟨g, K * 4 + 3, none⟩ = some (.slice ya bl.length yc) ∧ W'.cell? ⟨g2, i * 5, none⟩ = some (.int .i64 xf) ∧ W'.cell? ⟨g2, i * 5 + 1, none⟩ = some (.int .i64 xt) ∧ W'.cell? ⟨g2, i * 5 + 2, none⟩ = some (.slice xa bl.length xc) ∧ W'.cell? ⟨g2, i * 5 + 3, none⟩ = some (.int .i64 (xg : Nat)) ∧ W'.cell? ⟨g2, i * 5 + 4, none⟩ = some (.bool xp))
          (first | exact (unhide HK) _ (unhide HF2).drew | exact (unhide HK) _ hf3 | exact ⟨k1, l0, l1, l2, l3, r0, r1, r2, r3, r4⟩)
          (first | (go_at_call 29; refine ((unhide HI) _ (unhide HF2).drew).mono ?_; rintro e w3 ⟨rfl, hf3⟩))
        have HF3 := hide ((unhide HF).trans hf3 (fun _ _ h => h))
        clear hf3 HF2 k1 l0 l1 l2 l3 r0 r1 r2 r3 r4
        have hsl := (unhide HSL)
        go_wp2_with fail
        go_roundw
        case rel => exact ⟨i + 1, by omega, by go_num, by rw [unhide HSL]; rfl, unhide HF3⟩
        case measure => simp [intOf]; omega
    · obtain rfl : i = Rs.length := by omega
      have hnle : ¬ (Rs.length : Int) + 1 ≤ (Rs.length : Int) := by omega
      have e1 : (upK (pks Rs) Rs.length).length = L.length := by rw [(unhide HO).2.2.2.2.2, ← pks_len Rs]; rfl
      rw [e1]
      have e2 : ((L.length : Int) == (L.length : Int)) = true := by simp
      have HF3 := hide ((unhide HO).2.2.1.trans (unhide HF) (fun _ _ h => h))
      clear HO HF HX e1 hks
      go_wp2_with fail
      go_ret
      exact ⟨rfl, unhide HF3⟩
end Go.Proofs.Ytedmhpplhbaglaa
