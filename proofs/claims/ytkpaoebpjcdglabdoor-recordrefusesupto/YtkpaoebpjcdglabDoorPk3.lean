import Derived.Test.YtkpaoebpjcdglabDoorPk2
import Derived.Test.YtkpaoebpjcdglabDoorOap
import Derived.Test.YtkpaoebpjcdglabDoorCards
import Derived.Test.YtkpaoebpjcdglabDoorTie
import Derived.WalkKit
import Derived.ProofKit
import Derived.OpenShut
import Derived.LaidLaws
import Derived.Deep.DeepHandedRow
import Derived.Deep.DeepWitnessRowRef
import Derived.Test.YtkpaoebpjcdglabDoorRows
import Derived.SizedLaws
import Derived.JoinedCond
import Derived.Deep.Slices
namespace Go.Proofs.YtkpaoebpjcdglabDoor
open Go.RowKit Go.Shelf

theorem own_z {w : World} {base e size n : Nat} {v : Value} {xs : List Value} (h : w.ownsRow base e size v n xs) : ∀ n c, v = .slice none n c → c = 0 := by
  rcases h.2 with ⟨rfl, rfl⟩ | ⟨g, cap, cur, rfl, _⟩
  · intro n c e; cases e; rfl
  · intro n c e; cases e
theorem Us.lt {w : World} {x : Value} {l : List Nat} (h : Us w x l) : ∀ g o n c, x = .slice (some ⟨g, o, none⟩) n c → 0 < n → g < w.heap.size := by
  intro g o n c e h0
  rcases h with ⟨a, c', e2, _⟩ | ⟨g', o', c', e2, h2⟩
  · rw [e] at e2; cases e2; omega
  · rw [e] at e2; cases e2; exact lt_of_cell (h2 0 h0)
set_option maxHeartbeats 40000000 in
set_option maxRecDepth 100000 in
/-- RecordRefuses. -/
theorem rrefuses_any (sv rv pv : Value) (S : List P3) (l : List (RQ × List F5)) (pl : List Nat) (w : World) (hs : Stf w sv S) (hS : S.length ≤ 1000000) (hq : Rqs w rv l) (hl : l.length ≤ 1000000000) (hp : Us w pv pl) (hg : GU w) (hpg : ∀ p ∈ l, PGood p) :
    Calls Tryd.prog 3 #[.agg #[sv, rv, pv]] w fun e w' => e = .returned (.bool true) ∧ Fr (fun _ => False) w w' := by
  obtain ⟨so, sc, rfl⟩ := hs.form
  obtain ⟨ro, rc0, rfl⟩ := hq.form
  obtain ⟨po, pc, rfl⟩ := hp.form
  have HQ := hide (And.intro hs (And.intro hq (And.intro hp (And.intro hg hpg))))
  have HOk : Hid (RM.Ok ⟨S, []⟩) := ⟨by show S.length ≤ _; omega, by show 0 ≤ 256; omega, fun c hc => by cases hc⟩
  obtain ⟨W1, hW1⟩ : ∃ W1, W1 = w.alloc (.cells #[.slice so S.length sc, .slice ro l.length rc0, .slice po pl.length pc] 26) := ⟨_, rfl⟩
  have hb1 : W1.heap[w.heap.size]? = some (.cells #[.slice so S.length sc, .slice ro l.length rc0, .slice po pl.length pc] 26) := by rw [hW1]; exact Array.getElem?_push_size
  have hf1 : Fr (fun _ => False) w W1 := by rw [hW1]; exact box1 w _
  have H1 := hide (And.intro hb1 hf1)
  clear hs hq hp hg hpg hb1 hf1
  go_enter Tryd.func3, Tryd.ntmps3
  go_wp2_with fail
  rw [← hW1]
  clear hW1
  refine (awake11 W1 ((unhide HQ).2.2.2.1.fr (unhide H1).2)).mono ?_
  rintro e w2 ⟨rfl, hf2⟩
  have H2 := hide (And.intro ((hf2.block _ (lt_of_block (unhide H1).1) (fun h => h)).trans (unhide H1).1) ((unhide H1).2.trans hf2 (fun _ _ h => h)))
  clear hf2 H1
  have b0 : w2.cell? ⟨w.heap.size, 0, none⟩ = some (.slice so S.length sc) := by simp [World.cell?, (unhide H2).1]
  go_wp2_with fail
  refine (staff_any _ S w2 ((unhide HQ).1.fr (unhide H2).2) hS).mono ?_
  rintro e w3 ⟨v, rfl, ho3, hf3⟩
  have HN3 := hide (new_B v S w3 (own_stf ho3) (own_z ho3) hS)
  have H3 := hide (And.intro ((hf3.block _ (lt_of_block (unhide H2).1) (fun h => h)).trans (unhide H2).1) ((unhide H2).2.trans hf3 (fun _ _ h => h)))
  obtain ⟨vo, vc, rfl⟩ := own_formX ho3
  clear hf3 H2 b0 ho3
  go_wp2_with fail
  refine (unhide HN3).mono ?_
  rintro e w4 ⟨bs, rfl, hb4, hf4⟩
  have H4 := hide (And.intro ((hf4.block _ (lt_of_block (unhide H3).1) (fun h => h)).trans (unhide H3).1) ((unhide H3).2.trans hf4 (fun _ _ h => h)))
  have HB4 := hide hb4
  have hlo3 := lt_of_block (unhide H3).1
  have hs4 := hf4.size
  clear hf4 H3 HN3 hb4
  have b0 : w4.cell? ⟨w.heap.size, 0, none⟩ = some (.slice so S.length sc) := by simp [World.cell?, (unhide H4).1]
  go_wp2_with fail
  refine (staff_any _ S w4 ((unhide HQ).1.fr (unhide H4).2) hS).mono ?_
  rintro e w5 ⟨v, rfl, ho5, hf5⟩
  have HN5 := hide (new_B v S w5 (own_stf ho5) (own_z ho5) hS)
  have H5 := hide (And.intro ((hf5.block _ (lt_of_block (unhide H4).1) (fun h => h)).trans (unhide H4).1) ((unhide H4).2.trans hf5 (fun _ _ h => h)))
  have HB5 := hide ((unhide HB4).fr hf5)
  obtain ⟨vo5, vc5, rfl⟩ := own_formX ho5
  have hs5 := hf5.size
  clear hf5 H4 b0 ho5 HB4
  go_wp2_with fail
  refine (unhide HN5).mono ?_
  rintro e w6 ⟨bz, rfl, hb6, hf6⟩
  have HI0 : Hid (RF w w6 bs bz (fun k => w3.heap.size ≤ k ∧ k < w4.heap.size) (fun k => w5.heap.size ≤ k ∧ k < w6.heap.size) ⟨S, []⟩ ⟨S, []⟩ (.slice so S.length sc) (.slice ro l.length rc0) (.slice po pl.length pc) l pl) := by
    have h6 := (unhide H5).2.trans hf6 (fun _ _ h => h)
    have hs6 := hf6.size
    exact ⟨(unhide HB5).fr hf6, hb6, fun k hk => ⟨by omega, by omega⟩, fun k hk => ⟨by omega, hk.2⟩, fun k hk hz => by omega, (hf6.block _ (lt_of_block (unhide H5).1) (fun h => h)).trans (unhide H5).1, (unhide HQ).2.1.fr h6, fun k hk => (unhide HQ).2.1.lt hk, (unhide HQ).2.2.1.fr h6, (unhide HQ).2.2.1.lt, (unhide HQ).2.2.2.1.fr h6, lt_of_cell ((unhide HQ).2.2.2.1 0 (by omega)), h6⟩
  clear hb6 hf6 HN5 H5 HB5 hs5
  go_wp2_with fail
  go_loopw [5] (fun kv wr => ∃ j : Nat, j ≤ l.length ∧ kv = .int .i64 (j : Nat) ∧ ∃ Ts Tz s, RF w wr bs bz Ts Tz s s (.slice so S.length sc) (.slice ro l.length rc0) (.slice po pl.length pc) l pl ∧ s.Ok) (fun kv _ => l.length - (intOf kv).toNat)
  case atStart => exact ⟨0, Nat.zero_le _, rfl, _, _, _, unhide HI0, unhide HOk⟩
  case round =>
    obtain ⟨j, hj, rfl, Ts, Tz, s, hi, hok⟩ := hrel
    clear HI0
    by_cases hlt : j < l.length
    · obtain ⟨p, hpe⟩ : ∃ p, l[j] = p := ⟨_, rfl⟩
      have hpe2 : l[j]? = some p := by rw [List.getElem?_eq_getElem hlt, hpe]
      obtain ⟨g, o, rfl, _⟩ := hi.q.at_ j hlt
      have hpm : p ∈ l := List.mem_of_getElem? hpe2
      have hpg := (unhide HQ).2.2.2.2 p hpm
      obtain ⟨⟨cl, nu, ac, op, rc, ve, wa, ow, fv, rs⟩, F⟩ := p
      obtain ⟨xo2, xc2, rfl⟩ : ∃ xo2 xc2, fv = .slice xo2 F.length xc2 := (hi.q.d _ hpm).f.form
      obtain ⟨n, hn0⟩ : ∃ n, plc pl j = n := ⟨_, rfl⟩
      obtain ⟨X, hX⟩ : ∃ X, s.step ⟨cl, nu, ac, op, rc, ve, wa, ow, .slice xo2 F.length xc2, rs⟩ F n = X := ⟨_, rfl⟩
      have HI := hide hi
      have hkl : (j : Int) < (l.length : Int) := by omega
      obtain ⟨⟨b0, b1, b2⟩, _⟩ := hi.cells hpe2
      clear hi hpe
      have HS10 : Hid (∀ W T1 T2 s1 s2, RF w W bs bz T1 T2 s1 s2 (.slice so S.length sc) (.slice (some ⟨g, o, none⟩) l.length rc0) (.slice po pl.length pc) l pl → (W.cell? ⟨w.heap.size, 0, none⟩ = some (.slice so S.length sc) ∧ W.cell? ⟨w.heap.size, 1, none⟩ = some (.slice (some ⟨g, o, none⟩) l.length rc0) ∧ W.cell? ⟨w.heap.size, 2, none⟩ = some (.slice po pl.length pc)) ∧ W.cell? ⟨g, o + j * 10, none⟩ = some (.int .u32 (cl : Nat)) ∧ W.cell? ⟨g, o + j * 10 + 1, none⟩ = some (.int .u32 (nu : Nat)) ∧ W.cell? ⟨g, o + j * 10 + 2, none⟩ = some (.int .u32 (ac : Nat)) ∧ W.cell? ⟨g, o + j * 10 + 3, none⟩ = some (.int .u8 (op : Nat)) ∧ W.cell? ⟨g, o + j * 10 + 4, none⟩ = some (.int .u32 (rc : Nat)) ∧ W.cell? ⟨g, o + j * 10 + 5, none⟩ = some (.int .u32 (ve : Nat)) ∧ W.cell? ⟨g, o + j * 10 + 6, none⟩ = some (.int .u32 (wa : Nat)) ∧ W.cell? ⟨g, o + j * 10 + 7, none⟩ = some (.int .u32 (ow : Nat)) ∧ W.cell? ⟨g, o + j * 10 + 8, none⟩ = some (.slice xo2 F.length xc2) ∧ W.cell? ⟨g, o + j * 10 + 9, none⟩ = some (.string rs)) := fun W T1 T2 s1 s2 hr => hr.cells hpe2
      have HPl : Hid (∀ W T1 T2 s1 s2, RF w W bs bz T1 T2 s1 s2 (.slice so S.length sc) (.slice (some ⟨g, o, none⟩) l.length rc0) (.slice po pl.length pc) l pl → Calls Tryd.prog 9 #[.agg #[.slice so S.length sc, .slice (some ⟨g, o, none⟩) l.length rc0, .slice po pl.length pc], .int .i64 (j : Nat)] W fun e w' => e = .returned (.int .u32 (n : Nat)) ∧ Fr (fun _ => False) W w') := fun W T1 T2 s1 s2 hr => by rw [← hn0]; exact place_any _ _ _ pl j W hr.p (by omega) ⟨_, _, _, rfl⟩ ⟨_, _, _, rfl⟩
      have HAp : Hid (∀ W, RF w W bs bz Ts Tz s s (.slice so S.length sc) (.slice (some ⟨g, o, none⟩) l.length rc0) (.slice po pl.length pc) l pl → Calls Tryd.prog 8 #[.pointer (some ⟨bs, 0, none⟩), .agg #[.int .u32 (cl : Nat), .int .u32 (nu : Nat), .int .u32 (ac : Nat), .int .u8 (op : Nat), .int .u32 (rc : Nat), .int .u32 (ve : Nat), .int .u32 (wa : Nat), .int .u32 (ow : Nat), .slice xo2 F.length xc2, .string rs], .int .u32 (n : Nat)] W fun e w' => ∃ fo fn fc ho hn hc, e = .returned (.agg #[.int .u32 (cl : Nat), .int .u32 (nu : Nat), .int .u8 (X.2.co : Nat), .int .u32 (X.2.rc : Nat), .int .u32 (X.2.ve : Nat), .slice fo fn fc, .slice ho hn hc]) ∧ ∃ T', RF w w' bs bz T' Tz X.1 s (.slice so S.length sc) (.slice (some ⟨g, o, none⟩) l.length rc0) (.slice po pl.length pc) l pl ∧ Fr Ts W w' ∧ (∀ k, T' k → Ts k ∨ W.heap.size ≤ k) ∧ OwF w' W.heap.size (.slice fo fn fc) X.2.F ∧ OwS w' W.heap.size (.slice ho hn hc) X.2.H) := fun W hr => hr.apply (p := (⟨cl, nu, ac, op, rc, ve, wa, ow, .slice xo2 F.length xc2, rs⟩, F)) hpm hok hpg n X hX
      have HAz : Hid (∀ W T1, RF w W bs bz T1 Tz X.1 s (.slice so S.length sc) (.slice (some ⟨g, o, none⟩) l.length rc0) (.slice po pl.length pc) l pl → Calls Tryd.prog 8 #[.pointer (some ⟨bz, 0, none⟩), .agg #[.int .u32 (cl : Nat), .int .u32 (nu : Nat), .int .u32 (ac : Nat), .int .u8 (op : Nat), .int .u32 (rc : Nat), .int .u32 (ve : Nat), .int .u32 (wa : Nat), .int .u32 (ow : Nat), .slice xo2 F.length xc2, .string rs], .int .u32 (n : Nat)] W fun e w' => ∃ fo fn fc ho hn hc, e = .returned (.agg #[.int .u32 (cl : Nat), .int .u32 (nu : Nat), .int .u8 (X.2.co : Nat), .int .u32 (X.2.rc : Nat), .int .u32 (X.2.ve : Nat), .slice fo fn fc, .slice ho hn hc]) ∧ ∃ T', RF w w' bz bs T' T1 X.1 X.1 (.slice so S.length sc) (.slice (some ⟨g, o, none⟩) l.length rc0) (.slice po pl.length pc) l pl ∧ Fr Tz W w' ∧ (∀ k, T' k → Tz k ∨ W.heap.size ≤ k) ∧ OwF w' W.heap.size (.slice fo fn fc) X.2.F ∧ OwS w' W.heap.size (.slice ho hn hc) X.2.H) := fun W T1 hr => hr.swap.apply (p := (⟨cl, nu, ac, op, rc, ve, wa, ow, .slice xo2 F.length xc2, rs⟩, F)) hpm hok hpg n X hX
      have HX : Hid (X.1.Ok ∧ X.2.F.length ≤ 32 ∧ X.2.H.length ≤ 64 ∧ (¬ X.2.co = 0 → X = (s, RA.no X.2.co))) := by rw [← hX]; exact ⟨hok.step _ _ _ hpg.2.2 hpg.1, (step_short hok _ _ _).1, (step_short hok _ _ _).2, fun h => step_no h⟩
      have HOks := hide hok
      clear hpe2 hpm hpg hX hn0 hok
      go_wp2_with fail
      refine wp_region_last (n := 11) (m := 11) (S := (fun W => (W.cell? ⟨w.heap.size, 0, none⟩ = some (.slice so S.length sc) ∧ W.cell? ⟨w.heap.size, 1, none⟩ = some (.slice (some ⟨g, o, none⟩) l.length rc0) ∧ W.cell? ⟨w.heap.size, 2, none⟩ = some (.slice po pl.length pc)) ∧ W.cell? ⟨g, o + j * 10, none⟩ = some (.int .u32 (cl : Nat)) ∧ W.cell? ⟨g, o + j * 10 + 1, none⟩ = some (.int .u32 (nu : Nat)) ∧ W.cell? ⟨g, o + j * 10 + 2, none⟩ = some (.int .u32 (ac : Nat)) ∧ W.cell? ⟨g, o + j * 10 + 3, none⟩ = some (.int .u8 (op : Nat)) ∧ W.cell? ⟨g, o + j * 10 + 4, none⟩ = some (.int .u32 (rc : Nat)) ∧ W.cell? ⟨g, o + j * 10 + 5, none⟩ = some (.int .u32 (ve : Nat)) ∧ W.cell? ⟨g, o + j * 10 + 6, none⟩ = some (.int .u32 (wa : Nat)) ∧ W.cell? ⟨g, o + j * 10 + 7, none⟩ = some (.int .u32 (ow : Nat)) ∧ W.cell? ⟨g, o + j * 10 + 8, none⟩ = some (.slice xo2 F.length xc2) ∧ W.cell? ⟨g, o + j * 10 + 9, none⟩ = some (.string rs))) (by kernel_rfl) rfl rfl rfl (by kernel_rfl) (by kernel_rfl) ((unhide HS10) _ _ _ _ _ ((unhide HI).fr (Fr.refl _ _).drew)) (fun hHeld => ?_)
      refine wpAnyH_take (i := 0) (v := ?_) rfl (by kernel_rfl) (by kernel_rfl) (by kernel_rfl) (fun _ _ _ h => h) (Or.inl ⟨by rfl, ?_⟩) hHeld ?_
      rotate_left
      · intro w hSw; (try dsimp only at hSw); go_simp; (try with_reducible rfl)
      (try simp only [Act.put, List.getElem_toArray, List.getElem_cons_zero, List.getElem_cons_succ, List.setIfInBounds_toArray, List.set_cons_zero, List.set_cons_succ])
      refine wpAnyH_take (i := 1) (v := ?_) rfl (by kernel_rfl) (by kernel_rfl) (by kernel_rfl) (fun _ _ _ h => h) (Or.inl ⟨by rfl, ?_⟩) hHeld ?_
      rotate_left
      · intro w hSw; (try dsimp only at hSw); go_simp; (try with_reducible rfl)
      (try simp only [Act.put, List.getElem_toArray, List.getElem_cons_zero, List.getElem_cons_succ, List.setIfInBounds_toArray, List.set_cons_zero, List.set_cons_succ])
      refine wpAnyH_take (i := 2) (v := ?_) rfl (by kernel_rfl) (by kernel_rfl) (by kernel_rfl) (fun _ _ _ h => h) (Or.inl ⟨by rfl, ?_⟩) hHeld ?_
      rotate_left
      · intro w hSw; (try dsimp only at hSw); go_simp; (try with_reducible rfl)
      (try simp only [Act.put, List.getElem_toArray, List.getElem_cons_zero, List.getElem_cons_succ, List.setIfInBounds_toArray, List.set_cons_zero, List.set_cons_succ])
      refine wpAnyH_take (i := 3) (v := ?_) rfl (by kernel_rfl) (by kernel_rfl) (by kernel_rfl) (fun _ _ _ h => h) (Or.inl ⟨by rfl, ?_⟩) hHeld ?_
      rotate_left
      · intro w hSw; (try dsimp only at hSw); go_simp; (try with_reducible rfl)
      (try simp only [Act.put, List.getElem_toArray, List.getElem_cons_zero, List.getElem_cons_succ, List.setIfInBounds_toArray, List.set_cons_zero, List.set_cons_succ])
      refine wpAnyH_take (i := 4) (v := ?_) rfl (by kernel_rfl) (by kernel_rfl) (by kernel_rfl) (fun _ _ _ h => h) (Or.inl ⟨by rfl, ?_⟩) hHeld ?_
      rotate_left
      · intro w hSw; (try dsimp only at hSw); go_simp; (try with_reducible rfl)
      (try simp only [Act.put, List.getElem_toArray, List.getElem_cons_zero, List.getElem_cons_succ, List.setIfInBounds_toArray, List.set_cons_zero, List.set_cons_succ])
      refine wpAnyH_take (i := 5) (v := ?_) rfl (by kernel_rfl) (by kernel_rfl) (by kernel_rfl) (fun _ _ _ h => h) (Or.inl ⟨by rfl, ?_⟩) hHeld ?_
      rotate_left
      · intro w hSw; (try dsimp only at hSw); go_simp; (try with_reducible rfl)
      (try simp only [Act.put, List.getElem_toArray, List.getElem_cons_zero, List.getElem_cons_succ, List.setIfInBounds_toArray, List.set_cons_zero, List.set_cons_succ])
      refine wpAnyH_take (i := 6) (v := ?_) rfl (by kernel_rfl) (by kernel_rfl) (by kernel_rfl) (fun _ _ _ h => h) (Or.inl ⟨by rfl, ?_⟩) hHeld ?_
      rotate_left
      · intro w hSw; (try dsimp only at hSw); go_simp; (try with_reducible rfl)
      (try simp only [Act.put, List.getElem_toArray, List.getElem_cons_zero, List.getElem_cons_succ, List.setIfInBounds_toArray, List.set_cons_zero, List.set_cons_succ])
      refine wpAnyH_take (i := 7) (v := ?_) rfl (by kernel_rfl) (by kernel_rfl) (by kernel_rfl) (fun _ _ _ h => h) (Or.inl ⟨by rfl, ?_⟩) hHeld ?_
      rotate_left
      · intro w hSw; (try dsimp only at hSw); go_simp; (try with_reducible rfl)
      (try simp only [Act.put, List.getElem_toArray, List.getElem_cons_zero, List.getElem_cons_succ, List.setIfInBounds_toArray, List.set_cons_zero, List.set_cons_succ])
      refine wpAnyH_ready (rs := [8, 10]) (by kernel_rfl) (by simp) (AllReadyH.cons rfl (fun K hK => ?_) (AllReadyH.cons rfl (fun K hK => ?_) AllReadyH.nil))
      focus
        go_simp
        refine ((unhide HPl) _ _ _ _ _ ((unhide HI).fr (Fr.refl _ _).drew)).mono ?_
        rintro e w3 ⟨rfl, f3⟩
        have R3 := hide (((unhide HI).fr (Fr.refl _ _).drew).fr f3)
        have F3 := hide f3
        clear f3
        go_simp
        refine hK.out _ _ ((unhide HS10) _ _ _ _ _ (unhide R3)) (fun hHeld => ?_)
        clear hK K
        (try simp only [Act.put, List.getElem_toArray, List.getElem_cons_zero, List.getElem_cons_succ, List.setIfInBounds_toArray, List.set_cons_zero, List.set_cons_succ])
        refine wpAnyH_ready (rs := [9, 10]) (by kernel_rfl) (by simp) (AllReadyH.cons rfl (fun K hK => ?_) (AllReadyH.cons rfl (fun K hK => ?_) AllReadyH.nil))
        focus
          go_simp
          refine ((unhide HAp) _ (unhide R3)).mono ?_
          rintro e w4 ⟨fo, fn, fc, ho, hn, hc, rfl, T', r4, f4, k4, o4, p4⟩
          have g4 := RG.late #[.int .u32 0, .int .u32 0, .int .u8 0, .int .u32 0, .int .u32 0, .slice none 0 0, .slice none 0 0] (a := X.2) (unhide R3) r4 o4 p4
          have R4 := hide r4
          clear r4 f4 k4 o4 p4
          go_simp
          refine hK.out _ _ ((unhide HS10) _ _ _ _ _ (unhide R4)) (fun hHeld => ?_)
          clear hK K
          (try simp only [Act.put, List.getElem_toArray, List.getElem_cons_zero, List.getElem_cons_succ, List.setIfInBounds_toArray, List.set_cons_zero, List.set_cons_succ])
          refine wpAnyH_ready (rs := [10]) (by kernel_rfl) (by simp) (AllReadyH.cons rfl (fun K hK => ?_) AllReadyH.nil)
          go_simp
          refine hK.out _ _ ((unhide HS10) _ _ _ _ _ ((unhide R4).fr (box1 w4 _))) (fun hHeld => ?_)
          clear hK K
          (try simp only [Act.put, List.getElem_toArray, List.getElem_cons_zero, List.getElem_cons_succ, List.setIfInBounds_toArray, List.set_cons_zero, List.set_cons_succ])
          obtain ⟨ba, hba⟩ : ∃ ba, ba = w4.heap.size := ⟨_, rfl⟩
          rw [← hba] at g4 ⊢
          obtain ⟨W8, st8, g8⟩ := g4.put (.int .u32 (cl : Nat)) (.int .u32 (nu : Nat)) (.int .u8 (X.2.co : Nat)) (.int .u32 (X.2.rc : Nat)) (.int .u32 (X.2.ve : Nat)) (.slice fo fn fc) (.slice ho hn hc) (fun u hu => by simp at hu; rcases hu with rfl | rfl | rfl | rfl | rfl | rfl | rfl <;> rfl)
          have HST := hide st8
          have G8 := hide g8
          clear st8 g8
          refine wpAnyH_done (by kernel_rfl) ?_ _
          simp only [lastQ]
          refine wp_stN 37 (.tmp 6) (.tmp 39) rfl _ _ (by simp [Act.eval]) (by simp [Act.eval]) (unhide HST) ?_
          (try simp only [Act.put])
          clear HST
          clear hba R4
        rotate_left
        focus
          go_simp
          refine hK.out _ _ ((unhide HS10) _ _ _ _ _ ((unhide R3).fr (box1 w3 _))) (fun hHeld => ?_)
          clear hK K
          (try simp only [Act.put, List.getElem_toArray, List.getElem_cons_zero, List.getElem_cons_succ, List.setIfInBounds_toArray, List.set_cons_zero, List.set_cons_succ])
          refine wpAnyH_ready (rs := [9]) (by kernel_rfl) (by simp) (AllReadyH.cons rfl (fun K hK => ?_) AllReadyH.nil)
          go_simp
          refine ((unhide HAp) _ ((unhide R3).fr (box1 w3 _))).mono ?_
          rintro e w4 ⟨fo, fn, fc, ho, hn, hc, rfl, T', r4, f4, k4, o4, p4⟩
          have g4 := RG.early (ba := w3.heap.size) (a := X.2) ((unhide R3).fr (box1 w3 _)) Array.getElem?_push_size (lt_of_block (unhide R3).b) (fun ht => by have := ((unhide R3).ts _ ht).2; omega) (fun ht => by have := ((unhide R3).tz _ ht).2; omega) r4 f4 k4 o4 p4
          have R4 := hide r4
          clear r4 f4 k4 o4 p4
          go_simp
          refine hK.out _ _ ((unhide HS10) _ _ _ _ _ (unhide R4)) (fun hHeld => ?_)
          clear hK K
          (try simp only [Act.put, List.getElem_toArray, List.getElem_cons_zero, List.getElem_cons_succ, List.setIfInBounds_toArray, List.set_cons_zero, List.set_cons_succ])
          obtain ⟨ba, hba⟩ : ∃ ba, ba = w3.heap.size := ⟨_, rfl⟩
          rw [← hba] at g4 ⊢
          obtain ⟨W8, st8, g8⟩ := g4.put (.int .u32 (cl : Nat)) (.int .u32 (nu : Nat)) (.int .u8 (X.2.co : Nat)) (.int .u32 (X.2.rc : Nat)) (.int .u32 (X.2.ve : Nat)) (.slice fo fn fc) (.slice ho hn hc) (fun u hu => by simp at hu; rcases hu with rfl | rfl | rfl | rfl | rfl | rfl | rfl <;> rfl)
          have HST := hide st8
          have G8 := hide g8
          clear st8 g8
          refine wpAnyH_done (by kernel_rfl) ?_ _
          simp only [lastQ]
          refine wp_stN 37 (.tmp 6) (.tmp 39) rfl _ _ (by simp [Act.eval]) (by simp [Act.eval]) (unhide HST) ?_
          (try simp only [Act.put])
          clear HST
          clear hba R4
      rotate_left 2
      focus
        go_simp
        refine hK.out _ _ ((unhide HS10) _ _ _ _ _ ((unhide HI).fr ((Fr.refl _ _).drew.alloc _))) (fun hHeld => ?_)
        clear hK K
        (try simp only [Act.put, List.getElem_toArray, List.getElem_cons_zero, List.getElem_cons_succ, List.setIfInBounds_toArray, List.set_cons_zero, List.set_cons_succ])
        refine wpAnyH_ready (rs := [8]) (by kernel_rfl) (by simp) (AllReadyH.cons rfl (fun K hK => ?_) AllReadyH.nil)
        go_simp
        refine ((unhide HPl) _ _ _ _ _ ((unhide HI).fr ((Fr.refl _ _).drew.alloc _))).mono ?_
        rintro e w3 ⟨rfl, f3⟩
        have R3 := hide (((unhide HI).fr ((Fr.refl _ _).drew.alloc _)).fr f3)
        have B3 := hide ((f3.block wr.heap.size (by simp) (fun h => h)).trans Array.getElem?_push_size)
        clear f3
        go_simp
        refine hK.out _ _ ((unhide HS10) _ _ _ _ _ (unhide R3)) (fun hHeld => ?_)
        clear hK K
        (try simp only [Act.put, List.getElem_toArray, List.getElem_cons_zero, List.getElem_cons_succ, List.setIfInBounds_toArray, List.set_cons_zero, List.set_cons_succ])
        refine wpAnyH_ready (rs := [9]) (by kernel_rfl) (by simp) (AllReadyH.cons rfl (fun K hK => ?_) AllReadyH.nil)
        go_simp
        refine ((unhide HAp) _ (unhide R3)).mono ?_
        rintro e w4 ⟨fo, fn, fc, ho, hn, hc, rfl, T', r4, f4, k4, o4, p4⟩
        have g4 := RG.early (ba := wr.heap.size) (a := X.2) (unhide R3) (unhide B3) (lt_of_block (unhide HI).b) (fun ht => by have := ((unhide HI).ts _ ht).2; omega) (fun ht => by have := ((unhide HI).tz _ ht).2; omega) r4 f4 k4 o4 p4
        have R4 := hide r4
        clear r4 f4 k4 o4 p4
        go_simp
        refine hK.out _ _ ((unhide HS10) _ _ _ _ _ (unhide R4)) (fun hHeld => ?_)
        clear hK K
        (try simp only [Act.put, List.getElem_toArray, List.getElem_cons_zero, List.getElem_cons_succ, List.setIfInBounds_toArray, List.set_cons_zero, List.set_cons_succ])
        obtain ⟨ba, hba⟩ : ∃ ba, ba = wr.heap.size := ⟨_, rfl⟩
        rw [← hba] at g4 ⊢
        obtain ⟨W8, st8, g8⟩ := g4.put (.int .u32 (cl : Nat)) (.int .u32 (nu : Nat)) (.int .u8 (X.2.co : Nat)) (.int .u32 (X.2.rc : Nat)) (.int .u32 (X.2.ve : Nat)) (.slice fo fn fc) (.slice ho hn hc) (fun u hu => by simp at hu; rcases hu with rfl | rfl | rfl | rfl | rfl | rfl | rfl <;> rfl)
        have HST := hide st8
        have G8 := hide g8
        clear st8 g8
        refine wpAnyH_done (by kernel_rfl) ?_ _
        simp only [lastQ]
        refine wp_stN 37 (.tmp 6) (.tmp 39) rfl _ _ (by simp [Act.eval]) (by simp [Act.eval]) (unhide HST) ?_
        (try simp only [Act.put])
        clear HST
        clear hba R4 B3
      all_goals
        have HS14 : Hid (∀ W T1 T2 s1 s2 base, RG w W bs bz T1 T2 s1 s2 (.slice so S.length sc) (.slice (some ⟨g, o, none⟩) l.length rc0) (.slice po pl.length pc) l pl ba #[.int .u32 (cl : Nat), .int .u32 (nu : Nat), .int .u8 (X.2.co : Nat), .int .u32 (X.2.rc : Nat), .int .u32 (X.2.ve : Nat), .slice fo fn fc, .slice ho hn hc] base (.slice fo fn fc) (.slice ho hn hc) X.2 → ((W.cell? ⟨w.heap.size, 0, none⟩ = some (.slice so S.length sc) ∧ W.cell? ⟨w.heap.size, 1, none⟩ = some (.slice (some ⟨g, o, none⟩) l.length rc0) ∧ W.cell? ⟨w.heap.size, 2, none⟩ = some (.slice po pl.length pc)) ∧ W.cell? ⟨g, o + j * 10, none⟩ = some (.int .u32 (cl : Nat)) ∧ W.cell? ⟨g, o + j * 10 + 1, none⟩ = some (.int .u32 (nu : Nat)) ∧ W.cell? ⟨g, o + j * 10 + 2, none⟩ = some (.int .u32 (ac : Nat)) ∧ W.cell? ⟨g, o + j * 10 + 3, none⟩ = some (.int .u8 (op : Nat)) ∧ W.cell? ⟨g, o + j * 10 + 4, none⟩ = some (.int .u32 (rc : Nat)) ∧ W.cell? ⟨g, o + j * 10 + 5, none⟩ = some (.int .u32 (ve : Nat)) ∧ W.cell? ⟨g, o + j * 10 + 6, none⟩ = some (.int .u32 (wa : Nat)) ∧ W.cell? ⟨g, o + j * 10 + 7, none⟩ = some (.int .u32 (ow : Nat)) ∧ W.cell? ⟨g, o + j * 10 + 8, none⟩ = some (.slice xo2 F.length xc2) ∧ W.cell? ⟨g, o + j * 10 + 9, none⟩ = some (.string rs)) ∧ W.cell? ⟨ba, 0, none⟩ = some (.int .u32 (cl : Nat)) ∧ W.cell? ⟨ba, 1, none⟩ = some (.int .u32 (nu : Nat)) ∧ W.cell? ⟨ba, 2, none⟩ = some (.int .u8 (X.2.co : Nat)) ∧ W.cell? ⟨ba, 3, none⟩ = some (.int .u32 (X.2.rc : Nat)) ∧ W.cell? ⟨ba, 4, none⟩ = some (.int .u32 (X.2.ve : Nat)) ∧ W.cell? ⟨ba, 5, none⟩ = some (.slice fo fn fc) ∧ W.cell? ⟨ba, 6, none⟩ = some (.slice ho hn hc)) := fun W T1 T2 s1 s2 base h => ⟨(unhide HS10) _ _ _ _ _ h.rf, by simp [World.cell?, h.bk]⟩
        obtain ⟨_, ⟨_, _, c2, _⟩⟩ := (unhide HS14) _ _ _ _ _ _ (unhide G8)
        by_cases hz : X.2.co = 0
        · rw [hz] at c2
          go_wp2_with fail
          clear hz c2
          refine wp_region_noPanic ?_
          refine wp_region_held_drew (S := (fun W => ((W.cell? ⟨w.heap.size, 0, none⟩ = some (.slice so S.length sc) ∧ W.cell? ⟨w.heap.size, 1, none⟩ = some (.slice (some ⟨g, o, none⟩) l.length rc0) ∧ W.cell? ⟨w.heap.size, 2, none⟩ = some (.slice po pl.length pc)) ∧ W.cell? ⟨g, o + j * 10, none⟩ = some (.int .u32 (cl : Nat)) ∧ W.cell? ⟨g, o + j * 10 + 1, none⟩ = some (.int .u32 (nu : Nat)) ∧ W.cell? ⟨g, o + j * 10 + 2, none⟩ = some (.int .u32 (ac : Nat)) ∧ W.cell? ⟨g, o + j * 10 + 3, none⟩ = some (.int .u8 (op : Nat)) ∧ W.cell? ⟨g, o + j * 10 + 4, none⟩ = some (.int .u32 (rc : Nat)) ∧ W.cell? ⟨g, o + j * 10 + 5, none⟩ = some (.int .u32 (ve : Nat)) ∧ W.cell? ⟨g, o + j * 10 + 6, none⟩ = some (.int .u32 (wa : Nat)) ∧ W.cell? ⟨g, o + j * 10 + 7, none⟩ = some (.int .u32 (ow : Nat)) ∧ W.cell? ⟨g, o + j * 10 + 8, none⟩ = some (.slice xo2 F.length xc2) ∧ W.cell? ⟨g, o + j * 10 + 9, none⟩ = some (.string rs)) ∧ W.cell? ⟨ba, 0, none⟩ = some (.int .u32 (cl : Nat)) ∧ W.cell? ⟨ba, 1, none⟩ = some (.int .u32 (nu : Nat)) ∧ W.cell? ⟨ba, 2, none⟩ = some (.int .u8 (X.2.co : Nat)) ∧ W.cell? ⟨ba, 3, none⟩ = some (.int .u32 (X.2.rc : Nat)) ∧ W.cell? ⟨ba, 4, none⟩ = some (.int .u32 (X.2.ve : Nat)) ∧ W.cell? ⟨ba, 5, none⟩ = some (.slice fo fn fc) ∧ W.cell? ⟨ba, 6, none⟩ = some (.slice ho hn hc))) (by kernel_rfl) ((unhide HS14) _ _ _ _ _ _ ((unhide G8).fr (Fr.refl _ _).drew)) (fun hHeld => ?_)
          refine wpAnyH_take (i := 0) (v := ?_) rfl (by kernel_rfl) (by kernel_rfl) (by kernel_rfl) (fun _ _ _ h => h) (Or.inl ⟨by rfl, ?_⟩) hHeld ?_
          rotate_left
          · intro w hSw; (try dsimp only at hSw); go_simp; (try with_reducible rfl)
          (try simp only [Act.put, List.getElem_toArray, List.getElem_cons_zero, List.setIfInBounds_toArray, List.set_cons_zero, List.set_cons_succ])
          refine wpAnyH_take (i := 1) (v := ?_) rfl (by kernel_rfl) (by kernel_rfl) (by kernel_rfl) (fun _ _ _ h => h) (Or.inl ⟨by rfl, ?_⟩) hHeld ?_
          rotate_left
          · intro w hSw; (try dsimp only at hSw); go_simp; (try with_reducible rfl)
          (try simp only [Act.put, List.getElem_toArray, List.getElem_cons_zero, List.getElem_cons_succ, List.setIfInBounds_toArray, List.set_cons_zero, List.set_cons_succ])
          refine wpAnyH_take (i := 2) (v := ?_) rfl (by kernel_rfl) (by kernel_rfl) (by kernel_rfl) (fun _ _ _ h => h) (Or.inl ⟨by rfl, ?_⟩) hHeld ?_
          rotate_left
          · intro w hSw; (try dsimp only at hSw); go_simp; (try with_reducible rfl)
          (try simp only [Act.put, List.getElem_toArray, List.getElem_cons_zero, List.getElem_cons_succ, List.setIfInBounds_toArray, List.set_cons_zero, List.set_cons_succ])
          refine wpAnyH_take (i := 3) (v := ?_) rfl (by kernel_rfl) (by kernel_rfl) (by kernel_rfl) (fun _ _ _ h => h) (Or.inl ⟨by rfl, ?_⟩) hHeld ?_
          rotate_left
          · intro w hSw; (try dsimp only at hSw); go_simp; (try with_reducible rfl)
          (try simp only [Act.put, List.getElem_toArray, List.getElem_cons_zero, List.getElem_cons_succ, List.setIfInBounds_toArray, List.set_cons_zero, List.set_cons_succ])
          refine wpAnyH_take (i := 4) (v := ?_) rfl (by kernel_rfl) (by kernel_rfl) (by kernel_rfl) (fun _ _ _ h => h) (Or.inl ⟨by rfl, ?_⟩) hHeld ?_
          rotate_left
          · intro w hSw; (try dsimp only at hSw); go_simp; (try with_reducible rfl)
          (try simp only [Act.put, List.getElem_toArray, List.getElem_cons_zero, List.getElem_cons_succ, List.setIfInBounds_toArray, List.set_cons_zero, List.set_cons_succ])
          refine wpAnyH_take (i := 5) (v := ?_) rfl (by kernel_rfl) (by kernel_rfl) (by kernel_rfl) (fun _ _ _ h => h) (Or.inl ⟨by rfl, ?_⟩) hHeld ?_
          rotate_left
          · intro w hSw; (try dsimp only at hSw); go_simp; (try with_reducible rfl)
          (try simp only [Act.put, List.getElem_toArray, List.getElem_cons_zero, List.getElem_cons_succ, List.setIfInBounds_toArray, List.set_cons_zero, List.set_cons_succ])
          refine wpAnyH_take (i := 6) (v := ?_) rfl (by kernel_rfl) (by kernel_rfl) (by kernel_rfl) (fun _ _ _ h => h) (Or.inl ⟨by rfl, ?_⟩) hHeld ?_
          rotate_left
          · intro w hSw; (try dsimp only at hSw); go_simp; (try with_reducible rfl)
          (try simp only [Act.put, List.getElem_toArray, List.getElem_cons_zero, List.getElem_cons_succ, List.setIfInBounds_toArray, List.set_cons_zero, List.set_cons_succ])
          refine wpAnyH_take (i := 7) (v := ?_) rfl (by kernel_rfl) (by kernel_rfl) (by kernel_rfl) (fun _ _ _ h => h) (Or.inl ⟨by rfl, ?_⟩) hHeld ?_
          rotate_left
          · intro w hSw; (try dsimp only at hSw); go_simp; (try with_reducible rfl)
          (try simp only [Act.put, List.getElem_toArray, List.getElem_cons_zero, List.getElem_cons_succ, List.setIfInBounds_toArray, List.set_cons_zero, List.set_cons_succ])
          refine wpAnyH_take (i := 8) (v := ?_) rfl (by kernel_rfl) (by kernel_rfl) (by kernel_rfl) (fun _ _ _ h => h) (Or.inl ⟨by rfl, ?_⟩) hHeld ?_
          rotate_left
          · intro w hSw; (try dsimp only at hSw); go_simp; (try with_reducible rfl)
          (try simp only [Act.put, List.getElem_toArray, List.getElem_cons_zero, List.getElem_cons_succ, List.setIfInBounds_toArray, List.set_cons_zero, List.set_cons_succ])
          refine wpAnyH_ready (rs := [9]) (by kernel_rfl) (by simp) (AllReadyH.cons rfl (fun K hK => ?_) AllReadyH.nil)
          go_simp
          refine ((unhide HPl) _ _ _ _ _ ((unhide G8).fr (Fr.refl _ _).drew).rf).mono ?_
          rintro e w5 ⟨rfl, f5⟩
          have G5 := hide (((unhide G8).fr (Fr.refl _ _).drew).fr f5)
          clear f5
          go_simp
          refine hK.out _ _ ((unhide HS14) _ _ _ _ _ _ (unhide G5)) (fun hHeld => ?_)
          clear hK K
          (try simp only [Act.put, List.getElem_toArray, List.getElem_cons_zero, List.getElem_cons_succ, List.setIfInBounds_toArray, List.set_cons_zero, List.set_cons_succ])
          refine wpAnyH_ready (rs := [10]) (by kernel_rfl) (by simp) (AllReadyH.cons rfl (fun K hK => ?_) AllReadyH.nil)
          go_simp
          refine ((unhide HAz) _ _ (unhide G5).rf).mono ?_
          rintro e w6 ⟨fo2, fn2, fc2, ho2, hn2, hc2, rfl, T2, r6, f6, k6, o6, p6⟩
          obtain ⟨q1, q2, q3, q4⟩ := (unhide G5).other r6 f6
          have HSm := hide (sameA_any cl nu X.2.co X.2.rc X.2.ve _ _ _ _ X.2.F X.2.H w6 q3.fds o6.fds q4.sms p6.sms (by have := (unhide HX).2.1; omega) (by have := (unhide HX).2.2.1; omega))
          have Q1 := hide (And.intro q1 q2)
          clear r6 f6 k6 o6 p6 q1 q2 q3 q4
          go_simp
          refine hK.out _ _ ⟨(unhide HS10) _ _ _ _ _ (unhide Q1).1, by simp [World.cell?, (unhide Q1).2]⟩ (fun hHeld => ?_)
          clear hK K
          (try simp only [Act.put, List.getElem_toArray, List.getElem_cons_zero, List.getElem_cons_succ, List.setIfInBounds_toArray, List.set_cons_zero, List.set_cons_succ])
          refine wpAnyH_ready (rs := [11]) (by kernel_rfl) (by simp) (AllReadyH.cons rfl (fun K hK => ?_) AllReadyH.nil)
          go_simp
          refine (unhide HSm).mono ?_
          rintro e w7 ⟨rfl, f7⟩
          have Q7 := hide (And.intro ((unhide Q1).1.fr f7) ((f7.block _ (lt_of_block (unhide Q1).2) (fun h => h)).trans (unhide Q1).2))
          clear f7
          go_simp
          refine hK.out _ _ ⟨(unhide HS10) _ _ _ _ _ (unhide Q7).1, by simp [World.cell?, (unhide Q7).2]⟩ (fun hHeld => ?_)
          clear hK K
          (try simp only [Act.put, List.getElem_toArray, List.getElem_cons_zero, List.getElem_cons_succ, List.setIfInBounds_toArray, List.set_cons_zero, List.set_cons_succ])
          refine wpAnyH_take (i := 12) (v := ?_) rfl (by kernel_rfl) (by kernel_rfl) (by kernel_rfl) (fun _ _ _ h => h) (Or.inl ⟨by rfl, ?_⟩) hHeld ?_
          rotate_left
          · intro w hSw; (try dsimp only at hSw); go_simp; (try with_reducible rfl)
          (try simp only [Act.put, List.getElem_toArray, List.getElem_cons_zero, List.getElem_cons_succ, List.setIfInBounds_toArray, List.set_cons_zero, List.set_cons_succ])
          refine wpAnyH_done (by kernel_rfl) ?_ _
          refine NoPanic.normal ?_
          clear HSm HS14 HS10 HPl HAp HAz
          go_wp2_with fail
          go_roundw
          case rel => exact ⟨j + 1, hlt, by go_num, _, _, _, (unhide Q7).1, (unhide HX).1⟩
          case measure => simp [intOf]; omega
        · have hz2 : ¬ ((X.2.co : Nat) : Int) = 0 := by omega
          have hXe := (unhide HX).2.2.2 hz
          have e2 : X.2 = RA.no X.2.co := by rw [hXe]; rfl
          have hrc : X.2.rc = 0 := by rw [e2]; rfl
          have hve : X.2.ve = 0 := by rw [e2]; rfl
          have hF0 : X.2.F = [] := by rw [e2]; rfl
          have hH0 : X.2.H = [] := by rw [e2]; rfl
          have hX1 : X.1 = s := by rw [hXe]
          have HSm : Hid (Calls Tryd.prog 10 #[.agg #[.int .u32 (cl : Nat), .int .u32 (nu : Nat), .int .u8 (X.2.co : Nat), .int .u32 (X.2.rc : Nat), .int .u32 (X.2.ve : Nat), .slice fo fn fc, .slice ho hn hc], .agg #[.int .u32 (cl : Nat), .int .u32 (nu : Nat), .int .u8 (X.2.co : Nat), .int .u32 0, .int .u32 0, .slice none 0 0, .slice none 0 0]] W8.drew fun e w' => e = .returned (.bool true) ∧ Fr (fun _ => False) W8.drew w') := by
            have h := sameA_any cl nu X.2.co X.2.rc X.2.ve (.slice fo fn fc) (.slice ho hn hc) (.slice none 0 0) (.slice none 0 0) X.2.F X.2.H W8.drew ((unhide G8).fr (Fr.refl _ _).drew).f.fds (.inl ⟨_, _, rfl, hF0⟩) ((unhide G8).fr (Fr.refl _ _).drew).h.sms (.inl ⟨_, _, rfl, hH0⟩) (by have := (unhide HX).2.1; omega) (by have := (unhide HX).2.2.1; omega)
            rw [hrc, hve] at h ⊢
            exact h
          clear hXe e2 hrc hve hF0 hH0
          go_wp2_with fail
          clear hz hz2 c2
          refine wp_region_noPanic ?_
          refine wp_region_held_drew (S := (fun W => ((W.cell? ⟨w.heap.size, 0, none⟩ = some (.slice so S.length sc) ∧ W.cell? ⟨w.heap.size, 1, none⟩ = some (.slice (some ⟨g, o, none⟩) l.length rc0) ∧ W.cell? ⟨w.heap.size, 2, none⟩ = some (.slice po pl.length pc)) ∧ W.cell? ⟨g, o + j * 10, none⟩ = some (.int .u32 (cl : Nat)) ∧ W.cell? ⟨g, o + j * 10 + 1, none⟩ = some (.int .u32 (nu : Nat)) ∧ W.cell? ⟨g, o + j * 10 + 2, none⟩ = some (.int .u32 (ac : Nat)) ∧ W.cell? ⟨g, o + j * 10 + 3, none⟩ = some (.int .u8 (op : Nat)) ∧ W.cell? ⟨g, o + j * 10 + 4, none⟩ = some (.int .u32 (rc : Nat)) ∧ W.cell? ⟨g, o + j * 10 + 5, none⟩ = some (.int .u32 (ve : Nat)) ∧ W.cell? ⟨g, o + j * 10 + 6, none⟩ = some (.int .u32 (wa : Nat)) ∧ W.cell? ⟨g, o + j * 10 + 7, none⟩ = some (.int .u32 (ow : Nat)) ∧ W.cell? ⟨g, o + j * 10 + 8, none⟩ = some (.slice xo2 F.length xc2) ∧ W.cell? ⟨g, o + j * 10 + 9, none⟩ = some (.string rs)) ∧ W.cell? ⟨ba, 0, none⟩ = some (.int .u32 (cl : Nat)) ∧ W.cell? ⟨ba, 1, none⟩ = some (.int .u32 (nu : Nat)) ∧ W.cell? ⟨ba, 2, none⟩ = some (.int .u8 (X.2.co : Nat)) ∧ W.cell? ⟨ba, 3, none⟩ = some (.int .u32 (X.2.rc : Nat)) ∧ W.cell? ⟨ba, 4, none⟩ = some (.int .u32 (X.2.ve : Nat)) ∧ W.cell? ⟨ba, 5, none⟩ = some (.slice fo fn fc) ∧ W.cell? ⟨ba, 6, none⟩ = some (.slice ho hn hc))) (by kernel_rfl) ((unhide HS14) _ _ _ _ _ _ ((unhide G8).fr (Fr.refl _ _).drew)) (fun hHeld => ?_)
          refine wpAnyH_take (i := 0) (v := ?_) rfl (by kernel_rfl) (by kernel_rfl) (by kernel_rfl) (fun _ _ _ h => h) (Or.inl ⟨by rfl, ?_⟩) hHeld ?_
          rotate_left
          · intro w hSw; (try dsimp only at hSw); go_simp; (try with_reducible rfl)
          (try simp only [Act.put, List.getElem_toArray, List.getElem_cons_zero, List.setIfInBounds_toArray, List.set_cons_zero, List.set_cons_succ])
          refine wpAnyH_take (i := 1) (v := ?_) rfl (by kernel_rfl) (by kernel_rfl) (by kernel_rfl) (fun _ _ _ h => h) (Or.inl ⟨by rfl, ?_⟩) hHeld ?_
          rotate_left
          · intro w hSw; (try dsimp only at hSw); go_simp; (try with_reducible rfl)
          (try simp only [Act.put, List.getElem_toArray, List.getElem_cons_zero, List.getElem_cons_succ, List.setIfInBounds_toArray, List.set_cons_zero, List.set_cons_succ])
          refine wpAnyH_take (i := 2) (v := ?_) rfl (by kernel_rfl) (by kernel_rfl) (by kernel_rfl) (fun _ _ _ h => h) (Or.inl ⟨by rfl, ?_⟩) hHeld ?_
          rotate_left
          · intro w hSw; (try dsimp only at hSw); go_simp; (try with_reducible rfl)
          (try simp only [Act.put, List.getElem_toArray, List.getElem_cons_zero, List.getElem_cons_succ, List.setIfInBounds_toArray, List.set_cons_zero, List.set_cons_succ])
          refine wpAnyH_take (i := 3) (v := ?_) rfl (by kernel_rfl) (by kernel_rfl) (by kernel_rfl) (fun _ _ _ h => h) (Or.inl ⟨by rfl, ?_⟩) hHeld ?_
          rotate_left
          · intro w hSw; (try dsimp only at hSw); go_simp; (try with_reducible rfl)
          (try simp only [Act.put, List.getElem_toArray, List.getElem_cons_zero, List.getElem_cons_succ, List.setIfInBounds_toArray, List.set_cons_zero, List.set_cons_succ])
          refine wpAnyH_take (i := 4) (v := ?_) rfl (by kernel_rfl) (by kernel_rfl) (by kernel_rfl) (fun _ _ _ h => h) (Or.inl ⟨by rfl, ?_⟩) hHeld ?_
          rotate_left
          · intro w hSw; (try dsimp only at hSw); go_simp; (try with_reducible rfl)
          (try simp only [Act.put, List.getElem_toArray, List.getElem_cons_zero, List.getElem_cons_succ, List.setIfInBounds_toArray, List.set_cons_zero, List.set_cons_succ])
          refine wpAnyH_take (i := 5) (v := ?_) rfl (by kernel_rfl) (by kernel_rfl) (by kernel_rfl) (fun _ _ _ h => h) (Or.inl ⟨by rfl, ?_⟩) hHeld ?_
          rotate_left
          · intro w hSw; (try dsimp only at hSw); go_simp; (try with_reducible rfl)
          (try simp only [Act.put, List.getElem_toArray, List.getElem_cons_zero, List.getElem_cons_succ, List.setIfInBounds_toArray, List.set_cons_zero, List.set_cons_succ])
          refine wpAnyH_take (i := 6) (v := ?_) rfl (by kernel_rfl) (by kernel_rfl) (by kernel_rfl) (fun _ _ _ h => h) (Or.inl ⟨by rfl, ?_⟩) hHeld ?_
          rotate_left
          · intro w hSw; (try dsimp only at hSw); go_simp; (try with_reducible rfl)
          (try simp only [Act.put, List.getElem_toArray, List.getElem_cons_zero, List.getElem_cons_succ, List.setIfInBounds_toArray, List.set_cons_zero, List.set_cons_succ])
          refine wpAnyH_take (i := 7) (v := ?_) rfl (by kernel_rfl) (by kernel_rfl) (by kernel_rfl) (fun _ _ _ h => h) (Or.inl ⟨by rfl, ?_⟩) hHeld ?_
          rotate_left
          · intro w hSw; (try dsimp only at hSw); go_simp; (try with_reducible rfl)
          (try simp only [Act.put, List.getElem_toArray, List.getElem_cons_zero, List.getElem_cons_succ, List.setIfInBounds_toArray, List.set_cons_zero, List.set_cons_succ])
          refine wpAnyH_take (i := 8) (v := ?_) rfl (by kernel_rfl) (by kernel_rfl) (by kernel_rfl) (fun _ _ _ h => h) (Or.inl ⟨by rfl, ?_⟩) hHeld ?_
          rotate_left
          · intro w hSw; (try dsimp only at hSw); go_simp; (try with_reducible rfl)
          (try simp only [Act.put, List.getElem_toArray, List.getElem_cons_zero, List.getElem_cons_succ, List.setIfInBounds_toArray, List.set_cons_zero, List.set_cons_succ])
          refine wpAnyH_take (i := 9) (v := ?_) rfl (by kernel_rfl) (by kernel_rfl) (by kernel_rfl) (fun _ _ _ h => h) (Or.inl ⟨by rfl, ?_⟩) hHeld ?_
          rotate_left
          · intro w hSw; (try dsimp only at hSw); go_simp; (try with_reducible rfl)
          (try simp only [Act.put, List.getElem_toArray, List.getElem_cons_zero, List.getElem_cons_succ, List.setIfInBounds_toArray, List.set_cons_zero, List.set_cons_succ])
          refine wpAnyH_ready (rs := [10]) (by kernel_rfl) (by simp) (AllReadyH.cons rfl (fun K hK => ?_) AllReadyH.nil)
          go_simp
          refine (unhide HSm).mono ?_
          rintro e w7 ⟨rfl, f7⟩
          have G7 := hide (((unhide G8).fr (Fr.refl _ _).drew).fr f7)
          clear f7
          go_simp
          refine hK.out _ _ ((unhide HS14) _ _ _ _ _ _ (unhide G7)) (fun hHeld => ?_)
          clear hK K
          (try simp only [Act.put, List.getElem_toArray, List.getElem_cons_zero, List.getElem_cons_succ, List.setIfInBounds_toArray, List.set_cons_zero, List.set_cons_succ])
          refine wpAnyH_take (i := 11) (v := ?_) rfl (by kernel_rfl) (by kernel_rfl) (by kernel_rfl) (fun _ _ _ h => h) (Or.inl ⟨by rfl, ?_⟩) hHeld ?_
          rotate_left
          · intro w hSw; (try dsimp only at hSw); go_simp; (try with_reducible rfl)
          (try simp only [Act.put, List.getElem_toArray, List.getElem_cons_zero, List.getElem_cons_succ, List.setIfInBounds_toArray, List.set_cons_zero, List.set_cons_succ])
          refine wpAnyH_done (by kernel_rfl) ?_ _
          refine NoPanic.normal ?_
          clear HSm HS14 HS10 HPl HAp HAz
          go_wp2_with fail
          go_roundw
          case rel => exact ⟨j + 1, hlt, by go_num, _, _, s, hX1 ▸ (unhide G7).rf, unhide HOks⟩
          case measure => simp [intOf]; omega
    · obtain rfl : j = l.length := by omega
      have b1 : wr.cell? ⟨w.heap.size, 1, none⟩ = some (.slice ro l.length rc0) := by simp [World.cell?, hi.b]
      have HI := hide hi
      clear hi
      go_wp2_with fail
      refine (records_B bs _ _ _ (unhide HI).rs).mono ?_
      rintro e w7 ⟨rfl, hw⟩
      obtain rfl := hw.symm
      clear hw
      go_wp2_with fail
      refine (records_B bz _ _ _ (unhide HI).rz).mono ?_
      rintro e w8 ⟨rfl, hw⟩
      obtain rfl := hw.symm
      clear hw
      go_wp2_with fail
      go_ret
      exact ⟨by simp, (unhide HI).f⟩
end Go.Proofs.YtkpaoebpjcdglabDoor

namespace Go.Proofs.YtkpaoebpjcdglabDoor
open Go.ChangeShapes Go.WideShapes Go.ChangeAt Go.RowKit
set_option maxRecDepth 100000

theorem Tryd.ownKnob : ownKnob Tryd.prog.godebug = none := by kernel_rfl
theorem Fr.below {w w' : World} (h : Fr (fun _ => False) w w') : Below w.heap.size w w' := ⟨h.os, h.tape, h.output, h.size, fun k hk => h.block k hk (fun x => x)⟩
theorem laid_in {W : World} : ∀ {l : List (String × DataW Unit)} {ps : List MemPlace}, DataW.LaidVars Tryd.prog W l ps → ∀ {nm : String} {d : DataW Unit}, (nm, d) ∈ l →
    ∃ g t cs fuel p, Tryd.prog.globalNamed nm = some g ∧ (Tryd.prog.globals[g]?).map (·.type) = some t ∧ W.var? Tryd.prog nm = some cs ∧ DataW.trod (H := Unit) (fun _ => ()) Tryd.prog W 0 (fun _ => true) false fuel t cs.toList = some (d, p) ∧ ∀ x ∈ MemPlace.row ⟨g, 0, none⟩ cs.size, x ∈ ps := by
  intro l
  induction l with
  | nil => intro ps _ nm d hm; cases hm
  | cons y r ih =>
    intro ps h nm d hm
    obtain ⟨n, dd⟩ := y
    obtain ⟨g, t, cs, fuel, p, q, hg, ht, hv, hd, hr, rfl⟩ := h
    rcases List.mem_cons.1 hm with e | hm
    · cases e
      exact ⟨g, t, cs, fuel, p, hg, ht, hv, hd, fun x hx => by simp [hx]⟩
    · obtain ⟨g', t', cs', fuel', p', a1, a2, a3, a4, a5⟩ := ih hr hm
      exact ⟨g', t', cs', fuel', p', a1, a2, a3, a4, fun x hx => by simp [a5 x hx]⟩
/-- What is listed, piece by piece. -/
def aggL : DataW Unit → List (DataW Unit)
  | .agg l => l
  | _ => []
def mOf : DataW Unit → Option Int
  | .agg (_ :: .lit (.int .u8 z) :: _) => some z
  | _ => none
def lit1 : DataW Unit → Value
  | .lit (.string l) => .string ⟨l.toArray⟩
  | .lit (.int k z) => .int k z
  | _ => undef
theorem units_m : (aggL Rows.laid_almoner_quant_units).map mOf = measL.map (fun m : Nat => some (m : Int)) := by kernel_rfl
theorem Tryd.cellsRow : Tryd.prog.cellsOf 122 = 5 := by kernel_rfl
theorem Tryd.cellsU8 : Tryd.prog.cellsOf 5 = 1 := by kernel_rfl
theorem gu_of_laid {W : World} {laid : List (String × DataW Unit)} (hL : laidMet Tryd.prog laid W) (hm : ("almoner/quant.units", Rows.laid_almoner_quant_units) ∈ laid) : GU W := by
  intro i hi
  obtain ⟨ps, hv, _, _⟩ := hL
  obtain ⟨g', t', cs, fuel, p, a1, a2, a3, a4, _⟩ := laid_in hv hm
  have hg : Tryd.prog.globalNamed "almoner/quant.units" = some 1 := by kernel_rfl
  obtain rfl := Option.some.inj (hg.symm.trans a1)
  obtain rfl := Option.some.inj ((show (Tryd.prog.globals[1]?).map (·.type) = some 123 by kernel_rfl).symm.trans a2)
  obtain ⟨xs, m, _, hx, _, hlen, hall⟩ := DataW.trod_array Tryd.underlying123 a4
  simp only [Prod.mk.injEq] at hx
  have h1 := hall i hi
  obtain ⟨y, hy⟩ : ∃ y, xs[i]? = some y := ⟨xs[i], List.getElem?_eq_getElem (by omega)⟩
  have hmi : mOf y.1 = some ((measL.getD i 0 : Nat) : Int) := by
    have e := units_m
    rw [hx.1] at e
    have e2 := congrArg (fun l => l[i]?) e
    have hml : i < measL.length := hi
    simp only [aggL, List.getElem?_map, hy, Option.map_some, List.getElem?_eq_getElem hml, Option.some.injEq] at e2
    rw [e2, List.getD, List.getElem?_eq_getElem hml, Option.getD_some]
  rw [Tryd.cellsRow, hy] at h1
  obtain ⟨ys, n, _, hy2, _, hlen2, hf⟩ := DataW.trod_struct Tryd.underlying122 h1
  have h2 := hf 1 _ rfl
  rw [hy2] at hmi
  have hl5 : ys.length = 5 := hlen2
  rcases ys with _ | ⟨y0, _ | ⟨y1, r⟩⟩
  · simp at hl5
  · simp at hl5
  · obtain ⟨v, e1, e2, _⟩ := DataW.trod_int Tryd.underlying5 h2
    rw [e2] at hmi
    simp only [List.map_cons, mOf, Option.some.injEq] at hmi
    subst hmi
    have e1' : ((((cs.toList.drop (i * 5)).take 5).drop 1).take (Tryd.prog.cellsOf 5)) = [.int .u8 ((measL.getD i 0 : Nat) : Int)] := e1
    rw [Tryd.cellsU8] at e1'
    have e3 := congrArg List.head? e1'
    simp only [List.head?_eq_getElem?, List.getElem?_take, List.getElem?_drop] at e3
    rw [World.var?_cell hg a3 (i * 5 + 1)]
    simpa using e3
noncomputable def uWorld (os : Os) : World :=
  let w0 := World.holding Tryd.prog os ⟨#[], #[], []⟩
  { w0 with heap := w0.heap.modify 1 fun
      | .cells _ t frozen => .cells ((aggL Rows.laid_almoner_quant_units).flatMap fun d => (aggL d).map lit1).toArray t frozen
      | o => o }
end Go.Proofs.YtkpaoebpjcdglabDoor

namespace Go.Proofs.YtkpaoebpjcdglabDoor
open Go.ChangeShapes Go.WideShapes Go.ChangeAt Go.RowKit Go.Deep
set_option maxRecDepth 100000

theorem nat_u32 {a : Int} (h : (Lit.int .u32 a).wf = true) : ∃ n : Nat, a = n ∧ n < 4294967296 := ⟨a.toNat, by have := bounds_u32 h; omega, by have := bounds_u32 h; omega⟩
theorem nat_u8 {a : Int} (h : (Lit.int .u8 a).wf = true) : ∃ n : Nat, a = n ∧ n < 256 := ⟨a.toNat, by have := bounds_u8 h; omega, by have := bounds_u8 h; omega⟩
theorem bulk_pos {H : Type} (d : DataW H) : 1 ≤ Rows.uptoBulk d := by
  unfold Rows.uptoBulk
  split <;> omega
theorem bulk_len {H : Type} : ∀ l : List (DataW H), l.length ≤ Rows.uptoBulkAll l
  | [] => Nat.zero_le _
  | d :: r => by
    have h1 := bulk_pos d
    have h2 := bulk_len r
    simp only [Rows.uptoBulkAll, List.length_cons]
    omega
theorem bulk_in {H : Type} : ∀ (l : List (DataW H)) (d : DataW H), d ∈ l → Rows.uptoBulk d ≤ Rows.uptoBulkAll l
  | [], d, h => by cases h
  | x :: r, d, h => by
    simp only [Rows.uptoBulkAll]
    rcases List.mem_cons.1 h with rfl | h
    · omega
    · have := bulk_in r d h
      omega
theorem Tryd.cellsU32 : Tryd.prog.cellsOf 31 = 1 := by kernel_rfl
theorem Tryd.cellsF32 : Tryd.prog.cellsOf 61 = 1 := by kernel_rfl
theorem Tryd.cellsStr : Tryd.prog.cellsOf 9 = 1 := by kernel_rfl
theorem Tryd.cellsSt : Tryd.prog.cellsOf 55 = 3 := by kernel_rfl
theorem Tryd.cellsFd : Tryd.prog.cellsOf 63 = 5 := by kernel_rfl
theorem p3_of_trod {H : Type} {enc : TypeId × Value → H} {W : World} {fuel : Nat} {cs : List Value} {x : DataW H × List MemPlace} (h : DataW.trod enc Tryd.prog W 0 (fun _ => true) true fuel 55 cs = some x) :
    ∃ s : P3, cs = [.int .u32 (s.a : Nat), .int .u32 (s.r : Nat), .int .u32 (s.w : Nat)] := by
  obtain ⟨xs, n, _, rfl, hl, hlen, hf⟩ := DataW.trod_struct Tryd.underlying55 h
  rw [Tryd.cellsSt] at hl
  have h0 := hf 0 _ rfl
  have h1 := hf 1 _ rfl
  have h2 := hf 2 _ rfl
  match cs, hl with
  | [c0, c1, c2], _ =>
    match xs, hlen with
    | [y0, y1, y2], _ =>
      simp [Tryd.cellsU32] at h0 h1 h2
      obtain ⟨a, e0, rfl, wa⟩ := DataW.trod_int Tryd.underlying31 h0
      obtain ⟨b, e1, rfl, wb⟩ := DataW.trod_int Tryd.underlying31 h1
      obtain ⟨c, e2, rfl, wc⟩ := DataW.trod_int Tryd.underlying31 h2
      simp only [List.cons.injEq, and_true] at e0 e1 e2
      subst e0 e1 e2
      obtain ⟨a, rfl, _⟩ := nat_u32 wa
      obtain ⟨b, rfl, _⟩ := nat_u32 wb
      obtain ⟨c, rfl, _⟩ := nat_u32 wc
      exact ⟨⟨a, b, c⟩, rfl⟩
theorem stf_of_trod {H : Type} {enc : TypeId × Value → H} {W : World} {fuel : Nat} {v : Value} {x : DataW H × List MemPlace} (hf : DataW.trod enc Tryd.prog W 0 (fun _ => true) true fuel 22 [v] = some x) :
    ∃ A : List P3, Stf W v A ∧ A.length + 1 ≤ Rows.uptoBulk x.1 := by
  rcases open_slice Tryd.underlying22 hf with ⟨hcs, hx⟩ | ⟨a, len', cap', m, n, D, Pl, hcs, _, hl, hm, hmm, hx, hel⟩
  · simp only [List.cons.injEq, and_true] at hcs
    subst hcs
    exact ⟨[], .inl ⟨none, 0, rfl, rfl⟩, bulk_pos _⟩
  · simp only [List.cons.injEq, and_true] at hcs
    subst hcs
    subst hx
    simp only [if_true] at hmm
    subst hmm
    have hp : ∀ i, ∃ s : P3, i < m → ∀ j, j < 3 → W.cell? ((a.add (i * 3)).add j) = [Value.int .u32 (s.a : Nat), .int .u32 (s.r : Nat), .int .u32 (s.w : Nat)][j]? := fun i => by
      by_cases hi : i < m
      · obtain ⟨cs', h1, h2⟩ := hel i hi
        rw [Tryd.cellsSt] at h1
        obtain ⟨_, hlen, hcell⟩ := World.cells?_some h1
        obtain ⟨s, rfl⟩ := p3_of_trod h2
        exact ⟨s, fun _ => hcell⟩
      · exact ⟨⟨0, 0, 0⟩, fun h => absurd h hi⟩
    obtain ⟨Q, hQ⟩ : ∃ Q : Nat → P3, ∀ i, i < m → ∀ j, j < 3 → W.cell? ((a.add (i * 3)).add j) = [Value.int .u32 ((Q i).a : Nat), .int .u32 ((Q i).r : Nat), .int .u32 ((Q i).w : Nat)][j]? := ⟨fun i => Classical.choose (hp i), fun i => Classical.choose_spec (hp i)⟩
    have hbulk := bulk_len ((List.range len').map D)
    have hd : Rows.uptoBulkAll ((List.range len').map D) + 1 ≤ Rows.uptoBulk (DataW.slice ((List.range len').map D) ((List.range (m - len')).map fun j => D (len' + j)) : DataW H) := by
      simp only [Rows.uptoBulk]; omega
    refine ⟨(List.range len').map Q, ?_, by simp at hbulk ⊢; omega⟩
    by_cases h0 : len' = 0
    · subst h0
      exact .inl ⟨some a, m, by simp, by simp⟩
    · have hc0 := hQ 0 (by omega) 0 (by decide)
      obtain ⟨g, o, sp⟩ := a
      have hsp : sp = none := by simpa [Addr.add] using World.cell?_spot hc0
      subst hsp
      refine .inr ⟨g, o, m, by simp, fun j hj => ?_⟩
      have hj' : j < len' := by simpa using hj
      have hq := hQ j (by omega)
      have e : ∀ i, ((⟨g, o, none⟩ : Addr).add (j * 3)).add i = ⟨g, o + j * 3 + i, none⟩ := fun i => by rw [addr_add, addr_add]
      have q0 := hq 0 (by decide)
      have q1 := hq 1 (by decide)
      have q2 := hq 2 (by decide)
      rw [e] at q0 q1 q2
      simp at q0 q1 q2
      simp only [List.getElem_map, List.getElem_range]
      exact ⟨q0, q1, q2⟩
theorem us_of_trod {H : Type} {enc : TypeId × Value → H} {W : World} {fuel : Nat} {v : Value} {x : DataW H × List MemPlace} (hf : DataW.trod enc Tryd.prog W 0 (fun _ => true) true fuel 24 [v] = some x) :
    ∃ l : List Nat, Us W v l ∧ l.length + 1 ≤ Rows.uptoBulk x.1 := by
  rcases open_ints Tryd.underlying24 Tryd.underlying31 Tryd.cellsU32 hf with ⟨hcs, hx⟩ | ⟨a, len, cap, zs, hcs, _, hl, hm, hz, hx, hcell, hwz⟩
  · simp only [List.cons.injEq, and_true] at hcs
    subst hcs
    exact ⟨[], .inl ⟨none, 0, rfl, rfl⟩, bulk_pos _⟩
  · simp only [List.cons.injEq, and_true] at hcs
    subst hcs
    subst hx
    simp only [if_true] at hz
    have hlen : ((zs.take len).map Int.toNat).length = len := by simp; omega
    have hbulk : len + 1 ≤ Rows.uptoBulk (DataW.slice (lits .u32 (zs.take len)) (lits .u32 (zs.drop len)) : DataW H) := by
      have h1 := bulk_len (lits .u32 (zs.take len) : List (DataW H))
      have h2 : (lits .u32 (zs.take len) : List (DataW H)).length = len := by simp [lits]; omega
      simp only [Rows.uptoBulk]
      omega
    by_cases h0 : len = 0
    · subst h0
      exact ⟨[], .inl ⟨some a, cap, rfl, rfl⟩, bulk_pos _⟩
    · obtain ⟨b, off, rfl, hc⟩ := ints_at hcell (show 0 < zs.length by omega)
      refine ⟨(zs.take len).map Int.toNat, .inr ⟨b, off, cap, by rw [hlen], fun j hj => ?_⟩, by rw [hlen]; exact hbulk⟩
      have hj' : j < len := by rw [hlen] at hj; exact hj
      rw [hc j (by omega)]
      have hw := bounds_u32 (hwz (zs.getD j 0) (by simp [List.getD, show j < zs.length by omega]))
      simp [show j < zs.length by omega] at hw ⊢
      omega
theorem trod_floatw {H : Type} {enc : TypeId × Value → H} {P : Program} {w : World} {base : Nat} {spare : Nat → Bool} {held : Bool} {fuel : Nat} {t : TypeId} {cs : List Value} {x : DataW H × List MemPlace} (ht : P.underlying t = some (.float .f32)) (h : DataW.trod enc P w base spare held fuel t cs = some x) : ∃ b, cs = [.float .f32 b] ∧ b < 4294967296 := by
  cases fuel with
  | zero => simp [DataW.trod] at h
  | succ n =>
    unfold DataW.trod at h
    rw [ht] at h
    split at h <;> simp_all [Lit.wf]
    rename_i k' b hk
    subst hk
    by_cases hh : k' = FloatKind.f32 ∧ decide (b < 4294967296) = true
    · exact ⟨_, ⟨hh.1, rfl⟩, of_decide_eq_true hh.2⟩
    · exact absurd ((if_neg hh).symm.trans h) (by simp)
theorem f5_of_trod {H : Type} {enc : TypeId × Value → H} {W : World} {fuel : Nat} {cs : List Value} {x : DataW H × List MemPlace} (h : DataW.trod enc Tryd.prog W 0 (fun _ => true) true fuel 63 cs = some x) :
    ∃ s : F5, (s.v < 4294967296 ∧ s.u < 256) ∧ cs = [.string s.n, .int .u8 (s.k : Nat), .string s.t, .float .f32 s.v, .int .u8 (s.u : Nat)] := by
  obtain ⟨xs, n, _, rfl, hl, hlen, hf⟩ := DataW.trod_struct Tryd.underlying63 h
  rw [Tryd.cellsFd] at hl
  have h0 := hf 0 _ rfl
  have h1 := hf 1 _ rfl
  have h2 := hf 2 _ rfl
  have h3 := hf 3 _ rfl
  have h4 := hf 4 _ rfl
  match cs, hl with
  | [c0, c1, c2, c3, c4], _ =>
    match xs, hlen with
    | [y0, y1, y2, y3, y4], _ =>
      simp [Tryd.cellsU8, Tryd.cellsStr, Tryd.cellsF32] at h0 h1 h2 h3 h4
      obtain ⟨a, e0, rfl, _⟩ := DataW.trod_string Tryd.underlying9 h0
      obtain ⟨b, e1, rfl, wb⟩ := DataW.trod_int Tryd.underlying5 h1
      obtain ⟨c, e2, rfl, _⟩ := DataW.trod_string Tryd.underlying9 h2
      obtain ⟨d, e3, wd⟩ := trod_floatw Tryd.underlying61 h3
      obtain ⟨e, e4, rfl, we⟩ := DataW.trod_int Tryd.underlying5 h4
      simp only [List.cons.injEq, and_true] at e0 e1 e2 e3 e4
      subst e0 e1 e2 e3 e4
      obtain ⟨b, rfl, _⟩ := nat_u8 wb
      obtain ⟨e, rfl, he⟩ := nat_u8 we
      exact ⟨⟨a, b, c, d, e⟩, ⟨wd, he⟩, rfl⟩
/-- Fields that came in. -/
theorem fdc_of_trod {H : Type} {enc : TypeId × Value → H} {W : World} {fuel : Nat} {v : Value} {x : DataW H × List MemPlace} (hf : DataW.trod enc Tryd.prog W 0 (fun _ => true) true fuel 34 [v] = some x) :
    ∃ A : List F5, FdC W W.heap.size v A ∧ (∀ f ∈ A, f.v < 4294967296 ∧ f.u < 256) ∧ A.length + 1 ≤ Rows.uptoBulk x.1 := by
  rcases open_slice Tryd.underlying34 hf with ⟨hcs, hx⟩ | ⟨a, len', cap', m, n, D, Pl, hcs, _, hl, hm, hmm, hx, hel⟩
  · simp only [List.cons.injEq, and_true] at hcs
    subst hcs
    exact ⟨[], ⟨.inl ⟨none, 0, rfl, rfl⟩, fun g o n c e => by (cases e), fun xo n c e => by (cases e; omega), fun n c e => by (cases e; rfl)⟩, fun f hf => (by cases hf), bulk_pos _⟩
  · simp only [List.cons.injEq, and_true] at hcs
    subst hcs
    subst hx
    simp only [if_true] at hmm
    subst hmm
    have hp : ∀ i, ∃ s : F5, (s.v < 4294967296 ∧ s.u < 256) ∧ (i < m → ∀ j, j < 5 → W.cell? ((a.add (i * 5)).add j) = [Value.string s.n, .int .u8 (s.k : Nat), .string s.t, .float .f32 s.v, .int .u8 (s.u : Nat)][j]?) := fun i => by
      by_cases hi : i < m
      · obtain ⟨cs', h1, h2⟩ := hel i hi
        rw [Tryd.cellsFd] at h1
        obtain ⟨_, hlen, hcell⟩ := World.cells?_some h1
        obtain ⟨s, hs, rfl⟩ := f5_of_trod h2
        exact ⟨s, hs, fun _ => hcell⟩
      · exact ⟨⟨ByteArray.empty, 0, ByteArray.empty, 0, 0⟩, ⟨by decide, by decide⟩, fun h => absurd h hi⟩
    obtain ⟨Q, hQb, hQ⟩ : ∃ Q : Nat → F5, (∀ i, (Q i).v < 4294967296 ∧ (Q i).u < 256) ∧ ∀ i, i < m → ∀ j, j < 5 → W.cell? ((a.add (i * 5)).add j) = [Value.string (Q i).n, .int .u8 ((Q i).k : Nat), .string (Q i).t, .float .f32 (Q i).v, .int .u8 ((Q i).u : Nat)][j]? := ⟨fun i => Classical.choose (hp i), fun i => (Classical.choose_spec (hp i)).1, fun i => (Classical.choose_spec (hp i)).2⟩
    have hbulk := bulk_len ((List.range len').map D)
    have hd : Rows.uptoBulkAll ((List.range len').map D) + 1 ≤ Rows.uptoBulk (DataW.slice ((List.range len').map D) ((List.range (m - len')).map fun j => D (len' + j)) : DataW H) := by
      simp only [Rows.uptoBulk]; omega
    suffices hfd : Fds W (.slice (some a) len' m) ((List.range len').map Q) by
      refine ⟨(List.range len').map Q, ⟨hfd, fun g o n c e h0 => ?_, fun xo n c e => by (cases e; omega), fun n c e => by (cases e)⟩, fun f hf => ?_, by simp at hbulk ⊢; omega⟩
      · cases e
        obtain ⟨g', o', e', hc'⟩ := hfd.at_ 0 (by simpa using h0)
        cases e'
        exact lt_of_cell hc'.1
      · obtain ⟨i, _, rfl⟩ := List.mem_map.1 hf
        exact hQb i
    by_cases h0 : len' = 0
    · subst h0
      exact .inl ⟨some a, m, by simp, by simp⟩
    · have hc0 := hQ 0 (by omega) 0 (by decide)
      obtain ⟨g, o, sp⟩ := a
      have hsp : sp = none := by simpa [Addr.add] using World.cell?_spot hc0
      subst hsp
      refine .inr ⟨g, o, m, by simp, fun j hj => ?_⟩
      have hj' : j < len' := by simpa using hj
      have hq := hQ j (by omega)
      have e : ∀ i, ((⟨g, o, none⟩ : Addr).add (j * 5)).add i = ⟨g, o + j * 5 + i, none⟩ := fun i => by rw [addr_add, addr_add]
      have q0 := hq 0 (by decide)
      have q1 := hq 1 (by decide)
      have q2 := hq 2 (by decide)
      have q3 := hq 3 (by decide)
      have q4 := hq 4 (by decide)
      rw [e] at q0 q1 q2 q3 q4
      simp at q0 q1 q2 q3 q4
      simp only [List.getElem_map, List.getElem_range]
      exact ⟨q0, q1, q2, q3, q4⟩
end Go.Proofs.YtkpaoebpjcdglabDoor

namespace Go.Proofs.YtkpaoebpjcdglabDoor
open Go.ChangeShapes Go.WideShapes Go.ChangeAt Go.RowKit Go.Deep
set_option maxRecDepth 100000

theorem Tryd.cellsId : Tryd.prog.cellsOf 33 = 2 := by kernel_rfl
theorem Tryd.cellsRq : Tryd.prog.cellsOf 40 = 10 := by kernel_rfl
theorem Tryd.cellsPlay : Tryd.prog.cellsOf 26 = 3 := by kernel_rfl
theorem Tryd.cellsSls : Tryd.prog.cellsOf 22 = 1 := by kernel_rfl
theorem Tryd.cellsSlu : Tryd.prog.cellsOf 24 = 1 := by kernel_rfl
theorem Tryd.cellsSlf : Tryd.prog.cellsOf 34 = 1 := by kernel_rfl
theorem Tryd.cellsSlq : Tryd.prog.cellsOf 23 = 1 := by kernel_rfl
theorem id_of_trod {H : Type} {enc : TypeId × Value → H} {W : World} {fuel : Nat} {cs : List Value} {x : DataW H × List MemPlace} (h : DataW.trod enc Tryd.prog W 0 (fun _ => true) true fuel 33 cs = some x) :
    ∃ a b : Nat, cs = [.int .u32 (a : Nat), .int .u32 (b : Nat)] := by
  obtain ⟨xs, n, _, rfl, hl, hlen, hf⟩ := DataW.trod_struct Tryd.underlying33 h
  rw [Tryd.cellsId] at hl
  have h0 := hf 0 _ rfl
  have h1 := hf 1 _ rfl
  match cs, hl with
  | [c0, c1], _ =>
    match xs, hlen with
    | [y0, y1], _ =>
      simp [Tryd.cellsU32] at h0 h1
      obtain ⟨a, e0, rfl, wa⟩ := DataW.trod_int Tryd.underlying31 h0
      obtain ⟨b, e1, rfl, wb⟩ := DataW.trod_int Tryd.underlying31 h1
      simp only [List.cons.injEq, and_true] at e0 e1
      subst e0 e1
      obtain ⟨a, rfl, _⟩ := nat_u32 wa
      obtain ⟨b, rfl, _⟩ := nat_u32 wb
      exact ⟨a, b, rfl⟩
/-- A request that came in. -/
theorem rq_of_trod {H : Type} {enc : TypeId × Value → H} {W : World} {fuel : Nat} {cs : List Value} {x : DataW H × List MemPlace} (h : DataW.trod enc Tryd.prog W 0 (fun _ => true) true fuel 40 cs = some x) :
    ∃ (s : RQ) (F : List F5), cs = [.int .u32 (s.cl : Nat), .int .u32 (s.nu : Nat), .int .u32 (s.ac : Nat), .int .u8 (s.op : Nat), .int .u32 (s.rc : Nat), .int .u32 (s.ve : Nat), .int .u32 (s.wa : Nat), .int .u32 (s.ow : Nat), s.fv, .string s.rs] ∧ FdC W W.heap.size s.fv F ∧ s.ac < 4294967296 ∧ (∀ f ∈ F, f.v < 4294967296 ∧ f.u < 256) ∧ F.length + 1 ≤ Rows.uptoBulk x.1 := by
  obtain ⟨xs, n, _, rfl, hl, hlen, hf⟩ := DataW.trod_struct Tryd.underlying40 h
  rw [Tryd.cellsRq] at hl
  have h0 := hf 0 _ rfl
  have h1 := hf 1 _ rfl
  have h2 := hf 2 _ rfl
  have h3 := hf 3 _ rfl
  have h4 := hf 4 _ rfl
  have h5 := hf 5 _ rfl
  have h6 := hf 6 _ rfl
  have h7 := hf 7 _ rfl
  have h8 := hf 8 _ rfl
  match cs, hl with
  | [c0, c1, c2, c3, c4, c5, c6, c7, c8, c9], _ =>
    match xs, hlen with
    | [y0, y1, y2, y3, y4, y5, y6, y7, y8], _ =>
      simp [Tryd.cellsU32, Tryd.cellsU8, Tryd.cellsId, Tryd.cellsSlf, Tryd.cellsStr] at h0 h1 h2 h3 h4 h5 h6 h7 h8
      obtain ⟨cl, nu, e0⟩ := id_of_trod h0
      obtain ⟨ac, e1, q1, w1⟩ := DataW.trod_int Tryd.underlying31 h1
      obtain ⟨op, e2, q2, w2⟩ := DataW.trod_int Tryd.underlying5 h2
      obtain ⟨rc, e3, q3, w3⟩ := DataW.trod_int Tryd.underlying31 h3
      obtain ⟨ve, e4, q4, w4⟩ := DataW.trod_int Tryd.underlying31 h4
      obtain ⟨wa, e5, q5, w5⟩ := DataW.trod_int Tryd.underlying31 h5
      obtain ⟨ow, e6, q6, w6⟩ := DataW.trod_int Tryd.underlying31 h6
      obtain ⟨F, hF, hFb, bF⟩ := fdc_of_trod h7
      obtain ⟨rs, e8, q8, _⟩ := DataW.trod_string Tryd.underlying9 h8
      simp only [List.cons.injEq, and_true] at e0 e1 e2 e3 e4 e5 e6 e8
      obtain ⟨rfl, rfl⟩ := e0
      subst e1 e2 e3 e4 e5 e6 e8
      obtain ⟨ac, rfl, hac⟩ := nat_u32 w1
      obtain ⟨op, rfl, _⟩ := nat_u8 w2
      obtain ⟨rc, rfl, _⟩ := nat_u32 w3
      obtain ⟨ve, rfl, _⟩ := nat_u32 w4
      obtain ⟨wa, rfl, _⟩ := nat_u32 w5
      obtain ⟨ow, rfl, _⟩ := nat_u32 w6
      refine ⟨⟨cl, nu, ac, op, rc, ve, wa, ow, c8, rs⟩, F, rfl, hF, hac, hFb, ?_⟩
      have := bulk_in ([y0, y1, y2, y3, y4, y5, y6, y7, y8].map (·.1)) y7.1 (by simp)
      simp only [Rows.uptoBulk]
      omega
end Go.Proofs.YtkpaoebpjcdglabDoor

namespace Go.Proofs.YtkpaoebpjcdglabDoor
open Go.ChangeShapes Go.WideShapes Go.ChangeAt Go.RowKit Go.Deep
set_option maxRecDepth 100000

/-- Requests that came in. -/
theorem rqs_of_trod {H : Type} {enc : TypeId × Value → H} {W : World} {fuel : Nat} {v : Value} {x : DataW H × List MemPlace} (hf : DataW.trod enc Tryd.prog W 0 (fun _ => true) true fuel 23 [v] = some x) (hbk : Rows.uptoBulk x.1 ≤ 1048576) :
    ∃ A : List (RQ × List F5), Rqs W v A ∧ (∀ p ∈ A, PGood p) ∧ A.length + 1 ≤ Rows.uptoBulk x.1 := by
  rcases open_slice Tryd.underlying23 hf with ⟨hcs, hx⟩ | ⟨a, len', cap', m, n, D, Pl, hcs, _, hl, hm, hmm, hx, hel⟩
  · simp only [List.cons.injEq, and_true] at hcs
    subst hcs
    exact ⟨[], ⟨.inl ⟨none, 0, rfl, rfl⟩, fun p hp => (by cases hp)⟩, fun p hp => (by cases hp), bulk_pos _⟩
  · simp only [List.cons.injEq, and_true] at hcs
    subst hcs
    subst hx
    simp only [if_true] at hmm
    subst hmm
    have hp : ∀ i, ∃ s : RQ × List F5, i < m → (∀ j, j < 10 → W.cell? ((a.add (i * 10)).add j) = [Value.int .u32 ((s.1).cl : Nat), .int .u32 ((s.1).nu : Nat), .int .u32 ((s.1).ac : Nat), .int .u8 ((s.1).op : Nat), .int .u32 ((s.1).rc : Nat), .int .u32 ((s.1).ve : Nat), .int .u32 ((s.1).wa : Nat), .int .u32 ((s.1).ow : Nat), (s.1).fv, .string (s.1).rs][j]?) ∧ FdC W W.heap.size s.1.fv s.2 ∧ s.1.ac < 4294967296 ∧ (∀ f ∈ s.2, f.v < 4294967296 ∧ f.u < 256) ∧ s.2.length + 1 ≤ Rows.uptoBulk (D i) := fun i => by
      by_cases hi : i < m
      · obtain ⟨cs', h1, h2⟩ := hel i hi
        rw [Tryd.cellsRq] at h1
        obtain ⟨_, hlen, hcell⟩ := World.cells?_some h1
        obtain ⟨s, F, rfl, r1, r2, r3, r4⟩ := rq_of_trod h2
        exact ⟨(s, F), fun _ => ⟨hcell, r1, r2, r3, r4⟩⟩
      · exact ⟨(⟨0, 0, 0, 0, 0, 0, 0, 0, .slice none 0 0, ByteArray.empty⟩, []), fun h => absurd h hi⟩
    obtain ⟨Q, hQ⟩ : ∃ Q : Nat → RQ × List F5, ∀ i, i < m → (∀ j, j < 10 → W.cell? ((a.add (i * 10)).add j) = [Value.int .u32 (((Q i).1).cl : Nat), .int .u32 (((Q i).1).nu : Nat), .int .u32 (((Q i).1).ac : Nat), .int .u8 (((Q i).1).op : Nat), .int .u32 (((Q i).1).rc : Nat), .int .u32 (((Q i).1).ve : Nat), .int .u32 (((Q i).1).wa : Nat), .int .u32 (((Q i).1).ow : Nat), ((Q i).1).fv, .string ((Q i).1).rs][j]?) ∧ FdC W W.heap.size (Q i).1.fv (Q i).2 ∧ (Q i).1.ac < 4294967296 ∧ (∀ f ∈ (Q i).2, f.v < 4294967296 ∧ f.u < 256) ∧ (Q i).2.length + 1 ≤ Rows.uptoBulk (D i) := ⟨fun i => Classical.choose (hp i), fun i => Classical.choose_spec (hp i)⟩
    have hbulk := bulk_len ((List.range len').map D)
    have hd : Rows.uptoBulkAll ((List.range len').map D) + 1 ≤ Rows.uptoBulk (DataW.slice ((List.range len').map D) ((List.range (m - len')).map fun j => D (len' + j)) : DataW H) := by
      simp only [Rows.uptoBulk]; omega
    have hin : ∀ p ∈ (List.range len').map Q, FdC W W.heap.size p.1.fv p.2 ∧ PGood p := fun p hp => by
      obtain ⟨i, hi, rfl⟩ := List.mem_map.1 hp
      have hi' : i < len' := by simpa using hi
      obtain ⟨_, r1, r2, r3, r4⟩ := hQ i (by omega)
      have hb := bulk_in ((List.range len').map D) (D i) (List.mem_map.2 ⟨i, hi, rfl⟩)
      simp only at hbk
      exact ⟨r1, r2, by omega, r3⟩
    refine ⟨(List.range len').map Q, ⟨?_, fun p hp => (hin p hp).1⟩, fun p hp => (hin p hp).2, by simp at hbulk ⊢; omega⟩
    by_cases h0 : len' = 0
    · subst h0
      exact .inl ⟨some a, m, by simp, by simp⟩
    · have hc0 := (hQ 0 (by omega)).1 0 (by decide)
      obtain ⟨g, o, sp⟩ := a
      have hsp : sp = none := by simpa [Addr.add] using World.cell?_spot hc0
      subst hsp
      refine .inr ⟨g, o, m, by simp, fun j hj => ?_⟩
      have hj' : j < len' := by simpa using hj
      have hq := (hQ j (by omega)).1
      have e : ∀ i, ((⟨g, o, none⟩ : Addr).add (j * 10)).add i = ⟨g, o + j * 10 + i, none⟩ := fun i => by rw [addr_add, addr_add]
      have q0 := hq 0 (by decide)
      have q1 := hq 1 (by decide)
      have q2 := hq 2 (by decide)
      have q3 := hq 3 (by decide)
      have q4 := hq 4 (by decide)
      have q5 := hq 5 (by decide)
      have q6 := hq 6 (by decide)
      have q7 := hq 7 (by decide)
      have q8 := hq 8 (by decide)
      have q9 := hq 9 (by decide)
      rw [e] at q0 q1 q2 q3 q4 q5 q6 q7 q8 q9
      simp at q0 q1 q2 q3 q4 q5 q6 q7 q8 q9
      simp only [List.getElem_map, List.getElem_range]
      exact ⟨q0, q1, q2, q3, q4, q5, q6, q7, q8, q9⟩
end Go.Proofs.YtkpaoebpjcdglabDoor

namespace Go.Proofs.YtkpaoebpjcdglabDoor
open Go.ChangeShapes Go.WideShapes Go.ChangeAt Go.RowKit Go.Deep
set_option maxRecDepth 100000

theorem bulk_two {H : Type} : ∀ l : List (DataW H), (∀ d ∈ l, 2 ≤ Rows.uptoBulk d) → 2 * l.length ≤ Rows.uptoBulkAll l
  | [], _ => Nat.zero_le _
  | d :: r, h => by
    have h1 := h d (by simp)
    have h2 := bulk_two r (fun d hd => h d (by simp [hd]))
    simp only [Rows.uptoBulkAll, List.length_cons]
    omega
/-- The staff that comes in is no longer than half of what comes in. -/
theorem stf_len {H : Type} {enc : TypeId × Value → H} {W : World} {fuel : Nat} {v : Value} {x : DataW H × List MemPlace} (hf : DataW.trod enc Tryd.prog W 0 (fun _ => true) true fuel 22 [v] = some x) {A : List P3} (hA : Stf W v A) : 2 * A.length ≤ Rows.uptoBulk x.1 := by
  obtain ⟨xo, xc, e⟩ := hA.form
  rcases open_slice Tryd.underlying22 hf with ⟨hcs, hx⟩ | ⟨a, len', cap', m, n, D, Pl, hcs, _, hl, hm, hmm, hx, hel⟩
  · simp only [List.cons.injEq, and_true] at hcs
    rw [hcs] at e
    have e2 := (Value.slice.inj e).2.1
    omega
  · simp only [List.cons.injEq, and_true] at hcs
    rw [hcs] at e
    cases e
    subst hx
    simp only [if_true] at hmm
    have h2 := bulk_two ((List.range A.length).map D) (fun d hd => by
      obtain ⟨i, hi, rfl⟩ := List.mem_map.1 hd
      have hi' : i < A.length := by simpa using hi
      obtain ⟨cs', h1, h2⟩ := hel i (by omega)
      obtain ⟨xs, n, _, hx, hl, hlen, hf⟩ := DataW.trod_struct Tryd.underlying55 h2
      simp only [Prod.mk.injEq] at hx
      rw [hx.1]
      have h3 := bulk_len (xs.map (·.1))
      have h4 : xs.length = 3 := hlen
      simp only [List.length_map] at h3
      simp only [Rows.uptoBulk]
      omega)
    simp only [List.length_map, List.length_range] at h2
    simp only [Rows.uptoBulk]
    omega
/-- A play that came in. -/
theorem play_of_reading {H : Type} {enc : TypeId × Value → H} {W : World} {base : Nat} {v : Value} {d : DataW H} {p : List MemPlace} (hval : Value.okWide Tryd.prog W .any base 26 v) (h : DataW.Trod enc Tryd.prog W 0 (fun _ => true) true 26 v d p) (hbk : Rows.uptoBulk d ≤ 1048576) :
    ∃ (sv rv pv : Value) (S : List P3) (l : List (RQ × List F5)) (pl : List Nat), v = .agg #[sv, rv, pv] ∧ Stf W sv S ∧ Rqs W rv l ∧ Us W pv pl ∧ (∀ p ∈ l, PGood p) ∧ 2 * S.length ≤ Rows.uptoBulk d ∧ l.length + 1 ≤ Rows.uptoBulk d := by
  obtain ⟨cs, rfl, hsz⟩ := okWide_struct Tryd.underlying26 hval
  obtain ⟨fuel, hf0⟩ := h
  obtain ⟨xs, n, _, hx, hl, hlen, hfs⟩ := DataW.trod_struct Tryd.underlying26 hf0
  rw [Tryd.cellsPlay] at hl
  simp only [Prod.mk.injEq] at hx
  obtain ⟨rfl, -⟩ := hx
  have h0 := hfs 0 _ rfl
  have h1 := hfs 1 _ rfl
  have h2 := hfs 2 _ rfl
  have hc : (Value.agg cs).cells.toList = cs.toList := rfl
  rw [hc] at hl h0 h1 h2
  obtain ⟨l⟩ := cs
  simp only at hl h0 h1 h2
  match l, hl with
  | [c0, c1, c2], _ =>
    match xs, hlen with
    | [y0, y1, y2], _ =>
      simp [Tryd.cellsSls, Tryd.cellsSlq, Tryd.cellsSlu] at h0 h1 h2
      have hbi : ∀ y : DataW H, y ∈ [y0, y1, y2].map (·.1) → Rows.uptoBulk y ≤ Rows.uptoBulk (DataW.agg ([y0, y1, y2].map (·.1)) : DataW H) := fun y hy => by
        have := bulk_in _ y hy
        simp only [Rows.uptoBulk]
        omega
      have b0 := hbi y0.1 (by simp)
      have b1 := hbi y1.1 (by simp)
      obtain ⟨S, hS, _⟩ := stf_of_trod h0
      have bS := stf_len h0 hS
      obtain ⟨l, hq, hp, bl⟩ := rqs_of_trod h1 (by omega)
      obtain ⟨pl, hu, _⟩ := us_of_trod h2
      exact ⟨c0, c1, c2, S, l, pl, rfl, hS, hq, hu, hp, by omega, by omega⟩
end Go.Proofs.YtkpaoebpjcdglabDoor

namespace Go.Proofs.YtkpaoebpjcdglabDoor
open Go.ChangeShapes Go.WideShapes Go.ChangeAt Go.RowKit
set_option maxRecDepth 100000

theorem rref_contract (H : Type) (enc : TypeId × Value → H) (W : World) (base : Nat) (args : Array Value) (ds gs : List (DataW H)) (before : List MemPlace)
    (hval : ∀ (j : Nat) t v, Tryd.f3.params[j]? = some t → args[j]? = some v → Value.okWide Tryd.prog W .any base t v)
    (hW : DataW.Whole enc Tryd.prog Tryd.f3.params.toList Rows.recordRefusesSpec.vars false W args.toList ds gs before) (hk : Rows.uptoSmall H (ds ++ gs) = true) (hL : laidMetH Tryd.prog Rows.recordRefusesUptoRow.laid W) :
    Calls Tryd.prog 3 args W fun e W' => ∃ v, e = .returned v ∧ Rows.recordRefusesSpec.post enc Tryd.prog Tryd.f3 false true false false W args v W' := by
  have hW' := hW
  obtain ⟨p, q, hA0, hV, rfl, hfz, hnd⟩ := hW
  have hA : DataW.TrodAll enc Tryd.prog W 0 (fun _ => true) true Tryd.f3.params.toList args.toList ds p := hA0
  rw [Tryd.params3] at hA hval
  obtain ⟨v0, vs0, d0, ds0, p0, q0, hargs, rfl, rfl, h0, r0⟩ := trodAll_cons hA
  obtain ⟨rfl, rfl, rfl⟩ := trodAll_nil r0
  obtain rfl : args = #[v0] := by cases args; simp_all
  obtain ⟨rfl, rfl⟩ := trodVars_none hV
  have hbulk : Rows.uptoBulk d0 + 0 ≤ 1048576 := by
    have h := of_decide_eq_true hk
    simpa only [List.append_nil, Rows.uptoBulkAll] using h
  have hL2 : laidMet Tryd.prog [("almoner/quant.units", Rows.laid_almoner_quant_units)] W := hL
  have hg := gu_of_laid hL2 (.head _)
  obtain ⟨sv, rv, pv, S, l, pl, rfl, hS, hq, hu, hp, bS, bl⟩ := play_of_reading (hval 0 26 v0 rfl rfl) h0 (by omega)
  refine (rrefuses_any sv rv pv S l pl W hS (by omega) hq (by omega) hu hg hp).mono fun e W' ⟨he, hf⟩ => ?_
  subst he
  have hlt : ∀ x ∈ p0 ++ [], x.block < W.heap.size := fun x hx => hW'.lt x (by simpa using hx)
  have hb := hf.below
  refine ⟨_, rfl, _, _, _, [], p0 ++ [], [], hW', ?_, ?_, ?_, hb.frame _, fun h => by cases h⟩
  · exact trodAll_cons_mk (shut_bool Tryd.underlying4 true) trodAll_mk0
  · exact trodAll_cons_mk (Below.trod (by kernel_rfl) (by kernel_rfl) (by decide +kernel) h0 hb (fun x hx => hlt x (by simp [hx]))) trodAll_mk0
  · rfl
theorem rref_laid_met (os : Os) : laidMetH Tryd.prog Rows.recordRefusesUptoRow.laid ((uWorld os).forCall (fun _ _ => 0) ⟨#[], #[.agg #[.slice none 0 0, .slice none 0 0, .slice none 0 0]], []⟩).memory :=
  laidMetH_of_parts (laidMet_of_run' 8 (by kernel_rfl) (by kernel_rfl)) (by kernel_rfl)
theorem rref_reads (os : Os) {H : Type} (enc : TypeId × Value → H) : ∃ places, DataW.whole enc Tryd.prog ((uWorld os).forCall (fun _ _ => 0) ⟨#[], #[.agg #[.slice none 0 0, .slice none 0 0, .slice none 0 0]], []⟩).memory Tryd.f3.params.toList Rows.recordRefusesSpec.vars false #[Value.agg #[.slice none 0 0, .slice none 0 0, .slice none 0 0]].toList 8 = some ([.agg [.nil, .nil, .nil]], [], places) :=
  ⟨[], by kernel_rfl⟩
theorem rref_lifted (os : Os) (started : os.Started) (H : Type) (enc : TypeId × Value → H) (F : Stop.Interp) :
    ReturnsInHanded {} Tryd.checked os 3 .any ((Rows.OpenSpec.upto Rows.recordRefusesSpec).preRow enc Tryd.prog Tryd.f3 Rows.recordRefusesUptoRow.domain false Rows.recordRefusesUptoRow.laid) (((Rows.OpenSpec.upto Rows.recordRefusesSpec).at F).post enc Tryd.prog Tryd.f3 false true false false) := by
  obtain ⟨places, hx⟩ := rref_reads os enc
  refine returnsInHanded_of_row (C := Tryd.checked) (s := Rows.OpenSpec.upto Rows.recordRefusesSpec) Tryd.ownKnob started (by kernel_rfl) Tryd.func3
    (witness_row_atRef (enc := enc) (C := Tryd.checked) false (uWorld os) #[.agg #[.slice none 0 0, .slice none 0 0, .slice none 0 0]] rfl (by kernel_rfl) (by kernel_rfl) (by kernel_rfl)
      (OpenSpec.preRow_of_cond 8 hx (by kernel_rfl) (fun k hk => by cases hk; kernel_rfl) (by kernel_rfl) (rref_laid_met os))) ?_
  intro W base args ds gs before hval hW _ hcond _ hL _ _
  exact rref_contract H enc W base args ds gs before hval hW (hcond _ rfl) hL
theorem rref_said : Rows.RecordRefusesUptoSaid :=
  OpenClaim.holds_of_cond 3 Tryd.f3 rfl rfl rfl rfl rfl rfl rfl ⟨rfl, rfl, rfl, rfl, rfl⟩ rfl rfl rfl rfl rfl (by kernel_rfl) Tryd.func3 (by kernel_rfl)
    (of_decide_eq_true (by kernel_rfl)) (by unfold Func.isWrapper; first | (rw [if_pos (by decide +kernel)]; kernel_rfl) | (rw [if_neg (by decide +kernel)]; exact ⟨rfl, rfl⟩))
    (fun os started H enc _ F => by rw [OpenClaim.pre_eq_preRow]; exact rref_lifted os started H enc F)
theorem rref_plain (f : FuncId) (fn : Func) (hf : Tryd.pinned.checked.prog.funcNamed Rows.recordRefusesUptoRow.func = some f) (hfn : Tryd.pinned.checked.prog.funcs[f]? = some fn) :
    false = Tryd.pinned.checked.prog.looks [] ∧ ∀ (j : Nat) t, fn.params[j]? = some t → Tryd.pinned.checked.prog.wantsStandIn t = false := by
  obtain rfl : f = 3 := Option.some.inj ((show Tryd.prog.funcNamed Rows.recordRefusesUptoRow.func = some 3 by kernel_rfl).symm.trans hf) |>.symm
  obtain rfl : fn = Tryd.f3 := (Option.some.inj (Tryd.func3.symm.trans hfn)).symm
  refine ⟨by kernel_rfl, fun j t ht => ?_⟩
  rw [Tryd.params3] at ht
  have ht' : t = 26 := by
    have h := Array.mem_of_getElem? ht
    simpa using h
  subst ht'
  exact (show Tryd.prog.wantsStandIn 26 = false by kernel_rfl)
/-- THE SECOND FORM's CARD. -/
theorem rref_card : Rows.RecordRefusesUptoCardSaid :=
  Claim7.holds_tied_plain_at .later [] _ _ _ _ rref_said (fun _ h => by cases h) (by kernel_rfl) (fun _ h => by cases h) recordRefusesUpto_row_tie rfl ⟨rfl, rfl⟩ (by kernel_rfl) rfl rref_plain (by kernel_rfl)
#print axioms rref_card
end Go.Proofs.YtkpaoebpjcdglabDoor

