import Derived.Test.YtkiepcdncegniaaPk1
namespace Go.Proofs.Ytkiepcdncegniaa
open Go.RowKit Go.Maps

theorem eql_31 (w : World) : (binOp .eql 29 (.agg #[.int .u32 3, .int .u32 1]) (.agg #[.int .u32 3, .int .u32 1])).run Try.prog w = .ok (.bool true) w := eql_id 3 1 3 1 w
theorem own_one_form {w : World} {base e z n : Nat} {v : Value} {xs : List Value} (h : w.ownsRow base e z v n xs) (hn : 0 < n) : ∃ g cap, v = .slice (some ⟨g, 0, none⟩) n cap ∧ base ≤ g ∧ ∀ i u, xs[i]? = some u → w.cell? ⟨g, i, none⟩ = some u := by
  rcases h.2 with ⟨rfl, e⟩ | ⟨g, cap, cur, rfl, hb, _⟩
  · omega
  · refine ⟨g, cap, rfl, hb, fun i u hu => ?_⟩
    have hi := (List.getElem?_eq_some_iff.1 hu).1
    rw [h.cellAt i (by have := h.1; omega)]
    exact hu
set_option maxRecDepth 100000 in
set_option maxHeartbeats 4000000 in
/-- awake. -/
theorem awake17 (w : World) : Calls Try.prog 9 #[] w fun e w' => e = .returned (.bool true) ∧ Fr (fun _ => False) w w' := by
  go_enter Try.func9, Try.ntmps9
  go_wp2_with fail
  refine (SS.new 3 w (by omega)).mono ?_
  rintro e w1 ⟨d, rfl, hs1, hf1⟩
  have HS1 := hide (And.intro hs1 hf1)
  clear hs1 hf1
  go_wp2_with fail
  refine (create_any _).mono ?_
  rintro e w2 ⟨rfl, hf2⟩
  have HC : Hid (Calls Try.prog 10 #[.pointer (some ⟨d, 0, none⟩), crR.v] w2 fun e w' => e = .returned (.tuple #[.agg #[.int .u32 3, .int .u32 1], .int .i64 0]) ∧ (∃ v, SS w' d 3 [(⟨⟨3, 1, 1, 1, 0, 0, 7, 6, v, ⟨#[]⟩⟩, [], 0, 0, none⟩ : SC)] [] (Tn (Nb w w1) w2 w')) ∧ Fr (Nb w w1) w2 w') := hide (((unhide HS1).1.fr0 hf2).call crR [] (Rd.nil w2 5) (by simp) (fun f hf => by simp at hf) rfl (by simp))
  have HF2 := hide hf2
  clear hf2
  go_wp2_with fail
  refine (unhide HC).mono ?_
  rintro e w3 ⟨rfl, ⟨v, hs3⟩, hf3⟩
  have HS3 := hide (And.intro hs3 hf3)
  clear hs3 hf3 HC
  go_wp2_with fail
  obtain ⟨w4, hw4⟩ : ∃ w4, w3.alloc (.cells #[.int .u32 3, .int .u32 1] 29) = w4 := ⟨_, rfl⟩
  have hf4 : Fr (fun _ => False) w3 w4 := by rw [← hw4]; exact box1 w3 _
  have hb4 : w4.heap[w3.heap.size]? = some (.cells #[.int .u32 3, .int .u32 1] 29) := by rw [← hw4]; exact heap_alloc_new w3 _
  rw [hw4]
  clear hw4
  refine ((unhide HS3).1.fr0 hf4).out.mono ?_
  rintro e w5 ⟨hv, tv, rfl, W2, R, hfo, hO⟩
  have hwl : wl [(⟨⟨3, 1, 1, 1, 0, 0, 7, 6, v, ⟨#[]⟩⟩, [], 0, 0, none⟩ : SC)] = [1] := rfl
  rw [hwl] at hO
  have hR1 : R.length = 1 := hO.rl
  obtain ⟨r, rfl⟩ : ∃ r, R = [r] := by
    match R, hR1 with
    | [r], _ => exact ⟨r, rfl⟩
  obtain ⟨k, q, hk, hq, v', hr, _⟩ := hO.rr 0 r rfl
  rw [hwl] at hk
  obtain rfl : 1 = k := by simpa using hk
  obtain rfl : (⟨⟨3, 1, 1, 1, 0, 0, 7, 6, v, ⟨#[]⟩⟩, [], 0, 0, none⟩ : SC) = q := by simpa using hq
  subst hr
  obtain ⟨gh, ch, rfl, hgb, hgc⟩ := own_one_form hO.h (by simp)
  obtain ⟨gt, ct, rfl, htb, htc⟩ := own_one_form hO.t (by simp)
  have hfo2 : Fr (fun _ => False) w4 w5 := hfo.trans0 hO.fr
  have hb5 := (hfo2.block _ (lt_of_block hb4) (fun h => h)).trans hb4
  have hS5 : w5.cell? ⟨w3.heap.size, 0, none⟩ = some (.int .u32 3) ∧ w5.cell? ⟨w3.heap.size, 1, none⟩ = some (.int .u32 1) ∧ w5.cell? ⟨gh, 0, none⟩ = some (.int .u8 1) ∧ w5.cell? ⟨gh, 1, none⟩ = some (.int .u32 3) ∧ w5.cell? ⟨gh, 2, none⟩ = some (.int .u32 1) ∧ w5.cell? ⟨gt, 0, none⟩ = some (.int .u8 2) ∧ w5.cell? ⟨gt, 11, none⟩ = some (.int .u32 3) ∧ w5.cell? ⟨gt, 12, none⟩ = some (.int .u32 1) := ⟨cell_of_blk hb5 rfl, cell_of_blk hb5 rfl, hgc 0 _ rfl, hgc 1 _ rfl, hgc 2 _ rfl, htc 0 _ rfl, htc 11 _ rfl, htc 12 _ rfl⟩
  have hsz4 : w4.heap.size ≤ W2.heap.size := hfo.size
  have hsz3 : w3.heap.size ≤ w4.heap.size := hf4.size
  have HSZ := hide (And.intro hgb (And.intro htb (And.intro hsz4 hsz3)))
  have HS5 := hide hS5
  have HK : Hid (∀ (X : Nat → Prop) W', (∀ g, X g → g < w3.heap.size) → Fr X w5 W' → W'.cell? ⟨w3.heap.size, 0, none⟩ = some (.int .u32 3) ∧ W'.cell? ⟨w3.heap.size, 1, none⟩ = some (.int .u32 1) ∧ W'.cell? ⟨gh, 0, none⟩ = some (.int .u8 1) ∧ W'.cell? ⟨gh, 1, none⟩ = some (.int .u32 3) ∧ W'.cell? ⟨gh, 2, none⟩ = some (.int .u32 1) ∧ W'.cell? ⟨gt, 0, none⟩ = some (.int .u8 2) ∧ W'.cell? ⟨gt, 11, none⟩ = some (.int .u32 3) ∧ W'.cell? ⟨gt, 12, none⟩ = some (.int .u32 1)) := hide (fun X W' hX hf => by
    have hz := unhide HSZ
    have h5 := hS5
    have n3 : ¬ X w3.heap.size := fun e => by have := hX _ e; omega
    have n1 : ¬ X gh := fun e => by have := hX _ e; omega
    have n2 : ¬ X gt := fun e => by have := hX _ e; omega
    exact ⟨(hf.cell (lt_of_cell h5.1) n3).trans h5.1, (hf.cell (lt_of_cell h5.2.1) n3).trans h5.2.1, (hf.cell (lt_of_cell h5.2.2.1) n1).trans h5.2.2.1, (hf.cell (lt_of_cell h5.2.2.2.1) n1).trans h5.2.2.2.1, (hf.cell (lt_of_cell h5.2.2.2.2.1) n1).trans h5.2.2.2.2.1, (hf.cell (lt_of_cell h5.2.2.2.2.2.1) n2).trans h5.2.2.2.2.2.1, (hf.cell (lt_of_cell h5.2.2.2.2.2.2.1) n2).trans h5.2.2.2.2.2.2.1, (hf.cell (lt_of_cell h5.2.2.2.2.2.2.2) n2).trans h5.2.2.2.2.2.2.2⟩)
  have HS55 := hide (((unhide HS3).1.fr0 hf4).fr0 hfo2)
  have HF5 := hide (hf4.trans0 hfo2)
  clear hO hR1 hk hq hgc htc hfo hfo2 hb4 hb5 hf4 hS5 hsz4 hsz3 hgb htb hwl
  go_wp2_with fail
  have heq := eql_31
  refine wp_region_held_drew (S := (fun W => W.cell? ⟨w3.heap.size, 0, none⟩ = some (.int .u32 3) ∧ W.cell? ⟨w3.heap.size, 1, none⟩ = some (.int .u32 1) ∧ W.cell? ⟨gh, 0, none⟩ = some (.int .u8 1) ∧ W.cell? ⟨gh, 1, none⟩ = some (.int .u32 3) ∧ W.cell? ⟨gh, 2, none⟩ = some (.int .u32 1) ∧ W.cell? ⟨gt, 0, none⟩ = some (.int .u8 2) ∧ W.cell? ⟨gt, 11, none⟩ = some (.int .u32 3) ∧ W.cell? ⟨gt, 12, none⟩ = some (.int .u32 1))) (by kernel_rfl) ((unhide HK) (fun _ => False) _ (fun _ h => h.elim) (Fr.refl _ _).drew) (fun hHeld => ?_)
  refine wtk2 (i := 0) rfl hHeld ?_
  (try simp only [Act.put, nrm])
  refine wtk2 (i := 1) rfl hHeld ?_
  (try simp only [Act.put, nrm])
  refine wtk2 (i := 2) rfl hHeld ?_
  (try simp only [Act.put, nrm])
  refine wtk2 (i := 3) rfl hHeld ?_
  (try simp only [Act.put, nrm])
  refine wtk2 (i := 4) rfl hHeld ?_
  (try simp only [Act.put, nrm])
  refine wtk2 (i := 5) rfl hHeld ?_
  (try simp only [Act.put, nrm])
  refine wtk2 (i := 6) rfl hHeld ?_
  (try simp only [Act.put, nrm])
  refine wtk2 (i := 7) rfl hHeld ?_
  (try simp only [Act.put, nrm])
  refine wtk2 (i := 8) rfl hHeld ?_
  (try simp only [Act.put, nrm])
  refine wtk2 (i := 9) rfl hHeld ?_
  (try simp only [Act.put, nrm])
  refine wtk2 (i := 10) rfl hHeld ?_
  (try simp only [Act.put, nrm])
  refine wtk2 (i := 11) rfl hHeld ?_
  (try simp only [Act.put, nrm])
  refine wtk2 (i := 12) rfl hHeld ?_
  (try simp only [Act.put, nrm])
  refine wtk2 (i := 13) rfl hHeld ?_
  (try simp only [Act.put, nrm])
  refine wtk2 (i := 14) rfl hHeld ?_
  (try simp only [Act.put, nrm])
  refine wtk2 (i := 15) rfl hHeld ?_
  (try simp only [Act.put, nrm])
  refine wtk2 (i := 16) rfl hHeld ?_
  (try simp only [Act.put, nrm])
  refine wtk2 (i := 17) rfl hHeld ?_
  (try simp only [Act.put, nrm])
  refine wtk2 (i := 18) rfl hHeld ?_
  (try simp only [Act.put, nrm])
  refine wtk2 (i := 19) rfl hHeld ?_
  (try simp only [Act.put, nrm])
  refine wtk2 (i := 20) rfl hHeld ?_
  (try simp only [Act.put, nrm])
  refine wtk2 (i := 21) rfl hHeld ?_
  (try simp only [Act.put, nrm])
  refine wtk2 (i := 22) rfl hHeld ?_
  (try simp only [Act.put, nrm])
  refine wtk2 (i := 23) rfl hHeld ?_
  (try simp only [Act.put, nrm])
  refine wtk2 (i := 24) rfl hHeld ?_
  (try simp only [Act.put, nrm])
  refine wtk2 (i := 25) rfl hHeld ?_
  (try simp only [Act.put, nrm])
  refine wtk2 (i := 26) rfl hHeld ?_
  (try simp only [Act.put, nrm])
  refine wtk2 (i := 27) rfl hHeld ?_
  (try simp only [Act.put, nrm])
  refine wtk2 (i := 28) rfl hHeld ?_
  (try simp only [Act.put, nrm])
  refine wtk2 (i := 29) rfl hHeld ?_
  (try simp only [Act.put, nrm])
  refine wtk2 (i := 30) rfl hHeld ?_
  (try simp only [Act.put, nrm])
  refine wtk2 (i := 31) rfl hHeld ?_
  (try simp only [Act.put, nrm])
  refine wtk2 (i := 32) rfl hHeld ?_
  (try simp only [Act.put, nrm])
  refine wtk2 (i := 33) rfl hHeld ?_
  (try simp only [Act.put, nrm])
  refine wtk2 (i := 34) rfl hHeld ?_
  (try simp only [Act.put, nrm])
  refine wtk2 (i := 35) rfl hHeld ?_
  (try simp only [Act.put, nrm])
  refine wtk2 (i := 36) rfl hHeld ?_
  (try simp only [Act.put, nrm])
  refine wtk2 (i := 37) rfl hHeld ?_
  (try simp only [Act.put, nrm])
  refine wtk2 (i := 38) rfl hHeld ?_
  (try simp only [Act.put, nrm])
  refine wtk2 (i := 39) rfl hHeld ?_
  (try simp only [Act.put, nrm])
  refine wtk2 (i := 40) rfl hHeld ?_
  (try simp only [Act.put, nrm])
  refine wtk2 (i := 41) rfl hHeld ?_
  (try simp only [Act.put, nrm])
  refine wtk2 (i := 42) rfl hHeld ?_
  (try simp only [Act.put, nrm])
  refine wtk2 (i := 43) rfl hHeld ?_
  (try simp only [Act.put, nrm])
  refine wtk2 (i := 44) rfl hHeld ?_
  (try simp only [Act.put, nrm])
  refine wtk2 (i := 45) rfl hHeld ?_
  (try simp only [Act.put, nrm])
  refine wtk2 (i := 46) rfl hHeld ?_
  (try simp only [Act.put, nrm])
  refine wtk2 (i := 47) rfl hHeld ?_
  (try simp only [Act.put, nrm])
  refine wtk2 (i := 48) rfl hHeld ?_
  (try simp only [Act.put, nrm])
  refine wtk2 (i := 49) rfl hHeld ?_
  (try simp only [Act.put, nrm])
  refine wpAnyH_ready (rs := [50]) (by kernel_rfl) (by simp) (AllReadyH.cons rfl (fun K hK => ?_) AllReadyH.nil)
  go_simp
  refine (answered_any 3 1 1 _).mono ?_
  rintro e w6 ⟨rfl, hf6⟩
  have hf56 : Fr (fun _ => False) w5 w6 := (Fr.refl _ _).drew.trans0 hf6
  clear hf6
  try dsimp only
  refine hK.out _ _ ((unhide HK) (fun _ => False) _ (fun _ h => h.elim) hf56) (fun hHeld => ?_)
  clear hK K
  (try simp only [Act.put, nrm])
  refine wpAnyH_ready (rs := [51]) (by kernel_rfl) (by simp) (AllReadyH.cons rfl (fun K hK => ?_) AllReadyH.nil)
  have HT := hide (((unhide HS55).fr0 hf56).answer (ansM 3 1 1) 0 0 0 (ansA 3 1 1) (ansM_x 3 1 1) 0 (⟨⟨3, 1, 1, 1, 0, 0, 7, 6, v, ⟨#[]⟩⟩, [], 0, 0, none⟩ : SC) rfl rfl rfl rfl [] [] (Rd.nil w6 5) (Rd.nil w6 4) (by simp) (by simp) (by simp))
  go_simp
  refine (unhide HT).mono ?_
  rintro e w7 ⟨r7, rfl, rfl, ⟨v7, u7, hs7⟩, hf7⟩
  clear HT
  have hf57 : Fr (Tn (Nb w w1) w2 w3) w5 w7 := (hf56.mono (fun _ _ e => e.elim)).trans hf7 (fun _ _ e => e)
  have hlt3 : ∀ g, Tn (Nb w w1) w2 w3 g → g < w3.heap.size := (unhide HS3).1.lt
  have HS7 := hide (And.intro hs7 hf57)
  clear hs7 hf7
  try dsimp only
  refine hK.out _ _ ((unhide HK) _ _ hlt3 hf57) (fun hHeld => ?_)
  clear hK K
  (try simp only [Act.put, nrm])
  clear hf56 hf57
  refine wtk2 (i := 52) rfl hHeld ?_
  (try simp only [Act.put, nrm])
  refine wtk2 (i := 53) rfl hHeld ?_
  (try simp only [Act.put, nrm])
  refine wtk2 (i := 54) rfl hHeld ?_
  (try simp only [Act.put, nrm])
  refine wtk2 (i := 55) rfl hHeld ?_
  (try simp only [Act.put, nrm])
  refine wpAnyH_ready (rs := [56]) (by kernel_rfl) (by simp) (AllReadyH.cons rfl (fun K hK => ?_) AllReadyH.nil)
  have HD := hide (unhide HS7).1.done
  go_simp
  refine (unhide HD).mono ?_
  rintro e w8 ⟨v8, rfl, ho8, hf8⟩
  clear HD
  have hl8 : ([1].map fun k => ((3 : Nat), k)).length = 1 := rfl
  obtain ⟨ao8, cap8, rfl⟩ := own_formX ho8
  have hf58 : Fr (Tn (Nb w w1) w2 w3) w5 w8 := (unhide HS7).2.trans hf8 (fun _ _ e => e.elim)
  have HF8 := hide hf58
  clear ho8 hf8 hl8
  try dsimp only
  refine hK.out _ _ ((unhide HK) _ _ hlt3 hf58) (fun hHeld => ?_)
  clear hK K
  (try simp only [Act.put, nrm])
  clear hf58
  refine wtk2 (i := 57) rfl hHeld ?_
  (try simp only [Act.put, nrm])
  refine wtk2 (i := 58) rfl hHeld ?_
  (try simp only [Act.put, nrm])
  refine wtk2 (i := 59) rfl hHeld ?_
  (try simp only [Act.put, nrm])
  refine wtk2 (i := 60) rfl hHeld ?_
  (try simp only [Act.put, nrm])
  refine wpAnyH_done (by kernel_rfl) ?_ _
  clear hHeld HK HS5 HSZ heq
  go_wp2_with fail
  go_ret
  refine ⟨rfl, ?_⟩
  have h1 := (unhide HS1).2
  have h2 := unhide HF2
  have h3 := (unhide HS3).2
  have h13 : Fr (fun _ => False) w w3 := (h1.trans0 h2).trans h3 (fun g hg e => by have := e.1; omega)
  have h15 : Fr (fun _ => False) w w5 := h13.trans0 (unhide HF5)
  refine h15.trans (unhide HF8) (fun g hg e => ?_)
  rcases e with e | e
  · have := e.1; omega
  · have := e.1; have := h1.size; have := h2.size; omega
end Go.Proofs.Ytkiepcdncegniaa

