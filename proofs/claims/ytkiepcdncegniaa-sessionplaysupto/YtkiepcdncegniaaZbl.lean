import Derived.Test.YtkiepcdncegniaaZbk
namespace Go.Proofs.Ytkiepcdncegniaa
open Go.RowKit Go.Maps

set_option maxRecDepth 100000 in
set_option maxHeartbeats 4000000 in
/-- Answer, by what the map tells. -/
theorem sanswer_core (d ma cl nu : Nat) (A : AN) (b : Bool) (n m : Nat) (xs ys : List Value) (w : World) (c2 : w.cell? ⟨d, 2, none⟩ = some (.map (some ma)))
    (hL : ∀ W', Fr (fun _ => False) w W' → (Instr.lookup 84 (.map (some ma)) (.agg #[.int .u32 (cl : Nat), .int .u32 (nu : Nat)]) true).run Try.prog W' = .ok (.tuple #[.agg A.cs.toArray, .bool b]) W') (hF : Rd w A.fv n 5 xs) (hH : Rd w A.hv m 4 ys) (hn : n ≤ 1048576) (hm : m ≤ 1048576) :
    Calls Try.prog 19 #[.pointer (some ⟨d, 0, none⟩), .agg #[.int .u32 (cl : Nat), .int .u32 (nu : Nat)]] w fun e w' => ∃ v u, e = .returned (.tuple #[AN.v { A with fv := v, hv := u }, .bool b]) ∧ w'.ownsRow w.heap.size 79 5 v n xs ∧ w'.ownsRow w.heap.size 81 4 u m ys ∧ Fr (fun _ => False) w w' := by
  have hd : d < w.heap.size := lt_of_cell c2
  have HS : Hid (∀ W', Fr (fun _ => False) ((w.alloc (.cells #[.int .u32 (cl : Nat), .int .u32 (nu : Nat)] 29)).alloc (.cells [.int .u32 0, .int .u32 0, .int .u8 0, .int .u32 0, .int .u32 0, .slice none 0 0, .slice none 0 0].toArray 44)) W' → (W'.cell? ⟨d, 2, none⟩ = some (.map (some ma)) ∧ W'.cell? ⟨w.heap.size, 0, none⟩ = some (.int .u32 (cl : Nat)) ∧ W'.cell? ⟨w.heap.size, 1, none⟩ = some (.int .u32 (nu : Nat))) ∧ W'.heap[w.heap.size + 1]? = some (.cells [.int .u32 0, .int .u32 0, .int .u8 0, .int .u32 0, .int .u32 0, .slice none 0 0, .slice none 0 0].toArray 44) ∧ Fr (fun _ => False) w W') := hide (fun W' hf => by
    have hf0 : Fr (fun _ => False) w W' := ((box1 w _).alloc _).trans0 hf
    have hb : W'.heap[w.heap.size]? = some (.cells #[.int .u32 (cl : Nat), .int .u32 (nu : Nat)] 29) := (hf.block _ (by simp; omega) (fun h => h)).trans ((Below.heap_alloc _ _ _ (by simp)).trans (heap_alloc_new w _))
    have hb2 := heap_alloc_new (w.alloc (.cells #[.int .u32 (cl : Nat), .int .u32 (nu : Nat)] 29)) (.cells [.int .u32 0, .int .u32 0, .int .u8 0, .int .u32 0, .int .u32 0, .slice none 0 0, .slice none 0 0].toArray 44)
    rw [World.size_alloc] at hb2
    exact ⟨⟨(hf0.cell (p := ⟨d, 2, none⟩) hd (fun h => h)).trans c2, cell_of_blk hb rfl, cell_of_blk hb rfl⟩, (hf.block _ (by simp) (fun h => h)).trans hb2, hf0⟩)
  have HL := hide hL
  have HX := hide (And.intro hF hH)
  have h7 : ∀ v ∈ A.cs, v.oneCell' = true := AN.one A hF.oneX hH.oneX
  have H7 := hide h7
  clear hL c2 hF hH h7
  go_enter Try.func19, Try.ntmps19
  go_wp2_with fail
  obtain ⟨W1, hW1⟩ : ∃ W1, (w.alloc (.cells #[.int .u32 (cl : Nat), .int .u32 (nu : Nat)] 29)).alloc (.cells [.int .u32 0, .int .u32 0, .int .u8 0, .int .u32 0, .int .u32 0, .slice none 0 0, .slice none 0 0].toArray 44) = W1 := ⟨_, rfl⟩
  have hf1 : Fr (fun _ => False) w W1 := by rw [← hW1]; exact (box1 w _).alloc _
  have HZ : Hid (W1.heap.size = w.heap.size + 2) := hide (by rw [← hW1]; simp)
  rw [hW1] at HS
  rw [hW1]
  clear hW1
  have HSA : Hid (∀ W', Fr (fun _ => False) W1 W' → W'.cell? ⟨d, 2, none⟩ = some (.map (some ma)) ∧ W'.cell? ⟨w.heap.size, 0, none⟩ = some (.int .u32 (cl : Nat)) ∧ W'.cell? ⟨w.heap.size, 1, none⟩ = some (.int .u32 (nu : Nat)) ∧ (Instr.lookup 84 (.map (some ma)) (.agg #[.int .u32 (cl : Nat), .int .u32 (nu : Nat)]) true).run Try.prog W' = .ok (.tuple #[.agg A.cs.toArray, .bool b]) W') := hide (fun W' hf => by
    have hb := (unhide HS) W' hf
    exact ⟨hb.1.1, hb.1.2.1, hb.1.2.2, (unhide HL) W' hb.2.2⟩)
  refine wp_region_held_drew (S := (fun W => W.cell? ⟨d, 2, none⟩ = some (.map (some ma)) ∧ W.cell? ⟨w.heap.size, 0, none⟩ = some (.int .u32 (cl : Nat)) ∧ W.cell? ⟨w.heap.size, 1, none⟩ = some (.int .u32 (nu : Nat)) ∧ (Instr.lookup 84 (.map (some ma)) (.agg #[.int .u32 (cl : Nat), .int .u32 (nu : Nat)]) true).run Try.prog W = .ok (.tuple #[.agg A.cs.toArray, .bool b]) W)) (by kernel_rfl) ((unhide HSA) _ (Fr.refl _ _).drew) (fun hHeld => ?_)
  refine wtk2 (i := 0) rfl hHeld ?_
  (try simp only [Act.put, nrm])
  refine wtk2 (i := 1) rfl hHeld ?_
  (try simp only [Act.put, nrm])
  refine wtk2 (i := 2) rfl hHeld ?_
  (try simp only [Act.put, nrm])
  refine wtk2 (i := 3) rfl hHeld ?_
  (try simp only [Act.put, nrm])
  refine wtk2 (i := 4) rfl hHeld ?_
  (try simp only [Act.put, nrm])
  refine wtk2 (i := 5) rfl hHeld ?_
  (try simp only [Act.put, nrm])
  refine wtk2 (i := 6) rfl hHeld ?_
  (try simp only [Act.put, nrm])
  refine wtk2 (i := 7) rfl hHeld ?_
  (try simp only [Act.put, nrm])
  refine wtk2 (i := 8) rfl hHeld ?_
  (try simp only [Act.put, nrm])
  refine wpAnyH_ready (rs := [9]) (by kernel_rfl) (by simp) (AllReadyH.cons rfl (fun K hK => ?_) AllReadyH.nil)
  go_simp
  refine hK.out _ _ ((unhide HSA) _ ((Fr.refl _ _).drew.alloc _)) (fun hHeld => ?_)
  clear hK K
  (try simp only [Act.put, nrm])
  have hb0 : (W1.drew.alloc (.cells [.int .u32 0, .int .u32 0, .int .u8 0, .int .u32 0, .int .u32 0, .slice none 0 0, .slice none 0 0].toArray 44)).heap[W1.heap.size]? = some (.cells [.int .u32 0, .int .u32 0, .int .u8 0, .int .u32 0, .int .u32 0, .slice none 0 0, .slice none 0 0].toArray 44) := heap_alloc_new W1.drew _
  obtain ⟨W8, hst, hb8, hf8⟩ := st_all (P := Try.prog) (ty := 44) [.int .u32 0, .int .u32 0, .int .u8 0, .int .u32 0, .int .u32 0, .slice none 0 0, .slice none 0 0] A.cs hb0 rfl Try.sizeAn (unhide H7)
  have hf18 : Fr (fun _ => False) W1 W8 := ((Fr.refl _ _).drew.alloc _).trans hf8 (fun k hk e => by omega)
  have HF8 := hide (And.intro hf18 (hf1.trans0 hf18))
  have HR8 := hide (range_of_block hb8)
  have HST := hide hst
  clear hst hb8 hf8 hf18 hb0
  refine wpAnyH_ready (rs := [10]) (by kernel_rfl) (by simp) (AllReadyH.cons rfl (fun K hK => ?_) AllReadyH.nil)
  refine step_stN rfl 44 (.tmp 6) (.tmp 15) rfl _ _ (by simp [Act.eval]) (by simp [Act.eval]) (unhide HST) ?_
  refine hK.out _ _ ((unhide HSA) _ (unhide HF8).1) (fun hHeld => ?_)
  clear hK K
  (try simp only [Act.put, nrm])
  refine wtk2 (i := 11) rfl hHeld ?_
  (try simp only [Act.put, nrm])
  refine wpAnyH_done (by kernel_rfl) ?_ _
  clear hHeld HSA HST HL
  have HOA := hide (ownAns_any A n m xs ys W8 ((unhide HX).1.fr0 (unhide HF8).2) ((unhide HX).2.fr0 (unhide HF8).2) hn hm)
  go_wp2_with (refine wpList_load_mid rfl 44 (.tmp 6) rfl W1.heap.size 0 rfl _ _ (unhide HR8) Try.underlying44 rfl Try.sizeAn ?_)
  refine (unhide HOA).mono ?_
  rintro e W9 ⟨v, u, rfl, hF9, hH9, hf9⟩
  have hb9 := ((unhide HS) W9 ((unhide HF8).1.trans0 hf9)).2.1
  have hov := own_one hF9
  have hou := own_one hH9
  obtain ⟨W10, hst, hb10, hf10⟩ := st_all (P := Try.prog) (ty := 44) [.int .u32 0, .int .u32 0, .int .u8 0, .int .u32 0, .int .u32 0, .slice none 0 0, .slice none 0 0] (AN.cs { A with fv := v, hv := u }) hb9 rfl Try.sizeAn (AN.one _ hov hou)
  have hfin : Fr (fun _ => False) w W10 := ((unhide HF8).2.trans0 hf9).trans hf10 (fun k hk e => by omega)
  have hz := unhide HZ
  have hs8 := (unhide HF8).1.size
  have hF10 : W10.ownsRow w.heap.size 79 5 v n xs := ownsRow_base (ownsRow_of_block hF9 (fun g hg => hf10.block g (hF9.lt g hg).2 (fun e => by have := (hF9.lt g hg).1; omega))) (unhide HF8).2.size
  have hH10 : W10.ownsRow w.heap.size 81 4 u m ys := ownsRow_base (ownsRow_of_block hH9 (fun g hg => hf10.block g (hH9.lt g hg).2 (fun e => by have := (hH9.lt g hg).1; omega))) (unhide HF8).2.size
  have HST := hide hst
  have HE := hide (And.intro (range_of_block hb10) (And.intro hF10 (And.intro hH10 hfin)))
  clear hst hb9 hb10 hf10 hfin hF10 hH10 hF9 hH9 hf9 hz hs8 HOA HX HS hov hou
  go_wp2_with (refine wpList_stN rfl 44 (.tmp 4) (.tmp 18) rfl _ _ rfl rfl (unhide HST) ?_)
  refine bodyPost_ret (results_cellt rfl _ _ (w.heap.size + 1) 0 _ _ _ rfl rfl (unhide HE).1 Try.underlying44 rfl Try.sizeAn) rfl ?_
  exact ⟨_, _, rfl, (unhide HE).2.1, (unhide HE).2.2.1, (unhide HE).2.2.2⟩
/-- Answer. -/
theorem sanswer_yes (d mw ma c : Nat) (cs : List SC) (dn : List Nat) (dv : Value) (T : Nat → Prop) (w : World) (h : SsAt w d mw ma c cs dn dv T) (i : Nat) (q : SC) (x : AD) (hq : cs[i]? = some q) (hd : q.d = some x) :
    Calls Try.prog 19 #[.pointer (some ⟨d, 0, none⟩), .agg #[.int .u32 (c : Nat), .int .u32 ((i + 1 : Nat) : Int)]] w fun e w' => ∃ v u, e = .returned (.tuple #[AN.v { x.a with fv := v, hv := u }, .bool true]) ∧ OwF w' w.heap.size v x.F ∧ OwS w' w.heap.size u x.H ∧ Fr (fun _ => False) w w' := by
  have hx := (h.qs q (List.mem_of_getElem? hq)).an x hd
  exact sanswer_core d ma c (i + 1) x.a true x.F.length x.H.length (fcells x.F) (scells x.H) w h.cells.2.2.1 (h.look_a hq hd) (own_rd hx.1.o (fcells_one _)) (own_rd hx.2.o (scells_one _)) hx.1.l hx.2.l
theorem sanswer_no (d mw ma c : Nat) (cs : List SC) (dn : List Nat) (dv : Value) (T : Nat → Prop) (w : World) (h : SsAt w d mw ma c cs dn dv T) (cl k : Nat) (hcl : cl < 4294967296) (hk : k < 4294967296) (hn : cl = c → fA cs k = none) :
    Calls Try.prog 19 #[.pointer (some ⟨d, 0, none⟩), .agg #[.int .u32 (cl : Nat), .int .u32 (k : Nat)]] w fun e w' => ∃ v u, e = .returned (.tuple #[AN.v ⟨0, 0, 0, 0, 0, v, u⟩, .bool false]) ∧ OwF w' w.heap.size v [] ∧ OwS w' w.heap.size u [] ∧ Fr (fun _ => False) w w' :=
  sanswer_core d ma cl k ⟨0, 0, 0, 0, 0, .slice none 0 0, .slice none 0 0⟩ false 0 0 [] [] w h.cells.2.2.1 (h.look_an hcl hk hn) (Rd.nil w 5) (Rd.nil w 4) (by omega) (by omega)
end Go.Proofs.Ytkiepcdncegniaa
