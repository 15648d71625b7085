import Derived.Test.YtiknjghcjaaenaaGreatDoorKOar
namespace Go.Proofs.YtiknjghcjaaenaaGreatDoor
open Go.RowKit Go.Shelf
structure VM where
 au : Nat
 ev : Nat
 F : List F5
 rd : Bool
structure CM where
 wa : Nat
 ow : Nat
 sl : Bool
 G : List Nat
 V : List VM
structure RM where
 S : List P3
 C : List CM
structure RW where
 sv : Value
 cv : Value
 gv : Nat → Value
 vv : Nat → Value
 fv : Nat → Nat → Value
def ncells (l : List Nat) : List Value := l.map fun n => .int .u32 (n : Nat)
def vcells (fv : Nat → Value) : Nat → List VM → List Value
 | _, [] => []
 | j, v :: r => .int .u32 (v.au : Nat) :: .int .u32 (v.ev : Nat) :: fv j :: .bool v.rd :: vcells fv (j + 1) r
def ccells (q : RW) : Nat → List CM → List Value
 | _, [] => []
 | i, c :: r => .int .u32 (c.wa : Nat) :: .int .u32 (c.ow : Nat) :: .bool c.sl :: q.gv i :: q.vv i :: ccells q (i + 1) r
theorem vcells_at (fv : Nat → Value) : ∀ (l : List VM) (j k : Nat) (v : VM), l[k]? = some v → (vcells fv j l)[k * 4]? = some (.int .u32 (v.au : Nat)) ∧ (vcells fv j l)[k * 4 + 1]? = some (.int .u32 (v.ev : Nat)) ∧ (vcells fv j l)[k * 4 + 2]? = some (fv (j + k)) ∧ (vcells fv j l)[k * 4 + 3]? = some (.bool v.rd)
 | [], _, k, v, h => by simp at h
 | x :: r, j, 0, v, h => by
  simp at h
  subst h
  simp [vcells]
 | x :: r, j, k + 1, v, h => by
  rw [List.getElem?_cons_succ] at h
  obtain ⟨h0, h1, h2, h3⟩ := vcells_at fv r (j + 1) k v h
  rw [show j + 1 + k = j + (k + 1) by omega] at h2
  simp only [vcells]
  rw [show (k + 1) * 4 = k * 4 + 1 + 1 + 1 + 1 by omega]
  exact ⟨h0, h1, h2, h3⟩
theorem ccells_at (q : RW) : ∀ (l : List CM) (i k : Nat) (c : CM), l[k]? = some c → (ccells q i l)[k * 5]? = some (.int .u32 (c.wa : Nat)) ∧ (ccells q i l)[k * 5 + 1]? = some (.int .u32 (c.ow : Nat)) ∧ (ccells q i l)[k * 5 + 2]? = some (.bool c.sl) ∧ (ccells q i l)[k * 5 + 3]? = some (q.gv (i + k)) ∧ (ccells q i l)[k * 5 + 4]? = some (q.vv (i + k))
 | [], _, k, c, h => by simp at h
 | x :: r, i, 0, c, h => by
  simp at h
  subst h
  simp [ccells]
 | x :: r, i, k + 1, c, h => by
  rw [List.getElem?_cons_succ] at h
  obtain ⟨h0, h1, h2, h3, h4⟩ := ccells_at q r (i + 1) k c h
  rw [show i + 1 + k = i + (k + 1) by omega] at h3 h4
  simp only [ccells]
  rw [show (k + 1) * 5 = k * 5 + 1 + 1 + 1 + 1 + 1 by omega]
  exact ⟨h0, h1, h2, h3, h4⟩
structure FdM (w : World) (M : Nat → Prop) (x : Value) (l : List F5) : Prop where
 f : Fds w x l
 m : ∀ g o n c, x = .slice (some ⟨g, o, none⟩) n c → 0 < n → ¬ M g
 c : ∀ xo n c, x = .slice xo n c → n ≤ c
 z : ∀ n c, x = .slice none n c → c = 0
structure RsAt (w : World) (b : Nat) (s : RM) (q : RW) (M : Nat → Prop) : Prop where
 blk : w.heap[b]? = some (.cells #[q.sv, q.cv] 66)
 st : Stf w q.sv s.S
 sm : ∀ g o n c, q.sv = .slice (some ⟨g, o, none⟩) n c → 0 < n → ¬ M g
 ch : w.ownsRow 0 87 5 q.cv s.C.length (ccells q 0 s.C)
 gr : ∀ i c, s.C[i]? = some c → w.ownsRow 0 31 1 (q.gv i) c.G.length (ncells c.G)
 ve : ∀ i c, s.C[i]? = some c → w.ownsRow 0 110 4 (q.vv i) c.V.length (vcells (q.fv i) 0 c.V)
 fl : ∀ i c j v, s.C[i]? = some c → c.V[j]? = some v → FdM w M (q.fv i j) v.F
 mb : M b
 mc : ∀ g, q.cv.ownBlock = some g → M g
 mg : ∀ i c, s.C[i]? = some c → ∀ g, (q.gv i).ownBlock = some g → M g
 mv : ∀ i c, s.C[i]? = some c → ∀ g, (q.vv i).ownBlock = some g → M g
 ag : ∀ i j c d, s.C[i]? = some c → s.C[j]? = some d → i ≠ j → ∀ g, (q.gv i).ownBlock = some g → (q.gv j).ownBlock ≠ some g
 av : ∀ i j c d, s.C[i]? = some c → s.C[j]? = some d → i ≠ j → ∀ g, (q.vv i).ownBlock = some g → (q.vv j).ownBlock ≠ some g
 lt : ∀ k, M k → k < w.heap.size
theorem Stf.frM {w w' : World} {x : Value} {l : List P3} {S : Nat → Prop} (h : Stf w x l) (hf : Fr S w w') (hS : ∀ g o n c, x = .slice (some ⟨g, o, none⟩) n c → 0 < n → ¬ S g) : Stf w' x l := by
 rcases h with h | ⟨g, o, c, h1, h2⟩
 ·exact .inl h
 ·refine .inr ⟨g, o, c, h1, fun j hj => ?_⟩
  obtain ⟨c0, c1, c2⟩ := h2 j hj
  have hn := hS g o _ c h1 (by omega)
  exact ⟨(hf.cell (p := ⟨g, _, none⟩) (lt_of_cell c0) hn).trans c0, (hf.cell (p := ⟨g, _, none⟩) (lt_of_cell c1) hn).trans c1, (hf.cell (p := ⟨g, _, none⟩) (lt_of_cell c2) hn).trans c2⟩
theorem FdM.frS {w w' : World} {M S : Nat → Prop} {x : Value} {l : List F5} (h : FdM w M x l) (hf : Fr S w w') (hS : ∀ k, S k → M k) : FdM w' M x l :=
 ⟨h.f.frS hf (fun g o n c e h0 hs => h.m g o n c e h0 (hS g hs)), h.m, h.c, h.z⟩
theorem RsAt.fr {w w' : World} {b : Nat} {s : RM} {q : RW} {M : Nat → Prop} (h : RsAt w b s q M) (hf : Fr (fun _ => False) w w') : RsAt w' b s q M :=
 ⟨(hf.block b (h.lt b h.mb) (fun h => h)).trans h.blk, h.st.fr hf, h.sm, ownsRow_of_block h.ch (fun g hg => hf.block g (h.lt g (h.mc g hg)) (fun h => h)), fun i c hc => ownsRow_of_block (h.gr i c hc) (fun g hg => hf.block g (h.lt g (h.mg i c hc g hg)) (fun h => h)), fun i c hc => ownsRow_of_block (h.ve i c hc) (fun g hg => hf.block g (h.lt g (h.mv i c hc g hg)) (fun h => h)), fun i c j v hc hv => (h.fl i c j v hc hv).frS hf (fun _ h => h.elim), h.mb, h.mc, h.mg, h.mv, h.ag, h.av, fun k hk => Nat.lt_of_lt_of_le (h.lt k hk) hf.size⟩
theorem RsAt.cells {w : World} {b : Nat} {s : RM} {q : RW} {M : Nat → Prop} (h : RsAt w b s q M) : w.cell? ⟨b, 0, none⟩ = some q.sv ∧ w.cell? ⟨b, 1, none⟩ = some q.cv ∧ ∀ i, w.frozen? ⟨b, i, none⟩ = false := by
 refine ⟨?_, ?_, fun i => ?_⟩ <;> simp [World.cell?, World.frozen?, h.blk]
theorem RsAt.chart {w : World} {b : Nat} {s : RM} {q : RW} {M : Nat → Prop} (h : RsAt w b s q M) {i : Nat} {c : CM} (hc : s.C[i]? = some c) : ∃ g cap, q.cv = .slice (some ⟨g, 0, none⟩) s.C.length cap ∧ w.cell? ⟨g, i * 5, none⟩ = some (.int .u32 (c.wa : Nat)) ∧ w.cell? ⟨g, i * 5 + 1, none⟩ = some (.int .u32 (c.ow : Nat)) ∧ w.cell? ⟨g, i * 5 + 2, none⟩ = some (.bool c.sl) ∧ w.cell? ⟨g, i * 5 + 3, none⟩ = some (q.gv i) ∧ w.cell? ⟨g, i * 5 + 4, none⟩ = some (q.vv i) ∧ ∀ k, w.frozen? ⟨g, k, none⟩ = false := by
 have hi : i < s.C.length := (List.getElem?_eq_some_iff.1 hc).1
 obtain ⟨g, cap, e, _, _⟩ := h.ch.form (by omega)
 obtain ⟨h0, h1, h2, h3, h4⟩ := ccells_at q s.C 0 i c hc
 rw [Nat.zero_add] at h3 h4
 have hr := h.ch
 rw [e] at hr
 refine ⟨g, cap, e, (hr.cellAt _ (by omega)).trans h0, (hr.cellAt _ (by omega)).trans h1, (hr.cellAt _ (by omega)).trans h2, (hr.cellAt _ (by omega)).trans h3, (hr.cellAt _ (by omega)).trans h4, fun k => hr.frozenAt k⟩
theorem RsAt.version {w : World} {b : Nat} {s : RM} {q : RW} {M : Nat → Prop} (h : RsAt w b s q M) {i j : Nat} {c : CM} {v : VM} (hc : s.C[i]? = some c) (hv : c.V[j]? = some v) : ∃ g cap, q.vv i = .slice (some ⟨g, 0, none⟩) c.V.length cap ∧ w.cell? ⟨g, j * 4, none⟩ = some (.int .u32 (v.au : Nat)) ∧ w.cell? ⟨g, j * 4 + 1, none⟩ = some (.int .u32 (v.ev : Nat)) ∧ w.cell? ⟨g, j * 4 + 2, none⟩ = some (q.fv i j) ∧ w.cell? ⟨g, j * 4 + 3, none⟩ = some (.bool v.rd) ∧ ∀ k, w.frozen? ⟨g, k, none⟩ = false := by
 have hj : j < c.V.length := (List.getElem?_eq_some_iff.1 hv).1
 obtain ⟨g, cap, e, _, _⟩ := (h.ve i c hc).form (by omega)
 obtain ⟨h0, h1, h2, h3⟩ := vcells_at (q.fv i) c.V 0 j v hv
 rw [Nat.zero_add] at h2
 have hr := h.ve i c hc
 rw [e] at hr
 exact ⟨g, cap, e, (hr.cellAt _ (by omega)).trans h0, (hr.cellAt _ (by omega)).trans h1, (hr.cellAt _ (by omega)).trans h2, (hr.cellAt _ (by omega)).trans h3, fun k => hr.frozenAt k⟩
set_option maxRecDepth 100000 in
theorem records_any (b : Nat) (s : RM) (q : RW) (M : Nat → Prop) (w : World) (h : RsAt w b s q M) : Calls Tryz.prog 15 #[.pointer (some ⟨b, 0, none⟩)] w fun e w' => e = .returned (.int .i64 (s.C.length : Nat)) ∧ w' = w := by
 obtain ⟨_, c1, _⟩ := h.cells
 obtain ⟨co, cc, e⟩ := own_formX h.ch
 rw [e] at c1
 clear h e
 go_enter Tryz.func15, Tryz.ntmps15
 go_wp2_with fail
 go_ret
 exact ⟨rfl, rfl⟩
set_option maxRecDepth 100000 in
theorem shas_any (b n : Nat) (s : RM) (q : RW) (M : Nat → Prop) (w : World) (h : RsAt w b s q M) (hl : s.C.length ≤ 256) : Calls Tryz.prog 38 #[.pointer (some ⟨b, 0, none⟩), .int .u32 (n : Nat)] w fun e w' => e = .returned (.bool (decide (1 ≤ n) && decide (n ≤ s.C.length))) ∧ w' = w := by
 obtain ⟨_, c1, _⟩ := h.cells
 obtain ⟨co, cc, e⟩ := own_formX h.ch
 rw [e] at c1
 clear h e
 generalize s.C.length = L at *
 by_cases h1 : 1 ≤ n
 ·have a1 : ¬ (n : Int) < 1 := by omega
  have a2 : IntKind.u32.wrap (L : Int) = (L : Int) := by rw [IntKind.wrap_u32]; omega
  have e1 : decide (n ≤ L) = decide ((n : Int) ≤ (L : Int)) := by rw [decide_eq_decide]; omega
  rw [decide_eq_true h1, Bool.true_and, e1]
  go_enter Tryz.func38, Tryz.ntmps38
  go_wp2_with fail
  go_ret
  exact ⟨rfl, rfl⟩
 ·obtain rfl : n = 0 := by omega
  go_enter Tryz.func38, Tryz.ntmps38
  go_wp2_with fail
  go_ret
  exact ⟨rfl, rfl⟩
set_option maxRecDepth 100000 in
theorem chart_any (b i : Nat) (c : CM) (s : RM) (q : RW) (M : Nat → Prop) (w : World) (h : RsAt w b s q M) (hc : s.C[i]? = some c) (hl : s.C.length ≤ 256) (g cap : Nat) (hcv : q.cv = .slice (some ⟨g, 0, none⟩) s.C.length cap) : Calls Tryz.prog 72 #[.pointer (some ⟨b, 0, none⟩), .int .u32 ((i + 1 : Nat) : Int)] w fun e w' => e = .returned (.pointer (some ⟨g, i * 5, none⟩)) ∧ w' = w := by
 obtain ⟨_, c1, _⟩ := h.cells
 have hi : i < s.C.length := (List.getElem?_eq_some_iff.1 hc).1
 rw [hcv] at c1
 clear h hcv hc
 generalize s.C.length = L at *
 have a1 : IntKind.u32.wrap (((i + 1 : Nat) : Int) - 1) = (i : Int) := by rw [IntKind.wrap_u32]; omega
 have a2 : (i : Int) < (L : Int) := by omega
 obtain ⟨N, hN⟩ : ∃ N : Int, N = ((i + 1 : Nat) : Int) := ⟨_, rfl⟩
 rw [← hN] at a1 ⊢
 clear hN
 go_enter Tryz.func72, Tryz.ntmps72
 go_wp2_with fail
 go_ret
 exact ⟨by simp, rfl⟩
set_option maxRecDepth 100000 in
theorem last_any (g o n : Nat) (vo : Option Addr) (vc : Nat) (w : World) (hv : w.cell? ⟨g, o + 4, none⟩ = some (.slice vo n vc)) (hn : n ≤ 1000) : Calls Tryz.prog 74 #[.pointer (some ⟨g, o, none⟩)] w fun e w' => e = .returned (.int .u32 (n : Nat)) ∧ w' = w := by
 have a2 : IntKind.u32.wrap (n : Int) = (n : Int) := by rw [IntKind.wrap_u32]; omega
 go_enter Tryz.func74, Tryz.ntmps74
 go_wp2_with fail
 go_ret
 exact ⟨rfl, rfl⟩
set_option maxRecDepth 100000 in
theorem chas_any (g o n m : Nat) (vo : Option Addr) (vc : Nat) (w : World) (hv : w.cell? ⟨g, o + 4, none⟩ = some (.slice vo n vc)) (hn : n ≤ 1000) : Calls Tryz.prog 78 #[.pointer (some ⟨g, o, none⟩), .int .u32 (m : Nat)] w fun e w' => e = .returned (.bool (decide (1 ≤ m) && decide (m ≤ n))) ∧ w' = w := by
 have HL := hide (last_any g o n vo vc w hv hn)
 clear hv
 by_cases h1 : 1 ≤ m
 ·have a1 : ¬ (m : Int) < 1 := by omega
  have e1 : decide (m ≤ n) = decide ((m : Int) ≤ (n : Int)) := by rw [decide_eq_decide]; omega
  rw [decide_eq_true h1, Bool.true_and, e1]
  go_enter Tryz.func78, Tryz.ntmps78
  go_wp2_with fail
  refine (unhide HL).mono ?_
  rintro e w' ⟨rfl, rfl⟩
  go_wp2_with fail
  go_ret
  exact ⟨rfl, rfl⟩
 ·obtain rfl : m = 0 := by omega
  go_enter Tryz.func78, Tryz.ntmps78
  go_wp2_with fail
  go_ret
  exact ⟨rfl, rfl⟩
set_option maxRecDepth 100000 in
theorem version_any (g o n j vg vc : Nat) (w : World) (hv : w.cell? ⟨g, o + 4, none⟩ = some (.slice (some ⟨vg, 0, none⟩) n vc)) (hj : j < n) (hn : n ≤ 1000) : Calls Tryz.prog 73 #[.pointer (some ⟨g, o, none⟩), .int .u32 ((j + 1 : Nat) : Int)] w fun e w' => e = .returned (.pointer (some ⟨vg, j * 4, none⟩)) ∧ w' = w := by
 have a1 : IntKind.u32.wrap (((j + 1 : Nat) : Int) - 1) = (j : Int) := by rw [IntKind.wrap_u32]; omega
 have a2 : (j : Int) < (n : Int) := by omega
 obtain ⟨N, hN⟩ : ∃ N : Int, N = ((j + 1 : Nat) : Int) := ⟨_, rfl⟩
 rw [← hN] at a1 ⊢
 clear hN
 go_enter Tryz.func73, Tryz.ntmps73
 go_wp2_with fail
 go_ret
 exact ⟨by simp, rfl⟩
end Go.Proofs.YtiknjghcjaaenaaGreatDoor
