import Derived.Test.YtficeloegepdkaaPoq
namespace Go.Proofs.Ytficeloegepdkaa
open Go.RowKit

theorem step_app {P : Program} {w w' : World} {ops : Array Oper} {o : Oper} {a : Act} {K : Act → World → Prop} {Q : Exit → Act → World → Prop} {E : Prop} (hgd : o.guard = none) (s x : Operand) (t u : TypeId)
    (ho : o.op = .call { callee := .builtin .append, args := #[s, x], argTypes := #[t, u] }) (vs vx v' : Value) (hs : a.eval s = vs) (hx : a.eval x = vx) (hr : (Builtin.append_ #[t, u] o.type #[vs, vx]).run P w = .ok v' w')
    (h : K (a.put o.dst v') w') : if Region.wanted o (yielded ops a.tmps) = true then Oper.wp P o a w K Q else E := by
  have hw : Region.wanted o (yielded ops a.tmps) = true := by simp [Region.wanted, hgd]
  rw [if_pos hw]
  unfold Oper.wp execOp
  simp only [ho, resolve, invoke, builtin, Sem.run_bind, Sem.run_pure, Result.andThen_ok, List.map_toArray, List.map_cons, List.map_nil, hs, hx, hr]
  exact h
def ucells (l : List Nat) : List Value := l.map fun c => .int .u32 (c : Nat)
theorem ucells_app (a b : List Nat) : ucells (a ++ b) = ucells a ++ ucells b := by simp [ucells]
theorem ucells_len (a : List Nat) : (ucells a).length = a.length := by simp [ucells]
theorem Try.infoU32 : (Try.prog.info? 26).map (fun i => (i.zero, i.size, i.bytes)) = some (some (.int .u32 0), 1, 4) := by kernel_rfl
/-- append(l, y ..) of numbers. -/
theorem app_us (w : World) (base : Nat) (v : Value) (l ys : List Nat) (h : w.ownsRow base 26 1 v l.length (ucells l)) (hb : base ≤ w.heap.size) (hl : l.length + ys.length ≤ 1048580) :
    ∃ ao cap w', (Builtin.append_ #[27, 27] 27 #[v, .slice (some ⟨w.heap.size, 0, none⟩) ys.length ys.length]).run Try.prog (w.alloc (.cells (ucells ys).toArray 26)) = .ok (.slice ao (l.length + ys.length) cap) w' ∧ w'.ownsRow base 26 1 (.slice ao (l.length + ys.length) cap) (l.length + ys.length) (ucells (l ++ ys)) ∧ Fr (fun g => v.ownBlock = some g) w w' := by
  obtain ⟨i0, hi, hz0, hz1, hz2⟩ := info_parts Try.infoU32
  have hb' := ownsRow_of_block (w' := w.alloc (.cells (ucells ys).toArray 26)) h (fun g hg => Below.heap_alloc _ _ _ (h.lt g hg).2)
  obtain ⟨v', w', hr, h2, h3, _, h5⟩ := run_append_own_at (P := Try.prog) (w := w.alloc (.cells (ucells ys).toArray 26)) base 27 27 26 i0 (.int .u32 0) 1 4 Try.underlying27 hi hz0 hz1 hz2 rfl (by decide) v l.length (ucells l) hb' ⟨w.heap.size, 0, none⟩ ys.length ys.length (ucells ys) (by simp [ucells]) (fun j u hu => by
    rw [addr_add, World.cell?_alloc_at _ _ _ _ rfl, Nat.zero_add, List.getElem?_toArray]; exact hu) (fun u hu => by simp [ucells] at hu; obtain ⟨_, _, rfl⟩ := hu; rfl) (by simp only [maxLen]; omega) (by omega) (by simp; omega)
  obtain ⟨ao, cap, rfl⟩ := own_formX h2
  exact ⟨ao, cap, w', hr, by rw [ucells_app]; exact h2, ((((Fr.refl (fun _ => False) w).alloc _)).mono (fun _ _ h => h.elim)).grown h3 (fun g hg => .inl hg)⟩
/-- Numbers of one's own with a mark behind. -/
structure MkU (w : World) (v : Value) (l : List Nat) : Prop where
  at_ : ∃ g cap, v = .slice (some ⟨g, 0, none⟩) l.length cap ∧ l.length + 1 ≤ cap ∧ g < w.heap.size ∧ ∀ j u, (ucells (l ++ [77]))[j]? = some u → w.cell? ⟨g, j, none⟩ = some u
theorem MkU.fr {w w' : World} {v : Value} {l : List Nat} (h : MkU w v l) (hf : Fr (fun _ => False) w w') : MkU w' v l := by
  obtain ⟨g, cap, e, h1, h2, h3⟩ := h.at_
  exact ⟨g, cap, e, h1, Nat.lt_of_lt_of_le h2 hf.size, fun j u hu => (hf.cell (p := ⟨g, j, none⟩) h2 (fun h => h)).trans (h3 j u hu)⟩
theorem MkU.us {w : World} {v : Value} {l : List Nat} (h : MkU w v l) : Us w v l := by
  obtain ⟨g, cap, e, h1, h2, h3⟩ := h.at_
  refine .inr ⟨g, 0, cap, e, fun j hj => ?_⟩
  rw [Nat.zero_add]
  exact h3 j _ (by rw [ucells_app, List.getElem?_append_left (by rw [ucells_len]; exact hj)]; simp [ucells, hj])
theorem Fr.absorb9 {w a b : World} (h : Fr (fun _ => False) w a) (k : Fr (fun k => k = w.heap.size + 1) a b) : Fr (fun _ => False) w b :=
  h.trans (k.mono (T := fun k => k = w.heap.size + 1) (fun _ _ h => h)) (fun i hi e => by subst e; omega)
theorem Fr.own {w wr w2 : World} {v : Value} {n size e : Nat} {xs : List Value} (hfr : Fr (fun _ => False) w wr) (hown : wr.ownsRow w.heap.size e size v n xs) (hf2 : Fr (fun g => v.ownBlock = some g) wr w2) : Fr (fun _ => False) w w2 :=
  ⟨hf2.os.trans hfr.os, hf2.tape.trans hfr.tape, hf2.output.trans hfr.output, Nat.le_trans hfr.size hf2.size, fun k hk _ => (hf2.block k (Nat.lt_of_lt_of_le hk hfr.size) (fun e => by have := (hown.lt k e).1; omega)).trans (hfr.block k hk (fun h => h))⟩
set_option maxHeartbeats 2000000 in
set_option maxRecDepth 100000 in
theorem sheet_any (wd ow : Nat) (sl : Bool) (x : Value) (l : List Nat) (w : World) (hx : Us w x l) (hl : l.length ≤ 1048575) :
    Calls Try.prog 21 #[.agg #[.int .u32 (wd : Nat), .int .u32 (ow : Nat), .bool sl, x]] w fun e w' => ∃ v, e = .returned (.agg #[.int .u32 (wd : Nat), .int .u32 (ow : Nat), .bool sl, v]) ∧ MkU w' v l ∧ Fr (fun _ => False) w w' := by
  have HX := hide hx
  obtain ⟨xo, xc, rfl⟩ := hx.form
  clear hx
  go_enter Try.func21, Try.ntmps21
  go_wp2_with fail
  obtain ⟨W, hW⟩ : ∃ W, (w.alloc (.cells #[.int .u32 (wd : Nat), .int .u32 (ow : Nat), .bool sl, .slice xo l.length xc] 46)).alloc (.cells #[.int .u32 0, .int .u32 0, .bool false, .slice none 0 0] 29) = W := ⟨_, rfl⟩
  have hf1 : Fr (fun _ => False) w W := by rw [← hW]; exact ((Fr.refl _ _).alloc _).alloc _
  have hb1 : W.heap[w.heap.size]? = some (.cells #[.int .u32 (wd : Nat), .int .u32 (ow : Nat), .bool sl, .slice xo l.length xc] 46) := by
    rw [← hW]; exact (Below.heap_alloc _ _ _ (by simp)).trans Array.getElem?_push_size
  have hb2 : W.heap[w.heap.size + 1]? = some (.cells #[.int .u32 0, .int .u32 0, .bool false, .slice none 0 0] 29) := by
    rw [← hW]
    have h0 : (w.alloc (.cells #[.int .u32 (wd : Nat), .int .u32 (ow : Nat), .bool sl, .slice xo l.length xc] 46)).heap.size = w.heap.size + 1 := by simp
    rw [← h0]
    exact Array.getElem?_push_size
  have hsz : w.heap.size + 1 < W.heap.size := by rw [← hW]; simp
  have HX1 := hide ((unhide HX).fr hf1)
  have HB := hide (And.intro hf1 (And.intro hb1 hb2))
  rw [hW]
  clear hW hf1 hb1 hb2 HX
  go_loopw [3, 4] (fun av iv wr => ∃ (j : Nat) (ao : Option Addr) (cap : Nat), j ≤ l.length ∧ iv = .int .i64 (j : Nat) ∧ av = .slice ao j cap ∧ wr.ownsRow W.heap.size 26 1 (.slice ao j cap) j (ucells (l.take j)) ∧ Fr (fun _ => False) W wr) (fun _ iv _ => l.length - (intOf iv).toNat)
  case atStart => exact ⟨0, none, 0, Nat.zero_le _, rfl, rfl, World.ownsRow_nil _ _ _ _, Fr.refl _ _⟩
  case round =>
    obtain ⟨j, ao, cap, hj, rfl, rfl, hown, hfr⟩ := hrel
    have hlen : (l.take j).length = j := by simp; omega
    have hbx := (hfr.block w.heap.size (by omega) (fun h => h)).trans (unhide HB).2.1
    have b0 : wr.cell? ⟨w.heap.size, 0, none⟩ = some (.int .u32 (wd : Nat)) := by simp only [World.cell?, hbx]; rfl
    have b1 : wr.cell? ⟨w.heap.size, 1, none⟩ = some (.int .u32 (ow : Nat)) := by simp only [World.cell?, hbx]; rfl
    have b2 : wr.cell? ⟨w.heap.size, 2, none⟩ = some (.bool sl) := by simp only [World.cell?, hbx]; rfl
    have b3 : wr.cell? ⟨w.heap.size, 3, none⟩ = some (.slice xo l.length xc) := by simp only [World.cell?, hbx]; rfl
    have hzr : w.heap.size + 1 < wr.heap.size := Nat.lt_of_lt_of_le hsz hfr.size
    clear hbx
    by_cases hlt : j < l.length
    · obtain ⟨g, o, rfl, c0⟩ := ((unhide HX1).fr hfr).at_ j hlt
      have hgl : g < wr.heap.size := lt_of_cell c0
      obtain ⟨P, hPe⟩ : ∃ P, l[j] = P := ⟨_, rfl⟩
      rw [hPe] at c0
      have htk : l.take (j + 1) = l.take j ++ [P] := by rw [List.take_add_one, List.getElem?_eq_getElem hlt, hPe]; rfl
      have happ := app_us wr W.heap.size (.slice ao j cap) (l.take j) [P] (by rw [hlen]; exact hown) hfr.size (by simp; omega)
      rw [hlen, ← htk] at happ
      obtain ⟨ao2, cap2, w2, hr, hown2, hf2⟩ := happ
      have HR := hide hr
      have HO := hide (And.intro hown2 (hfr.own hown hf2))
      simp only [List.length_singleton, ucells, List.map_cons, List.map_nil] at HR
      clear hown hfr hPe htk hr hown2 hf2 hlen
      go_wp2_with (at_builtin; refine wpList_app rfl (.tmp 12) (.tmp 18) 27 27 rfl _ _ _ rfl rfl (unhide HR) ?_)
      go_roundw
      case rel => exact ⟨j + 1, ao2, cap2, hlt, rfl, rfl, (unhide HO).1, (unhide HO).2⟩
      case measure => simp [intOf]; omega
    · obtain rfl : j = l.length := by omega
      obtain ⟨ao2, cap2, w2, hr, hown2, hf2⟩ := app_us wr.drew W.heap.size (.slice ao l.length cap) l [77, 77] (by rw [List.take_length] at hown; exact hown) hfr.size (by simp; omega)
      have hf3 := hfr.drew.own (show wr.drew.ownsRow W.heap.size 26 1 (.slice ao l.length cap) l.length _ from hown) hf2
      have hg2 : ∃ g2, ao2 = some ⟨g2, 0, none⟩ ∧ W.heap.size ≤ g2 ∧ l.length + 2 ≤ cap2 ∧ g2 < w2.heap.size ∧ ∀ j u, (ucells (l ++ [77]))[j]? = some u → w2.cell? ⟨g2, j, none⟩ = some u := by
        rcases hown2.2 with ⟨_, e0⟩ | ⟨g2, cap', cur, e, hlt2, hrest⟩
        · simp at e0
        · simp only [Value.slice.injEq] at e
          obtain ⟨rfl, _, rfl⟩ := e
          refine ⟨g2, rfl, hlt2, hrest.2.1, (hown2.lt g2 rfl).2, fun j u hu => ?_⟩
          have := hown2.cells (g := g2) rfl j u (by
            rw [show l ++ [77, 77] = (l ++ [77]) ++ [77] by simp, ucells_app, List.getElem?_append_left (List.getElem?_eq_some_iff.1 hu).1]
            exact hu)
          rw [addr_add, Nat.zero_add] at this
          exact this
      obtain ⟨g2, rfl, hg2n, hcap, hg2l, hcells⟩ := hg2
      have hb1 := (hf3.block w.heap.size (by omega) (fun h => h)).trans (unhide HB).2.1
      have e0 : w2.cell? ⟨w.heap.size, 0, none⟩ = some (.int .u32 (wd : Nat)) := by simp only [World.cell?, hb1]; rfl
      have e1 : w2.cell? ⟨w.heap.size, 1, none⟩ = some (.int .u32 (ow : Nat)) := by simp only [World.cell?, hb1]; rfl
      have e2 : w2.cell? ⟨w.heap.size, 2, none⟩ = some (.bool sl) := by simp only [World.cell?, hb1]; rfl
      have hb2 := (hf3.block (w.heap.size + 1) hsz (fun h => h)).trans (unhide HB).2.2
      have q0 : w2.cell? ⟨w.heap.size + 1, 0, none⟩ = some (.int .u32 0) := by simp only [World.cell?, hb2]; rfl
      have q1 : w2.cell? ⟨w.heap.size + 1, 1, none⟩ = some (.int .u32 0) := by simp only [World.cell?, hb2]; rfl
      have q2 : w2.cell? ⟨w.heap.size + 1, 2, none⟩ = some (.bool false) := by simp only [World.cell?, hb2]; rfl
      have q3 : w2.cell? ⟨w.heap.size + 1, 3, none⟩ = some (.slice none 0 0) := by simp only [World.cell?, hb2]; rfl
      have z0 : w2.frozen? ⟨w.heap.size + 1, 0, none⟩ = false := by simp [World.frozen?, hb2]
      have z1 : w2.frozen? ⟨w.heap.size + 1, 1, none⟩ = false := by simp [World.frozen?, hb2]
      have z2 : w2.frozen? ⟨w.heap.size + 1, 2, none⟩ = false := by simp [World.frozen?, hb2]
      have z3 : w2.frozen? ⟨w.heap.size + 1, 3, none⟩ = false := by simp [World.frozen?, hb2]
      have HR := hide hr
      have HO := hide (And.intro hf3 (And.intro hg2l (And.intro hg2n hcells)))
      simp only [List.length_cons, List.length_nil, ucells, List.map_cons, List.map_nil] at HR
      clear hown hfr hr hown2 hf2 hf3 hlen hg2l hg2n hcells hb1 hb2
      rw [show wr.drew.heap.size = wr.heap.size from rfl] at HR
      have s0 : (0 : Int) ≤ (l.length : Int) := by omega
      have s1 : (l.length : Int) ≤ (cap2 : Int) := by omega
      go_wp2_with fail
      have hSr : wr.drew.cell? ⟨w.heap.size, 0, none⟩ = some (.int .u32 (wd : Nat)) ∧ wr.drew.cell? ⟨w.heap.size, 1, none⟩ = some (.int .u32 (ow : Nat)) ∧ wr.drew.cell? ⟨w.heap.size, 2, none⟩ = some (.bool sl) := ⟨b0, b1, b2⟩
      have hSa : (wr.drew.alloc (.cells #[.int .u32 77, .int .u32 77] 26)).cell? ⟨w.heap.size, 0, none⟩ = some (.int .u32 (wd : Nat)) ∧ (wr.drew.alloc (.cells #[.int .u32 77, .int .u32 77] 26)).cell? ⟨w.heap.size, 1, none⟩ = some (.int .u32 (ow : Nat)) ∧ (wr.drew.alloc (.cells #[.int .u32 77, .int .u32 77] 26)).cell? ⟨w.heap.size, 2, none⟩ = some (.bool sl) := ⟨(World.cell?_alloc_past _ _ _ (show w.heap.size < wr.heap.size by omega)).trans b0, (World.cell?_alloc_past _ _ _ (show w.heap.size < wr.heap.size by omega)).trans b1, (World.cell?_alloc_past _ _ _ (show w.heap.size < wr.heap.size by omega)).trans b2⟩
      have hSw : w2.cell? ⟨w.heap.size, 0, none⟩ = some (.int .u32 (wd : Nat)) ∧ w2.cell? ⟨w.heap.size, 1, none⟩ = some (.int .u32 (ow : Nat)) ∧ w2.cell? ⟨w.heap.size, 2, none⟩ = some (.bool sl) := ⟨e0, e1, e2⟩
      have hfc : Fr (fun k => k = w.heap.size + 1) w2 ((((w2.setCell ⟨w.heap.size + 1, 0, none⟩ (.int .u32 (wd : Nat))).setCell ⟨w.heap.size + 1, 1, none⟩ (.int .u32 (ow : Nat))).setCell ⟨w.heap.size + 1, 2, none⟩ (.bool sl)).setCell ⟨w.heap.size + 1, 3, none⟩ (.slice (some ⟨g2, 0, none⟩) l.length cap2)) := by
        refine Fr.setCell ?_ (Or.inl (show w.heap.size + 1 = w.heap.size + 1 from rfl)) _
        refine Fr.setCell ?_ (Or.inl (show w.heap.size + 1 = w.heap.size + 1 from rfl)) _
        refine Fr.setCell ?_ (Or.inl (show w.heap.size + 1 = w.heap.size + 1 from rfl)) _
        refine Fr.setCell ?_ (Or.inl (show w.heap.size + 1 = w.heap.size + 1 from rfl)) _
        exact Fr.refl _ _
      have hSf : ((((w2.setCell ⟨w.heap.size + 1, 0, none⟩ (.int .u32 (wd : Nat))).setCell ⟨w.heap.size + 1, 1, none⟩ (.int .u32 (ow : Nat))).setCell ⟨w.heap.size + 1, 2, none⟩ (.bool sl)).setCell ⟨w.heap.size + 1, 3, none⟩ (.slice (some ⟨g2, 0, none⟩) l.length cap2)).cell? ⟨w.heap.size, 0, none⟩ = some (.int .u32 (wd : Nat)) ∧ ((((w2.setCell ⟨w.heap.size + 1, 0, none⟩ (.int .u32 (wd : Nat))).setCell ⟨w.heap.size + 1, 1, none⟩ (.int .u32 (ow : Nat))).setCell ⟨w.heap.size + 1, 2, none⟩ (.bool sl)).setCell ⟨w.heap.size + 1, 3, none⟩ (.slice (some ⟨g2, 0, none⟩) l.length cap2)).cell? ⟨w.heap.size, 1, none⟩ = some (.int .u32 (ow : Nat)) ∧ ((((w2.setCell ⟨w.heap.size + 1, 0, none⟩ (.int .u32 (wd : Nat))).setCell ⟨w.heap.size + 1, 1, none⟩ (.int .u32 (ow : Nat))).setCell ⟨w.heap.size + 1, 2, none⟩ (.bool sl)).setCell ⟨w.heap.size + 1, 3, none⟩ (.slice (some ⟨g2, 0, none⟩) l.length cap2)).cell? ⟨w.heap.size, 2, none⟩ = some (.bool sl) := ⟨(hfc.cell (p := ⟨w.heap.size, 0, none⟩) (lt_of_cell e0) (by simp)).trans e0, (hfc.cell (p := ⟨w.heap.size, 1, none⟩) (lt_of_cell e1) (by simp)).trans e1, (hfc.cell (p := ⟨w.heap.size, 2, none⟩) (lt_of_cell e2) (by simp)).trans e2⟩
      have HFC := hide hfc
      clear hfc
      have hSb : (wr.alloc (.cells #[.int .u32 77, .int .u32 77] 26)).drew.cell? ⟨w.heap.size, 0, none⟩ = some (.int .u32 (wd : Nat)) ∧ (wr.alloc (.cells #[.int .u32 77, .int .u32 77] 26)).drew.cell? ⟨w.heap.size, 1, none⟩ = some (.int .u32 (ow : Nat)) ∧ (wr.alloc (.cells #[.int .u32 77, .int .u32 77] 26)).drew.cell? ⟨w.heap.size, 2, none⟩ = some (.bool sl) := hSa
      have HSb := hide hSb
      have HSr := hide hSr
      have HSa := hide hSa
      have HSw := hide hSw
      have HSf := hide hSf
      clear hSr hSa hSb hSw hSf b0 b1 b2 b3 e0 e1 e2
      go_region_held3 (fun w' => w'.cell? ⟨w.heap.size, 0, none⟩ = some (.int .u32 (wd : Nat)) ∧ w'.cell? ⟨w.heap.size, 1, none⟩ = some (.int .u32 (ow : Nat)) ∧ w'.cell? ⟨w.heap.size, 2, none⟩ = some (.bool sl))
        (first | with_reducible exact unhide HSr | with_reducible exact unhide HSa | with_reducible exact unhide HSb | with_reducible exact unhide HSw | with_reducible exact unhide HSf)
        (refine step_app rfl (.tmp 26) (.tmp 27) 27 27 rfl _ _ _ (by simp [Act.eval]) (by simp [Act.eval]) (unhide HR) ?_)
      clear HSr HSa HSb HSw HSf
      go_wp2_with fail
      (try simp only [Exit.inBlock, Exit.then])
      refine bodyPost_ret (results_cell_mid rfl _ _ (w.heap.size + 1) 0 [.int .u32 (wd : Nat), .int .u32 (ow : Nat), .bool sl, .slice (some ⟨g2, 0, none⟩) l.length cap2] _ rfl ?_ Try.underlying29 rfl (by kernel_rfl)) rfl ?_
      · intro j v hv
        rcases j with _ | _ | _ | _ | j
        · simp at hv; subst hv; go_simp
        · simp at hv; subst hv; go_simp
        · simp at hv; subst hv; go_simp
        · simp at hv; subst hv; go_simp
        · simp at hv
      · refine ⟨_, rfl, ⟨g2, cap2, rfl, by omega, Nat.lt_of_lt_of_le (unhide HO).2.1 (unhide HFC).size, fun j u hu => ?_⟩, ?_⟩
        · have hne : ¬ g2 = w.heap.size + 1 := by have := (unhide HO).2.2.1; omega
          exact ((unhide HFC).cell (p := ⟨g2, j, none⟩) (unhide HO).2.1 hne).trans ((unhide HO).2.2.2 j u hu)
        · exact ((unhide HB).1.trans (unhide HO).1 (fun _ _ h => h)).absorb9 (unhide HFC)
end Go.Proofs.Ytficeloegepdkaa
