import Derived.Test.YtoflkfnmbighaaaPk1
import Derived.Test.YtoflkfnmbighaaaDlq
namespace Go.Proofs.Ytoflkfnmbighaaa
open Go.RowKit Go.ChangeShapes Go.WideShapes Go.Maps

theorem Try.infoIn : (Try.prog.info? 3).map (fun i => (i.zero, i.size, i.bytes)) = some (some (.int .i64 0), 1, 8) := by kernel_rfl
theorem icells_app (a b : List Nat) : icells (a ++ b) = icells a ++ icells b := by simp [icells]
/-- append of a number. -/
theorem app_in (w : World) (base z : Nat) (v : Value) (A : List Nat) (h : w.ownsRow base 3 1 v A.length (icells A)) (hl : A.length ≤ 2000000) (hb0 : base ≤ w.heap.size) :
    ∃ ao cap w', (Builtin.append_ #[87, 87] 87 #[v, .slice (some ⟨w.heap.size, 0, none⟩) 1 1]).run Try.prog (w.alloc (.cells #[.int .i64 (z : Nat)] 3)) = .ok (.slice ao (A.length + 1) cap) w' ∧ w'.ownsRow base 3 1 (.slice ao (A.length + 1) cap) (A.length + 1) (icells (A ++ [z])) ∧ Fr (fun g => v.ownBlock = some g) w w' := by
  obtain ⟨i0, hi, hz0, hz1, hz2⟩ := info_parts Try.infoIn
  have h1 : (w.alloc (.cells #[.int .i64 (z : Nat)] 3)).ownsRow base 3 1 v A.length (icells A) := ownsRow_of_block h (fun k hk => Below.heap_alloc _ _ _ (h.lt k hk).2)
  have hx : (w.alloc (.cells #[.int .i64 (z : Nat)] 3)).ownsRow 0 3 1 (.slice (some ⟨w.heap.size, 0, none⟩) 1 1) [z].length (icells [z]) := ⟨by simp [icells], .inr ⟨w.heap.size, 1, _, rfl, Nat.zero_le _, heap_alloc_new w _, Nat.le_refl _, by decide, rfl, by simp [icells]⟩⟩
  obtain ⟨v', w', hr, h2, h3, h4, h5⟩ := run_append_own_at (P := Try.prog) _ base 87 87 3 i0 (.int .i64 0) 1 8 Try.underlying87 hi hz0 hz1 hz2 rfl (by decide) v A.length (icells A) h1 ⟨w.heap.size, 0, none⟩ 1 1 (icells [z]) (by simp [icells]) (fun j u hu => hx.cells (g := w.heap.size) rfl j u hu) (fun u hu => by simp [icells] at hu; subst hu; rfl) (by simp only [maxLen]; omega) (by omega) (by simp; omega)
  obtain ⟨ao, cap', rfl⟩ := own_formX h2
  exact ⟨ao, cap', w', hr, by rw [icells_app]; exact h2, ((box1 w _).mono (fun _ _ h => h.elim)).grown h3 (fun g hg => .inl hg)⟩
theorem ints_of {W : World} {base n c : Nat} {ao : Option Addr} {l : List Nat} (h : W.ownsRow base 3 1 (.slice ao n c) l.length (icells l)) : Ints W ao l := fun j hj => by
  obtain ⟨g, rfl⟩ : ∃ g, ao = some ⟨g, 0, none⟩ := by
    rcases h.2 with ⟨_, e⟩ | ⟨g, c', cur, e, _⟩
    · omega
    · simp only [Value.slice.injEq] at e; exact ⟨g, e.1⟩
  refine ⟨g, 0, rfl, ?_⟩
  have h1 := h.cells (g := g) rfl j (.int .i64 (l[j] : Nat)) (by simp [icells, hj])
  rw [addr_add] at h1
  simpa using h1
/-- The numbers of the pending ones among so many bytes. -/
def pbs (rb : List RB) (k : Nat) : List Nat := ((rb.take k).filter fun b => !b.s).map RB.b
theorem pbs_succ {rb : List RB} {k : Nat} (h : k < rb.length) : pbs rb (k + 1) = pbs rb k ++ (if rb[k].s then [] else [rb[k].b]) := by
  unfold pbs
  rw [List.take_succ_eq_append_getElem h, List.filter_append, List.map_append]
  cases hs : rb[k].s <;> simp [hs]
/-- Those of so many files. -/
def brn (Fs : List GF) (j : Nat) : List Nat := (Fs.take j).flatMap fun x => pbs x.1.rb x.1.rb.length
theorem brn_succ {Fs : List GF} {j : Nat} (h : j < Fs.length) : brn Fs (j + 1) = brn Fs j ++ pbs Fs[j].1.rb Fs[j].1.rb.length := by
  unfold brn
  rw [List.take_succ_eq_append_getElem h, List.flatMap_append]
  simp
theorem pbs_len (rb : List RB) (k : Nat) : (pbs rb k).length ≤ k := by
  unfold pbs
  have := List.length_filter_le (fun b : RB => !b.s) (rb.take k)
  simp at this ⊢
  omega
theorem brn_len (Fs : List GF) (j : Nat) : (brn Fs j).length ≤ lenN Fs j := by
  induction j with
  | zero => simp [brn]
  | succ j ih =>
    rcases Nat.lt_or_ge j Fs.length with h | h
    · rw [brn_succ h, lenN_succ (List.getElem?_eq_getElem h), List.length_append]
      have := pbs_len Fs[j].1.rb Fs[j].1.rb.length
      omega
    · have e : lenN Fs (j + 1) = lenN Fs j := by unfold lenN; rw [List.take_of_length_le (by omega), List.take_of_length_le (by omega)]
      have e2 : brn Fs (j + 1) = brn Fs j := by unfold brn; rw [List.take_of_length_le (by omega), List.take_of_length_le (by omega)]
      rw [e, e2]; exact ih
/-- What a crash leaves of some bytes. -/
def crB (last : Nat) (l : List RB) : List RB := (l.filter fun b => b.s || decide (b.b < last)).map fun b => { b with s := true }
theorem crB_succ (last : Nat) {rb : List RB} {k : Nat} (h : k < rb.length) : crB last (rb.take (k + 1)) = crB last (rb.take k) ++ (if (rb[k].s || decide (rb[k].b < last)) = true then [{ rb[k] with s := true }] else []) := by
  unfold crB
  rw [List.take_succ_eq_append_getElem h, List.filter_append, List.map_append]
  cases hs : (rb[k].s || decide (rb[k].b < last)) <;> simp [hs]
theorem crB_len (last : Nat) (l : List RB) : (crB last l).length ≤ l.length := by
  unfold crB
  rw [List.length_map]
  exact List.length_filter_le _ _
theorem pbs_mem {rb : List RB} {k b : Nat} (h : b ∈ pbs rb k) : ∃ y ∈ rb, y.b = b := by
  unfold pbs at h
  obtain ⟨y, hy, e⟩ := List.mem_map.mp h
  exact ⟨y, List.mem_of_mem_take (List.mem_filter.mp hy).1, e⟩
theorem brn_mem {Fs : List GF} {j b : Nat} (h : b ∈ brn Fs j) : ∃ x ∈ Fs, ∃ y ∈ x.1.rb, y.b = b := by
  unfold brn at h
  obtain ⟨x, hx, h2⟩ := List.mem_flatMap.mp h
  obtain ⟨y, hy, e⟩ := pbs_mem h2
  exact ⟨x, List.mem_of_mem_take hx, y, hy, e⟩
def crF (last : Nat) (f : RFl) : RFl := ⟨f.name, crB last f.rb⟩
theorem lenN_mono (Fs : List GF) {a b : Nat} (h : a ≤ b) : lenN Fs a ≤ lenN Fs b := by
  induction b with
  | zero => rw [show a = 0 by omega]; exact Nat.le_refl _
  | succ b ih =>
    rcases Nat.lt_or_ge a (b + 1) with h1 | h1
    · refine Nat.le_trans (ih (by omega)) ?_
      rcases Nat.lt_or_ge b Fs.length with h2 | h2
      · rw [lenN_succ (List.getElem?_eq_getElem h2)]; omega
      · unfold lenN; rw [List.take_of_length_le (by omega), List.take_of_length_le (by omega)]; exact Nat.le_refl _
    · rw [show a = b + 1 by omega]; exact Nat.le_refl _
set_option maxHeartbeats 2000000 in
set_option maxRecDepth 100000 in
/-- Crash. -/
theorem gcrash_any (li bo wt : Nat) (fs : List RFl) (ar te : Int) (off fu : Bool) (ao : Option Addr) (c : Nat) (Fs : List GF) (T : Nat → Prop) (keep : Int) (W : World) (h : GAt W (.slice ao Fs.length c) Fs T) (hl : Fs.length ≤ 256) (hb : ∀ x ∈ Fs, x.1.rb.length ≤ 1048576) (htot : lenN Fs Fs.length ≤ 1048576) (hbn : ∀ x ∈ Fs, ∀ y ∈ x.1.rb, y.b < 2305843009213693952) :
    Calls Try.prog 18 #[(RD.mk li bo wt fs ar te off fu).agg (.slice ao Fs.length c), .int .i64 keep] W fun e w' => e = .returned ((RD.mk li bo wt fs 0 te true fu).agg (.slice ao Fs.length c)) ∧ (∃ (last : Nat) (Fs' : List GF) (T' : Nat → Prop), (∀ z, z < last → (upTo (brn Fs Fs.length) z : Int) ≤ keep) ∧ (last = mxN (brn Fs Fs.length) (brn Fs Fs.length).length ∨ keep < (upTo (brn Fs Fs.length) last : Int)) ∧ Fs'.map Prod.fst = (Fs.map Prod.fst).map (crF last) ∧ GAt w' (.slice ao Fs.length c) Fs' T' ∧ ∀ k, T' k → T k ∨ W.heap.size ≤ k) ∧ Fr T W w' := by
  obtain ⟨w, hw⟩ : ∃ w, w = (W.alloc (.cells ((RD.mk li bo wt fs 0 te true fu).cells (.slice ao Fs.length c)) 30)).alloc (.cells zero8 30) := ⟨_, rfl⟩
  have hB : B2 W w ((RD.mk li bo wt fs 0 te true fu).cells (.slice ao Fs.length c)) := by rw [hw]; exact B2.new _ _
  have hG := h.fr0 hB.f
  have C3 := hide (show w.cell? ⟨W.heap.size, 3, none⟩ = some (.slice ao Fs.length c) from cell_of_blk hB.d rfl)
  have HX := hide (And.intro hB (And.intro hG (And.intro h (And.intro hb (And.intro htot hbn)))))
  unfold RD.cells zero8 at hw
  unfold RD.agg
  dsimp only at hw ⊢
  clear hB hG h hb htot hbn
  go_enter Try.func18, Try.ntmps18
  go_wp2_with fail
  rw [← hw]
  clear hw
  go_loopw [5, 6] (fun bv iv wr => ∃ (j : Nat) (lo : Option Addr) (lc : Nat), j ≤ Fs.length ∧ iv = .int .i64 (j : Nat) ∧ bv = .slice lo (brn Fs j).length lc ∧ wr.ownsRow w.heap.size 3 1 (.slice lo (brn Fs j).length lc) (brn Fs j).length (icells (brn Fs j)) ∧ Fr (fun _ => False) w wr) (fun _ iv _ => Fs.length - (intOf iv).toNat)
  case atStart => exact ⟨0, none, 0, Nat.zero_le _, rfl, rfl, World.ownsRow_nil _ _ _ _, Fr.refl _ _⟩
  case round =>
    obtain ⟨j, lo, lc, hj, rfl, rfl, hrow, hfr⟩ := hrel
    have c3 : wr.cell? ⟨W.heap.size, 3, none⟩ = some (.slice ao Fs.length c) := (hfr.cell (p := ⟨W.heap.size, 3, none⟩) (lt_of_cell (unhide C3)) (fun h => h)).trans (unhide C3)
    by_cases hlt : j < Fs.length
    · have hkl : (j : Int) < (Fs.length : Int) := by omega
      have hxj := List.getElem?_eq_getElem hlt
      have hGr := (unhide HX).2.1.fr0 hfr
      obtain ⟨g, rfl, hTg, d0, d1, _⟩ := hGr.at_ hxj
      obtain ⟨fo, fc, hform⟩ := hGr.form hxj
      have hrb := hGr.b _ (List.getElem_mem hlt)
      rw [hform] at d1 hrb
      have hlen := (unhide HX).2.2.2.1 _ (List.getElem_mem hlt)
      have hsum : lenN Fs j + Fs[j].1.rb.length ≤ 1048576 := by
        have h1 := lenN_succ hxj
        have h2 := lenN_mono Fs (show j + 1 ≤ Fs.length by omega)
        have h3 := (unhide HX).2.2.2.2.1
        omega
      have hbl := brn_len Fs j
      have HS := hide (brn_succ hlt)
      generalize hrbx : Fs[j].1.rb = rb at *
      have HF0 := hide hform
      have HD := hide (And.intro d1 (And.intro hrb (And.intro hrow hfr)))
      clear d0 d1 hrb hrow hfr hGr hxj hform
      go_wp2_with fail
      go_loopw [5, 7] (fun bv kv wq => ∃ (k : Nat) (lo2 : Option Addr) (lc2 : Nat), k ≤ rb.length ∧ kv = .int .i64 (k : Nat) ∧ bv = .slice lo2 (brn Fs j ++ pbs rb k).length lc2 ∧ wq.ownsRow w.heap.size 3 1 (.slice lo2 (brn Fs j ++ pbs rb k).length lc2) (brn Fs j ++ pbs rb k).length (icells (brn Fs j ++ pbs rb k)) ∧ Fr (fun k => w.heap.size ≤ k) wr wq) (fun _ kv _ => rb.length - (intOf kv).toNat)
      case atStart => exact ⟨0, lo, lc, Nat.zero_le _, rfl, by simp [pbs], by simpa [pbs] using (unhide HD).2.2.1, Fr.refl _ _⟩
      case round =>
        obtain ⟨k, lo2, lc2, hk, rfl, rfl, hrow2, hf2⟩ := hrel
        obtain ⟨d1, hrb, hrow0, hfr0⟩ := unhide HD
        have hsz : W.heap.size + 1 < w.heap.size := lt_of_block (unhide HX).1.z
        have hgW := (unhide HX).2.2.1.lt g hTg
        have c3' := (hf2.cell (p := ⟨W.heap.size, 3, none⟩) (lt_of_cell c3) (fun e => by have e' : w.heap.size ≤ W.heap.size := e; omega)).trans c3
        have d1' := (hf2.cell (p := ⟨g, j * 2 + 1, none⟩) (lt_of_cell d1) (fun e => by have e' : w.heap.size ≤ g := e; omega)).trans d1
        have hbW : ∀ q, (Value.slice fo rb.length fc).ownBlock = some q → q < W.heap.size := fun q hq => (unhide HX).2.2.1.lt q ((unhide HX).2.2.1.tb _ (List.getElem_mem hlt) q (by rw [unhide HF0]; exact hq))
        have hrb' := ownsRow_of_block hrb (fun q hq => hf2.block q (hrb.lt q hq).2 (fun e => by have e' : w.heap.size ≤ q := e; have := hbW q hq; omega))
        have hFw := hfr0.trans hf2 (fun i hi e => by have e' : w.heap.size ≤ i := e; omega)
        clear c3
        by_cases hlt2 : k < rb.length
        · have hkl2 : (k : Int) < (rb.length : Int) := by omega
          obtain ⟨g2, rfl, _, _, _, _, e1, e2, _⟩ := row_at hrb' (List.getElem?_eq_getElem hlt2)
          have hps := pbs_succ hlt2
          have hpl := pbs_len rb k
          cases hsk : rb[k].s with
          | true =>
            rw [hsk] at e2 hps
            simp only [if_true, List.append_nil] at hps
            have HS2 := hide (And.intro hps (And.intro hrow2 hf2))
            clear hrow2 hf2 hrb' hrb hrow0 hfr0 hFw hbW hps d1
            go_wp2_with fail
            exact ⟨⟨k + 1, lo2, lc2, hlt2, by go_num, by rw [(unhide HS2).1], by rw [(unhide HS2).1]; exact (unhide HS2).2.1, (unhide HS2).2.2⟩, by simp [intOf]; omega⟩
          | false =>
            rw [hsk] at e2 hps
            simp only [Bool.false_eq_true, if_false] at hps
            obtain ⟨a3, k3, w3, hr3, ho3, hf3⟩ := app_in wr w.heap.size rb[k].b _ _ hrow2 (by rw [List.length_append]; omega) hFw.size
            have hps2 : brn Fs j ++ pbs rb (k + 1) = (brn Fs j ++ pbs rb k) ++ [rb[k].b] := by rw [hps, List.append_assoc]
            have hll2 : (brn Fs j ++ pbs rb (k + 1)).length = (brn Fs j ++ pbs rb k).length + 1 := by rw [hps2, List.length_append]; rfl
            rw [← hps2] at ho3
            rw [← hll2] at ho3
            have HS2 := hide (And.intro hll2 (And.intro ho3 (hf2.trans hf3 (fun i hi e => (hrow2.lt i e).1))))
            generalize rb[k].b = bb at *
            have HR3 := hide hr3
            clear hrow2 hf2 hrb' hrb hrow0 hfr0 hFw hbW hps hps2 hll2 ho3 hf3 hr3 d1
            go_wp2_with (first | (at_builtin; refine wpList_app rfl _ _ 87 87 rfl _ _ _ rfl rfl (unhide HR3) ?_))
            exact ⟨⟨k + 1, a3, k3, hlt2, by go_num, by rw [(unhide HS2).1, List.length_append], (unhide HS2).2.1, (unhide HS2).2.2⟩, by simp [intOf]; omega⟩
        · have hkl2 : ¬ (k : Int) < (rb.length : Int) := by omega
          obtain rfl : rb.length = k := by omega
          have HS2 := hide (And.intro hrow2 hFw)
          clear hrow2 hf2 hrb' hrb hrow0 hfr0 hFw hbW d1
          go_wp2_with fail
          exact ⟨⟨j + 1, lo2, lc2, hlt, by go_num, by rw [unhide HS], by rw [unhide HS]; exact (unhide HS2).1, (unhide HS2).2⟩, by simp [intOf]; omega⟩
    · have hkl : ¬ (j : Int) < (Fs.length : Int) := by omega
      obtain rfl : Fs.length = j := by omega
      have hbd := gbound_any lo lc (brn Fs Fs.length) keep wr (ints_of hrow) (by have := brn_len Fs Fs.length; have := (unhide HX).2.2.2.2.1; omega) (fun b hb => by obtain ⟨x, hx, y, hy, e⟩ := brn_mem hb; rw [← e]; exact (unhide HX).2.2.2.2.2 x hx y hy)
      have HB := hide hbd
      have HF := hide hfr
      generalize hbr : brn Fs Fs.length = bs at *
      clear hrow hfr hbd
      go_wp2_with fail
      refine (unhide HB).mono ?_
      rintro e w5 ⟨last, rfl, rfl, hq1, hq2⟩
      have HQ := hide (And.intro hq1 hq2)
      clear hq1 hq2 HB
      have hsz : W.heap.size + 1 < w.heap.size := lt_of_block (unhide HX).1.z
      go_wp2_with fail
      go_loopw [9] (fun iv wq => ∃ (j : Nat) (Fs2 : List GF) (T2 : Nat → Prop), j ≤ Fs.length ∧ iv = .int .i64 (j : Nat) ∧ Fs2.length = Fs.length ∧ (∀ (i : Nat) (x y : GF), Fs2[i]? = some x → Fs[i]? = some y → x.1 = if i < j then crF last y.1 else y.1) ∧ GAt wq (.slice ao Fs.length c) Fs2 T2 ∧ (∀ k, T2 k → T k ∨ W.heap.size + 2 ≤ k) ∧ B2 W w5 #[.int .i64 (li : Nat), .int .i64 (bo : Nat), .int .i64 (wt : Nat), .slice ao Fs.length c, .int .i64 0, .int .i64 te, .bool true, .bool fu] ∧ wq.heap[W.heap.size]? = w5.heap[W.heap.size]? ∧ wq.heap[W.heap.size + 1]? = w5.heap[W.heap.size + 1]? ∧ Fr T W wq) (fun iv _ => Fs.length - (intOf iv).toNat)
      case atStart =>
        have hB5 := (unhide HX).1.fr0 (unhide HF)
        exact ⟨0, Fs, T, Nat.zero_le _, rfl, rfl, fun i x y hx hy => by rw [hx] at hy; cases hy; simp, (unhide HX).2.1.fr0 (unhide HF), fun k hk => .inl hk, hB5, rfl, rfl, hB5.f.mono (fun _ _ h => h.elim)⟩
      case round =>
        obtain ⟨j, Fs2, T2, hj, rfl, hlen2, hrel2, hG2, hT2, hB5, hbd, hbz, hFT⟩ := hrel
        have hTW : ∀ k, T k → k < W.heap.size := fun k hk => (unhide HX).2.2.1.lt k hk
        have hd5 := hbd.trans hB5.d
        have c3r : wr.cell? ⟨W.heap.size, 3, none⟩ = some (.slice ao Fs.length c) := cell_of_blk hd5 rfl
        by_cases hlt : j < Fs.length
        · have hkl : (j : Int) < (Fs.length : Int) := by omega
          have hlt2 : j < Fs2.length := by omega
          have hxj := List.getElem?_eq_getElem hlt2
          have hx1 := hrel2 j _ _ hxj (List.getElem?_eq_getElem hlt)
          rw [if_neg (Nat.lt_irrefl j)] at hx1
          rw [← hlen2] at hG2
          obtain ⟨g, hao, hTg, d0, d1, _⟩ := hG2.at_ hxj
          obtain ⟨fo, fc, hform⟩ := hG2.form hxj
          have hrb := hG2.b _ (List.getElem_mem hlt2)
          have hlenb := (unhide HX).2.2.2.1 _ (List.getElem_mem hlt)
          rw [← hx1] at hlenb
          rw [hform] at d1 hrb
          rw [hlen2] at hG2
          generalize hrbx : Fs2[j].1.rb = rb at *
          have hgw : g < wr.heap.size := hG2.lt g hTg
          have hszr : W.heap.size + 1 < wr.heap.size := lt_of_block (hbz.trans hB5.z)
          have hgb : g ≠ W.heap.size ∧ g ≠ W.heap.size + 1 := by
            rcases hT2 g hTg with e | e
            · have := hTW g e; omega
            · omega
          have HD := hide (And.intro d1 (And.intro hrb (And.intro hG2 (And.intro hxj (And.intro hform (And.intro hx1 (And.intro hrel2 (And.intro hT2 (And.intro hB5 (And.intro hbd (And.intro hbz (And.intro hFT (And.intro hlen2 hrbx)))))))))))))
          subst hao
          have C3r := hide c3r
          clear d0 d1 hrb hG2 hxj hform hx1 hrel2 hT2 hB5 hbd hbz hFT hlen2 hd5
          go_wp2_with fail
          go_loopw [10, 11] (fun lv kv wq => ∃ (k : Nat) (lo2 : Option Addr) (lc2 : Nat), k ≤ rb.length ∧ kv = .int .i64 (k : Nat) ∧ lv = .slice lo2 (crB last (rb.take k)).length lc2 ∧ wq.ownsRow wr.heap.size 89 3 (.slice lo2 (crB last (rb.take k)).length lc2) (crB last (rb.take k)).length (bcells (crB last (rb.take k))) ∧ Fr (fun _ => False) wr wq) (fun _ kv _ => rb.length - (intOf kv).toNat)
          case atStart => exact ⟨0, none, 0, Nat.zero_le _, rfl, rfl, World.ownsRow_nil _ _ _ _, Fr.refl _ _⟩
          case round =>
            obtain ⟨k, lo2, lc2, hk, rfl, rfl, hrow2, hf2⟩ := hrel
            obtain ⟨d1, hrb, hrest⟩ := unhide HD
            have c3q := (hf2.cell (p := ⟨W.heap.size, 3, none⟩) (lt_of_cell (unhide C3r)) (fun e => e)).trans (unhide C3r)
            have d1' := (hf2.cell (p := ⟨g, j * 2 + 1, none⟩) (lt_of_cell d1) (fun e => e)).trans d1
            have hrb' := ownsRow_of_block hrb (fun q hq => hf2.block q (hrb.lt q hq).2 (fun e => e))
            clear c3r
            by_cases hlt3 : k < rb.length
            · have hkl3 : (k : Int) < (rb.length : Int) := by omega
              obtain ⟨g2, rfl, _, _, _, e0, e1, e2, _⟩ := row_at hrb' (List.getElem?_eq_getElem hlt3)
              have hcs := crB_succ last hlt3
              have hcl := crB_len last (rb.take k)
              rw [List.length_take] at hcl
              have hsA : (wr.alloc (.cells #[.int .u8 ((rb[k].v % 256 : Nat) : Int), .int .i64 (rb[k].b : Nat), .bool rb[k].s] 89)).heap.size = wr.heap.size + 1 := by simp
              have hrA := ownsRow_of_block (w' := (wr.alloc (.cells #[.int .u8 ((rb[k].v % 256 : Nat) : Int), .int .i64 (rb[k].b : Nat), .bool rb[k].s] 89)).alloc (.cells #[.int .u8 ((rb[k].v % 256 : Nat) : Int), .int .i64 (rb[k].b : Nat), .bool true] 89)) hrow2 (fun q hq => (Below.heap_alloc _ _ _ (by rw [hsA]; have := (hrow2.lt q hq).2; omega)).trans (Below.heap_alloc _ _ _ (hrow2.lt q hq).2))
              obtain ⟨a3, k3, w3, hr3, ho3, hf3, hn3⟩ := app_by _ _ 0 _ _ _ [{ rb[k] with s := true }] hrA (lit_by (wr.alloc (.cells #[.int .u8 ((rb[k].v % 256 : Nat) : Int), .int .i64 (rb[k].b : Nat), .bool rb[k].s] 89)) { rb[k] with s := true }) (by simp; omega) (by simp; have := hf2.size; omega)
              simp only [List.length_cons, List.length_nil, Nat.zero_add] at hr3 ho3
              rw [hsA] at hr3
              have hf23 := hf2.absorb ((((Fr.refl (fun _ => False) wr).alloc _).alloc _).mono (fun _ _ h => h.elim) |>.trans hf3 (fun _ _ h => h)) (fun i hi => (hrow2.lt i hi).1)
              cases hc : (rb[k].s || decide (rb[k].b < last)) with
              | true =>
                rw [hc, if_pos rfl] at hcs
                have hll : (crB last (rb.take (k + 1))).length = (crB last (rb.take k)).length + 1 := by rw [hcs, List.length_append]; rfl
                rw [← hcs, ← hll] at ho3
                have HS2 := hide (And.intro hll (And.intro ho3 hf23))
                clear hrow2 hf2 hrb' hrb hcs hll ho3 hf3 hn3 hrA hf23 hrest hcl hsA d1
                generalize rb[k].v % 256 = vv at *
                generalize rb[k].b = bb at *
                have HR3 := hide hr3
                clear hr3
                cases hs : rb[k].s with
                | true =>
                  rw [hs] at e2 HR3 hc
                  clear hc
                  go_wp2_with (first | (at_builtin; refine wpList_app rfl _ _ 58 58 rfl _ _ _ rfl rfl (unhide HR3) ?_))
                  exact ⟨⟨k + 1, a3, k3, hlt3, by go_num, by rw [(unhide HS2).1], (unhide HS2).2.1, (unhide HS2).2.2⟩, by simp [intOf]; omega⟩
                | false =>
                  rw [hs] at e2 HR3 hc
                  have hbl : (bb : Int) < (last : Int) := by simp at hc; omega
                  clear hc
                  go_wp2_with (first | (at_builtin; refine wpList_app rfl _ _ 58 58 rfl _ _ _ rfl rfl (unhide HR3) ?_))
                  exact ⟨⟨k + 1, a3, k3, hlt3, by go_num, by rw [(unhide HS2).1], (unhide HS2).2.1, (unhide HS2).2.2⟩, by simp [intOf]; omega⟩
              | false =>
                rw [hc] at hcs
                simp only [Bool.false_eq_true, if_false, List.append_nil] at hcs
                have hs : rb[k].s = false := by cases h9 : rb[k].s <;> simp_all
                have hbl : ¬ (rb[k].b : Int) < (last : Int) := by simp [hs] at hc; omega
                rw [hs] at e2
                have hb2 : Fr (fun _ => False) wr (wr.alloc (.cells #[.int .u8 ((rb[k].v % 256 : Nat) : Int), .int .i64 (rb[k].b : Nat), .bool false] 89)) := box1 _ _
                have HS2 := hide (And.intro hcs (And.intro (ownsRow_of_block (w' := wr.alloc (.cells #[.int .u8 ((rb[k].v % 256 : Nat) : Int), .int .i64 (rb[k].b : Nat), .bool false] 89)) hrow2 (fun q hq => Below.heap_alloc _ _ _ (hrow2.lt q hq).2)) (hf2.trans hb2 (fun _ _ h => h))))
                clear hrow2 hf2 hrb' hrb hcs ho3 hf3 hn3 hrA hf23 hrest hcl hsA d1 hr3 hb2 hc hs
                generalize rb[k].v % 256 = vv at *
                generalize rb[k].b = bb at *
                go_wp2_with fail
                exact ⟨⟨k + 1, lo2, lc2, hlt3, by go_num, by rw [(unhide HS2).1], by rw [(unhide HS2).1]; exact (unhide HS2).2.1, (unhide HS2).2.2⟩, by simp [intOf]; omega⟩
            · have hkl3 : ¬ (k : Int) < (rb.length : Int) := by omega
              obtain rfl : rb.length = k := by omega
              rw [List.take_length] at hrow2
              obtain ⟨hG2, hxj, hform, hx1, hrel2, hT2, hB5, hbd, hbz, hFT, hlen2, hrbx⟩ := hrest
              have hfzr : wr.frozen? ⟨g, j * 2 + 1, none⟩ = false := by
                obtain ⟨cur, hb⟩ := own_blk (hG2.fr0 hf2).row rfl
                simp [World.frozen?, hb]
              obtain ⟨w8, hw8⟩ : ∃ w8, w8 = wr.setCell ⟨g, j * 2 + 1, none⟩ (.slice lo2 (crB last rb).length lc2) := ⟨_, rfl⟩
              have hf8 : Fr (fun q => q = g) wr w8 := by rw [hw8]; exact (Fr.refl (fun q => q = g) wr).setCell (p := ⟨g, j * 2 + 1, none⟩) (.inl rfl) _
              have hv8 : w8.ownsRow 0 60 2 (.slice (some ⟨g, 0, none⟩) Fs.length c) Fs2.length (gcells (Fs2.set j (⟨Fs2[j].1.name, crB last rb⟩, .slice lo2 (crB last rb).length lc2))) := by
                have h0 := (hG2.fr0 hf2).row
                rw [hlen2] at h0 ⊢
                have h1 := (h0.stored (j * 2 + 1) (.slice lo2 (crB last rb).length lc2)).1
                rw [gcells_set Fs2 j _ hxj _ (⟨Fs2[j].1.name, crB last rb⟩, .slice lo2 (crB last rb).length lc2) (by simp [fc2])] at h1
                rw [hw8]
                exact h1
              have hb8 : w8.ownsRow 0 89 3 (.slice lo2 (crB last rb).length lc2) (crB last rb).length (bcells (crB last rb)) := ownsRow_base (ownsRow_of_block hrow2 (fun q hq => hf8.block q (hrow2.lt q hq).2 (fun e => by have e' : q = g := e; have := (hrow2.lt q hq).1; omega))) (Nat.zero_le _)
              have hf08 := (hf2.mono (T := fun q => (Value.slice (some ⟨g, 0, none⟩) Fs.length c).ownBlock = some q ∨ Fs2[j].2.ownBlock = some q) (fun _ _ h => h.elim)).trans hf8 (fun i hi e => .inl (by have e' : i = g := e; rw [e']; rfl))
              have hG8 := hG2.file (y := (⟨Fs2[j].1.name, crB last rb⟩, .slice lo2 (crB last rb).length lc2)) hxj hf08 hv8 hb8 (fun q hq => .inr (hrow2.lt q hq).1)
              have hF8 : Fr T W w8 := (hFT.trans hf2 (fun _ _ h => h.elim)).trans hf8 (fun i hi e => by
                have e' : i = g := e
                rcases hT2 g hTg with h9 | h9
                · rw [e']; exact h9
                · omega)
              have hbd8 := (hf8.block _ (Nat.lt_of_lt_of_le (lt_of_block (hbd.trans hB5.d)) hf2.size) (fun e => hgb.1 (show g = W.heap.size from (show W.heap.size = g from e).symm))).trans ((hf2.block _ (lt_of_block (hbd.trans hB5.d)) (fun e => e)).trans hbd)
              have hbz8 := (hf8.block _ (Nat.lt_of_lt_of_le (lt_of_block (hbz.trans hB5.z)) hf2.size) (fun e => hgb.2 (show g = W.heap.size + 1 from (show W.heap.size + 1 = g from e).symm))).trans ((hf2.block _ (lt_of_block (hbz.trans hB5.z)) (fun e => e)).trans hbz)
              have hrel8 : ∀ (i : Nat) (x y : GF), (Fs2.set j (⟨Fs2[j].1.name, crB last rb⟩, .slice lo2 (crB last rb).length lc2))[i]? = some x → Fs[i]? = some y → x.1 = if i < j + 1 then crF last y.1 else y.1 := fun i x y hx hy => by
                rw [List.getElem?_set] at hx
                by_cases e : j = i
                · subst e
                  have : j < Fs2.length := by omega
                  simp only [if_true, this] at hx
                  cases hx
                  rw [List.getElem?_eq_getElem hlt] at hy
                  cases hy
                  rw [if_pos (Nat.lt_succ_self j), ← hx1, ← hrbx]
                  rfl
                · rw [if_neg e] at hx
                  rw [hrel2 i x y hx hy]
                  by_cases h9 : i < j
                  · rw [if_pos h9, if_pos (by omega)]
                  · rw [if_neg h9, if_neg (by omega)]
              have HS2 := hide (And.intro hG8 (And.intro hF8 (And.intro hbd8 (And.intro hbz8 (And.intro hrel8 (And.intro hT2 (And.intro hB5 (And.intro hlen2 hrow2))))))))
              have hwr := hf2.size
              rw [hw8] at HS2
              clear hG8 hF8 hbd8 hbz8 hrel8 hT2 hB5 hlen2 hrow2 hf08 hb8 hv8 hf8 hw8 hG2 hxj hform hx1 hrel2 hbd hbz hFT hrbx hf2 hrb' hrb d1 HD
              rw [List.take_length]
              go_wp2_with fail
              exact ⟨⟨j + 1, _, _, hlt, by go_num, by rw [List.length_set]; exact (unhide HS2).2.2.2.2.2.2.2.1, (unhide HS2).2.2.2.2.1, (unhide HS2).1, fun q hq => hq.elim (fun h9 => (unhide HS2).2.2.2.2.2.1 q h9) (fun h9 => .inr (by have := ((unhide HS2).2.2.2.2.2.2.2.2.lt q h9).1; omega)), (unhide HS2).2.2.2.2.2.2.1, (unhide HS2).2.2.1, (unhide HS2).2.2.2.1, (unhide HS2).2.1⟩, by simp [intOf]; omega⟩
        · have hkl : ¬ (j : Int) < (Fs.length : Int) := by omega
          obtain rfl : Fs.length = j := by omega
          obtain ⟨V, hrV, hgV, hfV⟩ := gbox (hbz.trans hB5.z) (RD.mk li bo wt fs 0 te true fu) ao Fs.length c
          have hfin := hG2.fr hfV (fun k hk e => by
            have e' : k = W.heap.size + 1 := e
            rcases hT2 k hk with h9 | h9
            · have := hTW k h9; omega
            · omega)
          have hTT : Fr T W V := hFT.trans hfV (fun i hi e => by have e' : i = W.heap.size + 1 := e; omega)
          have hmap : Fs2.map Prod.fst = (Fs.map Prod.fst).map (crF last) := by
            apply List.ext_getElem?
            intro i
            rw [List.getElem?_map, List.getElem?_map, List.getElem?_map]
            rcases Nat.lt_or_ge i Fs.length with h9 | h9
            · have h8 : i < Fs2.length := by omega
              have := hrel2 i _ _ (List.getElem?_eq_getElem h8) (List.getElem?_eq_getElem h9)
              rw [if_pos h9] at this
              rw [List.getElem?_eq_getElem h8, List.getElem?_eq_getElem h9]
              simp [this]
            · rw [List.getElem?_eq_none (by omega), List.getElem?_eq_none h9]
              rfl
          unfold RD.agg at hrV
          dsimp only at hrV
          have HV := hide hrV
          have HE := hide (And.intro hgV (And.intro hmap (And.intro hfin (And.intro hT2 hTT))))
          obtain ⟨c0, c1, c2, c3, c4, c5, c6, c7, _⟩ := cells_of8 hd5
          clear hrV hgV hfV hfin hTT hmap hG2 hrel2 hT2 hB5 hbd hbz hFT hlen2 hd5 c3r HX HF C3
          go_wp2_with (refine wpList_stN rfl 30 (.tmp 4) _ rfl _ _ rfl rfl (unhide HV) ?_)
          (try simp only [Exit.inBlock, Exit.then])
          refine bodyPost_ret (results_cell_mid rfl _ _ (W.heap.size + 1) 0 _ _ rfl (unhide HE).1 Try.underlying30 rfl (by kernel_rfl)) rfl ?_
          exact ⟨rfl, ⟨last, (unhide HQ).1, (unhide HQ).2, Fs2, (unhide HE).2.1.trans (by simp), T2, (unhide HE).2.2.1, fun k hk => ((unhide HE).2.2.2.1 k hk).elim .inl (fun h9 => .inr (by omega))⟩, (unhide HE).2.2.2.2⟩
end Go.Proofs.Ytoflkfnmbighaaa

namespace Go.Proofs.Ytoflkfnmbighaaa
open Go.RowKit Go.ChangeShapes Go.WideShapes Go.Maps

theorem fm_congr {α β : Type} {l : List α} {f g : α → List β} (h : ∀ a ∈ l, f a = g a) : l.flatMap f = l.flatMap g := by
  rw [List.flatMap_def, List.flatMap_def, List.map_congr_left h]
/-- The numbers of a file's pending bytes. -/
theorem pbs_drop {f : FM} {rb : List RB} {wr born : Nat} (h : FR f rb wr born) : pbs rb rb.length = (rb.drop f.safe).map RB.b := by
  unfold pbs
  rw [List.take_length]
  congr 1
  have e : rb = rb.take f.safe ++ rb.drop f.safe := (List.take_append_drop _ _).symm
  have h1 : (rb.take f.safe).filter (fun b => !b.s) = [] := by
    rw [List.filter_eq_nil_iff]
    intro b hb
    obtain ⟨i, hi, rfl⟩ := List.getElem_of_mem hb
    simp at hi
    have := h.s i (by omega)
    simp [this]; omega
  have h2 : (rb.drop f.safe).filter (fun b => !b.s) = rb.drop f.safe := by
    rw [List.filter_eq_self]
    intro b hb
    obtain ⟨i, hi, rfl⟩ := List.getElem_of_mem hb
    simp at hi
    have := h.s (f.safe + i) (by omega)
    simp [this]
  conv => lhs; rw [e]
  rw [List.filter_append, h1, h2, List.nil_append]
theorem safeN_eq {f : FM} {rb : List RB} {wr born : Nat} (h : FR f rb wr born) : safeN rb rb.length = f.safe := by
  unfold safeN
  rw [List.take_length]
  have e : rb = rb.take f.safe ++ rb.drop f.safe := (List.take_append_drop _ _).symm
  rw [e, List.countP_append]
  have h1 : (rb.take f.safe).countP (fun x => x.s) = (rb.take f.safe).length := by
    rw [List.countP_eq_length]
    intro b hb
    obtain ⟨i, hi, rfl⟩ := List.getElem_of_mem hb
    simp at hi
    have := h.s i (by omega)
    simp [this]; omega
  have h2 : (rb.drop f.safe).countP (fun x => x.s) = 0 := by
    rw [List.countP_eq_zero]
    intro b hb
    obtain ⟨i, hi, rfl⟩ := List.getElem_of_mem hb
    simp at hi
    have := h.s (f.safe + i) (by omega)
    simp [this]
  rw [h1, h2, List.length_take]
  have := h.sl
  omega
/-- What a crash leaves of a file: its beginning. -/
theorem crB_take {f : FM} {rb : List RB} {wr born : Nat} (h : FR f rb wr born) (last : Nat) : crB last rb = (rb.take (f.safe + ((rb.drop f.safe).map RB.b).countP (fun b => decide (b < last)))).map fun b => { b with s := true } := by
  unfold crB
  congr 1
  have e : rb = rb.take f.safe ++ rb.drop f.safe := (List.take_append_drop _ _).symm
  have h1 : (rb.take f.safe).filter (fun b => b.s || decide (b.b < last)) = rb.take f.safe := by
    rw [List.filter_eq_self]
    intro b hb
    obtain ⟨i, hi, rfl⟩ := List.getElem_of_mem hb
    simp at hi
    have := h.s i (by omega)
    simp [this]; omega
  have h2 : (rb.drop f.safe).filter (fun b => b.s || decide (b.b < last)) = (rb.drop f.safe).filter (fun b => decide (b.b < last)) := by
    refine List.filter_congr fun b hb => ?_
    obtain ⟨i, hi, rfl⟩ := List.getElem_of_mem hb
    simp at hi
    have := h.s (f.safe + i) (by omega)
    simp [this]
    intro h9
    omega
  have h3 : (rb.drop f.safe).filter (fun b => decide (b.b < last)) = (rb.drop f.safe).take ((rb.drop f.safe).countP (fun b => decide (b.b < last))) := by
    have hp : (rb.drop f.safe).Pairwise (fun a b => a.b ≤ b.b) := by
      have := h.rise
      rw [List.pairwise_map] at this
      exact this.imp fun h => Nat.le_of_lt h
    exact filter_below RB.b last _ hp
  conv => lhs; rw [e]
  rw [List.filter_append, h1, h2, h3, List.countP_map]
  have hsl := h.sl
  rw [List.take_add]
  rfl
theorem sum_single {fs : List RFl} (hnd : (fs.map fun f => nm f.name).Nodup) (v : RFl → Nat) : ∀ (f : RFl), f ∈ fs → (∀ x ∈ fs, nm x.name ≠ nm f.name → v x = 0) → (fs.map v).sum = v f := by
  induction fs with
  | nil => intro f hf; cases hf
  | cons a r ih =>
    intro f hf h0
    rw [List.map_cons, List.nodup_cons] at hnd
    rw [List.map_cons, List.sum_cons]
    rcases List.mem_cons.mp hf with rfl | hf2
    · have : (r.map v).sum = 0 := by
        rw [List.sum_eq_zero_iff_forall_eq_nat]
        intro n hn
        obtain ⟨x, hx, rfl⟩ := List.mem_map.mp hn
        exact h0 x (List.mem_cons_of_mem _ hx) (fun e => hnd.1 (List.mem_map.mpr ⟨x, hx, e⟩))
      omega
    · have ha : v a = 0 := h0 a (List.mem_cons_self ..) (fun e => hnd.1 (List.mem_map.mpr ⟨f, hf2, e.symm⟩))
      rw [ha, ih hnd.2 f hf2 (fun x hx => h0 x (List.mem_cons_of_mem _ hx))]
      omega
/-- The pending bytes of all files. -/
def pbl (s : DM) (q : DW) (fs : List RFl) : List PB := fs.flatMap fun f => (pdl (s.F (nm f.name)) f.rb).map fun p => ⟨p.1, p.2, q.fb (nm f.name)⟩
theorem pdl_fst {f : FM} {rb : List RB} {wr born : Nat} (h : FR f rb wr born) : (pdl f rb).map Prod.fst = (rb.drop f.safe).map RB.b := by
  unfold pdl
  rw [List.map_fst_zip]
  rw [h.pl]
  simp
theorem pdl_snd {f : FM} {rb : List RB} {wr born : Nat} (h : FR f rb wr born) : (pdl f rb).map Prod.snd = exps f.ps := by
  unfold pdl
  rw [List.map_snd_zip]
  rw [h.pl]
  simp
theorem pbl_brn {s : DM} {r : RD} (h : Rel s r) (q : DW) (Fs : List GF) (hfs : Fs.map Prod.fst = r.fs) : (pbl s q r.fs).map PB.b = brn Fs Fs.length := by
  unfold pbl brn
  rw [List.take_length, List.map_flatMap]
  have e : Fs.flatMap (fun x => pbs x.1.rb x.1.rb.length) = (Fs.map Prod.fst).flatMap (fun f => pbs f.rb f.rb.length) := by rw [List.flatMap_map]
  rw [e, hfs]
  refine fm_congr fun f hf => ?_
  rw [pbs_drop (h.F f hf), ← pdl_fst (h.F f hf), List.map_map]
  rfl
theorem pbl_perm {s : DM} {r : RD} (h : Rel s r) (q : DW) : (exp3 (s.allp q)).Perm ((pbl s q r.fs).map fun t => (t.w, t.f)) := by
  have e : (s.allp q).Perm ((r.fs.map fun f => Lit.string (nm f.name)).flatMap (s.pcs q)) := by
    unfold DM.allp
    rw [catA_map]
    exact h.keys.flatMap_right _
  have e2 : exp3 ((r.fs.map fun f => Lit.string (nm f.name)).flatMap (s.pcs q)) = (pbl s q r.fs).map fun t => (t.w, t.f) := by
    unfold exp3 pbl
    rw [List.flatMap_assoc, List.flatMap_map, List.map_flatMap]
    refine fm_congr fun f hf => ?_
    have e3 := pdl_snd (h.F f hf)
    have e4 : ((pdl (s.F (nm f.name)) f.rb).map fun p => (PB.mk p.1 p.2 (q.fb (nm f.name)))).map (fun t => (t.w, t.f)) = (exps (s.F (nm f.name)).ps).map fun w => (w, q.fb (nm f.name)) := by
      rw [← e3, List.map_map, List.map_map]
      rfl
    rw [e4]
    simp only [DM.pcs, exps, List.map_flatMap, List.flatMap_map, List.map_replicate]
  rw [← e2]
  exact e.flatMap_right _
theorem pbl_mem {s : DM} {q : DW} {fs : List RFl} {t : PB} (h : t ∈ pbl s q fs) : ∃ f ∈ fs, (t.b, t.w) ∈ pdl (s.F (nm f.name)) f.rb ∧ t.f = q.fb (nm f.name) := by
  unfold pbl at h
  obtain ⟨f, hf, h2⟩ := List.mem_flatMap.mp h
  obtain ⟨p, hp, rfl⟩ := List.mem_map.mp h2
  exact ⟨f, hf, hp, rfl⟩
/-- What is rescued of a file. -/
theorem gain_file2 {s : DM} {r : RD} (h : Rel s r) {w : World} {d m : Nat} {q : DW} {O : Nat → Prop} (hD : DkAt w d m s q O) (L : List Own3) (hL : L.Perm (s.allp q)) (hs : L.Pairwise (fun a b => a.wr ≤ b.wr)) (keep : Int) (Fs : List GF) (hfs : Fs.map Prod.fst = r.fs) (last : Nat)
    (h1 : ∀ z, z < last → (upTo (brn Fs Fs.length) z : Int) ≤ keep) (h2 : last = mxN (brn Fs Fs.length) (brn Fs Fs.length).length ∨ keep < (upTo (brn Fs Fs.length) last : Int)) (f : RFl) (hf : f ∈ r.fs) :
    gain L keep.toNat (q.fb (nm f.name)) = ((f.rb.drop (s.F (nm f.name)).safe).map RB.b).countP (fun b => decide (b < last)) := by
  have hb := pbl_brn h q Fs hfs
  rw [← hb] at h1 h2
  have hnd : ((pbl s q r.fs).map PB.b).Nodup := by
    unfold pbl
    rw [List.map_flatMap, List.Nodup, List.pairwise_flatMap]
    refine ⟨fun g hg => ?_, ?_⟩
    · rw [List.map_map]
      have e : (PB.b ∘ fun p : Nat × Nat => (⟨p.1, p.2, q.fb (nm g.name)⟩ : PB)) = Prod.fst := rfl
      rw [e, pdl_fst (h.F g hg)]
      exact (h.F g hg).rise.imp fun h => by omega
    · have hp : r.fs.Pairwise (fun a b => nm a.name ≠ nm b.name) := by
        have := h.nd
        rw [List.Nodup, List.pairwise_map] at this
        exact this
      refine (List.Pairwise.and_mem.mp hp).imp fun ⟨ha, hb2, hne⟩ x hx y hy e => ?_
      obtain ⟨t, ht, rfl⟩ := List.mem_map.mp hx
      obtain ⟨u, hu, rfl⟩ := List.mem_map.mp hy
      obtain ⟨p, hp2, rfl⟩ := List.mem_map.mp ht
      obtain ⟨p', hp3, rfl⟩ := List.mem_map.mp hu
      exact hne ((h.com _ ha _ hb2 p hp2 p' hp3).2.2 e)
  have hk := bound_count ((pbl s q r.fs).map PB.b) keep (mxN ((pbl s q r.fs).map PB.b) ((pbl s q r.fs).map PB.b).length) last hnd (fun b hb => mxN_gt _ _ (Nat.le_refl _) b (by rw [List.take_length]; exact hb)) h1 h2
  rw [List.countP_map, List.length_map] at hk
  rw [gain_count]
  have hL2 : (exp3 L).Perm ((pbl s q r.fs).map fun t => (t.w, t.f)) := (hL.flatMap_right _).trans (pbl_perm h q)
  rw [gain_born L (pbl s q r.fs) keep.toNat last (q.fb (nm f.name)) hs hL2 ?_ ?_ hnd hk]
  · unfold pbl
    rw [List.countP_flatMap]
    have hv := sum_single h.nd (fun g => ((pdl (s.F (nm g.name)) g.rb).map fun p => (⟨p.1, p.2, q.fb (nm g.name)⟩ : PB)).countP (fun t => decide (t.f = q.fb (nm f.name)) && decide (t.b < last))) f hf (fun x hx hne => by
      rw [List.countP_eq_zero]
      intro t ht
      obtain ⟨p, _, rfl⟩ := List.mem_map.mp ht
      have hx2 := (has_keys h (nm x.name)).mpr ⟨x, hx, rfl⟩
      have hf2 := (has_keys h (nm f.name)).mpr ⟨f, hf, rfl⟩
      have := (hD.ap _ _ hx2 hf2 hne).1
      simp [this])
    refine Eq.trans hv ?_
    rw [← pdl_fst (h.F f hf), List.countP_map, List.countP_map]
    refine List.countP_congr fun p _ => ?_
    simp
  · intro t ht u hu hlt
    obtain ⟨a, ha, pa, _⟩ := pbl_mem ht
    obtain ⟨b, hb2, pb, _⟩ := pbl_mem hu
    exact (h.com a ha b hb2 _ pa _ pb).1 hlt
  · intro t ht u hu e
    obtain ⟨a, ha, pa, ea⟩ := pbl_mem ht
    obtain ⟨b, hb2, pb, eb⟩ := pbl_mem hu
    rw [ea, eb, (h.com a ha b hb2 _ pa _ pb).2.1 e]
end Go.Proofs.Ytoflkfnmbighaaa

namespace Go.Proofs.Ytoflkfnmbighaaa
open Go.RowKit Go.ChangeShapes Go.WideShapes Go.Maps

theorem sum_sub (fs : List RFl) (a b : RFl → Nat) (h : ∀ f ∈ fs, b f ≤ a f) : ((fs.map fun f => ((a f : Int) - (b f : Int))).sum : Int) = ((fs.map a).sum : Nat) - ((fs.map b).sum : Nat) := by
  induction fs with
  | nil => rfl
  | cons x r ih =>
    have := ih (fun f hf => h f (List.mem_cons_of_mem _ hf))
    simp only [List.map_cons, List.sum_cons]
    rw [this]
    omega
theorem sum_le (fs : List RFl) (a b : RFl → Nat) (h : ∀ f ∈ fs, b f ≤ a f) : (fs.map b).sum ≤ (fs.map a).sum := by
  induction fs with
  | nil => exact Nat.le_refl _
  | cons x r ih =>
    have := ih (fun f hf => h f (List.mem_cons_of_mem _ hf))
    have := h x (List.mem_cons_self ..)
    simp only [List.map_cons, List.sum_cons]
    omega
/-- A crash. -/
theorem Rel.crash {s : DM} {r : RD} (h : Rel s r) {w : World} {d m : Nat} {q : DW} {O : Nat → Prop} (hD : DkAt w d m s q O) (L : List Own3) (hL : L.Perm (s.allp q)) (hs : L.Pairwise (fun a b => a.wr ≤ b.wr)) (keep : Int) (Fs : List GF) (hfs : Fs.map Prod.fst = r.fs) (last : Nat)
    (h1 : ∀ z, z < last → (upTo (brn Fs Fs.length) z : Int) ≤ keep) (h2 : last = mxN (brn Fs Fs.length) (brn Fs Fs.length).length ∨ keep < (upTo (brn Fs Fs.length) last : Int)) :
    Rel ((s.offd).plus q L keep.toNat).crashT { r with off := true, armed := 0, fs := r.fs.map (crF last) } := by
  have hg := gain_file2 h hD L hL hs keep Fs hfs last h1 h2
  obtain ⟨cf, hcf⟩ : ∃ cf : RFl → Nat, cf = fun f => (s.F (nm f.name)).safe + ((f.rb.drop (s.F (nm f.name)).safe).map RB.b).countP (fun b => decide (b < last)) := ⟨_, rfl⟩
  have hc : ∀ f ∈ r.fs, cf f ≤ f.rb.length := fun f hf => by
    have h3 : ((f.rb.drop (s.F (nm f.name)).safe).map RB.b).countP (fun b => decide (b < last)) ≤ ((f.rb.drop (s.F (nm f.name)).safe).map RB.b).length := List.countP_le_length
    have := (h.F f hf).sl
    rw [List.length_map, List.length_drop] at h3
    rw [hcf]
    dsimp only
    omega
  have hcr : ∀ f ∈ r.fs, (crF last f).rb = (f.rb.take (cf f)).map fun b => { b with s := true } := fun f hf => by
    have := crB_take (h.F f hf) last
    rw [hcf]
    exact this
  have hlen : ∀ f ∈ r.fs, (crF last f).rb.length = cf f := fun f hf => by rw [hcr f hf, List.length_map, List.length_take]; exact Nat.min_eq_left (hc f hf)
  have hF : ∀ f ∈ r.fs, (((s.offd).plus q L keep.toNat).crashT).F (nm f.name) = ⟨(s.F (nm f.name)).b.take (cf f), ((s.F (nm f.name)).b.take (cf f)).length, []⟩ := fun f hf => by
    have : (s.F (nm f.name)).safe + gain L keep.toNat (q.fb (nm f.name)) = cf f := by rw [hg f hf, hcf]
    simp only [DM.crashT, DM.plus, DM.offd, FM.crash]
    rw [this]
  have hnm : (r.fs.map (crF last)).map (fun f => nm f.name) = r.fs.map fun f => nm f.name := by rw [List.map_map]; rfl
  have hmem : ∀ g ∈ r.fs.map (crF last), ∃ f ∈ r.fs, g = crF last f := fun g hg => by
    obtain ⟨f, hf, e⟩ := List.mem_map.mp hg
    exact ⟨f, hf, e.symm⟩
  have hpd : ∀ g ∈ r.fs.map (crF last), pdl ((((s.offd).plus q L keep.toNat).crashT).F (nm g.name)) g.rb = [] := fun g hg => by
    obtain ⟨f, hf, rfl⟩ := hmem g hg
    show pdl ((((s.offd).plus q L keep.toNat).crashT).F (nm f.name)) _ = []
    rw [hF f hf]
    simp [pdl, exps]
  refine ⟨h.lim, h.lim1, h.wr, rfl, h.full, rfl, fun e => absurd rfl e, (show (0 : Int) ≤ 0 ∧ (0 : Int) < 9223372036854775808 from ⟨by decide, by decide⟩), (show (0 : Int) ≤ 0 ∧ (0 : Int) < 9223372036854775808 from ⟨by decide, by decide⟩), h.map, ?_, ?_, ?_, ?_, ?_, ?_, ?_, ?_, ?_⟩
  · have e : (r.fs.map (crF last)).map (fun f => Lit.string (nm f.name)) = r.fs.map fun f => Lit.string (nm f.name) := by rw [List.map_map]; rfl
    show ((ents s.D).map Prod.fst).Perm ((r.fs.map (crF last)).map fun f => Lit.string (nm f.name))
    rw [e]
    exact h.keys
  · show ((r.fs.map (crF last)).map _).Nodup
    rw [hnm]
    exact h.nd
  · intro g hg
    obtain ⟨f, hf, rfl⟩ := hmem g hg
    exact h.nl f hf
  · show (r.fs.map (crF last)).length ≤ 256
    rw [List.length_map]
    exact h.n256
  · intro g hg
    obtain ⟨f, hf, rfl⟩ := hmem g hg
    show FR ((((s.offd).plus q L keep.toNat).crashT).F (nm f.name)) _ _ _
    rw [hF f hf]
    have hb := (h.F f hf).b
    have hl2 : ((s.F (nm f.name)).b.take (cf f)).length = cf f := by rw [List.length_take, hb, List.length_map]; exact Nat.min_eq_left (hc f hf)
    refine ⟨?_, ?_, ?_, ?_, ?_, ?_, ?_⟩
    · rw [hcr f hf, hb, ← List.map_take, List.map_map]
      rfl
    · rw [hl2, hlen f hf]; exact Nat.le_refl _
    · intro i hi
      rw [hlen f hf] at hi
      have : (crF last f).rb[i]'(by rw [hlen f hf]; exact hi) = { f.rb[i]'(by have := hc f hf; omega) with s := true } := by
        simp [hcr f hf]
      rw [this, hl2]
      simpa using hi
    · rw [hlen f hf, hl2]
      simp [exps]
    · rw [hl2, List.drop_of_length_le (by rw [hlen f hf]; exact Nat.le_refl _)]
      simp
    · rw [hl2, List.drop_of_length_le (by rw [hlen f hf]; exact Nat.le_refl _)]
      simp
    · simp [exps]
  · intro a ha b hb p hp
    rw [hpd a ha] at hp
    cases hp
  · have hsum := rel_sum h ((s.offd).plus q L keep.toNat).pd
    have e1 : (r.fs.map fun f => ((s.offd).plus q L keep.toNat).pd (.string (nm f.name))) = r.fs.map fun f => ((f.rb.length : Int) - (cf f : Int)) := List.map_congr_left fun f hf => by
      have : (s.F (nm f.name)).safe + gain L keep.toNat (q.fb (nm f.name)) = cf f := by rw [hg f hf, hcf]
      simp only [DM.pd, DM.plus, DM.offd]
      rw [this, rel_blen h f hf]
    rw [e1, sum_sub r.fs (fun f => f.rb.length) cf hc] at hsum
    have e2 : ((r.fs.map (crF last)).map fun f => f.rb.length) = r.fs.map cf := by
      rw [List.map_map]
      exact List.map_congr_left fun f hf => hlen f hf
    show ((((s.offd).plus q L keep.toNat).used : Int) - sumA ((s.offd).plus q L keep.toNat).pd (ents ((s.offd).plus q L keep.toNat).D)).toNat = _
    have e3 : ents ((s.offd).plus q L keep.toNat).D = ents s.D := rfl
    have e4 : ((s.offd).plus q L keep.toNat).used = s.used := rfl
    rw [e3, e4, hsum, e2, h.used]
    omega
  · have hsum := rel_sum h ((s.offd).plus q L keep.toNat).pd
    have hle : 0 ≤ sumA ((s.offd).plus q L keep.toNat).pd (ents s.D) := by
      have e1 : (r.fs.map fun f => ((s.offd).plus q L keep.toNat).pd (.string (nm f.name))) = r.fs.map fun f => ((f.rb.length : Int) - (cf f : Int)) := List.map_congr_left fun f hf => by
        have : (s.F (nm f.name)).safe + gain L keep.toNat (q.fb (nm f.name)) = cf f := by rw [hg f hf, hcf]
        simp only [DM.pd, DM.plus, DM.offd]
        rw [this, rel_blen h f hf]
      rw [hsum, e1, sum_sub r.fs (fun f => f.rb.length) cf hc]
      have := sum_le r.fs (fun f => f.rb.length) cf hc
      omega
    show ((((s.offd).plus q L keep.toNat).used : Int) - sumA ((s.offd).plus q L keep.toNat).pd (ents ((s.offd).plus q L keep.toNat).D)).toNat ≤ s.limit
    have e3 : ents ((s.offd).plus q L keep.toNat).D = ents s.D := rfl
    have e4 : ((s.offd).plus q L keep.toNat).used = s.used := rfl
    rw [e3, e4]
    have := h.ul
    omega
  · have e : ((r.fs.map (crF last)).map fun f => ((((s.offd).plus q L keep.toNat).crashT).F (nm f.name)).ps.length) = r.fs.map fun _ => 0 := by
      rw [List.map_map]
      refine List.map_congr_left fun f hf => ?_
      show ((((s.offd).plus q L keep.toNat).crashT).F (nm f.name)).ps.length = 0
      rw [hF f hf]
      rfl
    show _ ≤ s.writes
    rw [e]
    have : (r.fs.map fun _ => 0).sum = 0 := by
      rw [List.sum_eq_zero_iff_forall_eq_nat]
      intro n hn
      obtain ⟨_, _, rfl⟩ := List.mem_map.mp hn
      rfl
    omega
/-- A file gone. -/
theorem Rel.gone {s : DM} {r : RD} (h : Rel s r) {K : Nat} {f : RFl} (hk : r.fs[K]? = some f) : Rel { s.short (nm f.name) 0 with D := s.D.del (.string (nm f.name)) } { r with fs := r.fs.eraseIdx K } := by
  have hfm := List.mem_of_getElem? hk
  have hmem : ∀ g ∈ r.fs.eraseIdx K, g ∈ r.fs ∧ nm g.name ≠ nm f.name := fun g hg => by
    obtain ⟨i, hi⟩ := List.mem_iff_getElem?.mp hg
    rw [List.getElem?_eraseIdx] at hi
    split at hi
    · exact ⟨List.mem_of_getElem? hi, fun e => by have := nodup_at h.nd hi hk e; omega⟩
    · exact ⟨List.mem_of_getElem? hi, fun e => by have := nodup_at h.nd hi hk e; omega⟩
  have hF : ∀ g ∈ r.fs.eraseIdx K, (s.short (nm f.name) 0).F (nm g.name) = s.F (nm g.name) := fun g hg => by simp [DM.short, (hmem g hg).2]
  have hpm : ∀ v : RFl → Nat, (r.fs.map v).sum = ((r.fs.eraseIdx K).map v).sum + v f := fun v => by
    have hsplit : r.fs = r.fs.take K ++ f :: r.fs.drop (K + 1) := by
      have := (List.getElem?_eq_some_iff.1 hk).2
      rw [← this, List.getElem_cons_drop, List.take_append_drop]
    rw [List.eraseIdx_eq_take_drop_succ]
    conv => lhs; rw [hsplit]
    simp
    omega
  refine ⟨h.lim, h.lim1, h.wr, h.off, h.full, h.arm, h.tear, h.l0, h.t0, h.map.del _, ?_, ?_, fun g hg => h.nl g (hmem g hg).1, ?_, ?_, ?_, ?_, ?_, ?_⟩
  · obtain ⟨es, he⟩ := h.map
    have hk2 := h.keys
    show ((ents (s.D.del (.string (nm f.name)))).map Prod.fst).Perm _
    rw [he] at hk2 ⊢
    have e1 : (ents ((DataW.map es).del (.string (nm f.name)))).map Prod.fst = (es.map Prod.fst).filter (fun k => !k.sameKey (.string (nm f.name))) := by
      simp only [DataW.del, ents, List.filter_map]
      rfl
    rw [e1]
    refine (hk2.filter _).trans ?_
    have e2 : (r.fs.map fun f => Lit.string (nm f.name)).filter (fun k => !k.sameKey (.string (nm f.name))) = (r.fs.eraseIdx K).map fun f => Lit.string (nm f.name) := by
      rw [List.filter_map]
      congr 1
      have hsplit : r.fs = r.fs.take K ++ f :: r.fs.drop (K + 1) := by
        have hlt := (List.getElem?_eq_some_iff.1 hk).1
        have := (List.getElem?_eq_some_iff.1 hk).2
        rw [← this, List.getElem_cons_drop, List.take_append_drop]
      rw [List.eraseIdx_eq_take_drop_succ]
      conv => lhs; rw [hsplit]
      have hcomp : ((fun k : Lit => !k.sameKey (Lit.string (nm f.name))) ∘ fun f : RFl => Lit.string (nm f.name)) = fun g : RFl => !(Lit.string (nm g.name)).sameKey (.string (nm f.name)) := rfl
      rw [hcomp, List.filter_append, List.filter_cons]
      have hne : ∀ g ∈ r.fs.eraseIdx K, (!(Lit.string (nm g.name)).sameKey (.string (nm f.name))) = true := fun g hg => by
        have := (hmem g hg).2
        simp [Lit.sameKey, this]
      rw [List.eraseIdx_eq_take_drop_succ] at hne
      rw [List.filter_eq_self.mpr (fun g hg => hne g (List.mem_append_left _ hg)), List.filter_eq_self.mpr (fun g hg => hne g (List.mem_append_right _ hg))]
      simp [Lit.sameKey]
    rw [e2]
  · have := h.nd
    show ((r.fs.eraseIdx K).map _).Nodup
    exact this.sublist ((List.eraseIdx_sublist r.fs K).map _)
  · have := h.n256
    have h2 := List.length_eraseIdx_le r.fs K
    show (r.fs.eraseIdx K).length ≤ 256
    omega
  · intro g hg
    show FR ((s.short (nm f.name) 0).F (nm g.name)) _ _ _
    rw [hF g hg]
    exact h.F g (hmem g hg).1
  · intro a ha b hb p hp q hq
    have hp' : p ∈ pdl ((s.short (nm f.name) 0).F (nm a.name)) a.rb := hp
    have hq' : q ∈ pdl ((s.short (nm f.name) 0).F (nm b.name)) b.rb := hq
    rw [hF a ha] at hp'
    rw [hF b hb] at hq'
    exact h.com a (hmem a ha).1 b (hmem b hb).1 p hp' q hq'
  · show s.used - ((s.F (nm f.name)).b.length - 0) = ((r.fs.eraseIdx K).map fun f => f.rb.length).sum
    rw [rel_blen h f hfm, h.used, hpm (fun f => f.rb.length)]
    omega
  · show s.used - ((s.F (nm f.name)).b.length - 0) ≤ s.limit
    have := h.ul
    omega
  · show ((r.fs.eraseIdx K).map fun g => ((s.short (nm f.name) 0).F (nm g.name)).ps.length).sum ≤ s.writes
    rw [List.map_congr_left (g := fun g => (s.F (nm g.name)).ps.length) (fun g hg => by rw [hF g hg])]
    have := hpm (fun g => (s.F (nm g.name)).ps.length)
    have := h.tot
    omega
end Go.Proofs.Ytoflkfnmbighaaa

