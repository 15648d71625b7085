import Derived.Test.YtoflkfnmbighaaaDme
namespace Go.Proofs.Ytoflkfnmbighaaa
open Go.RowKit Go.ChangeShapes Go.WideShapes Go.Maps

/-- How many pending bytes so many files have. -/
def pndN (Fs : List GF) (k : Nat) : Nat := ((Fs.take k).map fun x => x.1.rb.length - safeN x.1.rb x.1.rb.length).sum
theorem pndN_succ {Fs : List GF} {k : Nat} {x : GF} (h : Fs[k]? = some x) : pndN Fs (k + 1) = pndN Fs k + (x.1.rb.length - safeN x.1.rb x.1.rb.length) := by
  unfold pndN
  rw [List.take_add_one, h]
  simp
theorem pndN_le (Fs : List GF) (k : Nat) : pndN Fs k ≤ lenN Fs k := by
  induction k with
  | zero => simp [pndN]
  | succ k ih =>
    cases hx : Fs[k]? with
    | none =>
      have : Fs.length ≤ k := List.getElem?_eq_none_iff.mp hx
      have e : lenN Fs (k + 1) = lenN Fs k := by unfold lenN; rw [List.take_of_length_le (by omega), List.take_of_length_le (by omega)]
      have e2 : pndN Fs (k + 1) = pndN Fs k := by unfold pndN; rw [List.take_of_length_le (by omega), List.take_of_length_le (by omega)]
      omega
    | some x =>
      rw [lenN_succ hx, pndN_succ hx]
      omega
theorem wrapI (x : Int) (h1 : -9223372036854775808 ≤ x) (h2 : x < 9223372036854775808) : IntKind.i64.wrap x = x := by
  simp [IntKind.wrap, IntKind.signed, IntKind.bits]
  omega
set_option maxRecDepth 100000 in
/-- Pending. -/
theorem gpending_any (r : RD) (ao : Option Addr) (c : Nat) (Fs : List GF) (T : Nat → Prop) (W : World) (h : GAt W (.slice ao Fs.length c) Fs T) (hl : Fs.length ≤ 256) (hb : ∀ x ∈ Fs, x.1.rb.length ≤ 1048576) :
    Calls Try.prog 28 #[r.agg (.slice ao Fs.length c)] W fun e w' => e = .returned (.int .i64 (pndN Fs Fs.length : Nat)) ∧ Fr (fun _ => False) W w' := by
  obtain ⟨w, hw⟩ : ∃ w, w = W.alloc (.cells (r.cells (.slice ao Fs.length c)) 30) := ⟨_, rfl⟩
  have hf : Fr (fun _ => False) W w := by rw [hw]; exact box1 _ _
  have HX := hide (And.intro (h.fr0 hf) (And.intro hf hb))
  have hbk : w.heap[W.heap.size]? = some (.cells (r.cells (.slice ao Fs.length c)) 30) := by rw [hw]; exact heap_alloc_new _ _
  have C3 := hide (show w.cell? ⟨W.heap.size, 3, none⟩ = some (.slice ao Fs.length c) from cell_of_blk hbk rfl)
  unfold RD.agg
  unfold RD.cells at hw
  clear h hf hbk hb
  go_enter Try.func28, Try.ntmps28
  go_wp2_with fail
  rw [← hw]
  clear hw
  go_loopw [3, 4] (fun nv iv wr => ∃ j : Nat, j ≤ Fs.length ∧ iv = .int .i64 (j : Nat) ∧ nv = .int .i64 (pndN Fs j : Nat) ∧ Fr (fun _ => False) w wr) (fun _ iv _ => Fs.length - (intOf iv).toNat)
  case atStart => exact ⟨0, Nat.zero_le _, rfl, rfl, Fr.refl _ _⟩
  case round =>
    obtain ⟨j, hj, rfl, rfl, hfr⟩ := hrel
    have c3 : wr.cell? ⟨W.heap.size, 3, none⟩ = some (.slice ao Fs.length c) := (hfr.cell (p := ⟨W.heap.size, 3, none⟩) (lt_of_cell (unhide C3)) (fun h => h)).trans (unhide C3)
    have HG := hide (And.intro ((unhide HX).1.fr0 hfr) hfr)
    clear hfr
    by_cases hlt : j < Fs.length
    · have hx := List.getElem?_eq_getElem hlt
      obtain ⟨g, rfl, _, c0, c1, _⟩ := (unhide HG).1.at_ hx
      obtain ⟨bo, bc, e⟩ := (unhide HG).1.form hx
      have hrow := (unhide HG).1.b _ (List.mem_of_getElem? hx)
      rw [e] at c1 hrow
      have hm := lenN_le Fs j 1048576 (unhide HX).2.2
      have hm1 := pndN_le Fs j
      have hm2 := (unhide HX).2.2 _ (List.mem_of_getElem? hx)
      have hm3 := safeN_le Fs[j].1.rb Fs[j].1.rb.length
      have HS := hide (And.intro (pndN_succ hx) hm3)
      have HC := hide (fun (W' : World) (hf : Fr (fun _ => False) wr W') => (gsafe_any Fs[j].1.name 0 bo bc Fs[j].1.rb W' (ownsRow_of_block hrow (fun k hk => hf.block k (hrow.lt k hk).2 (fun h => h))) hm2).mono fun e w3 ⟨he, h3⟩ => (show e = _ ∧ Fr (fun _ => False) wr w3 from ⟨he, hf.trans h3 (fun _ _ h => h)⟩))
      have HK := hide (fun (W' : World) (hf : Fr (fun _ => False) wr W') => And.intro ((hf.cell (p := ⟨W.heap.size, 3, none⟩) (lt_of_cell c3) (fun h => h)).trans c3) (And.intro ((hf.cell (p := ⟨g, j * 2, none⟩) (lt_of_cell c0) (fun h => h)).trans c0) ((hf.cell (p := ⟨g, j * 2 + 1, none⟩) (lt_of_cell c1) (fun h => h)).trans c1)))
      generalize hsf : safeN Fs[j].1.rb Fs[j].1.rb.length = sf at *
      generalize hrl : Fs[j].1.rb.length = z at *
      generalize hq : pndN Fs j = q at *
      generalize Fs[j].1.name = nme at *
      have hq2 : q ≤ 268435456 := Nat.le_trans hm1 (Nat.le_trans hm (by omega))
      clear hrow hm hm1 e
      have hkl : (j : Int) < (Fs.length : Int) := by omega
      go_wp2_with fail
      go_region_held3 (fun W' => W'.cell? ⟨W.heap.size, 3, none⟩ = some (.slice (some ⟨g, 0, none⟩) Fs.length c) ∧ W'.cell? ⟨g, j * 2, none⟩ = some (.string nme) ∧ W'.cell? ⟨g, j * 2 + 1, none⟩ = some (.slice bo z bc))
        (first | exact (unhide HK) _ ((Fr.refl _ _).drew) | exact (unhide HK) _ hf3 | exact ⟨c3, c0, c1⟩)
        (first | (go_at_call 25; refine ((unhide HC) _ ((Fr.refl _ _).drew)).mono ?_; rintro e w3 ⟨rfl, hf3⟩))
      have HF3 := hide ((unhide HG).2.trans hf3 (fun _ _ h => h))
      clear hf3
      go_wp2_with fail
      go_roundw
      case rel => exact ⟨j + 1, hlt, by go_num, by rw [(unhide HS).1]; (have h2 := (unhide HS).2; rw [wrapI ((q : Int) + (z : Int)) (by omega) (by omega), wrapI _ (by omega) (by omega)]; exact congrArg _ (by omega)), unhide HF3⟩
      case measure => simp [intOf]; omega
    · have hkl : ¬ (j : Int) < (Fs.length : Int) := by omega
      obtain rfl : j = Fs.length := by omega
      go_wp2_with fail
      go_ret
      exact ⟨rfl, (unhide HX).2.1.trans (unhide HG).2 (fun _ _ h => h)⟩
theorem cells_v (l : List RB) (k : Nat) (x : RB) (h : l[k]? = some x) (a n : Nat) (hk : k = a + n) : (((l.map RB.v).drop a).take (n + 1)) = ((l.map RB.v).drop a).take n ++ [x.v] := by
  rw [List.take_add_one]
  congr 1
  rw [List.getElem?_drop, List.getElem?_map, ← hk, h]
  rfl
set_option maxRecDepth 100000 in
/-- Bytes. -/
theorem gbytes_any (nme : ByteArray) (base a n : Nat) (bo : Option Addr) (bc : Nat) (l : List RB) (W : World) (h : W.ownsRow base 89 3 (.slice bo l.length bc) l.length (bcells l)) (hl : l.length ≤ 1048576) (hn : a + n ≤ l.length) :
    Calls Try.prog 23 #[.agg #[.string nme, .slice bo l.length bc], .int .i64 (a : Nat), .int .i64 (n : Nat)] W fun e w' => ∃ v, e = .returned v ∧ w'.ownsRow W.heap.size 5 1 v n (cellsOf (((l.map RB.v).drop a).take n)) ∧ Fr (fun _ => False) W w' := by
  obtain ⟨w, hw⟩ : ∃ w, w = W.alloc (.cells #[.string nme, .slice bo l.length bc] 60) := ⟨_, rfl⟩
  have hf : Fr (fun _ => False) W w := by rw [hw]; exact box1 _ _
  have HX := hide (And.intro (ownsRow_of_block h (fun g hg => hf.block g (h.lt g hg).2 (fun h => h))) hf)
  have hbk : w.heap[W.heap.size]? = some (.cells #[.string nme, .slice bo l.length bc] 60) := by rw [hw]; exact heap_alloc_new _ _
  have C1 := hide (show w.cell? ⟨W.heap.size, 1, none⟩ = some (.slice bo l.length bc) from cell_of_blk hbk rfl)
  clear h hf hbk
  go_enter Try.func23, Try.ntmps23
  go_wp2_with fail
  rw [← hw]
  clear hw
  go_loopw [7, 8] (fun lv iv wr => ∃ (k : Nat) (ao : Option Addr) (cap : Nat), k ≤ n ∧ iv = .int .i64 ((a + k : Nat) : Int) ∧ lv = .slice ao k cap ∧ wr.ownsRow w.heap.size 5 1 (.slice ao k cap) k (cellsOf (((l.map RB.v).drop a).take k)) ∧ Fr (fun _ => False) w wr) (fun _ iv _ => a + n - (intOf iv).toNat)
  case atStart => exact ⟨0, none, 0, Nat.zero_le _, rfl, rfl, World.ownsRow_nil _ _ _ _, Fr.refl _ _⟩
  case round =>
    obtain ⟨k, ao, cap, hk, rfl, rfl, hrow, hfr⟩ := hrel
    have c1 : wr.cell? ⟨W.heap.size, 1, none⟩ = some (.slice bo l.length bc) := (hfr.cell (p := ⟨W.heap.size, 1, none⟩) (lt_of_cell (unhide C1)) (fun h => h)).trans (unhide C1)
    have hlen : (((l.map RB.v).drop a).take k).length = k := by simp; omega
    have hrow' := ownsRow_of_block (unhide HX).1 (fun k hk => hfr.block k ((unhide HX).1.lt k hk).2 (fun h => h))
    by_cases hlt : k < n
    · have hx := List.getElem?_eq_getElem (show a + k < l.length by omega)
      obtain ⟨g, rfl, _, hcap, _, d0, _, _, _⟩ := row_at hrow' hx
      have hrow2 : wr.ownsRow w.heap.size 5 1 (.slice ao k cap) (((l.map RB.v).drop a).take k).length (cellsOf (((l.map RB.v).drop a).take k)) := by rw [hlen]; exact hrow
      obtain ⟨ao2, cap2, w3, hr3, hown3, hf3⟩ := app_z wr w.heap.size l[a + k].v _ _ hrow2 hfr.size (by omega)
      rw [hlen] at hr3 hown3
      rw [← cells_v l (a + k) _ hx a k rfl] at hown3
      have HS := hide (And.intro hown3 (hfr.absorb hf3 (fun g hg => (hrow.lt g hg).1)))
      have HR3 := hide hr3
      have hkl : (a : Int) + (k : Int) < (a : Int) + (n : Int) := by omega
      clear hr3 hrow hrow' hrow2 hown3 hf3 hfr
      generalize l[a + k].v % 256 = z at *
      go_wp2_with (at_builtin; refine wpList_app rfl _ _ 36 36 rfl _ _ _ rfl rfl (unhide HR3) ?_; clear HR3)
      exact ⟨⟨k + 1, ao2, cap2, hlt, by go_num, rfl, (unhide HS).1, (unhide HS).2⟩, by simp [intOf]; omega⟩
    · have hkl : ¬ ((a : Int) + (k : Int) < (a : Int) + (n : Int)) := by omega
      obtain rfl : k = n := by omega
      have HS := hide (And.intro (ownsRow_base hrow (unhide HX).2.size) ((unhide HX).2.trans hfr (fun _ _ h => h)))
      clear hrow hrow' hfr
      go_wp2_with fail
      go_ret
      exact ⟨_, rfl, (unhide HS).1, (unhide HS).2⟩
end Go.Proofs.Ytoflkfnmbighaaa
