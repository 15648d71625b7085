import Derived.Test.YtoflkfnmbighaaaDmb
namespace Go.Proofs.Ytoflkfnmbighaaa
open Go.RowKit Go.ChangeShapes Go.WideShapes Go.Maps

/-- How many bytes so many files have. -/
def lenN (Fs : List GF) (k : Nat) : Nat := ((Fs.take k).map fun x => x.1.rb.length).sum
theorem lenN_succ {Fs : List GF} {k : Nat} {x : GF} (h : Fs[k]? = some x) : lenN Fs (k + 1) = lenN Fs k + x.1.rb.length := by
  unfold lenN
  rw [List.take_add_one, h]
  simp
def safeN (l : List RB) (k : Nat) : Nat := (l.take k).countP fun x => x.s
theorem safeN_succ {l : List RB} {k : Nat} {x : RB} (h : l[k]? = some x) : safeN l (k + 1) = safeN l k + (if x.s then 1 else 0) := by
  unfold safeN
  rw [List.take_add_one, h, List.countP_append]
  simp [List.countP_cons]
theorem safeN_le (l : List RB) (k : Nat) : safeN l k ≤ k := Nat.le_trans List.countP_le_length (by simp; omega)
theorem lenN_le (Fs : List GF) (k M : Nat) (h : ∀ x ∈ Fs, x.1.rb.length ≤ M) : lenN Fs k ≤ k * M := by
  induction k with
  | zero => simp [lenN]
  | succ k ih =>
    cases hx : Fs[k]? with
    | none =>
      have : Fs.length ≤ k := List.getElem?_eq_none_iff.mp hx
      have e : lenN Fs (k + 1) = lenN Fs k := by unfold lenN; rw [List.take_of_length_le (by omega), List.take_of_length_le (by omega)]
      rw [e]
      exact Nat.le_trans ih (Nat.mul_le_mul_right _ (by omega))
    | some x =>
      rw [lenN_succ hx]
      have := h x (List.mem_of_getElem? hx)
      rw [Nat.succ_mul]
      omega
set_option maxRecDepth 100000 in
/-- Used. -/
theorem gused_any (r : RD) (ao : Option Addr) (c : Nat) (Fs : List GF) (T : Nat → Prop) (W : World) (h : GAt W (.slice ao Fs.length c) Fs T) (hl : Fs.length ≤ 256) (hb : ∀ x ∈ Fs, x.1.rb.length ≤ 1048576) :
    Calls Try.prog 27 #[r.agg (.slice ao Fs.length c)] W fun e w' => e = .returned (.int .i64 (lenN Fs Fs.length : Nat)) ∧ Fr (fun _ => False) W w' := by
  obtain ⟨w, hw⟩ : ∃ w, w = W.alloc (.cells (r.cells (.slice ao Fs.length c)) 30) := ⟨_, rfl⟩
  have hf : Fr (fun _ => False) W w := by rw [hw]; exact box1 _ _
  have HX := hide (And.intro (h.fr0 hf) (And.intro hf hb))
  have hbk : w.heap[W.heap.size]? = some (.cells (r.cells (.slice ao Fs.length c)) 30) := by rw [hw]; exact heap_alloc_new _ _
  have c3 : w.cell? ⟨W.heap.size, 3, none⟩ = some (.slice ao Fs.length c) := cell_of_blk hbk rfl
  unfold RD.agg
  unfold RD.cells at hw
  clear h hf hbk hb
  go_enter Try.func27, Try.ntmps27
  go_wp2_with fail
  rw [← hw]
  clear hw
  go_loopw [3, 4] (fun nv iv wr => ∃ j : Nat, j ≤ Fs.length ∧ iv = .int .i64 (j : Nat) ∧ nv = .int .i64 (lenN Fs j : Nat) ∧ wr = w) (fun _ iv _ => Fs.length - (intOf iv).toNat)
  case atStart => exact ⟨0, Nat.zero_le _, rfl, rfl, rfl⟩
  case round =>
    obtain ⟨j, hj, rfl, rfl, rfl⟩ := hrel
    by_cases hlt : j < Fs.length
    · have hx := List.getElem?_eq_getElem hlt
      obtain ⟨g, rfl, _, _, c1, _⟩ := (unhide HX).1.at_ hx
      obtain ⟨bo, bc, e⟩ := (unhide HX).1.form hx
      rw [e] at c1
      have hs := lenN_succ hx
      have hm := lenN_le Fs j 1048576 (unhide HX).2.2
      have hm2 := (unhide HX).2.2 _ (List.mem_of_getElem? hx)
      have HS := hide hs
      generalize Fs[j].1.rb.length = z at *
      generalize hq : lenN Fs j = q at *
      have hq2 : q ≤ 268435456 := Nat.le_trans hm (by omega)
      clear hs hm e
      have hkl : (j : Int) < (Fs.length : Int) := by omega
      go_wp2_with fail
      go_roundw
      case rel => exact ⟨j + 1, hlt, by go_num, by rw [unhide HS]; go_num, trivial⟩
      case measure => simp [intOf]; omega
    · have hkl : ¬ (j : Int) < (Fs.length : Int) := by omega
      obtain rfl : j = Fs.length := by omega
      go_wp2_with fail
      go_ret
      exact ⟨rfl, (unhide HX).2.1⟩
set_option maxRecDepth 100000 in
/-- Safe. -/
theorem gsafe_any (n : ByteArray) (base : Nat) (bo : Option Addr) (bc : Nat) (l : List RB) (W : World) (h : W.ownsRow base 89 3 (.slice bo l.length bc) l.length (bcells l)) (hl : l.length ≤ 1048576) :
    Calls Try.prog 25 #[.agg #[.string n, .slice bo l.length bc]] W fun e w' => e = .returned (.int .i64 (safeN l l.length : Nat)) ∧ Fr (fun _ => False) W w' := by
  obtain ⟨w, hw⟩ : ∃ w, w = W.alloc (.cells #[.string n, .slice bo l.length bc] 60) := ⟨_, rfl⟩
  have hf : Fr (fun _ => False) W w := by rw [hw]; exact box1 _ _
  have HX := hide (And.intro (ownsRow_of_block h (fun g hg => hf.block g (h.lt g hg).2 (fun h => h))) hf)
  have hbk : w.heap[W.heap.size]? = some (.cells #[.string n, .slice bo l.length bc] 60) := by rw [hw]; exact heap_alloc_new _ _
  have c1 : w.cell? ⟨W.heap.size, 1, none⟩ = some (.slice bo l.length bc) := cell_of_blk hbk rfl
  clear h hf hbk
  go_enter Try.func25, Try.ntmps25
  go_wp2_with fail
  rw [← hw]
  clear hw
  go_loopw [3, 4] (fun nv iv wr => ∃ j : Nat, j ≤ l.length ∧ iv = .int .i64 (j : Nat) ∧ nv = .int .i64 (safeN l j : Nat) ∧ wr = w) (fun _ iv _ => l.length - (intOf iv).toNat)
  case atStart => exact ⟨0, Nat.zero_le _, rfl, rfl, rfl⟩
  case round =>
    obtain ⟨j, hj, rfl, rfl, rfl⟩ := hrel
    by_cases hlt : j < l.length
    · have hx := List.getElem?_eq_getElem hlt
      obtain ⟨g, rfl, _, _, _, _, _, c2, _⟩ := row_at (unhide HX).1 hx
      have hs := safeN_succ hx
      have hm := safeN_le l j
      have HS := hide hs
      clear hs
      generalize hq : safeN l j = q at *
      have hkl : (j : Int) < (l.length : Int) := by omega
      cases hb : l[j].s with
      | true =>
        rw [hb] at c2 HS
        go_wp2_with fail
        go_roundw
        case rel => exact ⟨j + 1, hlt, by go_num, by rw [unhide HS]; go_num, trivial⟩
        case measure => simp [intOf]; omega
      | false =>
        rw [hb] at c2 HS
        go_wp2_with fail
        go_roundw
        case rel => exact ⟨j + 1, hlt, by go_num, by rw [unhide HS]; rfl, trivial⟩
        case measure => simp [intOf]; omega
    · have hkl : ¬ (j : Int) < (l.length : Int) := by omega
      obtain rfl : j = l.length := by omega
      go_wp2_with fail
      go_ret
      exact ⟨rfl, (unhide HX).2⟩
end Go.Proofs.Ytoflkfnmbighaaa
