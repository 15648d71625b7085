import Derived.Test.YtikolmpgnpkdbaaDoorRfa
import Derived.Laws.OwnMore
namespace Go.Proofs.YtikolmpgnpkdbaaDoor
open Go.RowKit

theorem make_bytes (n : Nat) (w : World) (hn : n ≤ 8) : ∃ w', (Instr.makeSlice 25 (.int .i64 (n : Int)) (.int .i64 (n : Int))).run Tryd.prog w = .ok (.slice (some ⟨w.heap.size, 0, none⟩) n n) w' ∧
    (∀ j, j < n → w'.cell? ⟨w.heap.size, j, none⟩ = some (.int .u8 0)) ∧ (∀ j, j < n → w'.frozen? ⟨w.heap.size, j, none⟩ = false) ∧ Fr (fun _ => False) w w' ∧ ∃ xs, w'.ownsRow w.heap.size 5 1 (.slice (some ⟨w.heap.size, 0, none⟩) n n) n xs := by
  have hz' : (Tryd.prog.info? 5).bind (·.zero) = some (.int .u8 0) := by kernel_rfl
  have hs' : (Tryd.prog.info? 5).map (·.size) = some 1 := by kernel_rfl
  have hb' : (Tryd.prog.info? 5).map (·.bytes) = some 1 := by kernel_rfl
  obtain ⟨i, hi, hz⟩ := Option.bind_eq_some_iff.1 hz'
  rw [hi] at hs' hb'
  have hs : i.size = 1 := by simpa using hs'
  have hb : i.bytes = 1 := by simpa using hb'
  obtain ⟨w', hr, ho, hg⟩ := run_makeSlice_full (P := Tryd.prog) w w.heap.size 25 5 i (.int .u8 0) 1 Tryd.underlying25 hi hz hs .i64 .i64 n (by omega) (by rw [hb]; omega) (by simp only [maxLen]; omega) (Nat.le_refl _)
  refine ⟨w', hr, fun j hj => ?_, fun j hj => ?_, (Fr.refl _ _).grown hg (fun _ h => by cases h), _, ho⟩
  · have h := ho.cells (g := w.heap.size) rfl j (.int .u8 0) (by simp [madeCells, hj, Value.cells, Nat.mod_one])
    have e : (⟨w.heap.size, 0, none⟩ : Addr).add j = ⟨w.heap.size, 0 + j, none⟩ := by unfold Addr.add; split <;> simp_all
    rw [e, Nat.zero_add] at h
    exact h
  · exact ho.frozenAt j

def NumI (w wr : World) (n v k : Nat) : Prop :=
  (∀ j, j < n → wr.cell? ⟨w.heap.size, j, none⟩ = some (if n - 1 - j < k then B (v / 256 ^ (n - 1 - j)) else .int .u8 0)) ∧ (∀ j, j < n → wr.frozen? ⟨w.heap.size, j, none⟩ = false) ∧ Fr (fun _ => False) w wr ∧ ∃ xs, wr.ownsRow w.heap.size 5 1 (.slice (some ⟨w.heap.size, 0, none⟩) n n) n xs
theorem NumI.step {w wr : World} {m v k : Nat} (h : NumI w wr (m + 1 + k) v k) : NumI w (wr.setCell ⟨w.heap.size, m, none⟩ (B (v / 256 ^ k))) (m + 1 + k) v (k + 1) := by
  obtain ⟨hc, hz, hf, xs, ho⟩ := h
  refine ⟨fun j hj => ?_, fun j hj => by rw [World.frozen?_setCell]; exact hz j hj, Fr.setCell hf (.inr (Nat.le_refl _)) _, _, (ho.stored m _).1⟩
  by_cases e : j = m
  · subst e
    rw [World.cell?_setCell_same _ _ _ (hc j hj), if_pos (by omega), show j + 1 + k - 1 - j = k from by omega]
  · rw [World.cell?_setCell_other _ _ _ _ (by intro h; injection h with _ h2 _; exact e h2.symm), hc j hj]
    by_cases h1 : m + 1 + k - 1 - j < k
    · rw [if_pos h1, if_pos (by omega)]
    · rw [if_neg h1, if_neg (by omega)]
theorem NumI.own {w wr : World} {n v : Nat} (h : NumI w wr n v n) : wr.ownsRow w.heap.size 5 1 (.slice (some ⟨w.heap.size, 0, none⟩) n n) n (cellsOf (be n v)) := by
  obtain ⟨hc, _, _, xs, ho⟩ := h
  have hl : xs.length = n := by simpa using ho.1
  have e : xs = cellsOf (be n v) := by
    apply List.ext_getElem (by rw [hl, cellsOf_length, be_length])
    intro j h1 h2
    have hlt : j < n := by omega
    have a := ho.cells (g := w.heap.size) rfl j xs[j] (List.getElem?_eq_getElem h1)
    have e : (⟨w.heap.size, 0, none⟩ : Addr).add j = ⟨w.heap.size, 0 + j, none⟩ := by unfold Addr.add; split <;> simp_all
    rw [e, Nat.zero_add, hc j hlt, if_pos (by omega)] at a
    rw [← Option.some.inj a]
    simp [cellsOf, be]
  rw [← e]
  exact ho

set_option maxRecDepth 100000 in
theorem gnumber_any (v n : Nat) (w : World) (hn : n ≤ 8) (hv : v < 18446744073709551616) : Calls Tryd.prog 96 #[.int .u64 v, .int .i64 n] w fun e w' => e = .returned (.slice (some ⟨w.heap.size, 0, none⟩) n n) ∧ w'.ownsRow w.heap.size 5 1 (.slice (some ⟨w.heap.size, 0, none⟩) n n) n (cellsOf (be n v)) ∧ Fr (fun _ => False) w w' := by
  obtain ⟨w1, hmk, hc, hz, hf, ho⟩ := make_bytes n w hn
  have H := hide (And.intro hc (And.intro hz (And.intro hf ho)))
  clear hc hz hf ho
  have hwr : IntKind.i64.wrap ((n : Int) - 1) = (n : Int) - 1 := by rw [IntKind.wrap_i64]; omega
  go_enter Tryd.func96, Tryd.ntmps96
  go_wp2_with fail
  go_loopw [0, 6] (fun x i wr => ∃ k : Nat, k ≤ n ∧ i = .int .i64 ((n : Int) - 1 - k) ∧ x = .int .u64 ((v / 256 ^ k : Nat)) ∧ NumI w wr n v k) (fun _ i _ => (intOf i + 1).toNat)
  case atStart => exact ⟨0, Nat.zero_le _, by simp, by simp, fun j hj => by rw [if_neg (by omega)]; exact (unhide H).1 j hj, (unhide H).2.1, (unhide H).2.2.1, (unhide H).2.2.2⟩
  case round =>
    obtain ⟨k, hk, rfl, rfl, hI⟩ := hrel
    rename World => wr
    by_cases hlt : k < n
    · obtain ⟨m, rfl⟩ : ∃ m, n = m + 1 + k := ⟨n - 1 - k, by omega⟩
      have hcell : wr.cell? ⟨w.heap.size, m, none⟩ = some (.int .u8 0) := by rw [hI.1 m (by omega), if_neg (by omega)]
      have hfr := hI.2.1 m (by omega)
      have hy : v / 256 ^ k < 18446744073709551616 := Nat.lt_of_le_of_lt (Nat.div_le_self _ _) hv
      have hst := hI.step
      have hnx : v / 256 ^ (k + 1) = v / 256 ^ k / 256 := by rw [Nat.pow_succ, Nat.div_div_eq_div_mul]
      have HS := hide (And.intro hst hnx)
      clear hst hnx hI
      have hix : ((m + 1 + k : Nat) : Int) - 1 - k = (m : Int) := by omega
      rw [hix]
      generalize hyy : v / 256 ^ k = y at *
      go_wp2
      refine ⟨⟨k + 1, by omega, congrArg (Value.int .i64) (by omega), congrArg (Value.int .u64) (by rw [(unhide HS).2]; omega), ?_⟩, by simp [intOf]⟩
      have h := (unhide HS).1
      rw [show B y = Value.int .u8 ((y : Int) % 256) from by simp [B]] at h
      exact h
    · have hkn : k = n := by omega
      subst hkn
      go_wp2
      go_ret
      exact ⟨rfl, hI.own, hI.2.2.1⟩
end Go.Proofs.YtikolmpgnpkdbaaDoor
