import Derived.Test.YtikolmpgnpkdbaaDoorRfd
namespace Go.Proofs.YtikolmpgnpkdbaaDoor
open Go.RowKit

theorem gnumber_o (v n : Nat) (w : World) (hn : n ≤ 8) (hv : v < 18446744073709551616) : Calls Tryd.prog 96 #[.int .u64 v, .int .i64 n] w fun e w' => ∃ x, e = .returned x ∧ w'.ownsRow w.heap.size 5 1 x n (cellsOf (be n v)) ∧ Fr (fun _ => False) w w' :=
  (gnumber_any v n w hn hv).mono (fun _ _ h => ⟨_, h.1, h.2.1, h.2.2⟩)

set_option maxRecDepth 1000000 in
theorem glaid6 (u : Nat) (s : ByteArray) (n m : Int) (w : World) (hs : s.size < 140737488355000) : Calls Tryd.prog 67 #[.agg #[.int .i64 6, .int .u64 u, .string s, .int .i64 n, .int .i64 m]] w fun e w' => ∃ v, e = .returned v ∧ Src w' v (be 4 s.size ++ bytesOf s) ∧ Fr (fun _ => False) w w' := by
  obtain ⟨i0, hi, hz0, hz1, hz2⟩ := info_parts Tryd.info5
  have hwr : IntKind.u64.wrap (s.size : Int) = (s.size : Int) := by rw [IntKind.wrap_u64]; omega
  go_enter Tryd.func67, Tryd.ntmps67
  go_wp2_with fail
  refine (gnumber_o s.size 4 _ (by decide) (by omega)).mono ?_
  rintro e w1 ⟨x, rfl, ho, hf⟩
  have ho' := own_mono ho (base' := w.heap.size + 1) (by simp)
  have H := hide (And.intro ho' ((box1 w _).trans hf (fun _ _ h => h)))
  have hbx : w1.cell? ⟨w.heap.size, 2, none⟩ = some (.string s) := (hf.cell (by simp) (fun h => h)).trans (by simp)
  clear ho ho' hf
  go_wp2_with fail
  go_loopw [3, 4] (fun x i wr => ∃ k : Nat, k ≤ s.size ∧ i = .int .i64 k ∧ wr.ownsRow (w.heap.size + 1) 5 1 x (4 + k) (cellsOf (be 4 s.size ++ (bytesOf s).take k)) ∧ wr.cell? ⟨w.heap.size, 2, none⟩ = some (.string s) ∧ Fr (fun _ => False) w wr) (fun _ i _ => s.size - (intOf i).toNat)
  case atStart => exact ⟨0, Nat.zero_le _, rfl, by simpa using (unhide H).1, hbx, (unhide H).2⟩
  case round =>
    obtain ⟨k, hk, rfl, ho, hb, hf⟩ := hrel
    rename World => wr
    have H2 := hide (And.intro ho hf)
    clear ho hf
    by_cases hlt : k < s.size
    · have hlt' : k < s.data.size := hlt
      obtain ⟨ho, hf⟩ := unhide H2
      rename_i x'
      have hc : s[k].toNat < 256 := s[k].toNat_lt
      have hx1 := ownsRow_of_block (w' := wr.alloc (.cells #[.int .u8 (s[k].toNat : Int)] 5)) ho (fun g hg => Below.heap_alloc _ _ _ (ho.lt g hg).2)
      have hbl : w.heap.size < wr.heap.size := lt_of_cell hb
      obtain ⟨ao, c', w2, hr, hown, hgrow, hat⟩ := run_app_sl _ 25 (w.heap.size + 1) (4 + k) _ _ _ [s[k].toNat] hx1 (lit_src wr [s[k].toNat] #[.int .u8 (s[k].toNat : Int)] 1 1 rfl (by simp [cellsOf, B, Nat.mod_eq_of_lt hc])) (by simp; omega) (by simp; omega)
      have hf2 : Fr (fun _ => False) w w2 := (hf.alloc _).grown hgrow (fun g hg => .inr (by have := (ho.lt g hg).1; omega))
      have hb2 : w2.cell? ⟨w.heap.size, 2, none⟩ = some (.string s) := (hgrow.cell_far ⟨w.heap.size, 2, none⟩ (by simp; omega) (fun e => by have := (ho.lt w.heap.size e.symm).1; omega)).trans ((World.cell?_alloc_past _ _ _ hbl).trans hb)
      have ho2 : w2.ownsRow (w.heap.size + 1) 5 1 (.slice ao (4 + k + 1) c') (4 + (k + 1)) (cellsOf (be 4 s.size ++ (bytesOf s).take (k + 1))) := by
        have hk' : k < (bytesOf s).length := by rw [bytesOf_length]; exact hlt
        have e : (bytesOf s)[k] = s[k].toNat := by simp [bytesOf]; rfl
        rw [List.take_add_one, List.getElem?_eq_getElem hk', Option.toList_some, e, ← List.append_assoc, cellsOf_append _ [s[k].toNat]]
        exact hown
      have HR := hide hr
      have H3 := hide (And.intro ho2 (And.intro hb2 hf2))
      clear ho hf hx1 hr hown hgrow hat hf2 hb2 ho2
      go_wp2_with (at_builtin; refine wpList_app rfl (.tmp 56) (.tmp 61) 25 25 rfl _ _ _ rfl rfl (unhide HR) ?_)
      go_roundw
      case rel => exact ⟨k + 1, by omega, by go_num, (unhide H3).1, (unhide H3).2.1, (unhide H3).2.2⟩
      case measure => simp [intOf]; omega
    · have hkn : k = s.size := by omega
      subst hkn
      go_wp2_with fail
      go_ret
      have e : (bytesOf s).take s.size = bytesOf s := List.take_of_length_le (by rw [bytesOf_length]; exact Nat.le_refl _)
      have h := (unhide H2).1
      rw [e] at h
      exact ⟨_, rfl, own_src (by rw [List.length_append, be_length, bytesOf_length]; exact h), (unhide H2).2⟩
end Go.Proofs.YtikolmpgnpkdbaaDoor
