import Derived.Test.YthccbfgjekdiiaaDoorSbx
namespace Go.Proofs.YthccbfgjekdiiaaDoor
open Go.RowKit

def bytesOf (s : ByteArray) : List Nat := s.data.toList.map UInt8.toNat
theorem bytesOf_length (s : ByteArray) : (bytesOf s).length = s.size := by simp [bytesOf]
theorem ownsRow_of_block {w w' : World} {base e size n : Nat} {v : Value} {xs : List Value} (h : w.ownsRow base e size v n xs) (hb : ∀ g, v.ownBlock = some g → w'.heap[g]? = w.heap[g]?) : w'.ownsRow base e size v n xs := by
  refine ⟨h.1, ?_⟩
  rcases h.2 with h0 | ⟨g, cap, cur, e1, e2, e3, e4⟩
  · exact .inl h0
  · exact .inr ⟨g, cap, cur, e1, e2, (hb g (by rw [e1]; rfl)).trans e3, e4⟩
def hbl (l : List Nat) (k : Nat) : Nat := (dg (l.getD (2 * k) 0) * 16 % 256) ||| dg (l.getD (2 * k + 1) 0)
def hxk (l : List Nat) (n : Nat) : List Nat := (List.range n).map (hbl l)
def hxl (l : List Nat) : List Nat := hxk l (l.length / 2)
theorem hxk_len (l : List Nat) (n : Nat) : (hxk l n).length = n := by simp [hxk]
theorem hxk_succ (l : List Nat) (n : Nat) : hxk l (n + 1) = hxk l n ++ [hbl l n] := by rw [hxk, List.range_succ, List.map_append]; rfl
set_option maxRecDepth 100000 in
set_option maxHeartbeats 1000000 in
theorem hex_any (s : ByteArray) (w : World) (hs : s.size < 1048576) : Calls Tryd.prog 24 #[.string s] w fun e w' => ∃ v, e = .returned v ∧ Src w' v (hxl (bytesOf s)) ∧ Fr (fun _ => False) w w' := by
  go_enter Tryd.func24, Tryd.ntmps24
  go_wp2_with fail
  go_loopw [3, 4] (fun x i wr => ∃ k j : Nat, j = 2 * k ∧ j ≤ s.size ∧ i = .int .i64 j ∧ wr.ownsRow w.heap.size 5 1 x k (cellsOf (hxk (bytesOf s) k)) ∧ Fr (fun _ => False) w wr) (fun _ i _ => s.size - (intOf i).toNat)
  case atStart => exact ⟨0, 0, rfl, Nat.zero_le _, rfl, own_nil w _, Fr.refl _ _⟩
  case round =>
    obtain ⟨k, j, hj, hjs, rfl, ho, hF⟩ := hrel
    rename World => wr
    rename_i x'
    by_cases hlt : j + 1 < s.size
    · have hlt1 : j < s.size := by omega
      have hlt2 : j < s.data.size := hlt1
      have hlt3 : j + 1 < s.data.size := hlt
      have a0 : s[j].toNat < 256 := s[j].toNat_lt
      have a1 : s[j + 1].toNat < 256 := s[j + 1].toNat_lt
      have e0 : (bytesOf s).getD (2 * k) 0 = s[j].toNat := by
        rw [← hj, List.getD, List.getElem?_eq_getElem (by rw [bytesOf_length]; exact hlt1)]; simp [bytesOf]; rfl
      have e1 : (bytesOf s).getD (2 * k + 1) 0 = s[j + 1].toNat := by
        rw [← hj, List.getD, List.getElem?_eq_getElem (by rw [bytesOf_length]; exact hlt)]; simp [bytesOf]; rfl
      have hv : hbl (bytesOf s) k = (dg s[j].toNat * 16 % 256) ||| dg s[j + 1].toNat := by rw [hbl, e0, e1]
      have hj2 : j + 2 ≤ s.size := by omega
      obtain ⟨xo, xcap, rfl⟩ := own_form ho
      have x0 : ∀ w0 : World, (Instr.index 9 (.string s) (.int .i64 (j : Int))).run Tryd.prog w0 = .ok (.int .u8 (s[j].toNat : Int)) w0 := fun w0 => by
        rw [run_index_string _ _ _ _ _ Tryd.underlying9, dif_pos ⟨by omega, by omega⟩]
        simp only [Int.toNat_natCast]
      have x1 : ∀ w0 : World, (Instr.index 9 (.string s) (.int .i64 ((j : Int) + 1))).run Tryd.prog w0 = .ok (.int .u8 (s[j + 1].toNat : Int)) w0 := fun w0 => by
        have e : (j : Int) + 1 = ((j + 1 : Nat) : Int) := by omega
        rw [e, run_index_string _ _ _ _ _ Tryd.underlying9, dif_pos ⟨by omega, by omega⟩]
        simp only [Int.toNat_natCast]
      generalize s[j].toNat = A at *
      generalize s[j + 1].toNat = B1 at *
      have i1 : (j : Int) + 1 < (s.size : Int) := by omega
      have r0 : IntKind.i64.wrap ((j : Int) + 1) = (j : Int) + 1 := by rw [IntKind.wrap_i64]; omega
      have j0 : (0 : Int) ≤ (j : Int) + 1 := by omega
      have d0 := dg_lt A a0
      have d1 := dg_lt B1 a1
      have hd0 := fun w0 => digit_any A w0 a0
      have hd1 := fun w0 => digit_any B1 w0 a1
      generalize dg A = DA at *
      generalize dg B1 = DB at *
      have p1 : IntKind.u8.wrap ((DA : Int) * 16) = ((DA * 16 % 256 : Nat) : Int) := by rw [IntKind.wrap_u8]; omega
      have p1' : (DA : Int) * 16 % 256 = ((DA * 16 % 256 : Nat) : Int) := by omega
      have p2 := u8_or_nat (DA * 16 % 256) DB (Nat.mod_lt _ (by decide)) d1
      have vlt : (DA * 16 % 256) ||| DB < 256 := Nat.or_lt_two_pow (n := 8) (Nat.mod_lt _ (by decide)) d1
      generalize DA * 16 % 256 = P at *
      generalize P ||| DB = V at *
      have ho2 : (wr.alloc (.cells #[.int .u8 (V : Int)] 5)).drew.ownsRow w.heap.size 5 1 (.slice xo k xcap) k (cellsOf (hxk (bytesOf s) k)) := ownsRow_of_block (w' := (wr.alloc (.cells #[.int .u8 (V : Int)] 5)).drew) ho (fun g hg => Below.heap_alloc _ _ _ (ho.lt g hg).2)
      have hsr : Src (wr.alloc (.cells #[.int .u8 (V : Int)] 5)).drew (.slice (some ⟨wr.heap.size, 0, none⟩) 1 1) [V] := (lit_src wr [V] #[.int .u8 (V : Int)] 1 1 rfl (by simp [cellsOf, B, Nat.mod_eq_of_lt vlt])).fr0 (Fr.refl _ _).drew
      obtain ⟨ao, c', w2, hr, hown, hgrow, hat⟩ := run_app_sl _ 25 w.heap.size k _ _ _ [V] ho2 hsr (by simp; omega) (by have := hF.size; simp; omega)
      have hF2 : Fr (fun _ => False) w w2 := ((hF.alloc _).drew).grown hgrow (fun g hg => .inr (ho.lt g hg).1)
      have hnew : w2.ownsRow w.heap.size 5 1 (.slice ao (k + 1) c') (k + 1) (cellsOf (hxk (bytesOf s) (k + 1))) := by
        rw [hxk_succ, hv, cellsOf_append]; exact hown
      have hj' : j + 2 = 2 * (k + 1) := by omega
      have HR := hide hr
      have HV := hide (And.intro hnew (And.intro hF2 hj'))
      clear hv hj ho hF e0 e1 hlt1 hlt2 hlt3 ho2 hsr hr hown hgrow hat hF2 hnew hj'
      go_wp2_with fail
      go_region_held3 (fun _ => True) (trivial) (first
        | (go_at_call 52; refine (hd0 _).mono ?_; rintro e w' ⟨rfl, rfl⟩; clear hd0)
        | (go_at_call 52; refine (hd1 _).mono ?_; rintro e w' ⟨rfl, rfl⟩)
        | (refine step_app rfl (.tmp 12) (.tmp 24) 25 25 rfl (.slice xo k xcap) (.slice (some ⟨wr.heap.size, 0, none⟩) 1 1) _ (by simp [Act.eval]) (by simp [Act.eval]) (unhide HR) ?_))
      all_goals
        go_wp2_with fail
        exact ⟨⟨k + 1, j + 2, (unhide HV).2.2, hj2, by go_num, (unhide HV).1, (unhide HV).2.1⟩, by simp [intOf]; omega⟩
    · have hlt' : ¬ (j : Int) + 1 < (s.size : Int) := by omega
      have e : hxl (bytesOf s) = hxk (bytesOf s) k := by rw [hxl, bytesOf_length]; congr 1; omega
      have hsr := own_src ho
      rw [← e] at hsr
      have HV := hide (And.intro hsr hF)
      obtain ⟨xo, xcap, rfl⟩ := own_form ho
      clear hsr hF ho e hj
      go_wp2_with fail
      go_ret
      exact ⟨_, rfl, (unhide HV).1, (unhide HV).2⟩
end Go.Proofs.YthccbfgjekdiiaaDoor
