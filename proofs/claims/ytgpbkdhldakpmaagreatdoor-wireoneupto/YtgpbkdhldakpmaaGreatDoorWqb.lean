import Derived.Test.YtgpbkdhldakpmaaGreatDoorFai
import Derived.Test.YtgpbkdhldakpmaaGreatDoorFlu
namespace Go.Proofs.YtgpbkdhldakpmaaGreatDoor
open Go.RowKit

/-- What a writer has, its fault by number. -/
structure Wq where
  nm : ByteArray
  l : List Nat
  f : Option (ByteArray × Nat × Nat)
def Wq.wst (s : Wq) (E : Nat → Addr) : Wst := ⟨s.nm, s.l, s.f.map fun x => (x.1, x.2.1, E x.2.2)⟩
def Wq.named (s : Wq) (x : ByteArray) : Wq := { s with nm := x }
def Wq.putB (s : Wq) (x : List Nat) : Wq := if s.f = none then { s with l := s.l ++ x } else s
def Wq.failN (s : Wq) (n : Nat) : Wq := if n = 0 ∨ s.f ≠ none then s else { s with f := some (s.nm, s.l.length, n) }
theorem Wq.wst_none {s : Wq} {E : Nat → Addr} (h : s.f = none) : (s.wst E).f = none := by simp [Wq.wst, h]
theorem Wq.wst_some {s : Wq} {E : Nat → Addr} (h : s.f ≠ none) : (s.wst E).f ≠ none := by
  simp only [Wq.wst, ne_eq, Option.map_eq_none_iff]; exact h
theorem Wq.wst_putB (s : Wq) (x : List Nat) (E : Nat → Addr) : (s.wst E).putB x = (s.putB x).wst E := by
  by_cases hf : s.f = none <;> simp [Wst.putB, Wq.putB, Wq.wst, hf]
theorem Wq.wst_fail (s : Wq) (n : Nat) (E : Nat → Addr) (hn : n ≠ 0) : (s.wst E).fail (E n) = (s.failN n).wst E := by
  by_cases hf : s.f = none <;> simp [Wst.fail, Wq.failN, Wq.wst, hf, hn]
/-- What a count's, a text's or bytes' length makes. -/
def Wq.lim (s : Wq) (n : Nat) (m : Int) (x : List Nat) : Wq := if (n : Int) ≤ m ∧ n < 4294967296 then s.putB x else s.failN 2
def Wq.cnt (s : Wq) (n m : Int) : Wq := if n < 0 then s.failN 4 else s.lim n.toNat m (be 4 n.toNat)
def Wq.flt (s : Wq) (x : Nat) : Wq := if quantB x = true then s.putB (be 4 x) else s.failN 4
theorem Wq.wst_lim (s : Wq) (n : Nat) (m : Int) (x : List Nat) (E : Nat → Addr) : (if (n : Int) ≤ m ∧ n < 4294967296 then (s.wst E).putB x else (s.wst E).fail (E 2)) = (s.lim n m x).wst E := by
  unfold Wq.lim
  split
  · exact s.wst_putB x E
  · exact s.wst_fail 2 E (by decide)
theorem Wq.lim_given {s : Wq} (h : s.f ≠ none) (n : Nat) (m : Int) (x : List Nat) : s.lim n m x = s := by simp [Wq.lim, Wq.putB, Wq.failN, h]
theorem Wq.cnt_given {s : Wq} (h : s.f ≠ none) (n m : Int) : s.cnt n m = s := by
  unfold Wq.cnt
  split
  · simp [Wq.failN, h]
  · exact Wq.lim_given h _ _ _
theorem Wq.flt_given {s : Wq} (h : s.f ≠ none) (x : Nat) : s.flt x = s := by simp [Wq.flt, Wq.putB, Wq.failN, h]
theorem Wq.putB_given {s : Wq} (h : s.f ≠ none) (x : List Nat) : s.putB x = s := by simp [Wq.putB, h]

theorem wName_q (s : Wq) (x : ByteArray) (b : Nat) (F : Nat → Prop) (E : Nat → Addr) (w : World) (h : W w b F (s.wst E)) :
    Calls Tryz.prog 104 #[.pointer (some ⟨b, 0, none⟩), .string x] w fun e w' => e = .returned (.tuple #[]) ∧ W w' b F ((s.named x).wst E) ∧ Ch w w' F F := wName_any b x F _ w h
theorem wFail_q (s : Wq) (n : Nat) (b : Nat) (F : Nat → Prop) (E : Nat → Addr) (w : World) (h : W w b F (s.wst E)) :
    Calls Tryz.prog 105 #[.pointer (some ⟨b, 0, none⟩), errV E n] w fun e w' => e = .returned (.tuple #[]) ∧ ∃ F', W w' b F' ((s.failN n).wst E) ∧ Ch w w' F F' := by
  have es : (s.wst E).failN E n = (s.failN n).wst E := by
    by_cases h0 : n = 0
    · simp [Wst.failN, Wq.failN, h0]
    · rw [Wst.failN, if_neg h0, Wq.wst_fail s n E h0]
  rw [← es]
  exact wFail_any b n F _ E w h
theorem wU8_q (s : Wq) (v : Nat) (b : Nat) (F : Nat → Prop) (E : Nat → Addr) (w : World) (hv : v < 256) (h : W w b F (s.wst E)) (hl : s.f = none → s.l.length + 1 ≤ 140737488355328) :
    Calls Tryz.prog 123 #[.pointer (some ⟨b, 0, none⟩), .int .u8 v] w fun e w' => e = .returned (.tuple #[]) ∧ ∃ F', W w' b F' ((s.putB (be 1 v)).wst E) ∧ Ch w w' F F' := by
  have hmf := mf
  by_cases hn : s.f = none
  · rw [← Wq.wst_putB]
    exact wU8_any b v F _ w hv h (hl hn)
  · rw [Wq.putB_given hn]
    have HN := hide (Wq.wst_some (E := E) hn)
    clear hn hl
    go_enter Tryz.func123, Tryz.ntmps123
    go_wp2_with fail
    refine (att_given (w := w) h (unhide HN) (box2 _ _ _)).mono ?_
    rintro e w' ⟨rfl, hr⟩
    go_wp2_with fail
    go_end0
    exact ⟨rfl, hr⟩
theorem wU32_q (s : Wq) (v : Nat) (b : Nat) (F : Nat → Prop) (E : Nat → Addr) (w : World) (hv : v < 4294967296) (h : W w b F (s.wst E)) (hl : s.f = none → s.l.length + 4 ≤ 140737488355328) :
    Calls Tryz.prog 124 #[.pointer (some ⟨b, 0, none⟩), .int .u32 v] w fun e w' => e = .returned (.tuple #[]) ∧ ∃ F', W w' b F' ((s.putB (be 4 v)).wst E) ∧ Ch w w' F F' := by
  have hmf := mf
  by_cases hn : s.f = none
  · rw [← Wq.wst_putB]
    exact wU32_any b v F _ w hv h (hl hn)
  · rw [Wq.putB_given hn]
    have HN := hide (Wq.wst_some (E := E) hn)
    clear hn hl
    go_enter Tryz.func124, Tryz.ntmps124
    go_wp2_with fail
    refine (att_given (w := w) h (unhide HN) (box2 _ _ _)).mono ?_
    rintro e w' ⟨rfl, hr⟩
    go_wp2_with fail
    go_end0
    exact ⟨rfl, hr⟩
theorem wF32_q (s : Wq) (v : Nat) (b : Nat) (F : Nat → Prop) (E : Nat → Addr) (w : World) (hr : Rg w (E 4)) (hv : v < 4294967296) (h : W w b F (s.wst E)) (hl : s.f = none → s.l.length + 4 ≤ 140737488355328) :
    Calls Tryz.prog 125 #[.pointer (some ⟨b, 0, none⟩), .float .f32 v] w fun e w' => e = .returned (.tuple #[]) ∧ ∃ F', W w' b F' ((s.flt v).wst E) ∧ Ch w w' F F' := by
  have hmf := mf
  by_cases hn : s.f = none
  · have es : (s.wst E).flt v (E 4) = (s.flt v).wst E := by
      unfold Wst.flt Wq.flt
      split
      · exact s.wst_putB _ E
      · exact s.wst_fail 4 E (by decide)
    rw [← es]
    exact wF32_any b v F _ (E 4) w hr h hv (hl hn)
  · rw [Wq.flt_given hn]
    have HN := hide (Wq.wst_some (E := E) hn)
    clear hn hl
    go_enter Tryz.func125, Tryz.ntmps125
    go_wp2_with fail
    refine (att_given (w := w) h (unhide HN) (box2 _ _ _)).mono ?_
    rintro e w' ⟨rfl, hr⟩
    go_wp2_with fail
    go_end0
    exact ⟨rfl, hr⟩
theorem wText_q (s : Wq) (x : ByteArray) (m : Int) (b : Nat) (F : Nat → Prop) (E : Nat → Addr) (w : World) (hg : Gl w E) (h : W w b F (s.wst E)) (hx : x.size < 9223372036854775808) (hl : s.f = none → s.l.length + 4 + x.size ≤ 140737488355328) :
    Calls Tryz.prog 126 #[.pointer (some ⟨b, 0, none⟩), .string x, .int .i64 m] w fun e w' => e = .returned (.tuple #[]) ∧ ∃ F', W w' b F' ((s.lim x.size m (be 4 x.size ++ bytesOf x)).wst E) ∧ Ch w w' F F' := by
  have hmf := mf
  by_cases hn : s.f = none
  · rw [← Wq.wst_lim]
    exact wText_any b x m F _ E w hg h hx (hl hn)
  · rw [Wq.lim_given hn]
    have HN := hide (Wq.wst_some (E := E) hn)
    clear hn hl hg hx
    go_enter Tryz.func126, Tryz.ntmps126
    go_wp2_with fail
    refine (att_given (w := w) h (unhide HN) (box3 _ _ _ _)).mono ?_
    rintro e w' ⟨rfl, hr⟩
    go_wp2_with fail
    go_end0
    exact ⟨rfl, hr⟩
theorem wBytes_q (s : Wq) (x : Value) (l : List Nat) (m : Int) (b : Nat) (F : Nat → Prop) (E : Nat → Addr) (w : World) (hg : Gl w E) (h : W w b F (s.wst E)) (hsrc : Src w x l) (nx : ∀ g o m c, x = .slice (some ⟨g, o, none⟩) m c → ¬ F g) (hx : l.length < 9223372036854775808) (hl : s.f = none → s.l.length + 4 + l.length ≤ 140737488355328) :
    Calls Tryz.prog 127 #[.pointer (some ⟨b, 0, none⟩), x, .int .i64 m] w fun e w' => e = .returned (.tuple #[]) ∧ ∃ F', W w' b F' ((s.lim l.length m (be 4 l.length ++ l)).wst E) ∧ Ch w w' F F' := by
  have hmf := mf
  by_cases hn : s.f = none
  · rw [← Wq.wst_lim]
    exact wBytes_any b x l m F _ E w hg h hsrc nx hx (hl hn)
  · rw [Wq.lim_given hn]
    obtain ⟨xo, xc, rfl⟩ := hsrc.form
    have HN := hide (Wq.wst_some (E := E) hn)
    clear hn hl hg hx hsrc nx
    go_enter Tryz.func127, Tryz.ntmps127
    go_wp2_with fail
    refine (att_given (w := w) h (unhide HN) (box3 _ _ _ _)).mono ?_
    rintro e w' ⟨rfl, hr⟩
    go_wp2_with fail
    go_end0
    exact ⟨rfl, hr⟩
theorem wCount_q (s : Wq) (n m : Int) (b : Nat) (F : Nat → Prop) (E : Nat → Addr) (w : World) (hg : Gl w E) (hr : Rg w (E 4)) (h : W w b F (s.wst E)) (hx : n < 9223372036854775808) (hl : s.f = none → s.l.length + 4 ≤ 140737488355328) :
    Calls Tryz.prog 128 #[.pointer (some ⟨b, 0, none⟩), .int .i64 n, .int .i64 m] w fun e w' => e = .returned (.tuple #[]) ∧ ∃ F', W w' b F' ((s.cnt n m).wst E) ∧ Ch w w' F F' := by
  have hmf := mf
  by_cases hn : s.f = none
  · have es : (s.wst E).cnt n m (E 2) (E 4) = (s.cnt n m).wst E := by
      unfold Wst.cnt Wq.cnt
      by_cases h0 : n < 0
      · rw [if_pos h0, if_pos h0]; exact s.wst_fail 4 E (by decide)
      · obtain ⟨k, rfl⟩ := Int.eq_ofNat_of_zero_le (show 0 ≤ n by omega)
        rw [if_neg h0, if_neg h0, ← Wq.wst_lim]
        simp only [Int.toNat_natCast]
        by_cases hc : (k : Int) ≤ m ∧ k < 4294967296
        · rw [if_pos hc, if_pos ⟨hc.1, by omega⟩]
        · rw [if_neg hc, if_neg (fun hx => hc ⟨hx.1, by omega⟩)]
    rw [← es]
    exact wCount_any b n m F _ E (E 4) w hg hr h hx (hl hn)
  · rw [Wq.cnt_given hn]
    have HN := hide (Wq.wst_some (E := E) hn)
    clear hn hl hg hx hr
    go_enter Tryz.func128, Tryz.ntmps128
    go_wp2_with fail
    refine (att_given (w := w) h (unhide HN) (box3 _ _ _ _)).mono ?_
    rintro e w' ⟨rfl, hr⟩
    go_wp2_with fail
    go_end0
    exact ⟨rfl, hr⟩
end Go.Proofs.YtgpbkdhldakpmaaGreatDoor
