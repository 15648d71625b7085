import Derived.Test.YtebipmknlgcnaabCrk
import Derived.Laws.MakeOwn
import Derived.Laws.OwnMore
namespace Go.Proofs.Ytebipmknlgcnaab
open Go.RowKit

theorem made_zeros (n : Nat) : madeCells (Value.int .u8 0).cells (n * 1) = (cellsOf (List.replicate n 0)).toArray := by
  have e : (Value.int .u8 0).cells = #[.int .u8 0] := rfl
  rw [e, Nat.mul_one, madeCells]
  apply Array.ext_getElem?
  intro j
  by_cases h : j < n <;> simp [cellsOf, B, h, Nat.mod_one]
theorem Try.infoU8 : (Try.prog.info? 5).map (fun i => (i.zero, i.size, i.bytes)) = some (some (.int .u8 0), 1, 1) := by kernel_rfl
/-- The exclusive or of three texts, byte by byte. -/
def xf (a b c : List Nat) (j : Nat) : Nat := a.getD j 0 % 256 ^^^ b.getD j 0 % 256 ^^^ c.getD j 0 % 256
def xl (a b c : List Nat) (n : Nat) : List Nat := (List.range n).map (xf a b c)
theorem xf_lt (a b c : List Nat) (j : Nat) : xf a b c j < 256 := Nat.xor_lt_two_pow (n := 8) (Nat.xor_lt_two_pow (n := 8) (Nat.mod_lt _ (by decide)) (Nat.mod_lt _ (by decide))) (Nat.mod_lt _ (by decide))
theorem xl_len (a b c : List Nat) (n : Nat) : (xl a b c n).length = n := by simp [xl]
theorem xl_succ (a b c : List Nat) (n : Nat) : xl a b c (n + 1) = xl a b c n ++ [xf a b c n] := by rw [xl, List.range_succ, List.map_append]; rfl
theorem nb_xl (a b c : List Nat) (n : Nat) : nb (xl a b c n) = xl a b c n := by
  rw [nb, xl, List.map_map]
  apply List.map_congr_left
  intro j _
  exact Nat.mod_eq_of_lt (xf_lt a b c j)
theorem x6 (p q r x y z : Nat) : (p ^^^ q ^^^ r) ^^^ (x ^^^ y ^^^ z) = (p ^^^ x) ^^^ (q ^^^ y) ^^^ (r ^^^ z) := by
  apply Nat.eq_of_testBit_eq
  intro i
  simp only [Nat.testBit_xor]
  generalize p.testBit i = p
  generalize q.testBit i = q
  generalize r.testBit i = r
  generalize x.testBit i = x
  generalize y.testBit i = y
  generalize z.testBit i = z
  cases p <;> cases q <;> cases r <;> cases x <;> cases y <;> cases z <;> rfl
theorem up_three (a b c : List Nat) (n : Nat) (ha : n ≤ a.length) (hb : n ≤ b.length) (hc : n ≤ c.length) :
    Up 4294967295 (xl a b c n) = Up 4294967295 (nb (a.take n)) ^^^ Up 4294967295 (nb (b.take n)) ^^^ Up 4294967295 (nb (c.take n)) := by
  induction n with
  | zero => rw [List.take_zero, List.take_zero, List.take_zero, show xl a b c 0 = nb [] from rfl]; decide
  | succ n ih =>
    rw [xl_succ, nb_take a n (by omega), nb_take b n (by omega), nb_take c n (by omega), Up_snoc, Up_snoc, Up_snoc, Up_snoc, ih (by omega) (by omega) (by omega)]
    have e : xf a b c n = a[n] % 256 ^^^ b[n] % 256 ^^^ c[n] % 256 := by
      rw [xf, List.getD, List.getD, List.getD, List.getElem?_eq_getElem (show n < a.length by omega), List.getElem?_eq_getElem (show n < b.length by omega), List.getElem?_eq_getElem (show n < c.length by omega)]
      rfl
    rw [e, By, By, By, By, x6, Xn_xor, Xn_xor]
theorem sum_three (a b c : List Nat) (n : Nat) (ha : n ≤ a.length) (hb : n ≤ b.length) (hc : n ≤ c.length) :
    Sm 0 (a.take n) ^^^ Sm 0 (b.take n) ^^^ Sm 0 (c.take n) = Sm 0 (xl a b c n) := by
  rw [Sm, Sm, Sm, Sm, nb_xl, Nat.zero_xor, up_three a b c n ha hb hc, ← x6]
  rfl
theorem awake_S {w0 w : World} (h : Fr (fun _ => False) w0 w) : Calls Try.prog 5 #[] w fun e w' => e = .returned (.bool true) ∧ Fr (fun _ => False) w0 w' := by
  refine (awake_any w).mono ?_
  rintro e w' ⟨rfl, hF⟩
  exact ⟨rfl, h.trans hF (fun _ _ h => h)⟩
theorem sum_S {w0 w : World} {x : Value} {l : List Nat} {z : Nat} (h : Fr (fun _ => False) w0 w) (hx : Src w0 x l) (hl : l.length ≤ 140737488355328) (hz : Sm 0 l = z) :
    Calls Try.prog 6 #[x] w fun e w' => e = .returned (.int .u32 (z : Nat)) ∧ Fr (fun _ => False) w0 w' := by
  refine (sum_any x l w (hx.fr0 h) hl).mono ?_
  rintro e w' ⟨rfl, hF⟩
  exact ⟨by rw [hz], h.trans hF (fun _ _ h => h)⟩
theorem src_take {w : World} {xo : Option Addr} {n xc : Nat} {l : List Nat} (h : Src w (.slice xo l.length xc) l) (hn : n ≤ l.length) : Src w (.slice xo n xc) (l.take n) := by
  by_cases h0 : n = 0
  · subst h0
    rcases h with ⟨e, _⟩ | ⟨g, o, c, e, _⟩ | ⟨a, c, e, _⟩
    · simp only [Value.slice.injEq] at e
      obtain ⟨rfl, _, rfl⟩ := e
      exact .inl ⟨rfl, rfl⟩
    · simp only [Value.slice.injEq] at e
      obtain ⟨rfl, _, rfl⟩ := e
      exact .inr (.inr ⟨_, _, rfl, rfl⟩)
    · simp only [Value.slice.injEq] at e
      obtain ⟨rfl, _, rfl⟩ := e
      exact .inr (.inr ⟨_, _, rfl, rfl⟩)
  · rcases h with ⟨_, e⟩ | ⟨g, o, c, e, hc⟩ | ⟨a, c, _, e⟩
    · subst e; simp at hn; omega
    · simp only [Value.slice.injEq] at e
      obtain ⟨rfl, _, rfl⟩ := e
      refine .inr (.inl ⟨g, o, xc, by rw [List.length_take, Nat.min_eq_left hn], fun j v hv => hc j v ?_⟩)
      rw [cellsOf, List.getElem?_map] at hv ⊢
      rw [List.getElem?_take] at hv
      split at hv
      · exact hv
      · cases hv
    · subst e; simp at hn; omega
end Go.Proofs.Ytebipmknlgcnaab
