import Derived.Test.YtgpbkdhldakpmaaGreatDoorRdd
namespace Go.Proofs.YtgpbkdhldakpmaaGreatDoor
open Go.RowKit

/-- What a reader has, its fault by number. -/
structure Q where
  nm : ByteArray
  all : List Nat
  place : Nat
  part : Nat
  f : Option (ByteArray × Nat × Nat)
def Q.rst (q : Q) (E : Nat → Addr) : Rst := ⟨q.nm, q.all, q.place, q.part, q.f.map fun x => (x.1, x.2.1, E x.2.2)⟩
def Q.fail (q : Q) (n : Nat) : Q := { q with f := some (q.nm, q.place, n) }
/-- The next n bytes as a number. -/
def Q.num (q : Q) (n : Nat) : Nat := val ((q.all.drop q.place).take n)
/-- How many bytes a part begins with. -/
def wid (k : Int) : Nat := if k = 5 ∨ k = 6 ∨ k = 7 then 4 else k.toNat
/-- A call on a reader: the reader behind it, the number and the bytes that it tells. -/
def Q.step (q : Q) (p : Pt) : Q × Nat × List Nat :=
  if p.k = 10 then ({ q with nm := p.s }, 0, [])
  else if q.f ≠ none then (q, 0, [])
  else if p.k = 9 then (if p.n = 0 then q else { q with f := some (q.nm, q.part, p.n.toNat) }, 0, [])
  else if q.all.length < wid p.k + q.place then (q.fail 1, 0, [])
  else if p.k = 5 ∧ quantB (q.num 4) = false then (q.fail 4, 0, [])
  else if (p.k = 6 ∨ p.k = 7) ∧ p.m < (q.num 4 : Int) then (q.fail 2, 0, [])
  else if p.k ≠ 6 then ({ q with place := q.place + wid p.k, part := q.place }, q.num (wid p.k), [])
  else if q.all.length < q.num 4 + (q.place + 4) then (q.fail 1, 0, [])
  else ({ q with place := q.place + 4 + q.num 4, part := q.place }, 0, (q.all.drop (q.place + 4)).take (q.num 4))
/-- Its places lie within the bytes, its fault has a number. -/
structure Q.ok (q : Q) : Prop where
  place : q.place ≤ q.all.length
  part : q.part ≤ q.all.length
  f : ∀ x, q.f = some x → x.2.1 ≤ q.all.length ∧ 1 ≤ x.2.2 ∧ x.2.2 ≤ 7
/-- The place that it tells. -/
def Q.at_ (q : Q) : Nat := match q.f with
  | none => q.place
  | some x => x.2.1
theorem Q.step_all (q : Q) (p : Pt) : (q.step p).1.all = q.all := by
  unfold Q.step Q.fail
  repeat' split
  all_goals rfl
theorem Q.step_ok {q : Q} (h : q.ok) (p : Pt) (h9 : p.k = 9 → 0 ≤ p.n ∧ p.n ≤ 7) : (q.step p).1.ok := by
  have h1 := h.place
  have h2 := h.part
  unfold Q.step Q.fail
  split
  · exact ⟨h1, h2, h.f⟩
  split
  · exact h
  split
  · rename_i e
    have := h9 e
    dsimp only
    split
    · exact h
    · exact ⟨h1, h2, fun x hx => by obtain rfl := Option.some.inj hx; exact ⟨h2, by show 1 ≤ p.n.toNat; omega, by show p.n.toNat ≤ 7; omega⟩⟩
  split
  · exact ⟨h1, h2, fun x hx => by obtain rfl := Option.some.inj hx; exact ⟨h1, by dsimp only; decide, by dsimp only; decide⟩⟩
  split
  · exact ⟨h1, h2, fun x hx => by obtain rfl := Option.some.inj hx; exact ⟨h1, by dsimp only; decide, by dsimp only; decide⟩⟩
  split
  · exact ⟨h1, h2, fun x hx => by obtain rfl := Option.some.inj hx; exact ⟨h1, by dsimp only; decide, by dsimp only; decide⟩⟩
  split
  · exact ⟨by show q.place + wid p.k ≤ q.all.length; omega, h1, h.f⟩
  split
  · exact ⟨h1, h2, fun x hx => by obtain rfl := Option.some.inj hx; exact ⟨h1, by dsimp only; decide, by dsimp only; decide⟩⟩
  · exact ⟨by show q.place + 4 + q.num 4 ≤ q.all.length; omega, h1, h.f⟩
theorem Q.at_le {q : Q} (h : q.ok) : q.at_ ≤ q.all.length := by
  unfold Q.at_
  split
  · exact h.place
  · rename_i x e
    exact (h.f x e).1
end Go.Proofs.YtgpbkdhldakpmaaGreatDoor
