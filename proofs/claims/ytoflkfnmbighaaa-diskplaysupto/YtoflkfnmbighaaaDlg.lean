import Derived.Test.YtoflkfnmbighaaaDlf
import Derived.Test.YtoflkfnmbighaaaDki
namespace Go.Proofs.Ytoflkfnmbighaaa
open Go.RowKit Go.ChangeShapes Go.WideShapes Go.Maps Go.Sort

def sX : ByteArray := ⟨#[120]⟩
def sY : ByteArray := ⟨#[121]⟩
/-- DiskTears' disk in memory. -/
structure TW (w W : World) (d m : Nat) (s : DM) (q : DW) (O : Nat → Prop) (f : Nat → Nat) (od : List Nat) (safe : Nat) (G : List Own3) : Prop where
  D : DkAt W d m s q O
  fr : Fr (fun _ => False) w W
  o : ∀ k, O k → w.heap.size ≤ k
  t : TI s f od safe G
  fb : ∀ i, i < 2 → q.fb (key2 i) = f i
  es : ∃ v1 v2, s.D = .map [(.string (key2 0), v1), (.string (key2 1), v2)]
  full : s.full = false
  limit : s.limit = 65536
  two : ∀ o ∈ od, o < 2
  oth : ∀ k, (∀ i, i < 2 → k ≠ key2 i) → s.F k = ⟨[], 0, []⟩
theorem TW.has {w W : World} {d m : Nat} {s : DM} {q : DW} {O : Nat → Prop} {f : Nat → Nat} {od : List Nat} {safe : Nat} {G : List Own3} (h : TW w W d m s q O f od safe G) (i : Nat) (hi : i < 2) : Maps.has s.D (.string (key2 i)) = true := by
  obtain ⟨v1, v2, e⟩ := h.es
  rw [e]
  have : i = 0 ∨ i = 1 := by omega
  rcases this with rfl | rfl <;> rfl
/-- The disk is gone on with, and what is told besides is new. -/
theorem TW.go {w W W' : World} {d m : Nat} {s : DM} {q : DW} {O S : Nat → Prop} {f : Nat → Nat} {od : List Nat} {safe : Nat} {G : List Own3} (h : TW w W d m s q O f od safe G) (hf : Fr S W W') (hS : ∀ k, S k → ¬ O k ∧ w.heap.size ≤ k) : TW w W' d m s q O f od safe G :=
  ⟨h.D.fr hf (fun k hk e => (hS k e).1 hk), h.fr.absorb hf (fun k hk => (hS k hk).2), h.o, h.t, h.fb, h.es, h.full, h.limit, h.two, h.oth⟩
theorem two_has0 (L fx : Nat) : Maps.has ((DM.new L).made (key2 0) fx).D (.string (key2 1)) = false := rfl
theorem two_size0 (L fx : Nat) : Maps.size ((DM.new L).made (key2 0) fx).D < 256 := by
  show 1 < 256
  decide
end Go.Proofs.Ytoflkfnmbighaaa
