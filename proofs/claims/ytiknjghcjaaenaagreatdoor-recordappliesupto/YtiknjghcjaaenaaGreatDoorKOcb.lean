import Derived.Test.YtiknjghcjaaenaaGreatDoorKOca
import Derived.Test.YtiknjghcjaaenaaGreatDoorKOaz
namespace Go.Proofs.YtiknjghcjaaenaaGreatDoor
open Go.RowKit Go.Shelf
def scells (l : List SM) : List Value := l.flatMap fun s => [.int .u32 (s.au : Nat), .int .u32 (s.ev : Nat), .int .u32 (s.nf : Nat), .bool s.rd]
def OwS (w : World) (base : Nat) (v : Value) (l : List SM) : Prop := w.ownsRow base 83 4 v l.length (scells l)
def OpD (w : World) (b : Nat) (s : RM) (q : RW) (M : Nat → Prop) (x : RM × RA) (fv hv : Value) (w' : World) : Prop :=
 (x.1 = s ∧ Fr (fun _ => False) w w' ∧ OwF w' w.heap.size fv x.2.F ∧ OwS w' w.heap.size hv x.2.H) ∨ (x.2.F = [] ∧ x.2.H = [] ∧ fv = .slice none 0 0 ∧ hv = .slice none 0 0 ∧ RsTo w w' b s x.1 q M)
def OpPost (w : World) (b : Nat) (s : RM) (q : RW) (M : Nat → Prop) (cl nu : Nat) (x : RM × RA) (e : Ending) (w' : World) : Prop :=
 ∃ fv hv, e = .returned (AN.v ⟨cl, nu, x.2.co, x.2.rc, x.2.ve, fv, hv⟩) ∧ OpD w b s q M x fv hv w'
theorem OpD.no {w w' : World} {b : Nat} {s : RM} {q : RW} {M : Nat → Prop} {c rc ve : Nat} (hf : Fr (fun _ => False) w w') : OpD w b s q M (s, ⟨c, rc, ve, [], []⟩) (.slice none 0 0) (.slice none 0 0) w' :=
 .inl ⟨rfl, hf, World.ownsRow_nil _ _ _ _, World.ownsRow_nil _ _ _ _⟩
theorem OpPost.no {w w' : World} {b : Nat} {s : RM} {q : RW} {M : Nat → Prop} {c : Nat} {e : Ending} (h : e = .returned (AN.no c).v) (hf : Fr (fun _ => False) w w') : OpPost w b s q M 0 0 (s, RA.no c) e w' :=
 ⟨_, _, h, OpD.no hf⟩
theorem OpPost.put {w w' : World} {b : Nat} {s s' : RM} {q : RW} {M : Nat → Prop} {rc ve : Nat} {e : Ending} (h : e = .returned (AN.v ⟨0, 0, 0, rc, ve, .slice none 0 0, .slice none 0 0⟩)) (hr : RsTo w w' b s s' q M) : OpPost w b s q M 0 0 (s', ⟨0, rc, ve, [], []⟩) e w' :=
 ⟨_, _, h, .inr ⟨rfl, rfl, rfl, rfl, hr⟩⟩
theorem RsTo.from {w W w' : World} {b : Nat} {s s' : RM} {q : RW} {M : Nat → Prop} (hf : Fr (fun _ => False) w W) (h : RsTo W w' b s s' q M) : RsTo w w' b s s' q M := by
 obtain ⟨q', M', h1, h2, h3, h4⟩ := h
 have hs := hf.size
 exact ⟨q', M', h1, fun k hk => (h2 k hk).imp id (fun h => by omega), fun k hk => (h3 k hk).imp id (fun h => by omega), (hf.mono (fun _ _ h => h.elim)).trans h4 (fun _ _ h => h)⟩
theorem OpD.out {w W w' w'' : World} {b B : Nat} {s : RM} {q : RW} {M : Nat → Prop} {x : RM × RA} {fv hv : Value} (h0 : RsAt w b s q M) (hf : Fr (fun _ => False) w W) (hB1 : w.heap.size ≤ B) (hB2 : B < W.heap.size) (h : OpD W b s q M x fv hv w') (h2 : Fr (fun k => k = B) w' w'') : OpD w b s q M x fv hv w'' := by
 have hs := hf.size
 rcases h with ⟨e, f1, f2, f3⟩ | ⟨e1, e2, e3, e4, hr⟩
 ·refine .inl ⟨e, (hf.trans f1 (fun _ _ h => h)).absorb h2 (fun i hi => by omega), ?_, ?_⟩
  ·exact ownsRow_base (ownsRow_of_block f2 (fun g hg => h2.block g (f2.lt g hg).2 (fun hk => by have := (f2.lt g hg).1; omega))) hs
  ·exact ownsRow_base (ownsRow_of_block f3 (fun g hg => h2.block g (f3.lt g hg).2 (fun hk => by have := (f3.lt g hg).1; omega))) hs
 ·obtain ⟨q', M', h1, h5, h3, h4⟩ := RsTo.from hf hr
  obtain ⟨q2, M2, k1, k5, k3, k4⟩ := hr
  refine .inr ⟨e1, e2, e3, e4, q2, M2, k1.frD h2 (fun k hk hM => ?_) (fun k hk hU => ?_), fun k hk => (k5 k hk).imp id (fun h => by omega), fun k hk => (k3 k hk).imp id (fun h => by omega), ?_⟩
  ·subst hk
   rcases k5 k hM with h | h
   ·have := h0.lt k h; omega
   ·omega
  ·subst hk
   rcases k3 k hU with h | h
   ·have := h0.usesLt h; omega
   ·omega
  ·exact h4.trans h2 (fun i hi hk => by subst hk; omega)
end Go.Proofs.YtiknjghcjaaenaaGreatDoor
