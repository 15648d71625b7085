import Derived.Test.YtoflkfnmbighaaaDlb
namespace Go.Proofs.Ytoflkfnmbighaaa
open Go.RowKit Go.ChangeShapes Go.WideShapes Go.Maps Go.Sort

/-- The files' blocks are told by the map. -/
theorem DkAt.fb_eq {w w' : World} {d m d' m' : Nat} {s s' : DM} {q q' : DW} {O O' : Nat → Prop} (h : DkAt w d m s q O) (h' : DkAt w' d' m' s' q' O') (hD : s'.D = s.D) (k : List UInt8) (hk : Maps.has s.D (.string k) = true) : q'.fb k = q.fb k := by
  have h1 := (h.at_ k hk).1
  have h2 := (h'.at_ k (by rw [hD]; exact hk)).1
  rw [hD, h1] at h2
  simp only [DataW.lit.injEq, Lit.int.injEq, true_and] at h2
  omega
theorem wantL_rep (own v : Nat) : ∀ (n i : Nat), wantL own (List.replicate n v) i = if v % 256 = own then List.range' i n else []
  | 0, i => by simp [wantL]
  | n + 1, i => by
    rw [List.replicate_succ]
    simp only [wantL]
    rw [wantL_rep own v n (i + 1)]
    by_cases e : v % 256 = own
    · simp [e, List.range'_succ]
    · simp [e]
theorem wantL_more (own v n : Nat) (od : List Nat) : wantL own (od ++ List.replicate n v) 0 = wantL own od 0 ++ if v % 256 = own then List.range' od.length n else [] := by
  rw [wantL_cat, wantL_rep, Nat.zero_add]
end Go.Proofs.Ytoflkfnmbighaaa
