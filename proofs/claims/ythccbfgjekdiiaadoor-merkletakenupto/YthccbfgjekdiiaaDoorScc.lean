import Derived.Test.YthccbfgjekdiiaaDoorSby
namespace Go.Proofs.YthccbfgjekdiiaaDoor
open Go.RowKit

/-- Bytes that the program's text has, in a new block. -/
theorem src_new (w : World) (l : List Nat) (cs : Array Value) (t : TypeId) (fz : Nat × Nat) (n c : Nat) (hn : n = l.length) (h : cs = (cellsOf l).toArray) : Src (w.alloc (.cells cs t fz)) (.slice (some ⟨w.heap.size, 0, none⟩) n c) l := by
  subst hn h
  refine .inr (.inl ⟨_, 0, _, rfl, fun j v hv => ?_⟩)
  rw [Nat.zero_add, ← hv]
  simp only [World.alloc, World.cell?, Array.getElem?_push, if_true]
  simp
theorem cap_lit {g : Option Addr} {n : Nat} : ∀ g' n' c', (Value.slice g n n) = .slice g' n' c' → n' ≤ c' := fun _ _ _ e => by cases e; exact Nat.le_refl _
theorem lt_lit {w : World} {o : Obj} {n : Nat} : ∀ g' o' n' c', (Value.slice (some ⟨w.heap.size, 0, none⟩) n n) = .slice (some ⟨g', o', none⟩) n' c' → g' < (w.alloc o).heap.size := fun _ _ _ _ e => by
  simp only [Value.slice.injEq, Option.some.injEq, Addr.mk.injEq, and_true] at e
  rw [← e.1.1]; simp
theorem ne_lit {w : World} {b : Nat} {n : Nat} (hb : b < w.heap.size) : ∀ g' o' n' c', (Value.slice (some ⟨w.heap.size, 0, none⟩) n n) = .slice (some ⟨g', o', none⟩) n' c' → ¬ g' = b := fun _ _ _ _ e => by
  simp only [Value.slice.injEq, Option.some.injEq, Addr.mk.injEq, and_true] at e
  rw [← e.1.1]; omega
theorem HM.lt {w : World} {b o : Nat} {m : List Nat} (h : HM w b o m) : b < w.heap.size := HsAt.lt h
/-- What was summed, as a slice. -/
theorem sum_src {w : World} {g n : Nat} {z : S8} (h2 : n ≤ 32) (h : BtAt w g n (fun j => ((sby z).take n).getD j 0)) : Src w (.slice (some ⟨g, 0, none⟩) n n) ((sby z).take n) :=
  h.src (by rw [List.length_take, sby_len]; omega) (fun j hj => by
    rw [Nat.mod_eq_of_lt]
    rw [List.getD]
    rcases e : ((sby z).take n)[j]? with _ | x
    · decide
    · exact sby_lt z x (List.mem_of_mem_take (List.mem_of_getElem? e)))
theorem fr_new {w w' : World} {b : Nat} (hf : Fr (fun k => k = b) w w') {w0 : World} (h0 : Fr (fun _ => False) w0 w) (hb : w0.heap.size ≤ b) : Fr (fun _ => False) w0 w' :=
  h0.trans (hf.mono (T := fun k => w0.heap.size ≤ k) (fun i _ h => by omega)) (fun i hi h => by omega)
theorem take_len (z : S8) (n : Nat) : ((sby z).take n).length ≤ 140737488355328 := by rw [List.length_take, sby_len]; omega
theorem same_T {w : World} {x y : Value} {a b : List Nat} (hx : Src w x a) (hy : Src w y b) (ha : a.length ≤ 140737488355328) (hs : sameB a b = true) : Calls Tryd.prog 23 #[x, y] w fun e w' => e = .returned (.bool true) ∧ Fr (fun _ => False) w w' := by
  refine (same_any x y a b w hx hy ha).mono ?_
  rintro e w' ⟨rfl, hn⟩
  exact ⟨by rw [hs], Fr.of_drewN hn⟩
end Go.Proofs.YthccbfgjekdiiaaDoor
