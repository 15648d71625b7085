import Derived.Test.YtoflkfnmbighaaaDlc
namespace Go.Proofs.Ytoflkfnmbighaaa
open Go.RowKit Go.ChangeShapes Go.WideShapes Go.Maps Go.Sort

/-- The names of DiskTears' two files. -/
def key2 (i : Nat) : List UInt8 := if i = 0 then [120] else [121]
theorem key2_ne {i j : Nat} (hi : i < 2) (hj : j < 2) (h : i ≠ j) : key2 i ≠ key2 j := by
  have : (i = 0 ∧ j = 1) ∨ (i = 1 ∧ j = 0) := by omega
  rcases this with ⟨rfl, rfl⟩ | ⟨rfl, rfl⟩ <;> decide
/-- A disk of two files within DiskTears: od tells whose each byte is, the first 'safe' of them are synced, G are the pieces of the others, as they were written. -/
structure TI (s : DM) (f : Nat → Nat) (od : List Nat) (safe : Nat) (G : List Own3) : Prop where
  ne : f 0 ≠ f 1
  b : ∀ i, i < 2 → (s.F (key2 i)).b = wantL i od 0
  sf : ∀ i, i < 2 → (s.F (key2 i)).safe = cnt256 i (od.take safe)
  p : ∀ i, i < 2 → (s.F (key2 i)).ps = (G.filter (fun o => o.fb == f i)).map (fun o => (o.wr, o.sz))
  rise : G.Pairwise (fun a b => a.wr < b.wr)
  low : ∀ o ∈ G, o.wr ≤ s.writes
  wh : od.drop safe = (whose G).map (fun b => if b = f 0 then 0 else 1)
  fbs : ∀ o ∈ G, ∃ i, i < 2 ∧ o.fb = f i
  le : safe ≤ od.length
  pos : ∀ o ∈ G, 1 ≤ o.sz
  used : s.used = od.length
theorem take_ran : ∀ (a n c : Nat), c ≤ n → (List.range' a n).take c = List.range' a c
  | _, _, 0, _ => by simp
  | a, n + 1, c + 1, h => by
    rw [List.range'_succ, List.range'_succ, List.take_succ_cons, take_ran (a + 1) n c (by omega)]
theorem count_writes (s : DM) (n : Nat) : (s.count n).1.writes = s.writes + 1 := by
  unfold DM.count
  split
  · rfl
  · split <;> rfl
theorem TI.fj {s : DM} {f : Nat → Nat} {od : List Nat} {safe : Nat} {G : List Own3} (h : TI s f od safe G) {i j : Nat} (hi : i < 2) (hj : j < 2) : f i = f j ↔ i = j := by
  have hne := h.ne
  constructor
  · intro e
    have : (i = 0 ∨ i = 1) ∧ (j = 0 ∨ j = 1) := by omega
    rcases this with ⟨rfl | rfl, rfl | rfl⟩
    · rfl
    · exact absurd e hne
    · exact absurd e.symm hne
    · rfl
  · intro e; rw [e]
theorem TI.app {s : DM} {f : Nat → Nat} {od : List Nat} {safe : Nat} {G : List Own3} (h : TI s f od safe G) (j n c : Nat) (hj : j < 2) (hc : (s.count n).2 = c) (hcn : c ≤ n) :
    TI (s.app (key2 j) (List.range' od.length n)) f (od ++ List.replicate c j) safe (if c = 0 then G else G ++ [⟨s.writes + 1, c, f j⟩]) := by
  have hF : ∀ i, i < 2 → (s.app (key2 j) (List.range' od.length n)).F (key2 i) = if i = j then (s.F (key2 j)).put (s.writes + 1) (List.range' od.length c) else s.F (key2 i) := fun i hi => by
    simp only [DM.app, List.length_range', hc]
    have et : (List.range' od.length n).take c = List.range' od.length c := take_ran _ _ _ hcn
    rw [et]
    by_cases e : i = j
    · subst e; rw [if_pos rfl, if_pos rfl]
    · rw [if_neg (key2_ne hi hj e), if_neg e]
  have hU : (s.app (key2 j) (List.range' od.length n)).used = s.used + c := by simp only [DM.app, List.length_range', hc]
  have hW : (s.app (key2 j) (List.range' od.length n)).writes = s.writes + 1 := by
    simp only [DM.app]
    exact count_writes _ _
  by_cases h0 : c = 0
  · subst h0
    rw [if_pos rfl]
    have hF2 : ∀ i, i < 2 → (s.app (key2 j) (List.range' od.length n)).F (key2 i) = s.F (key2 i) := fun i hi => by
      rw [hF i hi]
      by_cases e : i = j
      · subst e; simp [FM.put]
      · rw [if_neg e]
    rw [List.replicate_zero, List.append_nil]
    exact ⟨h.ne, fun i hi => by rw [hF2 i hi]; exact h.b i hi, fun i hi => by rw [hF2 i hi]; exact h.sf i hi, fun i hi => by rw [hF2 i hi]; exact h.p i hi, h.rise, fun o ho => by rw [hW]; exact Nat.le_succ_of_le (h.low o ho), h.wh, h.fbs, h.le, h.pos, by rw [hU, h.used, Nat.add_zero]⟩
  · rw [if_neg h0]
    have hput : (s.F (key2 j)).put (s.writes + 1) (List.range' od.length c) = ⟨(s.F (key2 j)).b ++ List.range' od.length c, (s.F (key2 j)).safe, (s.F (key2 j)).ps ++ [(s.writes + 1, c)]⟩ := by
      rw [FM.put, List.length_range', if_neg h0]
    refine ⟨h.ne, fun i hi => ?_, fun i hi => ?_, fun i hi => ?_, ?_, ?_, ?_, ?_, ?_, ?_, ?_⟩
    · rw [hF i hi, wantL_more, Nat.mod_eq_of_lt (by omega : j < 256)]
      by_cases e : i = j
      · subst e; rw [if_pos rfl, if_pos rfl, hput, h.b i hi]
      · rw [if_neg e, if_neg (fun e2 => e e2.symm), List.append_nil, h.b i hi]
    · have et : (od ++ List.replicate c j).take safe = od.take safe := by rw [List.take_append_of_le_length h.le]
      rw [hF i hi, et]
      by_cases e : i = j
      · subst e; rw [if_pos rfl, hput]; exact h.sf i hi
      · rw [if_neg e]; exact h.sf i hi
    · rw [hF i hi, List.filter_append, List.map_append]
      by_cases e : i = j
      · subst e; rw [if_pos rfl, hput]; simp [h.p i hi]
      · have e2 : ¬ f j = f i := fun e2 => e ((h.fj hj hi).1 e2).symm
        rw [if_neg e, h.p i hi]; simp [e2]
    · rw [List.pairwise_append]
      refine ⟨h.rise, List.pairwise_singleton .., fun a ha b hb => ?_⟩
      rw [List.mem_singleton] at hb
      subst hb
      exact Nat.lt_succ_of_le (h.low a ha)
    · intro o ho
      rw [hW]
      rcases List.mem_append.1 ho with ho | ho
      · exact Nat.le_succ_of_le (h.low o ho)
      · rw [List.mem_singleton] at ho; subst ho; exact Nat.le_refl _
    · rw [List.drop_append_of_le_length h.le, whose_app, List.map_append, ← h.wh, List.map_replicate]
      congr 2
      by_cases e : j = 0
      · subst e; simp
      · have e1 : j = 1 := by omega
        subst e1
        rw [if_neg (fun e2 => h.ne e2.symm)]
    · intro o ho
      rcases List.mem_append.1 ho with ho | ho
      · exact h.fbs o ho
      · rw [List.mem_singleton] at ho; subst ho; exact ⟨j, hj, rfl⟩
    · rw [List.length_append]; exact Nat.le_trans h.le (Nat.le_add_right _ _)
    · intro o ho
      rcases List.mem_append.1 ho with ho | ho
      · exact h.pos o ho
      · rw [List.mem_singleton] at ho; subst ho; exact Nat.pos_of_ne_zero h0
    · rw [hU, h.used, List.length_append, List.length_replicate]
end Go.Proofs.Ytoflkfnmbighaaa
