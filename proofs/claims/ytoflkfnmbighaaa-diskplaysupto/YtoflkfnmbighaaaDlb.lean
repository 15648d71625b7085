import Derived.Test.YtoflkfnmbighaaaDla
namespace Go.Proofs.Ytoflkfnmbighaaa
open Go.RowKit Go.ChangeShapes Go.WideShapes Go.Maps Go.Sort

/-- A list in order that is a permutation of one that rises is that one. -/
theorem perm_rise : ∀ (L G : List Own3), L.Perm G → L.Pairwise (fun a b => a.wr ≤ b.wr) → G.Pairwise (fun a b => a.wr < b.wr) → L = G
  | [], G, h, _, _ => by rw [h.symm.eq_nil]
  | o :: r, [], h, _, _ => by have := h.length_eq; simp at this
  | o :: r, g :: t, h, h1, h2 => by
    rw [List.pairwise_cons] at h1 h2
    have e : o = g := by
      have ho : o ∈ g :: t := h.mem_iff.1 (List.mem_cons_self ..)
      have hg : g ∈ o :: r := h.mem_iff.2 (List.mem_cons_self ..)
      rcases List.mem_cons.1 ho with e | ho
      · exact e
      · rcases List.mem_cons.1 hg with e | hg
        · exact e.symm
        · have a := h2.1 o ho
          have b := h1.1 g hg
          omega
    subst e
    rw [perm_rise r t ((List.perm_cons o).1 h) h1.2 h2.2]
/-- Whose each of the bytes is that pieces have. -/
def whose (G : List Own3) : List Nat := G.flatMap fun o => List.replicate o.sz o.fb
theorem whose_cons (o : Own3) (r : List Own3) : whose (o :: r) = List.replicate o.sz o.fb ++ whose r := by simp [whose]
theorem whose_app (G : List Own3) (o : Own3) : whose (G ++ [o]) = whose G ++ List.replicate o.sz o.fb := by simp [whose]
/-- What a file gets back of a crash: its own among the first. -/
theorem gain_count (fb : Nat) : ∀ (G : List Own3) (keep : Nat), gain G keep fb = ((whose G).take keep).count fb
  | [], keep => by simp [gain, whose]
  | o :: r, keep => by
    rw [whose_cons, List.take_append, List.count_append, List.take_replicate, List.count_replicate, List.length_replicate]
    simp only [gain]
    rw [gain_count fb r, show keep - min o.sz keep = keep - o.sz by omega]
    by_cases e : o.fb = fb
    · simp [e, Nat.min_comm]
    · simp [e]
theorem wantL_cat (own : Nat) : ∀ (a b : List Nat) (i : Nat), wantL own (a ++ b) i = wantL own a i ++ wantL own b (i + a.length)
  | [], b, i => by simp [wantL]
  | p :: r, b, i => by
    simp only [List.cons_append, wantL, List.length_cons]
    rw [wantL_cat own r b (i + 1), List.append_assoc, show i + 1 + r.length = i + (r.length + 1) by omega]
/-- How many are one's own. -/
def cnt256 (own : Nat) (l : List Nat) : Nat := l.countP fun o => decide (o % 256 = own)
theorem wantL_count (own : Nat) : ∀ (l : List Nat) (i : Nat), (wantL own l i).length = cnt256 own l
  | [], _ => rfl
  | p :: r, i => by
    have ih := wantL_count own r (i + 1)
    unfold cnt256 at ih ⊢
    simp only [wantL, List.length_append, List.countP_cons]
    rw [ih]
    by_cases e : p % 256 = own
    · simp [e]; omega
    · simp [e]
theorem wantL_take (own : Nat) (l : List Nat) (n : Nat) : (wantL own l 0).take (cnt256 own (l.take n)) = wantL own (l.take n) 0 := by
  rw [← wantL_count own (l.take n) 0]
  have e := wantL_cat own (l.take n) (l.drop n) 0
  rw [List.take_append_drop] at e
  rw [e, List.take_left]
theorem cnt256_cat (own : Nat) (a b : List Nat) : cnt256 own (a ++ b) = cnt256 own a + cnt256 own b := by simp [cnt256, List.countP_append]
theorem cnt256_le (own : Nat) (l : List Nat) : cnt256 own l ≤ l.length := List.countP_le_length
/-- The owners of pieces by number, where fx is the file of x. -/
theorem whose_count (fx own : Nat) (f : Nat → Nat) : ∀ l : List Nat, (∀ b ∈ l, (f b % 256 = own) ↔ (b = fx)) → cnt256 own (l.map f) = l.count fx
  | [], _ => rfl
  | b :: r, h => by
    have ih := whose_count fx own f r (fun x hx => h x (List.mem_cons_of_mem _ hx))
    have hb := h b (List.mem_cons_self ..)
    unfold cnt256 at ih ⊢
    simp only [List.map_cons, List.countP_cons, List.count_cons]
    rw [ih]
    by_cases e : b = fx
    · subst e
      simp [hb.2 rfl]
    · have e2 : ¬ f b % 256 = own := fun h => e (hb.1 h)
      simp [e2, e]
/-- What is left of a file behind a crash: its own among what was safe and the first so many of what was pending. -/
theorem left_file (own fx safe keep : Nat) (f : Nat → Nat) (od : List Nat) (G : List Own3) (h : od.drop safe = (whose G).map f) (hf : ∀ b ∈ whose G, (f b % 256 = own) ↔ (b = fx)) :
    (wantL own od 0).take (cnt256 own (od.take safe) + gain G keep fx) = wantL own (od.take (safe + keep)) 0 := by
  have e : od.take (safe + keep) = od.take safe ++ ((whose G).take keep).map f := by
    rw [List.take_add, h, List.map_take]
  have e2 : cnt256 own (od.take (safe + keep)) = cnt256 own (od.take safe) + gain G keep fx := by
    rw [e, cnt256_cat, gain_count, whose_count fx own f _ (fun b hb => hf b (List.mem_of_mem_take hb))]
  rw [← e2, wantL_take]
end Go.Proofs.Ytoflkfnmbighaaa
