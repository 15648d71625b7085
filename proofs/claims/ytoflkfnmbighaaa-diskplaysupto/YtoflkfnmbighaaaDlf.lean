import Derived.Test.YtoflkfnmbighaaaDle
namespace Go.Proofs.Ytoflkfnmbighaaa
open Go.RowKit Go.ChangeShapes Go.WideShapes Go.Maps Go.Sort

/-- A new disk with both files. -/
def DM.two (L fx fy : Nat) : DM := ((DM.new L).made (key2 0) fx).made (key2 1) fy
theorem two_D (L fx fy : Nat) : (DM.two L fx fy).D = .map [(.string (key2 0), .lit (.int .i64 (fx : Nat))), (.string (key2 1), .lit (.int .i64 (fy : Nat)))] := rfl
theorem two_TI (L fx fy : Nat) (f : Nat → Nat) (hne : f 0 ≠ f 1) : TI (DM.two L fx fy) f [] 0 [] := by
  refine ⟨hne, fun i hi => ?_, fun i hi => ?_, fun i hi => ?_, List.Pairwise.nil, fun o ho => (by cases ho), rfl, fun o ho => (by cases ho), Nat.le_refl _, fun o ho => (by cases ho), rfl⟩
  all_goals
    have : i = 0 ∨ i = 1 := by omega
    rcases this with rfl | rfl <;> rfl
theorem whose_len : ∀ G : List Own3, (∀ o ∈ G, 1 ≤ o.sz) → G.length ≤ (whose G).length
  | [], _ => Nat.le_refl _
  | o :: r, h => by
    have h1 := whose_len r (fun x hx => h x (List.mem_cons_of_mem _ hx))
    have h2 := h o (List.mem_cons_self ..)
    rw [whose_cons, List.length_append, List.length_replicate, List.length_cons]
    omega
theorem whose_sz : ∀ (G : List Own3) (o : Own3), o ∈ G → o.sz ≤ (whose G).length
  | [], _, h => by cases h
  | x :: r, o, h => by
    rw [whose_cons, List.length_append, List.length_replicate]
    rcases List.mem_cons.1 h with rfl | h
    · omega
    · have := whose_sz r o h
      omega
theorem whose_sum (fb : Nat) : ∀ G : List Own3, sumP ((G.filter (fun o => o.fb == fb)).map (fun o => (o.wr, o.sz))) = (whose G).count fb
  | [] => rfl
  | o :: r => by
    have ih := whose_sum fb r
    rw [whose_cons, List.count_append, List.count_replicate]
    by_cases e : o.fb = fb
    · rw [List.filter_cons_of_pos (by simp [e])]
      simp only [List.map_cons, sumP]
      rw [ih]
      simp [e]
    · rw [List.filter_cons_of_neg (by simp [e]), ih]
      simp [e]
theorem TI.len {s : DM} {f : Nat → Nat} {od : List Nat} {safe : Nat} {G : List Own3} (h : TI s f od safe G) : (whose G).length ≤ od.length := by
  have e := congrArg List.length h.wh
  rw [List.length_map, List.length_drop] at e
  omega
/-- A file's bytes are those that are safe and those of its pieces. -/
theorem TI.whole {s : DM} {f : Nat → Nat} {od : List Nat} {safe : Nat} {G : List Own3} (h : TI s f od safe G) (i : Nat) (hi : i < 2) : (s.F (key2 i)).safe + sumP (s.F (key2 i)).ps = (s.F (key2 i)).b.length := by
  have e : od = od.take safe ++ (whose G).map (fun b => if b = f 0 then 0 else 1) := by rw [← h.wh, List.take_append_drop]
  have e2 : cnt256 i od = cnt256 i (od.take safe) + (whose G).count (f i) := by
    conv => lhs; rw [e]
    rw [cnt256_cat, whose_count (f i) i _ _ (fun b hb => h.mem i hi b hb)]
  rw [h.b i hi, wantL_count, h.sf i hi, h.p i hi, whose_sum, e2]
theorem TI.used_ln {s : DM} {f : Nat → Nat} {od : List Nat} {safe : Nat} {G : List Own3} {v1 v2 : DataW Unit} (h : TI s f od safe G) (hD : ents s.D = [(.string (key2 0), v1), (.string (key2 1), v2)]) (ho : ∀ o ∈ od, o < 2) : (s.used : Int) = sumA s.ln (ents s.D) := by
  have a := cnt_two od ho
  rw [hD]
  simp only [sumA, DM.ln]
  rw [h.b 0 (by decide), h.b 1 (by decide), wantL_count, wantL_count, h.used]
  omega
theorem TI.sizes {s : DM} {f : Nat → Nat} {od : List Nat} {safe : Nat} {G : List Own3} (h : TI s f od safe G) (i : Nat) (hi : i < 2) : (s.F (key2 i)).ps.length ≤ od.length ∧ (s.F (key2 i)).safe ≤ od.length ∧ (s.F (key2 i)).b.length ≤ od.length ∧ ∀ p ∈ (s.F (key2 i)).ps, p.2 ≤ od.length := by
  have hl := h.len
  refine ⟨?_, ?_, ?_, fun p hp => ?_⟩
  · rw [h.p i hi, List.length_map]
    have h1 := List.length_filter_le (fun o : Own3 => o.fb == f i) G
    have h2 := whose_len G h.pos
    omega
  · rw [h.sf i hi]
    have h1 := cnt256_le i (od.take safe)
    rw [List.length_take] at h1
    omega
  · rw [h.b i hi]
    exact wantL_len i od 0
  · rw [h.p i hi, List.mem_map] at hp
    obtain ⟨o, ho, rfl⟩ := hp
    have h1 := whose_sz G o (List.mem_filter.1 ho).1
    simp only
    omega
end Go.Proofs.Ytoflkfnmbighaaa
