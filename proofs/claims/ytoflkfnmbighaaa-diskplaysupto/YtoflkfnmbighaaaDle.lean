import Derived.Test.YtoflkfnmbighaaaDld
namespace Go.Proofs.Ytoflkfnmbighaaa
open Go.RowKit Go.ChangeShapes Go.WideShapes Go.Maps Go.Sort

/-- One file synced. -/
def DM.syn (s : DM) (x : List UInt8) : DM := { s with F := fun k => if k = x then (s.F x).synced else s.F k }
theorem TI.sync {s : DM} {f : Nat → Nat} {od : List Nat} {safe : Nat} {G : List Own3} (h : TI s f od safe G) : TI ((s.syn (key2 0)).syn (key2 1)) f od od.length [] := by
  have hF : ∀ i, i < 2 → ((s.syn (key2 0)).syn (key2 1)).F (key2 i) = (s.F (key2 i)).synced := fun i hi => by
    have : i = 0 ∨ i = 1 := by omega
    rcases this with rfl | rfl <;> simp [DM.syn, key2]
  refine ⟨h.ne, fun i hi => ?_, fun i hi => ?_, fun i hi => ?_, List.Pairwise.nil, fun o ho => (by cases ho), ?_, fun o ho => (by cases ho), Nat.le_refl _, fun o ho => (by cases ho), h.used⟩
  · rw [hF i hi]; exact h.b i hi
  · rw [hF i hi, List.take_length, ← wantL_count i od 0, ← h.b i hi]; rfl
  · rw [hF i hi]; rfl
  · simp [whose]
theorem whose_mem {G : List Own3} {b : Nat} (h : b ∈ whose G) : ∃ o ∈ G, o.fb = b := by
  simp only [whose, List.mem_flatMap] at h
  obtain ⟨o, ho, hb⟩ := h
  exact ⟨o, ho, (List.eq_of_mem_replicate hb).symm⟩
theorem TI.mem {s : DM} {f : Nat → Nat} {od : List Nat} {safe : Nat} {G : List Own3} (h : TI s f od safe G) (i : Nat) (hi : i < 2) (b : Nat) (hb : b ∈ whose G) : ((if b = f 0 then 0 else 1) % 256 = i) ↔ (b = f i) := by
  obtain ⟨o, ho, rfl⟩ := whose_mem hb
  obtain ⟨j, hj, e⟩ := h.fbs o ho
  rw [e, h.fj hj hi]
  simp only [h.fj hj (by decide : 0 < 2)]
  have : (i = 0 ∨ i = 1) ∧ (j = 0 ∨ j = 1) := by omega
  rcases this with ⟨rfl | rfl, rfl | rfl⟩ <;> simp
/-- What a crash leaves of both files. -/
theorem TI.left {s : DM} {f : Nat → Nat} {od : List Nat} {safe : Nat} {G : List Own3} (h : TI s f od safe G) (q : DW) (keep : Nat) (hq : ∀ i, i < 2 → q.fb (key2 i) = f i) (i : Nat) (hi : i < 2) : (((s.offd).plus q G keep).crashT.F (key2 i)).b = wantL i (od.take (safe + keep)) 0 := by
  have e1 : (((s.offd).plus q G keep).crashT.F (key2 i)).b = (s.F (key2 i)).b.take ((s.F (key2 i)).safe + gain G keep (q.fb (key2 i))) := rfl
  rw [e1, hq i hi, h.b i hi, h.sf i hi]
  exact left_file i (f i) safe keep (fun b => if b = f 0 then 0 else 1) od G h.wh (fun b hb => h.mem i hi b hb)
theorem parted (f : Nat → Nat) (hne : f 0 ≠ f 1) : ∀ G : List Own3, (∀ o ∈ G, ∃ i, i < 2 ∧ o.fb = f i) → G.Perm (G.filter (fun o => o.fb == f 0) ++ G.filter (fun o => o.fb == f 1))
  | [], _ => List.Perm.refl _
  | o :: r, h => by
    have ih := parted f hne r (fun x hx => h x (List.mem_cons_of_mem _ hx))
    obtain ⟨i, hi, e⟩ := h o (List.mem_cons_self ..)
    have : i = 0 ∨ i = 1 := by omega
    rcases this with rfl | rfl
    · rw [List.filter_cons_of_pos (by simp [e]), List.filter_cons_of_neg (by simp [e, hne])]
      exact List.Perm.cons _ ih
    · rw [List.filter_cons_of_neg (by simp [e, hne.symm]), List.filter_cons_of_pos (by simp [e])]
      exact (List.Perm.cons _ ih).trans List.perm_middle.symm
theorem file_own (f : Nat → Nat) (i : Nat) (G : List Own3) : ((G.filter (fun o => o.fb == f i)).map (fun o => (o.wr, o.sz))).map (fun p => Own3.mk p.1 p.2 (f i)) = G.filter (fun o => o.fb == f i) := by
  rw [List.map_map]
  refine (List.map_congr_left (g := id) (fun o ho => ?_)).trans (List.map_id _)
  have h2 := (List.mem_filter.1 ho).2
  have e : o.fb = f i := by simpa using h2
  show Own3.mk o.wr o.sz (f i) = o
  rw [← e]
/-- The pieces of both files, in their order, are those that were written. -/
theorem TI.pieces {s : DM} {f : Nat → Nat} {od : List Nat} {safe : Nat} {G L : List Own3} {v1 v2 : DataW Unit} (h : TI s f od safe G) (q : DW) (hq : ∀ i, i < 2 → q.fb (key2 i) = f i) (hD : ents s.D = [(.string (key2 0), v1), (.string (key2 1), v2)]) (hL : L.Perm (s.allp q)) (hs : L.Pairwise (fun a b => a.wr ≤ b.wr)) : L = G := by
  refine perm_rise L G ?_ hs h.rise
  refine hL.trans ?_
  have e : s.allp q = G.filter (fun o => o.fb == f 0) ++ G.filter (fun o => o.fb == f 1) := by
    rw [DM.allp, hD]
    simp only [catA, DM.pcs, List.append_nil]
    rw [hq 0 (by decide), hq 1 (by decide), h.p 0 (by decide), h.p 1 (by decide), file_own, file_own]
  rw [e]
  exact (parted f h.ne G h.fbs).symm
theorem cnt_two (l : List Nat) : (∀ o ∈ l, o < 2) → cnt256 0 l + cnt256 1 l = l.length := by
  induction l with
  | nil => intro _; rfl
  | cons o r ih =>
    intro hl
    have h1 := ih (fun x hx => hl x (List.mem_cons_of_mem _ hx))
    have h2 := hl o (List.mem_cons_self ..)
    unfold cnt256 at h1 ⊢
    simp only [List.countP_cons, List.length_cons]
    have : o = 0 ∨ o = 1 := by omega
    rcases this with rfl | rfl <;> simp <;> omega
/-- How many bytes are pending. -/
theorem TI.pend {s : DM} {f : Nat → Nat} {od : List Nat} {safe : Nat} {G : List Own3} {v1 v2 : DataW Unit} (h : TI s f od safe G) (hD : ents s.D = [(.string (key2 0), v1), (.string (key2 1), v2)]) (ho : ∀ o ∈ od, o < 2) : s.pend = (od.length : Int) - (safe : Int) := by
  have a := cnt_two od ho
  have b := cnt_two (od.take safe) (fun o hx => ho o (List.mem_of_mem_take hx))
  rw [List.length_take, Nat.min_eq_left h.le] at b
  rw [DM.pend, hD]
  simp only [sumA, DM.pd]
  rw [h.b 0 (by decide), h.b 1 (by decide), h.sf 0 (by decide), h.sf 1 (by decide), wantL_count, wantL_count]
  omega
end Go.Proofs.Ytoflkfnmbighaaa
