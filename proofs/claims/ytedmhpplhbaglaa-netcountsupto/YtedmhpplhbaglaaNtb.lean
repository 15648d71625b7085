import Derived.Test.YtedmhpplhbaglaaNta
namespace Go.Proofs.Ytedmhpplhbaglaa
open Go.RowKit Go.ChangeShapes Go.WideShapes Go.Maps

theorem blkset {w : World} {b t : Nat} {cs : Array Value} (h : w.heap[b]? = some (.cells cs t)) (o : Nat) (v : Value) : (w.setCell ⟨b, o, none⟩ v).heap[b]? = some (.cells (cs.setIfInBounds o v) t) := by
  simp [World.setCell, Array.getElem?_modify, h]
theorem lt_of_block {w : World} {b : Nat} {o : Obj} (h : w.heap[b]? = some o) : b < w.heap.size := by
  rcases Nat.lt_or_ge b w.heap.size with hx | hx
  · exact hx
  · rw [Array.getElem?_eq_none hx] at h; cases h
theorem heap_alloc_new (w : World) (o : Obj) : (w.alloc o).heap[w.heap.size]? = some o := (MapKept.heap_alloc w o).1
theorem ownsMap_keep {H : Type} {w w' : World} {P : Program} {k : TypeId} {R : Value → Option (DataW H × List MemPlace)} {b n : Nat} {D : DataW H} (h : w.ownsMap P k R b n D) (hb : w'.heap[b]? = w.heap[b]?) : w'.ownsMap P k R b n D := by
  obtain ⟨es, clock, h1, F, hs, hD⟩ := h
  exact ⟨es, clock, hb.trans h1, F, hs, hD⟩
theorem ownsMap_blk {H : Type} {w : World} {P : Program} {k : TypeId} {R : Value → Option (DataW H × List MemPlace)} {b n : Nat} {D : DataW H} (h : w.ownsMap P k R b n D) : ∃ es clock, w.heap[b]? = some (.map es clock) := by
  obtain ⟨es, clock, h1, _⟩ := h
  exact ⟨es, clock, h1⟩
theorem Try.iK : Maps.Keyed Try.prog 3 := Maps.int_keyed Try.underlying3
theorem key_int (k : Int) (h : (Lit.int .i64 k).wf = true) : keyOf Try.prog 3 (.int .i64 k) = some (.int .i64 k) := by
  simp [keyOf, mapKey, Try.underlying3, h]
theorem wf_nat (k : Nat) (h : k ≤ 1000000000000) : (Lit.int .i64 ((k : Int) + 1)).wf = true := by
  have h1 : IntKind.i64.min = -9223372036854775808 := by decide
  have h2 : IntKind.i64.max = 9223372036854775807 := by decide
  simp only [Lit.wf, h1, h2, Bool.and_eq_true, decide_eq_true_eq]
  omega
/-- A net's own cells. -/
def NC (pl : Int) (m : Nat) (ps : List PK) : Array Value := #[.int .i64 pl, .map (some m), .int .i64 (cS ps : Nat), .int .i64 (cC ps : Nat), .int .i64 (cD ps : Nat), .int .i64 (cL ps : Nat)]
/-- What the map holds of a packet. -/
def pvOf (sv : Nat → Option Addr × Nat) (k : Nat) (p : PK) : PV := ⟨(k : Int) + 1, p.f, p.t, (sv k).1, p.b.length, (sv k).2⟩
/-- The map's data against the packets. -/
structure DOk (D : DataW PV) (ps : List PK) (sv : Nat → Option Addr × Nat) : Prop where
  has : ∀ z : Int, has D (.int .i64 z) = und ps z
  at_ : ∀ (k : Nat) p, ps[k]? = some p → p.gone = 0 → ∀ z, D.atKey (.int .i64 ((k : Int) + 1)) z = .held (pvOf sv k p)
/-- A net in memory: its own blocks are d and m; the bytes of its packets lie in blocks among T. -/
structure NtAt (w : World) (d m : Nat) (pl : Int) (ps : List PK) (sv : Nat → Option Addr × Nat) (T : Nat → Prop) : Prop where
  blk : w.heap[d]? = some (.cells (NC pl m ps) 58)
  map : ∃ D, w.ownsMap Try.prog 3 RV m ps.length D ∧ DOk D ps sv
  src : ∀ (k : Nat) p, ps[k]? = some p → p.gone = 0 → Src w (.slice (sv k).1 p.b.length (sv k).2) p.b
  own : ∀ (k : Nat) p, ps[k]? = some p → p.gone = 0 → ∀ g o, (sv k).1 = some ⟨g, o, none⟩ → T g
  ns : ∀ g, T g → g ≠ d ∧ g ≠ m ∧ g < w.heap.size
  lim : ∀ p ∈ ps, p.b.length ≤ 1048576
theorem NtAt.dm {w : World} {d m : Nat} {pl : Int} {ps : List PK} {sv : Nat → Option Addr × Nat} {T : Nat → Prop} (h : NtAt w d m pl ps sv T) : d ≠ m := by
  obtain ⟨D, h1, _⟩ := h.map
  obtain ⟨es, c, h2⟩ := ownsMap_blk h1
  intro e
  rw [← e, h.blk] at h2
  cases h2
theorem NtAt.lt {w : World} {d m : Nat} {pl : Int} {ps : List PK} {sv : Nat → Option Addr × Nat} {T : Nat → Prop} (h : NtAt w d m pl ps sv T) : d < w.heap.size ∧ m < w.heap.size := by
  obtain ⟨D, h1, _⟩ := h.map
  obtain ⟨es, c, h2⟩ := ownsMap_blk h1
  exact ⟨lt_of_block h.blk, lt_of_block h2⟩
theorem NtAt.fr {w w' : World} {d m : Nat} {pl : Int} {ps : List PK} {sv : Nat → Option Addr × Nat} {T S : Nat → Prop} (h : NtAt w d m pl ps sv T) (hf : Fr S w w') (hd : ¬ S d) (hm : ¬ S m) (hT : ∀ g, T g → ¬ S g) : NtAt w' d m pl ps sv T := by
  obtain ⟨D, h1, h2⟩ := h.map
  refine ⟨(hf.block d h.lt.1 hd).trans h.blk, ⟨D, ownsMap_keep h1 (hf.block m h.lt.2 hm), h2⟩, fun k p hk hp => (h.src k p hk hp).fr hf (fun g o n c e => ?_), h.own, fun g hg => ⟨(h.ns g hg).1, (h.ns g hg).2.1, Nat.lt_of_lt_of_le (h.ns g hg).2.2 hf.size⟩, h.lim⟩
  cases hs : (sv k).1 with
  | none => rw [hs] at e; cases e
  | some a =>
    rw [hs] at e
    cases e
    exact hT g (h.own k p hk hp g o hs)
theorem NtAt.fr0 {w w' : World} {d m : Nat} {pl : Int} {ps : List PK} {sv : Nat → Option Addr × Nat} {T : Nat → Prop} (h : NtAt w d m pl ps sv T) (hf : Fr (fun _ => False) w w') : NtAt w' d m pl ps sv T := h.fr hf (fun h => h) (fun h => h) (fun _ _ h => h)
theorem NtAt.cells {w : World} {d m : Nat} {pl : Int} {ps : List PK} {sv : Nat → Option Addr × Nat} {T : Nat → Prop} (h : NtAt w d m pl ps sv T) :
    w.cell? ⟨d, 0, none⟩ = some (.int .i64 pl) ∧ w.cell? ⟨d, 1, none⟩ = some (.map (some m)) ∧ w.cell? ⟨d, 2, none⟩ = some (.int .i64 (cS ps : Nat)) ∧ w.cell? ⟨d, 3, none⟩ = some (.int .i64 (cC ps : Nat)) ∧ w.cell? ⟨d, 4, none⟩ = some (.int .i64 (cD ps : Nat)) ∧ w.cell? ⟨d, 5, none⟩ = some (.int .i64 (cL ps : Nat)) ∧ ∀ k, w.frozen? ⟨d, k, none⟩ = false := by
  refine ⟨?_, ?_, ?_, ?_, ?_, ?_, fun k => ?_⟩ <;> simp [World.cell?, World.frozen?, h.blk, NC]
theorem cell_of_blk {w : World} {b t o : Nat} {cs : Array Value} {v : Value} (h : w.heap[b]? = some (.cells cs t)) (hv : cs[o]? = some v) : w.cell? ⟨b, o, none⟩ = some v := by
  simp [World.cell?, h, hv]
theorem set_new {sv : Nat → Option Addr × Nat} {n k : Nat} {x : Option Addr × Nat} (h : k ≠ n) : (fun j => if j = n then x else sv j) k = sv k := if_neg h
/-- A packet more. -/
theorem DOk.put {w : World} {m n : Nat} {D : DataW PV} {ps : List PK} {sv : Nat → Option Addr × Nat} (hown : w.ownsMap Try.prog 3 RV m n D) (h : DOk D ps sv) (p : PK) (hp : p.gone = 0) (x : Option Addr × Nat) :
    DOk (D.put (.int .i64 ((ps.length : Int) + 1)) (.held ⟨(ps.length : Int) + 1, p.f, p.t, x.1, p.b.length, x.2⟩)) (ps ++ [p]) (fun j => if j = ps.length then x else sv j) := by
  have hI := hown.isMap
  refine ⟨fun z => ?_, fun k q hk hq z => ?_⟩
  · rw [und_put _ _ hp, ← h.has]
    by_cases e : z = (ps.length : Int) + 1
    · subst e
      rw [has_put_same hI (by trivial)]
      simp
    · rw [has_put_other (fun e2 => e (by injection e2)), decide_eq_false e, Bool.or_false]
  · by_cases e : k = ps.length
    · subst e
      rw [List.getElem?_concat_length] at hk
      cases hk
      rw [atKey_put_same hI (by trivial)]
      simp [pvOf]
    · have hl : k < ps.length := by
        have := (List.getElem?_eq_some_iff.1 hk).1
        simp at this
        omega
      rw [List.getElem?_append_left hl] at hk
      rw [atKey_put_other (fun e2 => e (by injection e2; omega)), h.at_ k q hk hq]
      simp [pvOf, e]
theorem NtAt.put {w w' : World} {d m : Nat} {pl : Int} {ps : List PK} {sv : Nat → Option Addr × Nat} {T T' : Nat → Prop} (h : NtAt w d m pl ps sv T) (p : PK) (hp : p.gone = 0) (hl : p.b.length ≤ 1048576) (x : Option Addr × Nat) {D : DataW PV} (hD : DOk D ps sv)
    (hd : w'.heap[d]? = some (.cells (NC pl m (ps ++ [p])) 58)) (hm : w'.ownsMap Try.prog 3 RV m (ps.length + 1) (D.put (.int .i64 ((ps.length : Int) + 1)) (.held ⟨(ps.length : Int) + 1, p.f, p.t, x.1, p.b.length, x.2⟩)))
    (hown : w.ownsMap Try.prog 3 RV m ps.length D)
    (hx : Src w' (.slice x.1 p.b.length x.2) p.b) (hxT : ∀ g o, x.1 = some ⟨g, o, none⟩ → T' g) (hT : ∀ g, T g → T' g) (hT2 : ∀ g, T' g → g ≠ d ∧ g ≠ m ∧ g < w'.heap.size) (hf : Fr (fun k => k = d ∨ k = m) w w') :
    NtAt w' d m pl (ps ++ [p]) (fun j => if j = ps.length then x else sv j) T' := by
  have hold : ∀ (k : Nat) q, (ps ++ [p])[k]? = some q → (k = ps.length ∧ q = p) ∨ (k ≠ ps.length ∧ ps[k]? = some q) := fun k q hk => by
    by_cases e : k = ps.length
    · subst e
      rw [List.getElem?_concat_length] at hk
      cases hk
      exact .inl ⟨rfl, rfl⟩
    · have hl : k < ps.length := by
        have := (List.getElem?_eq_some_iff.1 hk).1
        simp at this
        omega
      rw [List.getElem?_append_left hl] at hk
      exact .inr ⟨e, hk⟩
  refine ⟨hd, ⟨_, by rw [List.length_append]; exact hm, hD.put hown p hp x⟩, fun k q hk hq => ?_, fun k q hk hq g o e => ?_, hT2, fun q hq => ?_⟩
  · rcases hold k q hk with ⟨rfl, rfl⟩ | ⟨e, hk'⟩
    · simpa using hx
    · simp only [if_neg e]
      refine (h.src k q hk' hq).fr hf (fun g o n c e2 => ?_)
      cases hs : (sv k).1 with
      | none => rw [hs] at e2; cases e2
      | some a =>
        rw [hs] at e2
        cases e2
        have := h.ns g (h.own k q hk' hq g o hs)
        omega
  · rcases hold k q hk with ⟨rfl, rfl⟩ | ⟨e2, hk'⟩
    · simp at e; exact hxT g o e
    · simp only [if_neg e2] at e
      exact hT g (h.own k q hk' hq g o e)
  · rcases List.mem_append.1 hq with hq | hq
    · exact h.lim q hq
    · simp at hq; subst hq; exact hl
/-- A packet gone. -/
theorem DOk.del {D : DataW PV} {ps : List PK} {sv : Nat → Option Addr × Nat} (h : DOk D ps sv) (k : Nat) (p : PK) (hk : k < ps.length) (hp : p.gone ≠ 0) : DOk (D.del (.int .i64 ((k : Int) + 1))) (ps.set k p) sv := by
  refine ⟨fun z => ?_, fun j q hj hq z => ?_⟩
  · rw [und_set _ _ _ hk hp, ← h.has]
    by_cases e : z = (k : Int) + 1
    · subst e
      rw [has_del_same]
      simp
    · rw [has_del_other (fun e2 => e (by injection e2)), decide_eq_false e]
      simp
  · by_cases e : k = j
    · subst e
      rw [List.getElem?_set_self hk] at hj
      cases hj
      exact absurd hq hp
    · rw [List.getElem?_set_ne e] at hj
      rw [atKey_del_other (fun e2 => e (by injection e2; omega))]
      exact h.at_ j q hj hq z
theorem NtAt.del {w w' : World} {d m : Nat} {pl : Int} {ps : List PK} {sv : Nat → Option Addr × Nat} {T : Nat → Prop} (h : NtAt w d m pl ps sv T) (k : Nat) (p : PK) (hk : k < ps.length) (hp : p.gone ≠ 0) (hl : p.b.length ≤ 1048576) {D : DataW PV} (hD : DOk D ps sv)
    (hd : w'.heap[d]? = some (.cells (NC pl m (ps.set k p)) 58)) (hm : w'.ownsMap Try.prog 3 RV m ps.length (D.del (.int .i64 ((k : Int) + 1)))) (hf : Fr (fun k => k = d ∨ k = m) w w') : NtAt w' d m pl (ps.set k p) sv T := by
  have hold : ∀ (j : Nat) q, (ps.set k p)[j]? = some q → q.gone = 0 → ps[j]? = some q := fun j q hj hq => by
    by_cases e : k = j
    · subst e
      rw [List.getElem?_set_self hk] at hj
      cases hj
      exact absurd hq hp
    · rw [List.getElem?_set_ne e] at hj
      exact hj
  refine ⟨hd, ⟨_, by rw [List.length_set]; exact hm, hD.del k p hk hp⟩, fun j q hj hq => ?_, fun j q hj hq => h.own j q (hold j q hj hq) hq, fun g hg => ⟨(h.ns g hg).1, (h.ns g hg).2.1, Nat.lt_of_lt_of_le (h.ns g hg).2.2 hf.size⟩, fun q hq => ?_⟩
  · have hj' := hold j q hj hq
    refine (h.src j q hj' hq).fr hf (fun g o n c e2 => ?_)
    cases hs : (sv j).1 with
    | none => rw [hs] at e2; cases e2
    | some a =>
      rw [hs] at e2
      cases e2
      have := h.ns g (h.own j q hj' hq g o hs)
      omega
  · rcases List.mem_or_eq_of_mem_set hq with hq | rfl
    · exact h.lim q hq
    · exact hl
end Go.Proofs.Ytedmhpplhbaglaa
