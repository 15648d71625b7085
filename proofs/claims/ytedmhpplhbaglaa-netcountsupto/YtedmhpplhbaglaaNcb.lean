import Derived.Test.YtedmhpplhbaglaaNca
namespace Go.Proofs.Ytedmhpplhbaglaa
open Go.RowKit Go.ChangeShapes Go.WideShapes Go.Maps

/-- What NetCounts holds in memory: the net, what was put, its numbers, two arrays. -/
structure CM (w W : World) (d m : Nat) (ps : List PK) (sv : Nat → Option Addr × Nat) (T : Nat → Prop) (L : List OV) (pv : Value) (N : Nat) (nv : Value) (G1 : Nat → Nat) (g1 : Nat) (G2 : Nat → Nat) (g2 : Nat) : Prop where
  n : NtAt W d m 4 ps sv T
  f : Fr (fun _ => False) w W
  nd : w.heap.size ≤ d ∧ w.heap.size ≤ m ∧ w.heap.size ≤ g1 ∧ w.heap.size ≤ g2
  p : W.ownsRow w.heap.size 49 4 pv L.length (ocells L)
  q : W.ownsRow w.heap.size 3 1 nv N (ncells N)
  a1 : W.heap[g1]? = some (.cells (arr G1).toArray 53)
  a2 : W.heap[g2]? = some (.cells (arr G2).toArray 53)
  ne : g1 ≠ g2
  ly : ∀ x ∈ L, x.y < 256 ∧ W.heap[x.g]? = some (.cells #[.int .u8 (x.y : Nat)] 5)
  ap : ¬ T g1 ∧ ¬ T g2 ∧ (∀ k, pv.ownBlock = some k → ¬ T k) ∧ (∀ k, nv.ownBlock = some k → ¬ T k)
section
variable {w W W' : World} {d m : Nat} {ps : List PK} {sv : Nat → Option Addr × Nat} {T : Nat → Prop} {L : List OV} {pv : Value} {N : Nat} {nv : Value} {G1 : Nat → Nat} {g1 : Nat} {G2 : Nat → Nat} {g2 : Nat}
theorem CM.fr0 (h : CM w W d m ps sv T L pv N nv G1 g1 G2 g2) (hf : Fr (fun _ => False) W W') : CM w W' d m ps sv T L pv N nv G1 g1 G2 g2 :=
  ⟨h.n.fr0 hf, h.f.trans hf (fun _ _ h => h), h.nd, ownsRow_of_block h.p (fun g hg => hf.block g (h.p.lt g hg).2 (fun h => h)), ownsRow_of_block h.q (fun g hg => hf.block g (h.q.lt g hg).2 (fun h => h)), (hf.block _ (lt_of_block h.a1) (fun h => h)).trans h.a1, (hf.block _ (lt_of_block h.a2) (fun h => h)).trans h.a2, h.ne, fun x hx => ⟨(h.ly x hx).1, (hf.block _ (lt_of_block (h.ly x hx).2) (fun h => h)).trans (h.ly x hx).2⟩, h.ap⟩
theorem CM.mb (h : CM w W d m ps sv T L pv N nv G1 g1 G2 g2) : ∃ es cl, W.heap[m]? = some (.map es cl) := by
  obtain ⟨D, h1, _⟩ := h.n.map
  exact ownsMap_blk h1
/-- A call of the net. -/
theorem CM.net (h : CM w W d m ps sv T L pv N nv G1 g1 G2 g2) {ps' : List PK} {sv' : Nat → Option Addr × Nat} {T' : Nat → Prop} (hN : NtAt W' d m 4 ps' sv' T') (hf : Fr (fun k => k = d ∨ k = m) W W') (hT : ∀ g, T' g → T g ∨ W.heap.size ≤ g) : CM w W' d m ps' sv' T' L pv N nv G1 g1 G2 g2 := by
  obtain ⟨es, cl, hmb⟩ := h.mb
  have hdb := h.n.blk
  have key : ∀ k cs t, W.heap[k]? = some (.cells cs t) → t ≠ 58 → ¬ (k = d ∨ k = m) := fun k cs t hk ht e => by
    rcases e with rfl | rfl
    · rw [hdb] at hk; simp at hk; exact ht hk.2.symm
    · rw [hmb] at hk; cases hk
  have hnew : ∀ k, k < W.heap.size → ¬ T k → ¬ T' k := fun k hk hT1 hT2 => (hT k hT2).elim hT1 (fun h => by omega)
  refine ⟨hN, h.f.absorb hf (fun k hk => by rcases hk with rfl | rfl; exact h.nd.1; exact h.nd.2.1), h.nd, ownsRow_of_block h.p (fun g hg => ?_), ownsRow_of_block h.q (fun g hg => ?_), (hf.block _ (lt_of_block h.a1) (key _ _ _ h.a1 (by decide))).trans h.a1, (hf.block _ (lt_of_block h.a2) (key _ _ _ h.a2 (by decide))).trans h.a2, h.ne, fun x hx => ⟨(h.ly x hx).1, (hf.block _ (lt_of_block (h.ly x hx).2) (key _ _ _ (h.ly x hx).2 (by decide))).trans (h.ly x hx).2⟩, hnew _ (lt_of_block h.a1) h.ap.1, hnew _ (lt_of_block h.a2) h.ap.2.1, fun k hk => hnew k (h.p.lt k hk).2 (h.ap.2.2.1 k hk), fun k hk => hnew k (h.q.lt k hk).2 (h.ap.2.2.2 k hk)⟩
  · obtain ⟨cur, hc⟩ := own_blk h.p hg
    exact hf.block g (h.p.lt g hg).2 (key _ _ _ hc (by decide))
  · obtain ⟨cur, hc⟩ := own_blk h.q hg
    exact hf.block g (h.q.lt g hg).2 (key _ _ _ hc (by decide))
/-- A call put behind the others. -/
theorem CM.putp (h : CM w W d m ps sv T L pv N nv G1 g1 G2 g2) {pv' : Value} {x : OV} (hp : W'.ownsRow w.heap.size 49 4 pv' (L ++ [x]).length (ocells (L ++ [x]))) (hf : Fr (fun k => pv.ownBlock = some k) W W') (hb : ∀ k, pv'.ownBlock = some k → pv.ownBlock = some k ∨ W.heap.size ≤ k) (hy : x.y < 256) (hx : W'.heap[x.g]? = some (.cells #[.int .u8 (x.y : Nat)] 5)) : CM w W' d m ps sv T (L ++ [x]) pv' N nv G1 g1 G2 g2 := by
  obtain ⟨es, cl, hmb⟩ := h.mb
  have key : ∀ k o, W.heap[k]? = some o → (∀ cs, o ≠ .cells cs 49) → ¬ pv.ownBlock = some k := fun k o hk ho e => by
    obtain ⟨cur, hc⟩ := own_blk h.p e
    rw [hk] at hc
    injection hc with hc
    exact ho _ hc
  refine ⟨h.n.fr hf (key _ _ h.n.blk (fun cs e => by simp at e)) (key _ _ hmb (fun cs e => by cases e)) (fun g hg e => h.ap.2.2.1 g e hg), h.f.absorb hf (fun k hk => (h.p.lt k hk).1), h.nd, hp, ownsRow_of_block h.q (fun g hg => ?_), (hf.block _ (lt_of_block h.a1) (key _ _ h.a1 (fun cs e => by simp at e))).trans h.a1, (hf.block _ (lt_of_block h.a2) (key _ _ h.a2 (fun cs e => by simp at e))).trans h.a2, h.ne, fun z hz => ?_, h.ap.1, h.ap.2.1, fun k hk => (hb k hk).elim (h.ap.2.2.1 k) (fun h1 h2 => by have := (h.n.ns k h2).2.2; omega), h.ap.2.2.2⟩
  · obtain ⟨cur, hc⟩ := own_blk h.q hg
    exact hf.block g (h.q.lt g hg).2 (key _ _ hc (fun cs e => by simp at e))
  · rcases List.mem_append.1 hz with hz | hz
    · exact ⟨(h.ly z hz).1, (hf.block _ (lt_of_block (h.ly z hz).2) (key _ _ (h.ly z hz).2 (fun cs e => by simp at e))).trans (h.ly z hz).2⟩
    · simp at hz; subst hz; exact ⟨hy, hx⟩
/-- A number put behind the others. -/
theorem CM.putq (h : CM w W d m ps sv T L pv N nv G1 g1 G2 g2) {nv' : Value} (hq : W'.ownsRow w.heap.size 3 1 nv' (N + 1) (ncells (N + 1))) (hf : Fr (fun k => nv.ownBlock = some k) W W') (hb : ∀ k, nv'.ownBlock = some k → nv.ownBlock = some k ∨ W.heap.size ≤ k) : CM w W' d m ps sv T L pv (N + 1) nv' G1 g1 G2 g2 := by
  obtain ⟨es, cl, hmb⟩ := h.mb
  have key : ∀ k o, W.heap[k]? = some o → (∀ cs, o ≠ .cells cs 3) → ¬ nv.ownBlock = some k := fun k o hk ho e => by
    obtain ⟨cur, hc⟩ := own_blk h.q e
    rw [hk] at hc
    injection hc with hc
    exact ho _ hc
  refine ⟨h.n.fr hf (key _ _ h.n.blk (fun cs e => by simp at e)) (key _ _ hmb (fun cs e => by cases e)) (fun g hg e => h.ap.2.2.2 g e hg), h.f.absorb hf (fun k hk => (h.q.lt k hk).1), h.nd, ownsRow_of_block h.p (fun g hg => ?_), hq, (hf.block _ (lt_of_block h.a1) (key _ _ h.a1 (fun cs e => by simp at e))).trans h.a1, (hf.block _ (lt_of_block h.a2) (key _ _ h.a2 (fun cs e => by simp at e))).trans h.a2, h.ne, fun z hz => ⟨(h.ly z hz).1, (hf.block _ (lt_of_block (h.ly z hz).2) (key _ _ (h.ly z hz).2 (fun cs e => by simp at e))).trans (h.ly z hz).2⟩, h.ap.1, h.ap.2.1, h.ap.2.2.1, fun k hk => (hb k hk).elim (h.ap.2.2.2 k) (fun h1 h2 => by have := (h.n.ns k h2).2.2; omega)⟩
  obtain ⟨cur, hc⟩ := own_blk h.p hg
  exact hf.block g (h.p.lt g hg).2 (key _ _ hc (fun cs e => by simp at e))
/-- An array turned at a place. -/
theorem CM.arr2 (h : CM w W d m ps sv T L pv N nv G1 g1 G2 g2) (y n : Nat) (hy : y < 256) : CM w (W.setCell ⟨g2, y, none⟩ (.int .i64 (n : Nat))) d m ps sv T L pv N nv G1 g1 (fun z => if z = y then n else G2 z) g2 := by
  obtain ⟨es, cl, hmb⟩ := h.mb
  have hf : Fr (fun k => k = g2) W (W.setCell ⟨g2, y, none⟩ (.int .i64 (n : Nat))) := (Fr.refl (fun k => k = g2) W).setCell (p := ⟨g2, y, none⟩) (.inl rfl) _
  have key : ∀ k o, W.heap[k]? = some o → (∀ cs, o ≠ .cells cs 53) → ¬ k = g2 := fun k o hk ho e => by
    subst e
    rw [h.a2] at hk
    injection hk with hk
    exact ho _ hk.symm
  refine ⟨h.n.fr hf (key _ _ h.n.blk (fun cs e => by simp at e)) (key _ _ hmb (fun cs e => by cases e)) (fun g hg e => h.ap.2.1 (by have e' : g = g2 := e; exact e' ▸ hg)), h.f.absorb hf (fun k hk => by cases hk; exact h.nd.2.2.2), h.nd, ownsRow_of_block h.p (fun g hg => ?_), ownsRow_of_block h.q (fun g hg => ?_), (hf.block _ (lt_of_block h.a1) h.ne).trans h.a1, by rw [blkset h.a2, arr_set _ _ _ hy], h.ne, fun z hz => ⟨(h.ly z hz).1, (hf.block _ (lt_of_block (h.ly z hz).2) (key _ _ (h.ly z hz).2 (fun cs e => by simp at e))).trans (h.ly z hz).2⟩, h.ap⟩
  · obtain ⟨cur, hc⟩ := own_blk h.p hg
    exact hf.block g (h.p.lt g hg).2 (key _ _ hc (fun cs e => by simp at e))
  · obtain ⟨cur, hc⟩ := own_blk h.q hg
    exact hf.block g (h.q.lt g hg).2 (key _ _ hc (fun cs e => by simp at e))
theorem CM.swap (h : CM w W d m ps sv T L pv N nv G1 g1 G2 g2) : CM w W d m ps sv T L pv N nv G2 g2 G1 g1 := ⟨h.n, h.f, ⟨h.nd.1, h.nd.2.1, h.nd.2.2.2, h.nd.2.2.1⟩, h.p, h.q, h.a2, h.a1, h.ne.symm, h.ly, h.ap.2.1, h.ap.1, h.ap.2.2.1, h.ap.2.2.2⟩
theorem CM.arr1 (h : CM w W d m ps sv T L pv N nv G1 g1 G2 g2) (y n : Nat) (hy : y < 256) : CM w (W.setCell ⟨g1, y, none⟩ (.int .i64 (n : Nat))) d m ps sv T L pv N nv (fun z => if z = y then n else G1 z) g1 G2 g2 := (h.swap.arr2 y n hy).swap
end
/-- How the lists go together. -/
structure CP (ps : List PK) (L : List OV) (N : Nat) (G1 G2 : Nat → Nat) : Prop where
  ln : ps.length = L.length
  nn : N = L.length
  lk : ∀ (j : Nat) p x, ps[j]? = some p → L[j]? = some x → p.f = x.a ∧ p.t = x.b ∧ p.b = [x.y]
  go : ∀ p ∈ ps, p.gone ≤ 2
  e1 : ∀ y, G1 y = gv ps y
  e2 : ∀ y, G2 y = tv ps y
theorem CP.put {ps : List PK} {L : List OV} {N : Nat} {G1 G2 : Nat → Nat} (h : CP ps L N G1 G2) (p : PK) (x : OV) (h0 : p.gone = 0) (h1 : p.f = x.a) (h2 : p.t = x.b) (h3 : p.b = [x.y]) (n : Nat) (hn : n = G2 x.y + 1) : CP (ps ++ [p]) (L ++ [x]) (N + 1) G1 (fun z => if z = x.y then n else G2 z) := by
  refine ⟨by simp [h.ln], by simp [h.nn], fun j q z hq hz => ?_, fun q hq => ?_, fun y => by rw [gv_put _ _ h0]; exact h.e1 y, fun y => ?_⟩
  · by_cases e : j < ps.length
    · rw [List.getElem?_append_left e] at hq
      rw [List.getElem?_append_left (by rw [← h.ln]; exact e)] at hz
      exact h.lk j q z hq hz
    · have hlt := (List.getElem?_eq_some_iff.1 hq).1
      simp at hlt
      obtain rfl : j = ps.length := by omega
      rw [List.getElem?_concat_length] at hq
      rw [h.ln, List.getElem?_concat_length] at hz
      cases hq; cases hz
      exact ⟨h1, h2, h3⟩
  · rcases List.mem_append.1 hq with hq | hq
    · exact h.go q hq
    · simp at hq; subst hq; omega
  · rw [tv_put _ _ _ h3]
    by_cases e : y = x.y
    · subst e; simp [hn, h.e2]
    · simp [e, h.e2]
theorem CP.gone {ps : List PK} {L : List OV} {N : Nat} {G1 G2 : Nat → Nat} (h : CP ps L N G1 G2) (k : Nat) (p : PK) (g : Nat) (hk : ps[k]? = some p) (hg : g ≤ 2) {G1' : Nat → Nat} (hG : ∀ y, G1' y = gv (ps.set k { p with gone := g }) y) : CP (ps.set k { p with gone := g }) L N G1' G2 := by
  have hkl := (List.getElem?_eq_some_iff.1 hk).1
  refine ⟨by simp [h.ln], h.nn, fun j q z hq hz => ?_, fun q hq => ?_, hG, fun y => by rw [tv_set _ _ _ _ hk]; exact h.e2 y⟩
  · by_cases e : k = j
    · subst e
      rw [List.getElem?_set_self hkl] at hq
      cases hq
      exact h.lk k p z hk hz
    · rw [List.getElem?_set_ne e] at hq
      exact h.lk j q z hq hz
  · rcases List.mem_or_eq_of_mem_set hq with hq | rfl
    · exact h.go q hq
    · exact hg
end Go.Proofs.Ytedmhpplhbaglaa
