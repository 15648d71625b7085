import Derived.Test.YtkiepcdncegniaaPk3
namespace Go.Proofs.Ytkiepcdncegniaa
open Go.RowKit Go.Maps

theorem tmod_abs (c : Int) : ∃ n : Nat, n ≤ 8 ∧ ((Int.tmod c 9 = (n : Int)) ∨ (Int.tmod c 9 = -(n : Int) ∧ 0 < n)) := by
  have h1 : Int.tmod c 9 < 9 := Int.tmod_lt_of_pos c (by omega)
  have h2 : -9 < Int.tmod c 9 := by
    have := Int.tmod_lt_of_pos (-c) (b := 9) (by omega)
    rw [Int.neg_tmod] at this
    omega
  by_cases h : 0 ≤ Int.tmod c 9
  · exact ⟨(Int.tmod c 9).toNat, by omega, .inl (by omega)⟩
  · exact ⟨(-Int.tmod c 9).toNat, by omega, .inr ⟨by omega, by omega⟩⟩
/-- SessionOnce's first loop: nothing is answered. -/
structure OI (w wr : World) (d i : Nat) (cs : List SC) (T : Nat → Prop) : Prop where
  s : SS wr d 1 cs [] T
  c : cs.length = i
  a : ∀ q ∈ cs, q.d = none ∧ q.n = 0
  b : ∀ g, T g → w.heap.size ≤ g
  f : Fr (fun _ => False) w wr
/-- SessionOnce's second loop: what is answered stands in the two rows. -/
structure PI (w W : World) (d A B n k : Nat) (cs : List SC) (dn : List Nat) (T : Nat → Prop) (fs hs : List Value) : Prop where
  s : SS W d 1 cs dn T
  c : cs.length = n
  ba : W.heap[A]? = some (.cells fs.toArray 72)
  fl : fs.length = 63
  bb : W.heap[B]? = some (.cells hs.toArray 73)
  hl : hs.length = 9
  hh : ∀ (j : Nat) (q : SC), cs[j]? = some q → hs[j]? = some (.bool q.d.isSome)
  hf : ∀ (j : Nat) (q : SC) (x : AD), cs[j]? = some q → q.d = some x → x.a.cl = 1 ∧ x.a.nu = j + 1 ∧ ∃ fv hv, Rd w fv x.F.length 5 (fcells x.F) ∧ Rd w hv x.H.length 4 (scells x.H) ∧ ∀ i v, (AN.cs { x.a with fv := fv, hv := hv })[i]? = some v → fs[j * 7 + i]? = some v
  dl : dn.length = nA cs
  nb : ∀ q ∈ cs, q.n ≤ k
  t : ∀ g, T g → w.heap.size ≤ g ∧ g ≠ A ∧ g ≠ B
  ab : A ≠ B ∧ w.heap.size ≤ A ∧ w.heap.size ≤ B
  f : Fr (fun _ => False) w W
theorem PI.fr0 {w W W' : World} {d A B n k : Nat} {cs : List SC} {dn : List Nat} {T : Nat → Prop} {fs hs : List Value} (h : PI w W d A B n k cs dn T fs hs) (hf : Fr (fun _ => False) W W') : PI w W' d A B n k cs dn T fs hs :=
  ⟨h.s.fr0 hf, h.c, (hf.block A (lt_of_block h.ba) (fun h => h)).trans h.ba, h.fl, (hf.block B (lt_of_block h.bb) (fun h => h)).trans h.bb, h.hl, h.hh, h.hf, h.dl, h.nb, h.t, h.ab, h.f.trans0 hf⟩
theorem nA_map (cs : List SC) : nA cs = (cs.map (·.d)).countP Option.isSome := by
  unfold nA
  rw [List.countP_map]
  rfl
theorem Kept.nA {cs cs' : List SC} (h : Kept cs cs') : nA cs' = nA cs := by
  rw [nA_map, nA_map]
  congr 1
  apply List.ext_getElem?
  intro i
  rw [List.getElem?_map, List.getElem?_map]
  by_cases hi : i < cs.length
  · obtain ⟨y, hy, hd, _⟩ := h.q i _ (List.getElem?_eq_getElem hi)
    rw [hy, List.getElem?_eq_getElem hi]
    simp [hd]
  · rw [List.getElem?_eq_none (by rw [h.n]; omega), List.getElem?_eq_none (by omega)]
theorem Kept.back {cs cs' : List SC} (h : Kept cs cs') {i : Nat} {y : SC} (hy : cs'[i]? = some y) : ∃ x, cs[i]? = some x ∧ y.d = x.d ∧ y.n ≤ x.n + 1 := by
  have hi : i < cs.length := by rw [← h.n]; exact (List.getElem?_eq_some_iff.1 hy).1
  obtain ⟨y', h1, h2, h3⟩ := h.q i _ (List.getElem?_eq_getElem hi)
  rw [hy] at h1
  cases h1
  exact ⟨_, List.getElem?_eq_getElem hi, h2, h3⟩
/-- A message that is no first answer. -/
theorem PI.old {w W W' : World} {d A B n k : Nat} {cs cs' : List SC} {dn : List Nat} {T : Nat → Prop} {fs hs : List Value} (h : PI w W d A B n k cs dn T fs hs) (hk : Kept cs cs') (hs' : SS W' d 1 cs' dn T) (hf : Fr T W W') : PI w W' d A B n (k + 1) cs' dn T fs hs :=
  ⟨hs', hk.n.trans h.c, (hf.block A (lt_of_block h.ba) (fun e => (h.t _ e).2.1 rfl)).trans h.ba, h.fl, (hf.block B (lt_of_block h.bb) (fun e => (h.t _ e).2.2 rfl)).trans h.bb, h.hl, fun j q hq => by
      obtain ⟨x, hx, hd, _⟩ := hk.back hq
      rw [hd]
      exact h.hh j x hx, fun j q x hq hd => by
      obtain ⟨y, hy, hd2, _⟩ := hk.back hq
      exact h.hf j y x hy (hd2.symm.trans hd), h.dl.trans hk.nA.symm, fun q hq => by
      obtain ⟨i, hi⟩ := List.getElem?_of_mem hq
      obtain ⟨x, hx, _, hn⟩ := hk.back hi
      have := h.nb x (List.mem_of_getElem? hx)
      omega, h.t, h.ab, h.f.trans hf (fun g hg e => by have := (h.t g e).1; omega)⟩
/-- A first answer, behind Take and the two stores. -/
theorem PI.new {w W W1 W2 : World} {d A B n k i : Nat} {cs : List SC} {dn : List Nat} {T : Nat → Prop} {fs hs fs' hs' : List Value} (h : PI w W d A B n k cs dn T fs hs) {q : SC} {x : AD} (hq : cs[i]? = some q) (hd : q.d = none) (hs1 : SS W1 d 1 (cs.set i { q with d := some x }) (dn ++ [i + 1]) (Tn T W W1)) (hf1 : Fr T W W1) (hf2 : Fr (fun g => g = A ∨ g = B) W1 W2)
    (hba : W2.heap[A]? = some (.cells fs'.toArray 72)) (hfl : fs'.length = 63) (hbb : W2.heap[B]? = some (.cells hs'.toArray 73)) (hhl : hs'.length = 9)
    (hhi : hs'[i]? = some (.bool true)) (hho : ∀ j, j ≠ i → hs'[j]? = hs[j]?)
    (hxc : x.a.cl = 1 ∧ x.a.nu = i + 1) (fv hv : Value) (hfv : Rd w fv x.F.length 5 (fcells x.F)) (hhv : Rd w hv x.H.length 4 (scells x.H)) (hfi : ∀ t v, (AN.cs { x.a with fv := fv, hv := hv })[t]? = some v → fs'[i * 7 + t]? = some v) (hfo : ∀ j, (j < i * 7 ∨ i * 7 + 7 ≤ j) → fs'[j]? = fs[j]?) :
    PI w W2 d A B n (k + 1) (cs.set i { q with d := some x }) (dn ++ [i + 1]) (Tn T W W1) fs' hs' := by
  have hil := (List.getElem?_eq_some_iff.1 hq).1
  have hlA := lt_of_block h.ba
  have hlB := lt_of_block h.bb
  have ht : ∀ g, Tn T W W1 g → w.heap.size ≤ g ∧ g ≠ A ∧ g ≠ B := fun g hg => by
    rcases hg with hg | hg
    · exact h.t g hg
    · have h1 := h.f.size
      have h4 := hg.1
      exact ⟨by omega, by omega, by omega⟩
  refine ⟨hs1.fr hf2 (fun g hg e => ?_), by rw [List.length_set]; exact h.c, hba, hfl, hbb, hhl, fun j p hp => ?_, fun j p y hp hy => ?_, ?_, fun p hp => ?_, ht, h.ab, (h.f.trans hf1 (fun g hg e => by have := (h.t g e).1; omega)).trans hf2 (fun g hg e => by have := h.ab; rcases e with e | e <;> omega)⟩
  · have := ht g hg
    rcases e with e | e
    · exact this.2.1 e
    · exact this.2.2 e
  · by_cases e : i = j
    · subst e
      rw [List.getElem?_set_self hil] at hp
      cases hp
      exact hhi
    · rw [List.getElem?_set_ne e] at hp
      rw [hho j (fun h => e h.symm)]
      exact h.hh j p hp
  · by_cases e : i = j
    · subst e
      rw [List.getElem?_set_self hil] at hp
      cases hp
      simp only [Option.some.injEq] at hy
      subst hy
      exact ⟨hxc.1, hxc.2, fv, hv, hfv, hhv, hfi⟩
    · rw [List.getElem?_set_ne e] at hp
      obtain ⟨a1, a2, fv', hv', a3, a4, a5⟩ := h.hf j p y hp hy
      refine ⟨a1, a2, fv', hv', a3, a4, fun t v ht => ?_⟩
      have h7 : t < 7 := (List.getElem?_eq_some_iff.1 ht).1
      rw [hfo _ (by omega)]
      exact a5 t v ht
  · have := (nA_set cs i q { q with d := some x } hq hd rfl).1
    rw [this, List.length_append, h.dl]
    rfl
  · obtain ⟨j, hj⟩ := List.getElem?_of_mem hp
    by_cases e : i = j
    · subst e
      rw [List.getElem?_set_self hil] at hj
      cases hj
      have := h.nb q (List.mem_of_getElem? hq)
      simp only
      omega
    · rw [List.getElem?_set_ne e] at hj
      have := h.nb p (List.mem_of_getElem? hj)
      omega
/-- What a row of nine answers, of nine truths holds at first. -/
def zF : List Value := zA ++ (zA ++ (zA ++ (zA ++ (zA ++ (zA ++ (zA ++ (zA ++ zA)))))))
def zH : List Value := [.bool false, .bool false, .bool false, .bool false, .bool false, .bool false, .bool false, .bool false, .bool false]
theorem OI.start {w wr : World} {d n : Nat} {cs : List SC} {T : Nat → Prop} (h : OI w wr d n cs T) (hn : n ≤ 8) : PI w ((wr.alloc (.cells zF.toArray 72)).alloc (.cells zH.toArray 73)) d wr.heap.size (wr.heap.size + 1) n 0 cs [] T zF zH := by
  have hf := ((box1 wr (.cells zF.toArray 72)).alloc (.cells zH.toArray 73))
  have hsz := h.f.size
  refine ⟨h.s.fr0 hf, h.c, (Below.heap_alloc _ _ _ (by simp)).trans (heap_alloc_new wr _), rfl, ?_, rfl, fun j q hq => ?_, fun j q x hq hd => ?_, ?_, fun q hq => ?_, fun g hg => ⟨h.b g hg, ?_, ?_⟩, ⟨by omega, by omega, by omega⟩, h.f.trans0 hf⟩
  · have := heap_alloc_new (wr.alloc (.cells zF.toArray 72)) (.cells zH.toArray 73)
    rwa [World.size_alloc] at this
  · have hj := (List.getElem?_eq_some_iff.1 hq).1
    rw [((h.a q (List.mem_of_getElem? hq)).1)]
    have hj8 : j < 8 := by have := h.c; omega
    match j, hj8 with
    | 0, _ => rfl
    | 1, _ => rfl
    | 2, _ => rfl
    | 3, _ => rfl
    | 4, _ => rfl
    | 5, _ => rfl
    | 6, _ => rfl
    | 7, _ => rfl
  · rw [(h.a q (List.mem_of_getElem? hq)).1] at hd
    cases hd
  · have : nA cs = 0 := by
      unfold nA
      rw [List.countP_eq_zero]
      intro q hq
      rw [(h.a q hq).1]
      simp
    rw [this]
    rfl
  · rw [(h.a q hq).2]
    exact Nat.zero_le _
  · have := h.s.lt g hg
    omega
  · have := h.s.lt g hg
    omega
theorem setCells_mid (g t : Nat) : ∀ (vs fs : List Value) (o : Nat) (w : World), w.heap[g]? = some (.cells fs.toArray t) → o + vs.length ≤ fs.length → ∃ fs', (w.setCells g o vs).heap[g]? = some (.cells (List.toArray fs') t) ∧ fs'.length = fs.length ∧ (∀ i v, vs[i]? = some v → fs'[o + i]? = some v) ∧ ∀ j, (j < o ∨ o + vs.length ≤ j) → fs'[j]? = fs[j]?
  | [], fs, o, w, h, _ => ⟨fs, h, rfl, by simp, fun _ _ => rfl⟩
  | v :: vs, fs, o, w, h, hl => by
    rw [World.setCells]
    have hl2 : o + (vs.length + 1) ≤ fs.length := hl
    obtain ⟨fs', a1, a2, a3, a4⟩ := setCells_mid g t vs (fs.set o v) (o + 1) (w.setCell ⟨g, o, none⟩ v) (by rw [blkset h]; simp) (by rw [List.length_set]; omega)
    refine ⟨fs', a1, by rw [a2, List.length_set], fun i u hu => ?_, fun j hj => ?_⟩
    · cases i with
      | zero =>
        simp only [List.getElem?_cons_zero, Option.some.injEq] at hu
        subst hu
        rw [Nat.add_zero, a4 o (by omega), List.getElem?_set_self (by omega)]
      | succ i =>
        have := a3 i u (by simpa using hu)
        rw [← this]
        congr 1
        omega
    · have hj2 : j < o ∨ o + (vs.length + 1) ≤ j := hj
      rw [a4 j (by omega), List.getElem?_set_ne (by omega)]
/-- A struct is stored into a row. -/
theorem st_mid {P : Program} {W : World} {g t ty o : Nat} (fs news : List Value) (hb : W.heap[g]? = some (.cells fs.toArray t)) (hl : o + news.length ≤ fs.length) (hi : (P.info? ty).map (·.size) = some news.length) (h1 : ∀ v ∈ news, v.oneCell' = true) :
    ∃ W8, (Instr.storeAt ty (.pointer (some ⟨g, o, none⟩)) (.agg news.toArray)).run P W = .ok () W8 ∧ (∃ fs', W8.heap[g]? = some (.cells (List.toArray fs') t) ∧ fs'.length = fs.length ∧ (∀ i v, news[i]? = some v → fs'[o + i]? = some v) ∧ ∀ j, (j < o ∨ o + news.length ≤ j) → fs'[j]? = fs[j]?) ∧ Fr (fun k => k = g) W W8 := by
  refine ⟨W.setCells g o news, run_storeAt_mid W g o ty news.toArray (fun j hj => ?_) (by simpa using hi) (all_oneCell_toArray h1), setCells_mid g t news fs o W hb hl, setCells_fr g news o W⟩
  have hj : j < news.length := by simpa using hj
  have hj2 : o + j < fs.length := by omega
  refine ⟨?_, by simp [World.frozen?, hb]⟩
  simp [World.cell?, hb, hj2]
end Go.Proofs.Ytkiepcdncegniaa

