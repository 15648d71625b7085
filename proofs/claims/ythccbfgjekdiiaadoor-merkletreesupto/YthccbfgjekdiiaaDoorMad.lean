import Derived.Test.YthccbfgjekdiiaaDoorMab
namespace Go.Proofs.YthccbfgjekdiiaaDoor
open Go.RowKit

theorem Tryd.infoSl : (Tryd.prog.info? 25).map (fun i => (i.zero, i.size, i.bytes)) = some (some (.slice none 0 0), 1, 24) := by kernel_rfl
/-- Slices of one's own, laid since w. -/
structure OS (w wr : World) (xo : Option Addr) (cp : Nat) (vs : List Value) : Prop where
  own : wr.ownsRow w.heap.size 25 1 (.slice xo vs.length cp) vs.length vs
  fr : Fr (fun _ => False) w wr
theorem OS.nil (w : World) : OS w w none 0 [] := ⟨⟨rfl, .inl ⟨rfl, rfl⟩⟩, Fr.refl _ _⟩
theorem OS.app1 {w wr : World} {xo : Option Addr} {cp : Nat} {vs : List Value} (h : OS w wr xo cp vs) (a : Option Addr) (n c : Nat) (hb : vs.length < 16000000) :
    ∃ ao cp' w2, (Builtin.append_ #[22, 22] 22 #[.slice xo vs.length cp, .slice (some ⟨wr.heap.size, 0, none⟩) 1 1]).run Tryd.prog (wr.alloc (.cells #[.slice a n c] 25)) = .ok (.slice ao (vs.length + 1) cp') w2 ∧ OS w w2 ao cp' (vs ++ [.slice a n c]) ∧ (wr.alloc (.cells #[.slice a n c] 25)).grownBy w2 (Value.slice xo vs.length cp).ownBlock ∧ ((Value.slice ao (vs.length + 1) cp').ownBlock = (Value.slice xo vs.length cp).ownBlock ∨ (Value.slice ao (vs.length + 1) cp').ownBlock = some (wr.alloc (.cells #[.slice a n c] 25)).heap.size) := by
  obtain ⟨i0, hi, hz0, hz1, hz2⟩ := info_parts Tryd.infoSl
  have h2 : (wr.alloc (.cells #[.slice a n c] 25)).ownsRow w.heap.size 25 1 (.slice xo vs.length cp) vs.length vs := ownsRow_of_block h.own (fun g hg => Below.heap_alloc _ _ _ (h.own.lt g hg).2)
  obtain ⟨v', w', hr, h3, h4, _, h5⟩ := run_append_own_at (P := Tryd.prog) (wr.alloc (.cells #[.slice a n c] 25)) w.heap.size 22 22 25 i0 (.slice none 0 0) 1 24 Tryd.underlying22 hi hz0 hz1 hz2 rfl (by decide) (.slice xo vs.length cp) vs.length vs h2 ⟨wr.heap.size, 0, none⟩ 1 1 [.slice a n c] rfl (fun j u hu => by
    rw [add_at, World.cell?_alloc_at _ _ _ _ rfl]; simpa using hu) (fun u hu => by simp at hu; subst hu; rfl) (by simp only [maxLen]; omega) (by omega) (by have := h.fr.size; simp; omega)
  have hf : ∃ ao cap, v' = .slice ao (vs.length + 1) cap := by
    rcases h3.2 with ⟨_, e⟩ | ⟨g, cap, cur, rfl, _⟩
    · omega
    · exact ⟨some ⟨g, 0, none⟩, cap, rfl⟩
  obtain ⟨ao, cap, rfl⟩ := hf
  refine ⟨ao, cap, w', hr, ⟨?_, (h.fr.alloc _).grown h4 (fun g hg => .inr (h.own.lt g hg).1)⟩, h4, h5⟩
  rw [List.length_append]
  exact h3
/-- Own slices, each of bytes. -/
theorem OS.pcs {w wr : World} {xo : Option Addr} {cp : Nat} {vs : List Value} (h : OS w wr xo cp vs) {ps : List (List Nat)} (hl : vs.length = ps.length) (hs : ∀ (j : Nat) v p, vs[j]? = some v → ps[j]? = some p → Sl wr v p) : Pcs wr (.slice xo vs.length cp) vs ps := by
  refine ⟨hl, ?_, fun j v p hv hp => ⟨(hs j v p hv hp).s, (hs j v p hv hp).cap, (hs j v p hv hp).lt⟩, fun p hp => ?_⟩
  · rcases h.own.2 with ⟨e, e0⟩ | ⟨g, cap, cur, e, _⟩
    · simp only [Value.slice.injEq] at e
      obtain ⟨rfl, _, rfl⟩ := e
      rw [e0]
      exact .inl ⟨rfl, List.length_eq_zero_iff.1 e0⟩
    · simp only [Value.slice.injEq, true_and] at e
      obtain ⟨rfl, rfl⟩ := e
      refine .inr (.inr ⟨g, 0, cp, rfl, (h.own.lt g rfl).2, fun j v hv => ?_⟩)
      have hj : j < vs.length := (List.getElem?_eq_some_iff.1 hv).1
      rw [Nat.zero_add, h.own.cellAt j (by omega), hv]
  · obtain ⟨j, hj, rfl⟩ := List.getElem_of_mem hp
    have hjv : j < vs.length := by omega
    exact (hs j vs[j] ps[j] (List.getElem?_eq_getElem hjv) (List.getElem?_eq_getElem hj)).b
theorem Pcs.sl {w : World} {x : Value} {vs : List Value} {ps : List (List Nat)} (h : Pcs w x vs ps) (j : Nat) (v : Value) (p : List Nat) (hv : vs[j]? = some v) (hp : ps[j]? = some p) : Sl w v p :=
  ⟨(h.src j v p hv hp).1, (h.src j v p hv hp).2.1, (h.src j v p hv hp).2.2, h.byt p (List.mem_of_getElem? hp)⟩
theorem Pcs.fr0 {w w' : World} {x : Value} {vs : List Value} {ps : List (List Nat)} (h : Pcs w x vs ps) (hf : Fr (fun _ => False) w w') : Pcs w' x vs ps := by
  refine ⟨h.len, ?_, fun j v p hv hp => ⟨(h.src j v p hv hp).1.fr0 hf, (h.src j v p hv hp).2.1, (h.src j v p hv hp).2.2.imp id (fun hh g o n c e => Nat.lt_of_lt_of_le (hh g o n c e) hf.size)⟩, h.byt⟩
  rcases h.at_ with h0 | h0 | ⟨g, o, c, e, hg, hc⟩
  · exact .inl h0
  · exact .inr (.inl h0)
  · exact .inr (.inr ⟨g, o, c, e, Nat.lt_of_lt_of_le hg hf.size, fun j v hv => (hf.cell (p := ⟨g, o + j, none⟩) hg (fun h => h)).trans (hc j v hv)⟩)
/-- The first k. -/
theorem Pcs.take {w : World} {xo : Option Addr} {n c : Nat} {vs : List Value} {ps : List (List Nat)} (h : Pcs w (.slice xo n c) vs ps) (k : Nat) (hk : k ≤ n) : Pcs w (.slice xo k c) (vs.take k) (ps.take k) := by
  have hn : n = vs.length := by
    rcases h.at_ with ⟨e, rfl⟩ | ⟨a, c', e, rfl⟩ | ⟨g, o, c', e, _⟩ <;> (simp only [Value.slice.injEq] at e; simp [e.2.1])
  have hlk : (vs.take k).length = k := by rw [List.length_take]; omega
  refine ⟨by rw [List.length_take, List.length_take, h.len], ?_, fun j v p hv hp => ?_, fun p hp => h.byt p (List.mem_of_mem_take hp)⟩
  · rcases h.at_ with ⟨e, rfl⟩ | ⟨a, c', e, rfl⟩ | ⟨g, o, c', e, hg, hc⟩
    · simp only [Value.slice.injEq] at e
      obtain ⟨rfl, rfl, rfl⟩ := e
      exact .inl ⟨by rw [show k = 0 by omega], by simp⟩
    · simp only [Value.slice.injEq] at e
      obtain ⟨rfl, rfl, rfl⟩ := e
      exact .inr (.inl ⟨a, c, by rw [show k = 0 by omega], by simp⟩)
    · simp only [Value.slice.injEq] at e
      obtain ⟨rfl, _, rfl⟩ := e
      refine .inr (.inr ⟨g, o, c, by rw [hlk], hg, fun j v hv => hc j v ?_⟩)
      rw [List.getElem?_take] at hv
      split at hv
      · exact hv
      · cases hv
  · rw [List.getElem?_take] at hv hp
    split at hv
    · rename_i hjk
      rw [if_pos hjk] at hp
      exact h.src j v p hv hp
    · cases hv
/-- Those behind the first k. -/
theorem Pcs.drop {w : World} {g o n c : Nat} {vs : List Value} {ps : List (List Nat)} (h : Pcs w (.slice (some ⟨g, o, none⟩) n c) vs ps) (k : Nat) (hk : k < n) : Pcs w (.slice (some ⟨g, o + k, none⟩) (n - k) (c - k)) (vs.drop k) (ps.drop k) := by
  rcases h.at_ with ⟨e, _⟩ | ⟨a, c', e, rfl⟩ | ⟨g', o', c', e, hg, hc⟩
  · simp at e
  · simp only [Value.slice.injEq] at e; omega
  · simp only [Value.slice.injEq, Option.some.injEq, Addr.mk.injEq, and_true] at e
    obtain ⟨⟨rfl, rfl⟩, rfl, rfl⟩ := e
    refine ⟨by rw [List.length_drop, List.length_drop, h.len], .inr (.inr ⟨g, o + k, c - k, by rw [List.length_drop], hg, fun j v hv => ?_⟩), fun j v p hv hp => ?_, fun p hp => h.byt p (List.mem_of_mem_drop hp)⟩
    · rw [List.getElem?_drop] at hv
      rw [Nat.add_assoc]
      exact hc (k + j) v hv
    · rw [List.getElem?_drop] at hv hp
      exact h.src (k + j) v p hv hp
/-- The hash of a tree of leaves' hashes. -/
def mth (i : Int) (ps : List (List Nat)) : List Nat :=
  if _h : ps.length < 2 then (match ps with | [] => sm i [] | p :: _ => p)
  else nd i (mth i (ps.take (hf ps.length))) (mth i (ps.drop (hf ps.length)))
termination_by ps.length
decreasing_by
  · rw [List.length_take]; have := hf_lt ps.length (by omega); omega
  · rw [List.length_drop]; have := hf_pos ps.length; omega
theorem mth_nil (i : Int) : mth i [] = sm i [] := by rw [mth]; simp
theorem mth_one (i : Int) (p : List Nat) : mth i [p] = p := by rw [mth]; simp
theorem mth_two (i : Int) (ps : List (List Nat)) (h : 2 ≤ ps.length) : mth i ps = nd i (mth i (ps.take (hf ps.length))) (mth i (ps.drop (hf ps.length))) := by
  rw [mth, dif_neg (by omega)]
theorem mth_lt (i : Int) (n : Nat) : ∀ ps : List (List Nat), ps.length ≤ n → (∀ p ∈ ps, ∀ v ∈ p, v < 256) → ∀ v ∈ mth i ps, v < 256 := by
  induction n with
  | zero =>
    intro ps hl _
    have e : ps = [] := List.length_eq_zero_iff.1 (by omega)
    rw [e, mth_nil]
    exact sm_lt i _
  | succ n ih =>
    intro ps hl hb
    by_cases h : ps.length < 2
    · match ps, h with
      | [], _ => rw [mth_nil]; exact sm_lt i _
      | [p], _ => rw [mth_one]; exact hb p (by simp)
    · rw [mth_two i ps (by omega)]
      exact nd_lt i _ _
theorem mth_len (i : Int) (B : Nat) (hB : 32 ≤ B) (ps : List (List Nat)) (hb : ∀ p ∈ ps, p.length ≤ B) : (mth i ps).length ≤ B := by
  have h32 : ∀ m, (sm i m).length ≤ 32 := fun m => by
    rw [sm]
    split
    · rw [List.length_take, sby_len]; omega
    · exact Nat.zero_le _
  by_cases h : ps.length < 2
  · match ps, h with
    | [], _ => rw [mth_nil]; exact Nat.le_trans (h32 _) hB
    | [p], _ => rw [mth_one]; exact hb p (by simp)
  · rw [mth_two i ps (by omega)]
    exact Nat.le_trans (h32 _) hB
end Go.Proofs.YthccbfgjekdiiaaDoor
