import Derived.Test.YthccbfgjekdiiaaDoorPk1
import Derived.Shelf.Small.Bits
import Derived.Shelf.Small.Wraps
import Derived.Shelf.Slices.SearchI
import Derived.Shelf.Slices.Empties
import Derived.Shelf.Bytes.SlSearch0
import Derived.Shelf.Bytes.SlClone
import Derived.Shelf.Bytes.SlEqualAll
import Derived.Shelf.Spec.TrailingZeros
import Derived.Lib.ItoaNum
import Derived.Handy
import Derived.Laws.Bits64b
import Derived.Laws.Bits128
namespace Go.Proofs.YthccbfgjekdiiaaDoor
open Go.RowKit

theorem Tryd.infoSl : (Tryd.prog.info? 25).map (fun i => (i.zero, i.size, i.bytes)) = some (some (.slice none 0 0), 1, 24) := by kernel_rfl
/-- Slices of one's own, laid since w. -/
structure OS (w wr : World) (xo : Option Addr) (cp : Nat) (vs : List Value) : Prop where
  own : wr.ownsRow w.heap.size 25 1 (.slice xo vs.length cp) vs.length vs
  fr : Fr (fun _ => False) w wr
theorem OS.nil (w : World) : OS w w none 0 [] := ⟨⟨rfl, .inl ⟨rfl, rfl⟩⟩, Fr.refl _ _⟩
theorem OS.app1 {w wr : World} {xo : Option Addr} {cp : Nat} {vs : List Value} (h : OS w wr xo cp vs) (a : Option Addr) (n c : Nat) (hb : vs.length < 16000000) :
    ∃ ao cp' w2, (Builtin.append_ #[22, 22] 22 #[.slice xo vs.length cp, .slice (some ⟨wr.heap.size, 0, none⟩) 1 1]).run Tryd.prog (wr.alloc (.cells #[.slice a n c] 25)) = .ok (.slice ao (vs.length + 1) cp') w2 ∧ OS w w2 ao cp' (vs ++ [.slice a n c]) ∧ (wr.alloc (.cells #[.slice a n c] 25)).grownBy w2 (Value.slice xo vs.length cp).ownBlock ∧ ((Value.slice ao (vs.length + 1) cp').ownBlock = (Value.slice xo vs.length cp).ownBlock ∨ (Value.slice ao (vs.length + 1) cp').ownBlock = some (wr.alloc (.cells #[.slice a n c] 25)).heap.size) := by
  obtain ⟨i0, hi, hz0, hz1, hz2⟩ := info_parts Tryd.infoSl
  have h2 : (wr.alloc (.cells #[.slice a n c] 25)).ownsRow w.heap.size 25 1 (.slice xo vs.length cp) vs.length vs := ownsRow_of_block h.own (fun g hg => Below.heap_alloc _ _ _ (h.own.lt g hg).2)
  obtain ⟨v', w', hr, h3, h4, _, h5⟩ := run_append_own_at (P := Tryd.prog) (wr.alloc (.cells #[.slice a n c] 25)) w.heap.size 22 22 25 i0 (.slice none 0 0) 1 24 Tryd.underlying22 hi hz0 hz1 hz2 rfl (by decide) (.slice xo vs.length cp) vs.length vs h2 ⟨wr.heap.size, 0, none⟩ 1 1 [.slice a n c] rfl (fun j u hu => by
    rw [add_at, World.cell?_alloc_at _ _ _ _ rfl]; simpa using hu) (fun u hu => by simp at hu; subst hu; rfl) (by simp only [maxLen]; omega) (by omega) (by have := h.fr.size; simp; omega)
  have hf : ∃ ao cap, v' = .slice ao (vs.length + 1) cap := by
    rcases h3.2 with ⟨_, e⟩ | ⟨g, cap, cur, rfl, _⟩
    · omega
    · exact ⟨some ⟨g, 0, none⟩, cap, rfl⟩
  obtain ⟨ao, cap, rfl⟩ := hf
  refine ⟨ao, cap, w', hr, ⟨?_, (h.fr.alloc _).grown h4 (fun g hg => .inr (h.own.lt g hg).1)⟩, h4, h5⟩
  rw [List.length_append]
  exact h3
/-- Own slices, each of bytes. -/
theorem OS.pcs {w wr : World} {xo : Option Addr} {cp : Nat} {vs : List Value} (h : OS w wr xo cp vs) {ps : List (List Nat)} (hl : vs.length = ps.length) (hs : ∀ (j : Nat) v p, vs[j]? = some v → ps[j]? = some p → Sl wr v p) : Pcs wr (.slice xo vs.length cp) vs ps := by
  refine ⟨hl, ?_, fun j v p hv hp => ⟨(hs j v p hv hp).s, (hs j v p hv hp).cap, (hs j v p hv hp).lt⟩, fun p hp => ?_⟩
  · rcases h.own.2 with ⟨e, e0⟩ | ⟨g, cap, cur, e, _⟩
    · simp only [Value.slice.injEq] at e
      obtain ⟨rfl, _, rfl⟩ := e
      rw [e0]
      exact .inl ⟨rfl, List.length_eq_zero_iff.1 e0⟩
    · simp only [Value.slice.injEq, true_and] at e
      obtain ⟨rfl, rfl⟩ := e
      refine .inr (.inr ⟨g, 0, cp, rfl, (h.own.lt g rfl).2, fun j v hv => ?_⟩)
      have hj : j < vs.length := (List.getElem?_eq_some_iff.1 hv).1
      rw [Nat.zero_add, h.own.cellAt j (by omega), hv]
  · obtain ⟨j, hj, rfl⟩ := List.getElem_of_mem hp
    have hjv : j < vs.length := by omega
    exact (hs j vs[j] ps[j] (List.getElem?_eq_getElem hjv) (List.getElem?_eq_getElem hj)).b
theorem Pcs.sl {w : World} {x : Value} {vs : List Value} {ps : List (List Nat)} (h : Pcs w x vs ps) (j : Nat) (v : Value) (p : List Nat) (hv : vs[j]? = some v) (hp : ps[j]? = some p) : Sl w v p :=
  ⟨(h.src j v p hv hp).1, (h.src j v p hv hp).2.1, (h.src j v p hv hp).2.2, h.byt p (List.mem_of_getElem? hp)⟩
theorem Pcs.fr0 {w w' : World} {x : Value} {vs : List Value} {ps : List (List Nat)} (h : Pcs w x vs ps) (hf : Fr (fun _ => False) w w') : Pcs w' x vs ps := by
  refine ⟨h.len, ?_, fun j v p hv hp => ⟨(h.src j v p hv hp).1.fr0 hf, (h.src j v p hv hp).2.1, (h.src j v p hv hp).2.2.imp id (fun hh g o n c e => Nat.lt_of_lt_of_le (hh g o n c e) hf.size)⟩, h.byt⟩
  rcases h.at_ with h0 | h0 | ⟨g, o, c, e, hg, hc⟩
  · exact .inl h0
  · exact .inr (.inl h0)
  · exact .inr (.inr ⟨g, o, c, e, Nat.lt_of_lt_of_le hg hf.size, fun j v hv => (hf.cell (p := ⟨g, o + j, none⟩) hg (fun h => h)).trans (hc j v hv)⟩)
/-- The first k. -/
theorem Pcs.take {w : World} {xo : Option Addr} {n c : Nat} {vs : List Value} {ps : List (List Nat)} (h : Pcs w (.slice xo n c) vs ps) (k : Nat) (hk : k ≤ n) : Pcs w (.slice xo k c) (vs.take k) (ps.take k) := by
  have hn : n = vs.length := by
    rcases h.at_ with ⟨e, rfl⟩ | ⟨a, c', e, rfl⟩ | ⟨g, o, c', e, _⟩ <;> (simp only [Value.slice.injEq] at e; simp [e.2.1])
  have hlk : (vs.take k).length = k := by rw [List.length_take]; omega
  refine ⟨by rw [List.length_take, List.length_take, h.len], ?_, fun j v p hv hp => ?_, fun p hp => h.byt p (List.mem_of_mem_take hp)⟩
  · rcases h.at_ with ⟨e, rfl⟩ | ⟨a, c', e, rfl⟩ | ⟨g, o, c', e, hg, hc⟩
    · simp only [Value.slice.injEq] at e
      obtain ⟨rfl, rfl, rfl⟩ := e
      exact .inl ⟨by rw [show k = 0 by omega], by simp⟩
    · simp only [Value.slice.injEq] at e
      obtain ⟨rfl, rfl, rfl⟩ := e
      exact .inr (.inl ⟨a, c, by rw [show k = 0 by omega], by simp⟩)
    · simp only [Value.slice.injEq] at e
      obtain ⟨rfl, _, rfl⟩ := e
      refine .inr (.inr ⟨g, o, c, by rw [hlk], hg, fun j v hv => hc j v ?_⟩)
      rw [List.getElem?_take] at hv
      split at hv
      · exact hv
      · cases hv
  · rw [List.getElem?_take] at hv hp
    split at hv
    · rename_i hjk
      rw [if_pos hjk] at hp
      exact h.src j v p hv hp
    · cases hv
/-- Those behind the first k. -/
theorem Pcs.drop {w : World} {g o n c : Nat} {vs : List Value} {ps : List (List Nat)} (h : Pcs w (.slice (some ⟨g, o, none⟩) n c) vs ps) (k : Nat) (hk : k < n) : Pcs w (.slice (some ⟨g, o + k, none⟩) (n - k) (c - k)) (vs.drop k) (ps.drop k) := by
  rcases h.at_ with ⟨e, _⟩ | ⟨a, c', e, rfl⟩ | ⟨g', o', c', e, hg, hc⟩
  · simp at e
  · simp only [Value.slice.injEq] at e; omega
  · simp only [Value.slice.injEq, Option.some.injEq, Addr.mk.injEq, and_true] at e
    obtain ⟨⟨rfl, rfl⟩, rfl, rfl⟩ := e
    refine ⟨by rw [List.length_drop, List.length_drop, h.len], .inr (.inr ⟨g, o + k, c - k, by rw [List.length_drop], hg, fun j v hv => ?_⟩), fun j v p hv hp => ?_, fun p hp => h.byt p (List.mem_of_mem_drop hp)⟩
    · rw [List.getElem?_drop] at hv
      rw [Nat.add_assoc]
      exact hc (k + j) v hv
    · rw [List.getElem?_drop] at hv hp
      exact h.src (k + j) v p hv hp
/-- The hash of a tree of leaves' hashes. -/
def mth (i : Int) (ps : List (List Nat)) : List Nat :=
  if _h : ps.length < 2 then (match ps with | [] => sm i [] | p :: _ => p)
  else nd i (mth i (ps.take (hf ps.length))) (mth i (ps.drop (hf ps.length)))
termination_by ps.length
decreasing_by
  · rw [List.length_take]; have := hf_lt ps.length (by omega); omega
  · rw [List.length_drop]; have := hf_pos ps.length; omega
theorem mth_nil (i : Int) : mth i [] = sm i [] := by rw [mth]; simp
theorem mth_one (i : Int) (p : List Nat) : mth i [p] = p := by rw [mth]; simp
theorem mth_two (i : Int) (ps : List (List Nat)) (h : 2 ≤ ps.length) : mth i ps = nd i (mth i (ps.take (hf ps.length))) (mth i (ps.drop (hf ps.length))) := by
  rw [mth, dif_neg (by omega)]
theorem mth_lt (i : Int) (n : Nat) : ∀ ps : List (List Nat), ps.length ≤ n → (∀ p ∈ ps, ∀ v ∈ p, v < 256) → ∀ v ∈ mth i ps, v < 256 := by
  induction n with
  | zero =>
    intro ps hl _
    have e : ps = [] := List.length_eq_zero_iff.1 (by omega)
    rw [e, mth_nil]
    exact sm_lt i _
  | succ n ih =>
    intro ps hl hb
    by_cases h : ps.length < 2
    · match ps, h with
      | [], _ => rw [mth_nil]; exact sm_lt i _
      | [p], _ => rw [mth_one]; exact hb p (by simp)
    · rw [mth_two i ps (by omega)]
      exact nd_lt i _ _
theorem mth_len (i : Int) (B : Nat) (hB : 32 ≤ B) (ps : List (List Nat)) (hb : ∀ p ∈ ps, p.length ≤ B) : (mth i ps).length ≤ B := by
  have h32 : ∀ m, (sm i m).length ≤ 32 := fun m => by
    rw [sm]
    split
    · rw [List.length_take, sby_len]; omega
    · exact Nat.zero_le _
  by_cases h : ps.length < 2
  · match ps, h with
    | [], _ => rw [mth_nil]; exact Nat.le_trans (h32 _) hB
    | [p], _ => rw [mth_one]; exact hb p (by simp)
  · rw [mth_two i ps (by omega)]
    exact Nat.le_trans (h32 _) hB
end Go.Proofs.YthccbfgjekdiiaaDoor

namespace Go.Proofs.YthccbfgjekdiiaaDoor
open Go.RowKit

theorem sm32 (i : Int) (m : List Nat) : (sm i m).length ≤ 32 := by
  rw [sm]
  split
  · rw [List.length_take, sby_len]; omega
  · exact Nat.zero_le _
theorem Sl.frD {w w' : World} {x : Value} {l : List Nat} {S : Nat → Prop} (h : Sl w x l) (hf : Fr S w w') (hS : l = [] ∨ ∀ g o m c, x = .slice (some ⟨g, o, none⟩) m c → ¬ S g) : Sl w' x l :=
  ⟨h.s.frD hf hS, h.cap, h.lt.imp id (fun hh g o n c e => Nat.lt_of_lt_of_le (hh g o n c e) hf.size), h.b⟩
theorem OS.fr0 {w wr wq : World} {xo : Option Addr} {cp : Nat} {vs : List Value} (h : OS w wr xo cp vs) (hf : Fr (fun _ => False) wr wq) : OS w wq xo cp vs :=
  ⟨ownsRow_of_block h.own (fun g hg => hf.block g (h.own.lt g hg).2 (fun h => h)), h.fr.trans hf (fun _ _ h => h)⟩
/-- Hashes that were laid one by one. -/
structure LV (w wr : World) (ao : Option Addr) (cp : Nat) (us : List Value) (ls : List (List Nat)) : Prop where
  own : OS w wr ao cp us
  len : us.length = ls.length
  sl : ∀ (j : Nat) u l, us[j]? = some u → ls[j]? = some l → Sl wr u l ∧ (l = [] ∨ ∀ g o n c, u = .slice (some ⟨g, o, none⟩) n c → g < wr.heap.size ∧ ∀ g', (Value.slice ao us.length cp).ownBlock = some g' → ¬ g = g')
theorem LV.nil (w : World) : LV w w none 0 [] [] := ⟨OS.nil w, rfl, fun j u l h => by simp at h⟩
/-- One more hash. -/
theorem LV.step {w wr w1 : World} {ao : Option Addr} {cp : Nat} {us : List Value} {ls : List (List Nat)} (h : LV w wr ao cp us ls) (l : List Nat) (yo : Option Addr) (yc : Nat) (hO : OB wr w1 yo yc l) (hb : ∀ v ∈ l, v < 256) (hn : us.length < 16000000) :
    ∃ ao' cp' w2, (Builtin.append_ #[22, 22] 22 #[.slice ao us.length cp, .slice (some ⟨w1.heap.size, 0, none⟩) 1 1]).run Tryd.prog (w1.alloc (.cells #[.slice yo l.length yc] 25)) = .ok (.slice ao' (us.length + 1) cp') w2 ∧ LV w w2 ao' cp' (us ++ [.slice yo l.length yc]) (ls ++ [l]) := by
  have hown1 := h.own.fr0 hO.fr
  obtain ⟨ao', cp', w2, hr, hOS, hgrow, hat⟩ := hown1.app1 yo l.length yc hn
  have hF : Fr (fun k => (Value.slice ao us.length cp).ownBlock = some k) w1 w2 := ((Fr.refl _ _).alloc _).grown hgrow (fun g hg => .inl hg)
  have hbl : ∀ g', (Value.slice ao us.length cp).ownBlock = some g' → g' < wr.heap.size := fun g' hg => (h.own.own.lt g' hg).2
  have hsz : wr.heap.size ≤ w1.heap.size := hO.fr.size
  have hsz2 : w1.heap.size ≤ w2.heap.size := hF.size
  have hnew : ∀ g', (Value.slice ao' (us ++ [Value.slice yo l.length yc]).length cp').ownBlock = some g' → (Value.slice ao us.length cp).ownBlock = some g' ∨ w1.heap.size < g' := fun g' hg => by
    have e : (Value.slice ao' (us ++ [Value.slice yo l.length yc]).length cp').ownBlock = (Value.slice ao' (us.length + 1) cp').ownBlock := by rw [List.length_append]; rfl
    rw [e] at hg
    rcases hat with h1 | h1
    · rw [h1] at hg; exact .inl hg
    · rw [h1] at hg
      simp only [Option.some.injEq] at hg
      simp at hg
      exact .inr (by omega)
  refine ⟨ao', cp', w2, hr, hOS, by rw [List.length_append, List.length_append, h.len]; rfl, fun j u p hu hp => ?_⟩
  by_cases hj : j < us.length
  · rw [List.getElem?_append_left hj] at hu
    rw [List.getElem?_append_left (by rw [← h.len]; exact hj)] at hp
    obtain ⟨h1, h2⟩ := h.sl j u p hu hp
    refine ⟨(h1.fr0 hO.fr).frD hF (h2.imp id (fun hh g o n c e hg => (hh g o n c e).2 g hg rfl)), h2.imp id (fun hh g o n c e => ⟨by have := (hh g o n c e).1; omega, fun g' hg' e2 => ?_⟩)⟩
    rcases hnew g' hg' with h3 | h3
    · exact (hh g o n c e).2 g' h3 e2
    · have := (hh g o n c e).1; omega
  · have hje : j = us.length := by
      have := (List.getElem?_eq_some_iff.1 hu).1
      rw [List.length_append, List.length_singleton] at this
      omega
    subst hje
    rw [List.getElem?_append_right (Nat.le_refl _), Nat.sub_self] at hu
    rw [List.getElem?_append_right (by rw [h.len]; exact Nat.le_refl _), h.len, Nat.sub_self] at hp
    simp only [List.getElem?_cons_zero, Option.some.injEq] at hu hp
    subst hu hp
    have hlt := World.ownsRow.lt hO.own
    have hgb : ∀ g o n c, (Value.slice yo l.length yc) = .slice (some ⟨g, o, none⟩) n c → wr.heap.size ≤ g ∧ g < w1.heap.size := fun g o n c e => by
      simp only [Value.slice.injEq] at e
      obtain ⟨rfl, _⟩ := e
      exact hlt g rfl
    refine ⟨(hO.sl hb).frD hF (.inr (fun g o n c e hg => by have h1 := hbl g hg; have h2 := (hgb g o n c e).1; omega)), .inr (fun g o n c e => ⟨by have := (hgb g o n c e).2; omega, fun g' hg' e2 => ?_⟩)⟩
    rcases hnew g' hg' with h3 | h3
    · have h1 := hbl g' h3; have h2 := (hgb g o n c e).1; omega
    · have h2 := (hgb g o n c e).2; omega
theorem LV.pcs {w wr : World} {ao : Option Addr} {cp : Nat} {us : List Value} {ls : List (List Nat)} (h : LV w wr ao cp us ls) : Pcs wr (.slice ao us.length cp) us ls := h.own.pcs h.len (fun j v p hv hp => (h.sl j v p hv hp).1)
set_option maxRecDepth 100000 in
set_option maxHeartbeats 1000000 in
/-- The ref's Leaves. -/
theorem gleaves_any (i : Int) (x : Value) (vs : List Value) (es : List (List Nat)) (w : World) (hr : GR w) (hp : Pcs w x vs es) (hB : ∀ e ∈ es, e.length ≤ 4000000) (hn : es.length ≤ 8000000) :
    Calls Tryd.prog 41 #[.int .i64 i, x] w fun e' w' => ∃ ao cp us, e' = .returned (.slice ao es.length cp) ∧ Pcs w' (.slice ao es.length cp) us (es.map (lf i)) ∧ Fr (fun _ => False) w w' ∧ es.length ≤ cp := by
  obtain ⟨xo, xc, rfl⟩ := hp.form
  have HG := hide (And.intro hr (And.intro hp (And.intro hB hn)))
  clear hr hp hB hn
  generalize hN : es.length = N at *
  go_enter Tryd.func41, Tryd.ntmps41
  go_wp2_with fail
  go_loopw [5, 6] (fun v iv wr => ∃ (k : Nat) (ao : Option Addr) (cp : Nat) (us : List Value), k ≤ N ∧ iv = .int .i64 (k : Nat) ∧ v = .slice ao k cp ∧ us.length = k ∧ LV w wr ao cp us ((es.take k).map (lf i))) (fun _ iv _ => N - (intOf iv).toNat)
  case atStart => exact ⟨0, none, 0, [], Nat.zero_le _, rfl, rfl, rfl, LV.nil w⟩
  case round =>
    obtain ⟨k, ao, cp, us, hk, rfl, rfl, hus, hI⟩ := hrel
    have hN8 := (unhide HG).2.2.2
    by_cases hlt : k < N
    · have hlt' : (k : Int) < (N : Int) := by omega
      have hke : k < es.length := by omega
      have hF := hI.own.fr
      obtain ⟨g, o, v, rfl, hcell, hsrc, hcap, hltv, _⟩ := (unhide HG).2.1.cell hF k hke
      have hb1 := (unhide HG).2.2.1 es[k] (List.getElem_mem hke)
      have hbb := (unhide HG).2.1.byt es[k] (List.getElem_mem hke)
      have hgl := gleaf_any i v es[k] _ ((unhide HG).1.fr0 hF) hsrc hbb hb1
      have htk : (es.take (k + 1)).map (lf i) = (es.take k).map (lf i) ++ [lf i es[k]] := by
        rw [List.take_add_one, List.getElem?_eq_getElem hke, Option.toList_some, List.map_append]; rfl
      have hl32 := sm32 i (0 :: es[k])
      have hlb := lf_lt i es[k]
      obtain ⟨R, hR⟩ : ∃ R, lf i es[k] = R := ⟨_, rfl⟩
      rw [hR] at hgl htk hlb
      obtain ⟨vo, vc, rfl⟩ := hsrc.form
      have HI := hide (And.intro hI (And.intro hgl (And.intro htk hlb)))
      clear hI hgl htk hl32 hlb hR hF hsrc hcap hltv hb1 hbb
      generalize es[k].length = EL at *
      go_wp2_with fail
      refine (unhide HI).2.1.mono ?_
      rintro e' w1 ⟨yo, yc, rfl, hO⟩
      obtain ⟨ao', cp', w2, hr2, hL2⟩ := (unhide HI).1.step R yo yc hO (unhide HI).2.2.2 (by omega)
      rw [← (unhide HI).2.2.1] at hL2
      rw [hus] at hr2
      have HL := hide (And.intro hL2 hr2)
      clear hL2 hr2 hO
      generalize R.length = RL at *
      go_wp2_with (at_builtin; refine wpList_app rfl _ _ 22 22 rfl _ _ _ rfl rfl (unhide HL).2 ?_)
      exact ⟨⟨k + 1, ao', cp', _, by omega, by go_num, rfl, by rw [List.length_append, hus]; rfl, (unhide HL).1⟩, by simp [intOf]; omega⟩
    · have hkN : k = N := by omega
      have hlt' : ¬ (k : Int) < (N : Int) := by omega
      have htk : es.take k = es := List.take_of_length_le (by omega)
      rw [htk] at hI
      have hpc := hI.pcs
      rw [hus] at hpc
      have hcp : k ≤ cp := by
        rcases hI.own.own.2 with ⟨e, e2⟩ | ⟨g, cap, cur, e, _, _, h3, _⟩
        · omega
        · simp only [Value.slice.injEq, true_and] at e
          rw [e.2, ← hus]; exact h3
      have HI := hide (And.intro hpc (And.intro hI.own.fr (And.intro hcp hkN)))
      clear hI hpc hkN htk hcp
      go_wp2_with fail
      go_ret
      obtain ⟨h1, h2, h4, h3⟩ := unhide HI
      subst h3
      exact ⟨ao, cp, rfl, ⟨us, h1⟩, h2, h4⟩
end Go.Proofs.YthccbfgjekdiiaaDoor

namespace Go.Proofs.YthccbfgjekdiiaaDoor
open Go.RowKit

/-- A slice's length is at most its capacity. -/
def Cp (x : Value) : Prop := ∀ g n c, x = .slice g n c → n ≤ c
def OfSays (i : Int) (ps : List (List Nat)) (x : Value) (w : World) : Prop :=
  Calls Tryd.prog 68 #[.int .i64 i, x] w fun e w' => ∃ yo yc, e = .returned (.slice yo (mth i ps).length yc) ∧ Sl w' (.slice yo (mth i ps).length yc) (mth i ps) ∧ Fr (fun _ => False) w w'
set_option maxRecDepth 100000 in
theorem of_nil (i : Int) (x : Value) (vs : List Value) (w : World) (hr : GR w) (hp : Pcs w x vs []) : OfSays i [] x w := by
  unfold OfSays
  obtain ⟨xo, xc, rfl⟩ := hp.form
  obtain ⟨R, hR⟩ : ∃ R, mth i [] = R := ⟨_, rfl⟩
  have hsum : ∀ w, GR w → Calls Tryd.prog 89 #[.int .i64 i, .slice none 0 0] w fun e w' => ∃ zo zc, e = .returned (.slice zo R.length zc) ∧ OB w w' zo zc R := fun w h => by
    rw [← hR, mth_nil]
    exact gsum_T i _ [] w h (.inl ⟨rfl, rfl⟩) (fun _ h => by cases h) (by simp)
  have hb : ∀ v ∈ R, v < 256 := by rw [← hR, mth_nil]; exact sm_lt i _
  rw [hR]
  have HG := hide (And.intro hsum (And.intro hr hb))
  clear hsum hr hb hR hp
  simp only [List.length_nil]
  go_enter Tryd.func68, Tryd.ntmps68
  go_wp2_with fail
  refine ((unhide HG).1 w (unhide HG).2.1).mono ?_
  rintro e w1 ⟨zo, zc, rfl, hO⟩
  have H1 := hide (And.intro (hO.sl (unhide HG).2.2) hO.fr)
  clear hO
  go_wp2_with fail
  go_ret
  exact ⟨zo, zc, rfl, (unhide H1).1, (unhide H1).2⟩
set_option maxRecDepth 100000 in
theorem of_one (i : Int) (p : List Nat) (x : Value) (vs : List Value) (w : World) (hp : Pcs w x vs [p]) : OfSays i [p] x w := by
  unfold OfSays
  obtain ⟨xo, xc, rfl⟩ := hp.form
  obtain ⟨g, o, v, rfl, hcell, _⟩ := hp.cell (Fr.refl _ _) 0 (by simp)
  have hvl : 0 < vs.length := by rw [hp.len]; simp
  have hsl : Sl w v p := by
    have h0 := hp.at_
    rcases h0 with ⟨e, rfl⟩ | ⟨a, c, e, rfl⟩ | ⟨g', o', c, e, _, hc⟩
    · simp at hvl
    · simp at hvl
    · simp only [Value.slice.injEq, Option.some.injEq, Addr.mk.injEq, and_true] at e
      obtain ⟨⟨rfl, rfl⟩, _⟩ := e
      have h1 := hc 0 _ (List.getElem?_eq_getElem hvl)
      rw [h1] at hcell
      have h2 := Option.some.inj hcell
      exact hp.sl 0 v p (by rw [List.getElem?_eq_getElem hvl, h2]) rfl
  rw [mth_one]
  obtain ⟨vo, vc, rfl⟩ := hsl.form
  rw [Nat.add_zero] at hcell
  have H := hide hsl
  clear hsl hp hvl
  simp only [List.length_singleton]
  generalize p.length = P at *
  go_enter Tryd.func68, Tryd.ntmps68
  go_wp2_with fail
  go_ret
  exact ⟨vo, vc, rfl, unhide H, Fr.refl _ _⟩
set_option maxRecDepth 100000 in
set_option maxHeartbeats 1000000 in
/-- The ref's Of. -/
theorem of_any (i : Int) (n : Nat) : ∀ (ps : List (List Nat)) (x : Value) (vs : List Value) (w : World), ps.length ≤ n → ps.length ≤ 8000000 → GR w → Pcs w x vs ps → Cp x → (∀ p ∈ ps, p.length ≤ 4000000) → OfSays i ps x w := by
  induction n with
  | zero =>
    intro ps x vs w hl _ hr hp _ hB
    have e : ps = [] := List.length_eq_zero_iff.1 (by omega)
    subst e
    exact of_nil i x vs w hr hp
  | succ n ih =>
    intro ps x vs w hl hl8 hr hp hcx hB
    by_cases h2 : ps.length < 2
    · match ps, h2 with
      | [], _ => exact of_nil i x vs w hr hp
      | [p], _ => exact of_one i p x vs w hp
    · obtain ⟨xo, xc, rfl⟩ := hp.form
      obtain ⟨g, o, v, rfl, -⟩ := hp.cell (Fr.refl _ _) 0 (by omega)
      have hk1 := hf_lt ps.length (by omega)
      have hk2 := hf_pos ps.length
      have hle : vs.length = ps.length := hp.len
      have hcapx : ps.length ≤ xc := hcx _ _ _ rfl
      have cp1 : Cp (.slice (some ⟨g, o, none⟩) (hf ps.length) xc) := fun _ _ _ e => by cases e; omega
      have cp2 : Cp (.slice (some ⟨g, o + hf ps.length, none⟩) (ps.length - hf ps.length) (xc - hf ps.length)) := fun _ _ _ e => by cases e; omega
      have hmt := mth_two i ps (by omega)
      have hP1 := hp.take (hf ps.length) (by omega)
      have hP2 := hp.drop (hf ps.length) hk1
      have hB1 : ∀ p ∈ ps.take (hf ps.length), p.length ≤ 4000000 := fun p h => hB p (List.mem_of_mem_take h)
      have hB2 : ∀ p ∈ ps.drop (hf ps.length), p.length ≤ 4000000 := fun p h => hB p (List.mem_of_mem_drop h)
      have hl1 : (ps.take (hf ps.length)).length = hf ps.length := by rw [List.length_take]; omega
      have hl2 : (ps.drop (hf ps.length)).length = ps.length - hf ps.length := by rw [List.length_drop]
      have c1 : ∀ w', Fr (fun _ => False) w w' → OfSays i (ps.take (hf ps.length)) (.slice (some ⟨g, o, none⟩) (hf ps.length) xc) w' := fun w' hfr => ih _ _ _ w' (by omega) (by omega) (hr.fr0 hfr) (hP1.fr0 hfr) cp1 hB1
      have c2 : ∀ w', Fr (fun _ => False) w w' → OfSays i (ps.drop (hf ps.length)) (.slice (some ⟨g, o + hf ps.length, none⟩) (ps.length - hf ps.length) (xc - hf ps.length)) w' := fun w' hfr => ih _ _ _ w' (by omega) (by omega) (hr.fr0 hfr) (hP2.fr0 hfr) cp2 hB2
      have m1 := mth_lt i _ (ps.take (hf ps.length)) (Nat.le_refl _) hP1.byt
      have m2 := mth_lt i _ (ps.drop (hf ps.length)) (Nat.le_refl _) hP2.byt
      have n1 := mth_len i 4000000 (by decide) _ hB1
      have n2 := mth_len i 4000000 (by decide) _ hB2
      have hha := half_any ps.length w (by omega) (by omega)
      unfold OfSays at c1 c2 ⊢
      rw [hmt]
      generalize mth i (ps.take (hf ps.length)) = M1 at *
      generalize mth i (ps.drop (hf ps.length)) = M2 at *
      obtain ⟨R, hR⟩ : ∃ R, nd i M1 M2 = R := ⟨_, rfl⟩
      rw [hR]
      have hbR : ∀ v ∈ R, v < 256 := by rw [← hR]; exact nd_lt i _ _
      have hnode : ∀ x y w', GR w' → Src w' x M1 → Src w' y M2 → Calls Tryd.prog 91 #[.int .i64 i, x, y] w' fun e w'' => ∃ yo yc, e = .returned (.slice yo R.length yc) ∧ OB w' w'' yo yc R := fun x y w' h1 h3 h4 => by
        rw [← hR]; exact gnode_any i x y M1 M2 w' h1 h3 h4 m1 m2 n1 n2
      have HG := hide (And.intro hr (And.intro hP1 (And.intro hP2 (And.intro c1 (And.intro c2 (And.intro hnode (And.intro hbR hha)))))))
      clear hr hP1 hP2 c1 c2 hnode hbR hha m1 m2 n1 n2 hmt hR hB hB1 hB2 hp hl1 hl2 ih cp1 cp2 hcx
      generalize hf ps.length = K at *
      have q1 : (K : Int) ≤ (ps.length : Int) := by omega
      have q2 : (K : Int) ≤ (xc : Int) := by omega
      have q3 : ((ps.length : Int) == 0) = false := beq_false_of_ne (by omega)
      have q4 : ((ps.length : Int) == 1) = false := beq_false_of_ne (by omega)
      generalize ps.length = N at *
      go_enter Tryd.func68, Tryd.ntmps68
      go_wp2_with fail
      refine (unhide HG).2.2.2.2.2.2.2.mono ?_
      rintro e w0 ⟨rfl, rfl⟩
      go_wp2_with fail
      have T1 : True := trivial
      have q5 : ¬ xc = K := by omega
      have q6 : ¬ K = xc := by omega
      go_region_held3 (fun _ => True) (trivial) (first
        | (go_at_call 68; clear T1; refine ((unhide HG).2.2.2.1 _ ((Fr.refl _ _).drew)).mono ?_; rintro e wA ⟨yA, cA, rfl, sA, fA⟩)
        | (go_at_call 68; refine ((unhide HG).2.2.2.2.1 _ (((Fr.refl _ _).drew).trans fA (fun _ _ h => h))).mono ?_; rintro e wB ⟨yB, cB, rfl, sB, fB⟩)
        | (go_at_call 91; refine ((unhide HG).2.2.2.2.2.1 _ _ wB (((unhide HG).1.fr0 (((Fr.refl _ _).drew).trans fA (fun _ _ h => h))).fr0 fB) (sA.s.fr0 fB) sB.s).mono ?_; rintro e wC ⟨zo, zc, rfl, oC⟩))
      have hFC : Fr (fun _ => False) w0 wC := ((((Fr.refl (fun _ => False) w0).drew).trans fA (fun _ _ h => h)).trans fB (fun _ _ h => h)).trans oC.fr (fun _ _ h => h)
      have HE := hide (And.intro (oC.sl (unhide HG).2.2.2.2.2.2.1) hFC)
      clear hFC
      go_wp2_with fail
      go_ret
      exact ⟨zo, zc, rfl, (unhide HE).1, (unhide HE).2⟩
set_option maxRecDepth 100000 in
/-- The ref's Root. -/
theorem groot_any (i : Int) (x : Value) (vs : List Value) (es : List (List Nat)) (w : World) (hr : GR w) (hp : Pcs w x vs es) (hB : ∀ e ∈ es, e.length ≤ 4000000) (hn : es.length ≤ 8000000) (h1 : 1 ≤ i) (h2 : i ≤ 32) :
    Calls Tryd.prog 44 #[.int .i64 i, x] w fun e w' => ∃ yo yc, e = .returned (.slice yo (mth i (es.map (lf i))).length yc) ∧ Sl w' (.slice yo (mth i (es.map (lf i))).length yc) (mth i (es.map (lf i))) ∧ Fr (fun _ => False) w w' := by
  have hl : (es.map (lf i)).length = es.length := List.length_map _
  have hB2 : ∀ p ∈ es.map (lf i), p.length ≤ 4000000 := fun p hp => by
    obtain ⟨e, _, rfl⟩ := List.mem_map.1 hp
    exact Nat.le_trans (sm32 i _) (by decide)
  have hof : ∀ x vs w, GR w → Pcs w x vs (es.map (lf i)) → Cp x → OfSays i (es.map (lf i)) x w := fun x vs w h3 h4 h5 => of_any i es.length _ x vs w (by omega) (by omega) h3 h4 h5 hB2
  have hlv := gleaves_any i x vs es w hr hp hB hn
  unfold OfSays at hof
  obtain ⟨xo, xc, rfl⟩ := hp.form
  have HG := hide (And.intro hr (And.intro hof hlv))
  clear hr hp hB hn hof hlv hB2 hl
  generalize es.map (lf i) = LS at *
  generalize mth i LS = R at *
  generalize es.length = N at *
  go_enter Tryd.func44, Tryd.ntmps44
  go_wp2_with fail
  refine (may_yes i w h1 h2).mono ?_
  rintro e w0 ⟨rfl, rfl⟩
  go_wp2_with fail
  refine (unhide HG).2.2.mono ?_
  rintro e w1 ⟨ao, cp, us, rfl, hP, hF, hcp⟩
  have hc : Cp (.slice ao N cp) := fun _ _ _ e => by cases e; exact hcp
  clear hcp
  have H1 := hide (And.intro hP (And.intro hF hc))
  clear hP hF hc
  go_wp2_with fail
  refine ((unhide HG).2.1 _ us w1 ((unhide HG).1.fr0 (unhide H1).2.1) (unhide H1).1 (unhide H1).2.2).mono ?_
  rintro e w2 ⟨yo, yc, rfl, hS, hF⟩
  have H2 := hide (And.intro hS ((unhide H1).2.1.trans hF (fun _ _ h => h)))
  clear hS hF
  go_wp2_with fail
  go_ret
  exact ⟨yo, yc, rfl, (unhide H2).1, (unhide H2).2⟩
end Go.Proofs.YthccbfgjekdiiaaDoor

namespace Go.Proofs.YthccbfgjekdiiaaDoor
open Go.RowKit

def lays125_ren : Go.Shelf.Ren := ⟨fun | 125 => 86 | 128 => 101 | 129 => 102 | n => n, fun | 46 => 84 | 3 => 3 | 51 => 86 | 53 => 91 | 4 => 4 | 5 => 5 | 9 => 9 | n => n, fun | n => n⟩
theorem lays125 : Go.Proofs.Lays.n125 Tryd.prog lays125_ren where
  mixed := by kernel_rfl
  f125 := Tryd.func86.trans (congrArg some (by kernel_rfl))
  f128 := Tryd.func101.trans (congrArg some (by kernel_rfl))
  f129 := Tryd.func102.trans (congrArg some (by kernel_rfl))
  t3 := Tryd.underlying3
  a3 := Tryd.isAgg3
  z3 := Tryd.sizeOf3
  v3 := Tryd.zeroValue3
  t4 := Tryd.underlying4
  a4 := Tryd.isAgg4
  z4 := Tryd.sizeOf4
  v4 := Tryd.zeroValue4
  t5 := Tryd.underlying5
  a5 := Tryd.isAgg5
  z5 := Tryd.sizeOf5
  v5 := Tryd.zeroValue5
  t9 := Tryd.underlying9
  a9 := Tryd.isAgg9
  z9 := Tryd.sizeOf9
  v9 := Tryd.zeroValue9
  t46 := Tryd.underlying84
  a46 := Tryd.isAgg84
  z46 := Tryd.sizeOf84
  v46 := Tryd.zeroValue84
  t51 := Tryd.underlying86
  a51 := Tryd.isAgg86
  z51 := Tryd.sizeOf86
  v51 := Tryd.zeroValue86
  t53 := Tryd.underlying91
  a53 := Tryd.isAgg91
  z53 := Tryd.sizeOf91
  v53 := Tryd.zeroValue91
def laysNm225_ren : Go.Shelf.Ren := ⟨fun | 25 => 67 | 31 => 87 | 32 => 88 | 37 => 103 | n => n, fun | 22 => 23 | 3 => 3 | 4 => 4 | 40 => 84 | 0 => 0 | n => n, fun | n => n⟩
theorem laysNm225 : Go.Proofs.Lays2.n25 Tryd.prog laysNm225_ren where
  mixed := by kernel_rfl
  f25 := Tryd.func67.trans (congrArg some (by kernel_rfl))
  f31 := Tryd.func87.trans (congrArg some (by kernel_rfl))
  f32 := Tryd.func88.trans (congrArg some (by kernel_rfl))
  f37 := Tryd.func103.trans (congrArg some (by kernel_rfl))
  t0 := Tryd.underlying0
  a0 := Tryd.isAgg0
  z0 := Tryd.sizeOf0
  v0 := Tryd.zeroValue0
  t3 := Tryd.underlying3
  a3 := Tryd.isAgg3
  z3 := Tryd.sizeOf3
  v3 := Tryd.zeroValue3
  t4 := Tryd.underlying4
  a4 := Tryd.isAgg4
  z4 := Tryd.sizeOf4
  v4 := Tryd.zeroValue4
  t22 := Tryd.underlying23
  a22 := Tryd.isAgg23
  z22 := Tryd.sizeOf23
  v22 := Tryd.zeroValue23
  t40 := Tryd.underlying84
  a40 := Tryd.isAgg84
  z40 := Tryd.sizeOf84
  v40 := Tryd.zeroValue84
def laysSlK4_ren : Go.Shelf.Ren := ⟨fun | 4 => 79 | n => n, fun | 22 => 25 | 4 => 4 | 5 => 5 | n => n, fun | n => n⟩
theorem laysSlK4 : Go.Proofs.SlLaysK.n4 Tryd.prog laysSlK4_ren where
  mixed := by kernel_rfl
  f4 := Tryd.func79.trans (congrArg some (by kernel_rfl))
  t4 := Tryd.underlying4
  a4 := Tryd.isAgg4
  z4 := Tryd.sizeOf4
  v4 := Tryd.zeroValue4
  t22 := Tryd.underlying25
  a22 := Tryd.isAgg25
  z22 := Tryd.sizeOf25
  v22 := Tryd.zeroValue25
  t5 := Tryd.underlying5
  i5 := by kernel_rfl
def laysnb115_ren : Go.Shelf.Ren := ⟨fun | 115 => 29 | n => n, fun | 37 => 25 | 4 => 4 | 9 => 9 | 5 => 5 | n => n, fun | n => n⟩
theorem laysnb115 : Go.Proofs.Lays.nb115 Tryd.prog laysnb115_ren where
  mixed := by kernel_rfl
  f115 := Tryd.func29.trans (congrArg some (by kernel_rfl))
  t4 := Tryd.underlying4
  a4 := Tryd.isAgg4
  z4 := Tryd.sizeOf4
  v4 := Tryd.zeroValue4
  t9 := Tryd.underlying9
  a9 := Tryd.isAgg9
  z9 := Tryd.sizeOf9
  v9 := Tryd.zeroValue9
  t37 := Tryd.underlying25
  a37 := Tryd.isAgg25
  z37 := Tryd.sizeOf25
  v37 := Tryd.zeroValue25
  t5 := Tryd.underlying5
  a5 := Tryd.isAgg5
  z5 := Tryd.sizeOf5
  v5 := Tryd.zeroValue5
def laysT_ren : Go.Shelf.Ren := ⟨fun | 27 => 81 | 28 => 97 | 29 => 98 | n => n, fun | 25 => 84 | 3 => 3 | 27 => 86 | 22 => 91 | 4 => 4 | 53 => 123 | 0 => 0 | 5 => 5 | 54 => 89 | n => n, fun | 0 => 3 | 1 => 4 | n => n⟩
theorem laysT : Go.Proofs.Lays7.n27 Tryd.prog laysT_ren where
  mixed := by kernel_rfl
  f27 := Tryd.func81.trans (congrArg some (by kernel_rfl))
  f28 := Tryd.func97.trans (congrArg some (by kernel_rfl))
  f29 := Tryd.func98.trans (congrArg some (by kernel_rfl))
  t0 := Tryd.underlying0
  a0 := Tryd.isAgg0
  z0 := Tryd.sizeOf0
  v0 := Tryd.zeroValue0
  i0 := by kernel_rfl
  t3 := Tryd.underlying3
  a3 := Tryd.isAgg3
  z3 := Tryd.sizeOf3
  v3 := Tryd.zeroValue3
  i3 := by kernel_rfl
  t4 := Tryd.underlying4
  a4 := Tryd.isAgg4
  z4 := Tryd.sizeOf4
  v4 := Tryd.zeroValue4
  i4 := by kernel_rfl
  t5 := Tryd.underlying5
  a5 := Tryd.isAgg5
  z5 := Tryd.sizeOf5
  v5 := Tryd.zeroValue5
  i5 := by kernel_rfl
  t22 := Tryd.underlying91
  a22 := Tryd.isAgg91
  z22 := Tryd.sizeOf91
  v22 := Tryd.zeroValue91
  i22 := by kernel_rfl
  t25 := Tryd.underlying84
  a25 := Tryd.isAgg84
  z25 := Tryd.sizeOf84
  v25 := Tryd.zeroValue84
  i25 := by kernel_rfl
  t27 := Tryd.underlying86
  a27 := Tryd.isAgg86
  z27 := Tryd.sizeOf86
  v27 := Tryd.zeroValue86
  i27 := by kernel_rfl
  t53 := Tryd.underlying123
  a53 := Tryd.isAgg123
  z53 := Tryd.sizeOf123
  v53 := Tryd.zeroValue123
  i53 := by kernel_rfl
  t54 := Tryd.underlying89
  a54 := Tryd.isAgg89
  z54 := Tryd.sizeOf89
  g0 := by kernel_rfl
  g1 := by kernel_rfl

/-- The library's calls: what the shelf says of them at this program's numbers. -/
theorem len_any (x : Int) (w : World) (h0 : 0 ≤ x) (h1 : x ≤ 18446744073709551615) :
    Calls Tryd.prog 86 #[.int .u64 x] w fun e w' => e = .returned (.int .i64 (Lib.bitLen x.toNat)) ∧ w' = w := Any.bits_Len lays125 x w h0 h1
theorem tz_any (x : Nat) (hx : x < 18446744073709551616) (w : World) (hT : x ≠ 0 → TabAt 4 Lib.deBruijn64tab w) :
    Calls Tryd.prog 81 #[.int .u64 x] w fun e w' => e = .returned (.int .i64 (Lib.ctz 64 x)) ∧ w' = w := Any7.bits_TrailingZeros laysT x hx w hT
theorem beq_any (p1 p2 : Option Addr) (n c m d : Nat) (xs ys : List Int) (w : World) (hx : xs.length = n) (hy : ys.length = m) (h1 : Lib.BytesIn w p1 n xs) (h2 : Lib.BytesIn w p2 m ys) :
    Calls Tryd.prog 29 #[.slice p1 n c, .slice p2 m d] w fun e w' => e = .returned (.bool (Lib.bytesOf xs == Lib.bytesOf ys)) ∧ w' = w := Any.bytes_Equal_all laysnb115 p1 p2 n c m d xs ys w hx hy h1 h2
theorem clone_at (a : Addr) (n c : Nat) (xs : List Int) (w : World) (hx : xs.length = n) (hbig : n ≤ 140737488355328) (hc : ∀ i, i < n → w.cell? (a.add i) = some (.int .u8 (xs.getD i 0))) :
    Calls Tryd.prog 79 #[.slice (some a) n c] w fun e w' => ∃ v', e = .returned v' ∧ w'.ownsRow w.heap.size 5 1 v' n (xs.map (Value.int .u8)) ∧ v' ≠ .slice none 0 0 ∧ Below w.heap.size w w' := Any.bytes_Clone_at laysSlK4 a n c xs w hx hbig hc
theorem find_any (b off n c : Nat) (zs : List Int) (x : Int) (w : World) (hz : n ≤ zs.length) (hbig : n < 4611686018427387904) (hc : ∀ j, j < zs.length → w.cell? ⟨b, off + j, none⟩ = some (.int .i64 (zs.getD j 0))) (hs : (zs.take n).Pairwise (· ≤ ·)) :
    Calls Tryd.prog 67 #[.slice (some ⟨b, off, none⟩) n c, .int .i64 x] w fun e w' => e = .returned (.tuple #[.int .i64 ((zs.take n).countP (· < x) : Nat), .bool ((zs.take n).contains x)]) ∧ ∃ q, w' = w.drewN q := Any.slices_BinarySearch_int laysNm225 b off n c zs x w hz hbig hc hs
theorem find_nil (a : Option Addr) (c : Nat) (x : Int) (w : World) :
    Calls Tryd.prog 67 #[.slice a 0 c, .int .i64 x] w fun e w' => e = .returned (.tuple #[.int .i64 0, .bool false]) ∧ w' = w := Any.slices_BinarySearch_int_empty laysNm225 a c x w
end Go.Proofs.YthccbfgjekdiiaaDoor

namespace Go.Proofs.YthccbfgjekdiiaaDoor
open Go.RowKit

/-- k(n) by the length of n - 1 in bits. -/
theorem hf_bits (n : Nat) (h2 : 2 ≤ n) (hn : n < 9223372036854775808) : 1 ≤ Lib.bitLen (n - 1) ∧ Lib.bitLen (n - 1) ≤ 63 ∧ 2 ^ (Lib.bitLen (n - 1) - 1) = hf n := by
  obtain ⟨h1, ha, hb⟩ := Lib.bitLenAux_bounds 64 (n - 1) (by omega) (by omega)
  have e : Lib.bitLenAux 64 (n - 1) = Lib.bitLen (n - 1) := rfl
  rw [e] at h1 ha hb
  have h63 : Lib.bitLen (n - 1) ≤ 63 := by
    apply Classical.byContradiction
    intro hc
    have : 2 ^ 63 ≤ 2 ^ (Lib.bitLen (n - 1) - 1) := Nat.pow_le_pow_right (by decide) (by omega)
    omega
  refine ⟨h1, h63, ?_⟩
  have hs : 2 ^ Lib.bitLen (n - 1) = 2 * 2 ^ (Lib.bitLen (n - 1) - 1) := by
    have : Lib.bitLen (n - 1) = (Lib.bitLen (n - 1) - 1) + 1 := by omega
    rw [this, Nat.pow_succ, Nat.mul_comm, Nat.add_sub_cancel]
  exact (hf_uniq n _ (by omega) (by omega)).symm

def sv (f n : Nat) : Value := .agg #[.int .i64 f, .int .i64 n]
set_option maxRecDepth 100000 in
set_option maxHeartbeats 1000000 in
theorem halves_any (f n : Nat) (w : World) (hn : f + n < 9223372036854775808) (h2 : 2 ≤ n) :
    Calls Tryd.prog 59 #[sv f n] w fun e w' => e = .returned (.tuple #[sv f (hf n), sv (f + hf n) (n - hf n)]) ∧ Fr (fun _ => False) w w' := by
  obtain ⟨hb1, hb2, hb3⟩ := hf_bits n h2 (by omega)
  have hlt := hf_lt n h2
  have hpos := hf_pos n
  generalize hK : hf n = K at *
  generalize hL : Lib.bitLen (n - 1) = L at *
  have w1 : IntKind.i64.wrap ((n : Int) - 1) = (n : Int) - 1 := by rw [IntKind.wrap_i64]; omega
  have w2 : IntKind.u64.wrap ((n : Int) - 1) = (n : Int) - 1 := by rw [IntKind.wrap_u64]; omega
  have w3 : IntKind.i64.wrap ((L : Int) - 1) = (L : Int) - 1 := by rw [IntKind.wrap_i64]; omega
  have w4 : IntKind.i64.wrap ((f : Int) + (K : Int)) = (f : Int) + (K : Int) := by rw [IntKind.wrap_i64]; omega
  have w5 : IntKind.i64.wrap ((n : Int) - (K : Int)) = (n : Int) - (K : Int) := by rw [IntKind.wrap_i64]; omega
  have HB := hide (And.intro hb1 (And.intro hb2 hb3))
  unfold sv
  go_enter Tryd.func59, Tryd.ntmps59
  go_wp2_with (go_at_call 86; refine (len_any ((n : Int) - 1) _ (by omega) (by omega)).mono ?_; rintro e w' ⟨rfl, hw'⟩; rw [hw', show ((n : Int) - 1).toNat = n - 1 by omega, hL])
  have hsh : wrap64 ((2 : Int) ^ (L - 1)) = (K : Int) := by
    have e : (2 : Int) ^ (L - 1) = (K : Int) := by rw [← (unhide HB).2.2]; simp
    rw [e, wrap64]; omega
  simp only [hsh]
  go_region
  go_wp2_with fail
  go_returns
  refine ⟨?_, ((((Fr.refl _ _).alloc _).alloc _).alloc _).drew⟩
  have e1 : ((f + K : Nat) : Int) = (f : Int) + (K : Int) := by omega
  have e2 : ((n - K : Nat) : Int) = (n : Int) - (K : Int) := by omega
  rw [e1, e2]
set_option maxRecDepth 100000 in
theorem before_any (f n g m : Nat) (w : World) :
    Calls Tryd.prog 61 #[sv f n, sv g m] w fun e w' => e = .returned (.bool (decide (f < g))) ∧ Fr (fun _ => False) w w' := by
  unfold sv
  go_enter Tryd.func61, Tryd.ntmps61
  go_wp2_with fail
  go_ret
  refine ⟨?_, ((Fr.refl _ _).alloc _).alloc _⟩
  rfl

/-- Two structs of two numbers laid behind: what was there stays. -/
theorem two_past (w1 : World) (a b c d : Int) (ty : Nat) :
    (∀ p : Addr, p.block < w1.heap.size → ((w1.alloc (.cells #[.int .i64 a, .int .i64 b] ty)).alloc (.cells #[.int .i64 c, .int .i64 d] ty)).cell? p = w1.cell? p ∧ ((w1.alloc (.cells #[.int .i64 a, .int .i64 b] ty)).alloc (.cells #[.int .i64 c, .int .i64 d] ty)).frozen? p = w1.frozen? p) ∧
    ((w1.alloc (.cells #[.int .i64 a, .int .i64 b] ty)).alloc (.cells #[.int .i64 c, .int .i64 d] ty)).cell? ⟨w1.heap.size, 0, none⟩ = some (.int .i64 a) ∧
    ((w1.alloc (.cells #[.int .i64 a, .int .i64 b] ty)).alloc (.cells #[.int .i64 c, .int .i64 d] ty)).cell? ⟨w1.heap.size, 1, none⟩ = some (.int .i64 b) ∧
    ((w1.alloc (.cells #[.int .i64 a, .int .i64 b] ty)).alloc (.cells #[.int .i64 c, .int .i64 d] ty)).cell? ⟨w1.heap.size + 1, 0, none⟩ = some (.int .i64 c) ∧
    ((w1.alloc (.cells #[.int .i64 a, .int .i64 b] ty)).alloc (.cells #[.int .i64 c, .int .i64 d] ty)).cell? ⟨w1.heap.size + 1, 1, none⟩ = some (.int .i64 d) ∧
    Fr (fun _ => False) w1 ((w1.alloc (.cells #[.int .i64 a, .int .i64 b] ty)).alloc (.cells #[.int .i64 c, .int .i64 d] ty)) := by
  have hF : Fr (fun _ => False) w1 ((w1.alloc (.cells #[.int .i64 a, .int .i64 b] ty)).alloc (.cells #[.int .i64 c, .int .i64 d] ty)) := ((Fr.refl _ _).alloc _).alloc _
  have a2 : w1.heap.size + 1 = (w1.alloc (.cells #[.int .i64 a, .int .i64 b] ty)).heap.size := by simp
  refine ⟨fun p hp => ⟨hF.cell hp (fun h => h), hF.frozen hp (fun h => h)⟩, ?_, ?_, ?_, ?_, hF⟩
  iterate 2 (rw [World.cell?_alloc_past _ _ _ (by simp), World.cell?_alloc_at _ _ _ _ rfl]; rfl)
  iterate 2 (rw [a2, World.cell?_alloc_at _ _ _ _ rfl]; rfl)
/-- What three structs laid one behind the other hold behind a call that changes none. -/
theorem parts_cells (t : Option Addr) (f n ty : Nat) (w w1 : World) (hF : Fr (fun _ => False) (((w.alloc (.cells #[.pointer t, .int .i64 f, .int .i64 n] ty)).alloc (.cells #[.pointer none, .int .i64 0, .int .i64 0] ty)).alloc (.cells #[.pointer none, .int .i64 0, .int .i64 0] ty)) w1) :
    w1.cell? ⟨w.heap.size, 0, none⟩ = some (.pointer t) ∧
    w1.cell? ⟨w.heap.size + 1, 0, none⟩ = some (.pointer none) ∧ w1.cell? ⟨w.heap.size + 1, 1, none⟩ = some (.int .i64 0) ∧ w1.cell? ⟨w.heap.size + 1, 2, none⟩ = some (.int .i64 0) ∧
    w1.frozen? ⟨w.heap.size + 1, 0, none⟩ = false ∧ w1.frozen? ⟨w.heap.size + 1, 1, none⟩ = false ∧ w1.frozen? ⟨w.heap.size + 1, 2, none⟩ = false ∧
    w1.cell? ⟨w.heap.size + 1 + 1, 0, none⟩ = some (.pointer none) ∧ w1.cell? ⟨w.heap.size + 1 + 1, 1, none⟩ = some (.int .i64 0) ∧ w1.cell? ⟨w.heap.size + 1 + 1, 2, none⟩ = some (.int .i64 0) ∧
    w1.frozen? ⟨w.heap.size + 1 + 1, 0, none⟩ = false ∧ w1.frozen? ⟨w.heap.size + 1 + 1, 1, none⟩ = false ∧ w1.frozen? ⟨w.heap.size + 1 + 1, 2, none⟩ = false ∧
    w.heap.size + 1 + 1 + 1 ≤ w1.heap.size ∧ Fr (fun _ => False) w w1 := by
  have hsz : w.heap.size + 1 + 1 + 1 ≤ w1.heap.size := by have := hF.size; simpa using this
  have hc : ∀ (b o : Nat), b < w.heap.size + 1 + 1 + 1 → w1.cell? ⟨b, o, none⟩ = (((w.alloc (.cells #[.pointer t, .int .i64 f, .int .i64 n] ty)).alloc (.cells #[.pointer none, .int .i64 0, .int .i64 0] ty)).alloc (.cells #[.pointer none, .int .i64 0, .int .i64 0] ty)).cell? ⟨b, o, none⟩ := fun b o hb => hF.cell (p := ⟨b, o, none⟩) (by simpa using hb) (fun h => h)
  have hz : ∀ (b o : Nat), b < w.heap.size + 1 + 1 + 1 → w1.frozen? ⟨b, o, none⟩ = (((w.alloc (.cells #[.pointer t, .int .i64 f, .int .i64 n] ty)).alloc (.cells #[.pointer none, .int .i64 0, .int .i64 0] ty)).alloc (.cells #[.pointer none, .int .i64 0, .int .i64 0] ty)).frozen? ⟨b, o, none⟩ := fun b o hb => hF.frozen (p := ⟨b, o, none⟩) (by simpa using hb) (fun h => h)
  have a2 : w.heap.size + 1 = (w.alloc (.cells #[.pointer t, .int .i64 f, .int .i64 n] ty)).heap.size := by simp
  have a3 : w.heap.size + 1 + 1 = ((w.alloc (.cells #[.pointer t, .int .i64 f, .int .i64 n] ty)).alloc (.cells #[.pointer none, .int .i64 0, .int .i64 0] ty)).heap.size := by simp
  refine ⟨?_, ?_, ?_, ?_, ?_, ?_, ?_, ?_, ?_, ?_, ?_, ?_, ?_, hsz, ((((Fr.refl _ _).alloc _).alloc _).alloc _).trans hF (fun _ _ h => h)⟩
  · rw [hc _ _ (by omega), World.cell?_alloc_past _ _ _ (by simp; omega), World.cell?_alloc_past _ _ _ (by simp), World.cell?_alloc_at _ _ _ _ rfl]; rfl
  iterate 3 (rw [hc _ _ (by omega), World.cell?_alloc_past _ _ _ (by simp), a2, World.cell?_alloc_at _ _ _ _ rfl]; rfl)
  iterate 3 (rw [hz _ _ (by omega), World.frozen?_alloc_past _ _ _ (by simp), a2, World.frozen?_alloc_at _ _ _ _ rfl] <;> rfl)
  iterate 3 (rw [hc _ _ (by omega), a3, World.cell?_alloc_at _ _ _ _ rfl]; rfl)
  iterate 3 (rw [hz _ _ (by omega), a3, World.frozen?_alloc_at _ _ _ _ rfl] <;> rfl)

/-- Six cells of two structs written. -/
theorem six_set (w : World) (a b : Nat) (hab : a ≠ b) (x0 x1 x2 y0 y1 y2 : Value)
    (a0 : (w.cell? ⟨a, 0, none⟩).isSome = true) (a1 : (w.cell? ⟨a, 1, none⟩).isSome = true) (a2 : (w.cell? ⟨a, 2, none⟩).isSome = true)
    (b0 : (w.cell? ⟨b, 0, none⟩).isSome = true) (b1 : (w.cell? ⟨b, 1, none⟩).isSome = true) (b2 : (w.cell? ⟨b, 2, none⟩).isSome = true) (W : World)
    (hW : (((((w.setCell ⟨a, 0, none⟩ x0).setCell ⟨a, 1, none⟩ x1).setCell ⟨a, 2, none⟩ x2).setCell ⟨b, 0, none⟩ y0).setCell ⟨b, 1, none⟩ y1).setCell ⟨b, 2, none⟩ y2 = W) :
    W.cell? ⟨a, 0, none⟩ = some x0 ∧ W.cell? ⟨a, 1, none⟩ = some x1 ∧ W.cell? ⟨a, 2, none⟩ = some x2 ∧ W.cell? ⟨b, 0, none⟩ = some y0 ∧ W.cell? ⟨b, 1, none⟩ = some y1 ∧ W.cell? ⟨b, 2, none⟩ = some y2 := by
  subst hW
  have o : ∀ (v : World) (c d i j : Nat) (u : Value), c ≠ d ∨ i ≠ j → (v.setCell ⟨c, i, none⟩ u).cell? ⟨d, j, none⟩ = v.cell? ⟨d, j, none⟩ := fun v c d i j u h => World.cell?_setCell_other _ _ _ _ (by intro e; injection e with e1 e2; omega)
  have hba : b ≠ a := fun h => hab h.symm
  refine ⟨?_, ?_, ?_, ?_, ?_, ?_⟩
  · rw [o _ _ _ _ _ _ (.inl hba), o _ _ _ _ _ _ (.inl hba), o _ _ _ _ _ _ (.inl hba), o _ _ _ _ _ _ (.inr (by decide)), o _ _ _ _ _ _ (.inr (by decide)), World.cell?_setCell_same' _ _ _ a0]
  · rw [o _ _ _ _ _ _ (.inl hba), o _ _ _ _ _ _ (.inl hba), o _ _ _ _ _ _ (.inl hba), o _ _ _ _ _ _ (.inr (by decide)), World.cell?_setCell_same' _ _ _ (by rw [o _ _ _ _ _ _ (.inr (by decide))]; exact a1)]
  · rw [o _ _ _ _ _ _ (.inl hba), o _ _ _ _ _ _ (.inl hba), o _ _ _ _ _ _ (.inl hba), World.cell?_setCell_same' _ _ _ (by rw [o _ _ _ _ _ _ (.inr (by decide)), o _ _ _ _ _ _ (.inr (by decide))]; exact a2)]
  · rw [o _ _ _ _ _ _ (.inr (by decide)), o _ _ _ _ _ _ (.inr (by decide)), World.cell?_setCell_same' _ _ _ (by rw [o _ _ _ _ _ _ (.inl hab), o _ _ _ _ _ _ (.inl hab), o _ _ _ _ _ _ (.inl hab)]; exact b0)]
  · rw [o _ _ _ _ _ _ (.inr (by decide)), World.cell?_setCell_same' _ _ _ (by rw [o _ _ _ _ _ _ (.inr (by decide)), o _ _ _ _ _ _ (.inl hab), o _ _ _ _ _ _ (.inl hab), o _ _ _ _ _ _ (.inl hab)]; exact b1)]
  · rw [World.cell?_setCell_same' _ _ _ (by rw [o _ _ _ _ _ _ (.inr (by decide)), o _ _ _ _ _ _ (.inr (by decide)), o _ _ _ _ _ _ (.inl hab), o _ _ _ _ _ _ (.inl hab), o _ _ _ _ _ _ (.inl hab)]; exact b2)]

/-- A part of a tree. -/
def pv (t : Value) (f n : Nat) : Value := .agg #[t, .int .i64 f, .int .i64 n]
set_option maxRecDepth 100000 in
set_option maxHeartbeats 1000000 in
theorem parts_any (t : Option Addr) (f n : Nat) (w : World) (hn : f + n < 9223372036854775808) (h2 : 2 ≤ n) :
    Calls Tryd.prog 82 #[pv (.pointer t) f n] w fun e w' => e = .returned (.tuple #[pv (.pointer t) f (hf n), pv (.pointer t) (f + hf n) (n - hf n)]) ∧ Fr (fun _ => False) w w' := by
  unfold pv
  go_enter Tryd.func82, Tryd.ntmps82
  go_wp2_with (go_at_call 59; refine (halves_any f n _ hn h2).mono ?_)
  rintro e w1 ⟨rfl, hF⟩
  obtain ⟨c0, z0, z1, z2, y0, y1, y2, x0, x1, x2, v0, v1, v2, hsz, hFw⟩ := parts_cells t f n 79 w w1 hF
  clear hF
  generalize hK : hf n = K at *
  unfold sv
  go_wp2_with fail
  obtain ⟨hp, u0, u1, u2, u3, hF2⟩ := two_past w1 (f : Int) (K : Int) ((f + K : Nat) : Int) ((n - K : Nat) : Int) 57
  have hFw2 := hFw.trans hF2 (fun _ _ h => h)
  have C0 := (hp ⟨w.heap.size, 0, none⟩ (by simp only; omega)).1.trans c0
  have Z0 := (hp ⟨w.heap.size + 1, 0, none⟩ (by simp only; omega)).1.trans z0
  have Z1 := (hp ⟨w.heap.size + 1, 1, none⟩ (by simp only; omega)).1.trans z1
  have Z2 := (hp ⟨w.heap.size + 1, 2, none⟩ (by simp only; omega)).1.trans z2
  have Y0 := (hp ⟨w.heap.size + 1, 0, none⟩ (by simp only; omega)).2.trans y0
  have Y1 := (hp ⟨w.heap.size + 1, 1, none⟩ (by simp only; omega)).2.trans y1
  have Y2 := (hp ⟨w.heap.size + 1, 2, none⟩ (by simp only; omega)).2.trans y2
  have X0 := (hp ⟨w.heap.size + 1 + 1, 0, none⟩ (by simp only; omega)).1.trans x0
  have X1 := (hp ⟨w.heap.size + 1 + 1, 1, none⟩ (by simp only; omega)).1.trans x1
  have X2 := (hp ⟨w.heap.size + 1 + 1, 2, none⟩ (by simp only; omega)).1.trans x2
  have V0 := (hp ⟨w.heap.size + 1 + 1, 0, none⟩ (by simp only; omega)).2.trans v0
  have V1 := (hp ⟨w.heap.size + 1 + 1, 1, none⟩ (by simp only; omega)).2.trans v1
  have V2 := (hp ⟨w.heap.size + 1 + 1, 2, none⟩ (by simp only; omega)).2.trans v2
  clear hp hF2 c0 z0 z1 z2 y0 y1 y2 x0 x1 x2 v0 v1 v2 hFw
  simp only [Int.natCast_add] at u0 u1 u2 u3 C0 Z0 Z1 Z2 Y0 Y1 Y2 X0 X1 X2 V0 V1 V2 hFw2 ⊢
  generalize ((w1.alloc (.cells #[.int .i64 (f : Int), .int .i64 (K : Int)] 57)).alloc (.cells #[.int .i64 ((f : Int) + (K : Int)), .int .i64 ((n - K : Nat) : Int)] 57)) = w2 at *
  have HF := hide hFw2
  clear hFw2
  go_region
  have hFz := (unhide HF).setCell (p := ⟨w.heap.size + 1, 0, none⟩) (Or.inr (Nat.le_add_right _ _)) (.pointer t) |>.setCell (p := ⟨w.heap.size + 1, 1, none⟩) (Or.inr (Nat.le_add_right _ _)) (.int .i64 f) |>.setCell (p := ⟨w.heap.size + 1, 2, none⟩) (Or.inr (Nat.le_add_right _ _)) (.int .i64 K) |>.setCell (p := ⟨w.heap.size + 1 + 1, 0, none⟩) (Or.inr (by simp only; omega)) (.pointer t) |>.setCell (p := ⟨w.heap.size + 1 + 1, 1, none⟩) (Or.inr (by simp only; omega)) (.int .i64 ((f : Int) + (K : Int))) |>.setCell (p := ⟨w.heap.size + 1 + 1, 2, none⟩) (Or.inr (by simp only; omega)) (.int .i64 ((n - K : Nat) : Int))
  clear HF
  obtain ⟨W, hW⟩ : ∃ W, (((((w2.setCell ⟨w.heap.size + 1, 0, none⟩ (.pointer t)).setCell ⟨w.heap.size + 1, 1, none⟩ (.int .i64 f)).setCell ⟨w.heap.size + 1, 2, none⟩ (.int .i64 K)).setCell ⟨w.heap.size + 1 + 1, 0, none⟩ (.pointer t)).setCell ⟨w.heap.size + 1 + 1, 1, none⟩ (.int .i64 ((f : Int) + (K : Int)))).setCell ⟨w.heap.size + 1 + 1, 2, none⟩ (.int .i64 ((n - K : Nat) : Int)) = W := ⟨_, rfl⟩
  obtain ⟨k0, k1, k2, k3, k4, k5⟩ := six_set w2 (w.heap.size + 1) (w.heap.size + 1 + 1) (by omega) _ _ _ _ _ _ (by rw [Z0]; rfl) (by rw [Z1]; rfl) (by rw [Z2]; rfl) (by rw [X0]; rfl) (by rw [X1]; rfl) (by rw [X2]; rfl) W hW
  rw [hW] at hFz
  rw [hW]
  have HZ := hide hFz.drew
  clear hFz hW
  go_wp2_with fail
  refine bodyPost_ret (by simp [results, Tryd.results82, go_sem, k0, k1, k2, k3, k4, k5]; try rfl) rfl ?_
  exact ⟨by rw [hK]; simp only [Int.natCast_add], unhide HZ⟩
end Go.Proofs.YthccbfgjekdiiaaDoor

namespace Go.Proofs.YthccbfgjekdiiaaDoor
open Go.RowKit

/-- bits.OnesCount64, byte by byte. -/
def rp (m : Nat) : Nat → Nat
  | 0 => 0
  | k + 1 => 256 * rp m k + m
def nb : List Nat → Nat
  | [] => 0
  | b :: bs => 256 * nb bs + b
def o1 (k x : Nat) : Nat := ((x / 2) &&& rp 85 k) + (x &&& rp 85 k)
def o2 (k x : Nat) : Nat := ((x / 4) &&& rp 51 k) + (x &&& rp 51 k)
def o3 (k x : Nat) : Nat := (x / 16 + x) &&& rp 15 k
def c1 (l : Nat) : Nat := ((l / 2) &&& 85) + (l &&& 85)
def c2 (l : Nat) : Nat := ((l / 4) &&& 51) + (l &&& 51)
def c3 (l : Nat) : Nat := (l / 16 + l) &&& 15
theorem and_split (h l h' l' : Nat) (hl : l < 256) (hl' : l' < 256) : (256 * h + l) &&& (256 * h' + l') = 256 * (h &&& h') + (l &&& l') := by
  have hb : l &&& l' < 2 ^ 8 := Nat.and_lt_two_pow l hl'
  apply Nat.eq_of_testBit_eq
  intro i
  have e : (256 : Nat) = 2 ^ 8 := rfl
  rw [Nat.testBit_and, e, Nat.testBit_two_pow_mul_add _ hl, Nat.testBit_two_pow_mul_add _ hl', Nat.testBit_two_pow_mul_add _ hb]
  split <;> simp [Nat.testBit_and]
theorem o1_nb (bs : List Nat) (hb : ∀ b ∈ bs, b < 256) : o1 bs.length (nb bs) = nb (bs.map c1) := by
  induction bs with
  | nil => simp [o1, nb, rp]
  | cons l bs ih =>
    have hl := hb l (List.mem_cons_self)
    have h := ih (fun b h => hb b (List.mem_cons_of_mem _ h))
    have k1 : ∀ r : Fin 2, ∀ l : Fin 256, (128 * r.val + l.val / 2) &&& 85 = (l.val / 2) &&& 85 := by decide +kernel
    have e1 : (256 * nb bs + l) / 2 = 256 * (nb bs / 2) + (128 * (nb bs % 2) + l / 2) := by omega
    have e2 := k1 ⟨nb bs % 2, Nat.mod_lt _ (by decide)⟩ ⟨l, hl⟩
    simp only at e2
    simp only [o1, List.length_cons, nb, rp, List.map_cons] at h ⊢
    rw [e1, and_split _ _ _ _ (by omega) (by decide), and_split _ _ _ _ hl (by decide), e2, ← h, c1]
    omega
theorem o2_nb (bs : List Nat) (hb : ∀ b ∈ bs, b < 256) : o2 bs.length (nb bs) = nb (bs.map c2) := by
  induction bs with
  | nil => simp [o2, nb, rp]
  | cons l bs ih =>
    have hl := hb l (List.mem_cons_self)
    have h := ih (fun b h => hb b (List.mem_cons_of_mem _ h))
    have k1 : ∀ r : Fin 4, ∀ l : Fin 256, (64 * r.val + l.val / 4) &&& 51 = (l.val / 4) &&& 51 := by decide +kernel
    have e1 : (256 * nb bs + l) / 4 = 256 * (nb bs / 4) + (64 * (nb bs % 4) + l / 4) := by omega
    have e2 := k1 ⟨nb bs % 4, Nat.mod_lt _ (by decide)⟩ ⟨l, hl⟩
    simp only at e2
    simp only [o2, List.length_cons, nb, rp, List.map_cons] at h ⊢
    rw [e1, and_split _ _ _ _ (by omega) (by decide), and_split _ _ _ _ hl (by decide), e2, ← h, c2]
    omega
theorem o3_nb (bs : List Nat) (hb : ∀ b ∈ bs, b / 16 ≤ 4 ∧ b % 16 ≤ 4) : o3 bs.length (nb bs) = nb (bs.map c3) := by
  induction bs with
  | nil => simp [o3, nb, rp]
  | cons l bs ih =>
    have hl := hb l (List.mem_cons_self)
    have h := ih (fun b h => hb b (List.mem_cons_of_mem _ h))
    have hr : nb bs % 16 ≤ 4 := by
      cases bs with
      | nil => simp [nb]
      | cons d ds =>
        have := (hb d (List.mem_cons_of_mem _ List.mem_cons_self)).2
        simp only [nb]
        omega
    have k1 : ∀ r : Fin 5, ∀ a : Fin 5, ∀ b : Fin 5, (16 * r.val + a.val + (16 * a.val + b.val)) &&& 15 = (a.val + (16 * a.val + b.val)) &&& 15 := by decide +kernel
    have e1 : (256 * nb bs + l) / 16 + (256 * nb bs + l) = 256 * (nb bs / 16 + nb bs) + (16 * (nb bs % 16) + l / 16 + (16 * (l / 16) + l % 16)) := by omega
    have e2 := k1 ⟨nb bs % 16, by omega⟩ ⟨l / 16, by omega⟩ ⟨l % 16, by omega⟩
    simp only at e2
    have e3 : 16 * (l / 16) + l % 16 = l := by omega
    simp only [o3, List.length_cons, nb, rp, List.map_cons] at h ⊢
    rw [e1, and_split _ _ _ _ (by omega) (by decide), e2, e3, ← h, c3]
def oc (x : Nat) : Nat :=
  let y := o3 8 (o2 8 (o1 8 x))
  let z := y + y / 256
  let u := z + z / 65536
  (u + u / 4294967296) % 128
def pc (b : Nat) : Nat := c3 (c2 (c1 b))
theorem oc_nb (a b c d e f g h : Nat) (ha : a < 256) (hb : b < 256) (hc : c < 256) (hd : d < 256) (he : e < 256) (hf : f < 256) (hg : g < 256) (hh : h < 256) :
    oc (nb [a, b, c, d, e, f, g, h]) = pc a + pc b + pc c + pc d + pc e + pc f + pc g + pc h := by
  have k1 : ∀ l : Fin 256, c1 l.val < 256 := by decide +kernel
  have k2 : ∀ l : Fin 256, c2 (c1 l.val) / 16 ≤ 4 ∧ c2 (c1 l.val) % 16 ≤ 4 := by decide +kernel
  have k3 : ∀ l : Fin 256, c3 (c2 (c1 l.val)) ≤ 8 := by decide +kernel
  have q1 : ∀ x, x < 256 → c1 x < 256 := fun x hx => k1 ⟨x, hx⟩
  have q2 : ∀ x, x < 256 → c2 (c1 x) / 16 ≤ 4 ∧ c2 (c1 x) % 16 ≤ 4 := fun x hx => k2 ⟨x, hx⟩
  have q3 : ∀ x, x < 256 → pc x ≤ 8 := fun x hx => k3 ⟨x, hx⟩
  have m1 : ∀ x ∈ [a, b, c, d, e, f, g, h], x < 256 := by simp [ha, hb, hc, hd, he, hf, hg, hh]
  have h1 := o1_nb [a, b, c, d, e, f, g, h] m1
  have h2 := o2_nb ([a, b, c, d, e, f, g, h].map c1) (fun x hx => by
    obtain ⟨y, hy, rfl⟩ := List.mem_map.1 hx
    exact q1 y (m1 y hy))
  have h3 := o3_nb (([a, b, c, d, e, f, g, h].map c1).map c2) (fun x hx => by
    obtain ⟨y, hy, rfl⟩ := List.mem_map.1 hx
    obtain ⟨v, hv, rfl⟩ := List.mem_map.1 hy
    exact q2 v (m1 v hv))
  simp only [List.length_map, List.length_cons, List.length_nil, Nat.zero_add, Nat.reduceAdd] at h1 h2 h3
  have pa := q3 a ha; have pb := q3 b hb; have pcc := q3 c hc; have pd := q3 d hd; have pe := q3 e he; have pf := q3 f hf; have pg := q3 g hg; have ph := q3 h hh
  have e3 : o3 8 (o2 8 (o1 8 (nb [a, b, c, d, e, f, g, h]))) = nb [pc a, pc b, pc c, pc d, pc e, pc f, pc g, pc h] := by
    rw [h1, h2, h3]; rfl
  simp only [oc, e3]
  generalize pc a = a' at *; generalize pc b = b' at *; generalize pc c = c' at *; generalize pc d = d' at *
  generalize pc e = e' at *; generalize pc f = f' at *; generalize pc g = g' at *; generalize pc h = h' at *
  clear e3 h1 h2 h3 m1 q1 q2 q3 k1 k2 k3
  have y1 : nb [a', b', c', d', e', f', g', h'] + nb [a', b', c', d', e', f', g', h'] / 256 = nb [a' + b', b' + c', c' + d', d' + e', e' + f', f' + g', g' + h', h'] := by
    have : nb [a', b', c', d', e', f', g', h'] / 256 = nb [b', c', d', e', f', g', h'] := by simp only [nb]; omega
    rw [this]; simp only [nb]; omega
  rw [y1]
  have y2 : nb [a' + b', b' + c', c' + d', d' + e', e' + f', f' + g', g' + h', h'] / 65536 = nb [c' + d', d' + e', e' + f', f' + g', g' + h', h'] := by
    have : nb [a' + b', b' + c', c' + d', d' + e', e' + f', f' + g', g' + h', h'] = 65536 * nb [c' + d', d' + e', e' + f', f' + g', g' + h', h'] + (256 * (b' + c') + (a' + b')) := by simp only [nb]; omega
    omega
  rw [y2]
  have y3 : nb [a' + b', b' + c', c' + d', d' + e', e' + f', f' + g', g' + h', h'] + nb [c' + d', d' + e', e' + f', f' + g', g' + h', h'] = nb [a' + b' + c' + d', b' + c' + d' + e', c' + d' + e' + f', d' + e' + f' + g', e' + f' + g' + h', f' + g' + h', g' + h', h'] := by simp only [nb]; omega
  rw [y3]
  have y4 : nb [a' + b' + c' + d', b' + c' + d' + e', c' + d' + e' + f', d' + e' + f' + g', e' + f' + g' + h', f' + g' + h', g' + h', h'] / 4294967296 = nb [e' + f' + g' + h', f' + g' + h', g' + h', h'] := by
    have : nb [a' + b' + c' + d', b' + c' + d' + e', c' + d' + e' + f', d' + e' + f' + g', e' + f' + g' + h', f' + g' + h', g' + h', h'] = 4294967296 * nb [e' + f' + g' + h', f' + g' + h', g' + h', h'] + nb [a' + b' + c' + d', b' + c' + d' + e', c' + d' + e' + f', d' + e' + f' + g'] := by simp only [nb]; omega
    have : nb [a' + b' + c' + d', b' + c' + d' + e', c' + d' + e' + f', d' + e' + f' + g'] < 4294967296 := by simp only [nb]; omega
    omega
  rw [y4]
  simp only [nb]
  omega
theorem bytes8 (x : Nat) (hx : x < 18446744073709551616) : ∃ a b c d e f g h, a < 256 ∧ b < 256 ∧ c < 256 ∧ d < 256 ∧ e < 256 ∧ f < 256 ∧ g < 256 ∧ h < 256 ∧ x = nb [a, b, c, d, e, f, g, h] := by
  refine ⟨x % 256, x / 256 % 256, x / 65536 % 256, x / 16777216 % 256, x / 4294967296 % 256, x / 1099511627776 % 256, x / 281474976710656 % 256, x / 72057594037927936, by omega, by omega, by omega, by omega, by omega, by omega, by omega, by omega, ?_⟩
  simp only [nb]
  omega
theorem nb_zero (bs : List Nat) (hb : ∀ b ∈ bs, b < 256) (h : (bs.map pc).sum = 0) : nb bs = 0 := by
  have k0 : ∀ l : Fin 256, pc l.val = 0 → l.val = 0 := by decide +kernel
  induction bs with
  | nil => rfl
  | cons l bs ih =>
    rw [List.map_cons, List.sum_cons] at h
    have h1 := k0 ⟨l, hb l List.mem_cons_self⟩ (show pc l = 0 by omega)
    have h2 := ih (fun b h => hb b (List.mem_cons_of_mem _ h)) (by omega)
    simp only at h1
    simp only [nb, h1, h2]
theorem nb_one (bs : List Nat) (hb : ∀ b ∈ bs, b < 256) (h : (bs.map pc).sum = 1) : ∃ k, nb bs = 2 ^ k := by
  have k0 : ∀ l : Fin 256, pc l.val = 0 → l.val = 0 := by decide +kernel
  have k1 : ∀ l : Fin 256, pc l.val = 1 → ∃ j : Fin 8, l.val = 2 ^ j.val := by decide +kernel
  induction bs with
  | nil => simp at h
  | cons l bs ih =>
    rw [List.map_cons, List.sum_cons] at h
    have hb' : ∀ b ∈ bs, b < 256 := fun b h => hb b (List.mem_cons_of_mem _ h)
    by_cases hl : pc l = 0
    · have h1 := k0 ⟨l, hb l List.mem_cons_self⟩ hl
      simp only at h1
      obtain ⟨k, hk⟩ := ih hb' (by omega)
      refine ⟨k + 8, ?_⟩
      rw [nb, h1, hk, Nat.pow_add]
      omega
    · obtain ⟨j, hj⟩ := k1 ⟨l, hb l List.mem_cons_self⟩ (show pc l = 1 by omega)
      simp only at hj
      refine ⟨j.val, ?_⟩
      rw [nb, nb_zero bs hb' (by omega), hj]
      omega
/-- One bit is set just in a power of two. -/
theorem oc_one (x : Nat) (hx : x < 18446744073709551616) (h1 : oc x = 1) : ∃ k, x = 2 ^ k := by
  obtain ⟨a, b, c, d, e, f, g, h, ha, hb, hc, hd, he, hf, hg, hh, rfl⟩ := bytes8 x hx
  rw [oc_nb a b c d e f g h ha hb hc hd he hf hg hh] at h1
  exact nb_one _ (by simp [ha, hb, hc, hd, he, hf, hg, hh]) (by simp only [List.map_cons, List.map_nil, List.sum_cons, List.sum_nil]; omega)
theorem oc_pow (k : Nat) (hk : k < 64) : oc (2 ^ k) = 1 := by
  have : ∀ k : Fin 64, oc (2 ^ k.val) = 1 := by decide +kernel
  exact this ⟨k, hk⟩
set_option maxRecDepth 100000 in
set_option maxHeartbeats 1000000 in
theorem ones_any (x : Nat) (hx : x < 18446744073709551616) (w : World) :
    Calls Tryd.prog 107 #[.int .u64 x] w fun e w' => e = .returned (.int .i64 (oc x : Nat)) ∧ w' = w := by
  have r1 : rp 85 8 = 6148914691236517205 := by decide
  have r2 : rp 51 8 = 3689348814741910323 := by decide
  have r3 : rp 15 8 = 1085102592571150095 := by decide
  have b1 : bits .and .u64 ((x : Int) / 2) 6148914691236517205 = ((x / 2 &&& 6148914691236517205 : Nat) : Int) := bits_and_u64_nat (x / 2) 6148914691236517205 (by omega) (by omega)
  have b2 : bits .and .u64 (x : Int) 6148914691236517205 = ((x &&& 6148914691236517205 : Nat) : Int) := bits_and_u64_nat x 6148914691236517205 (by omega) (by omega)
  have l1 : (x / 2 &&& 6148914691236517205) ≤ 6148914691236517205 := Nat.and_le_right
  have l2 : (x &&& 6148914691236517205) ≤ 6148914691236517205 := Nat.and_le_right
  have f1 : o1 8 x = (x / 2 &&& 6148914691236517205) + (x &&& 6148914691236517205) := by rw [o1, r1]
  unfold oc
  generalize o1 8 x = X1 at *
  generalize (x / 2 &&& 6148914691236517205) = P1 at *
  generalize (x &&& 6148914691236517205) = Q1 at *
  have w1 : IntKind.u64.wrap ((P1 : Int) + (Q1 : Int)) = (X1 : Int) := by rw [IntKind.wrap_u64]; omega
  have hX1 : X1 < 18446744073709551616 := by omega
  clear f1 l1 l2
  have b3 : bits .and .u64 ((X1 : Int) / 4) 3689348814741910323 = ((X1 / 4 &&& 3689348814741910323 : Nat) : Int) := bits_and_u64_nat (X1 / 4) 3689348814741910323 (by omega) (by omega)
  have b4 : bits .and .u64 (X1 : Int) 3689348814741910323 = ((X1 &&& 3689348814741910323 : Nat) : Int) := bits_and_u64_nat X1 3689348814741910323 (by omega) (by omega)
  have l1 : (X1 / 4 &&& 3689348814741910323) ≤ 3689348814741910323 := Nat.and_le_right
  have l2 : (X1 &&& 3689348814741910323) ≤ 3689348814741910323 := Nat.and_le_right
  have f1 : o2 8 X1 = (X1 / 4 &&& 3689348814741910323) + (X1 &&& 3689348814741910323) := by rw [o2, r2]
  generalize o2 8 X1 = X2 at *
  generalize (X1 / 4 &&& 3689348814741910323) = P2 at *
  generalize (X1 &&& 3689348814741910323) = Q2 at *
  have w2 : IntKind.u64.wrap ((P2 : Int) + (Q2 : Int)) = (X2 : Int) := by rw [IntKind.wrap_u64]; omega
  have hX2 : X2 ≤ 7378697629483820646 := by omega
  clear f1 l1 l2
  have w3 : IntKind.u64.wrap ((X2 : Int) / 16 + (X2 : Int)) = ((X2 / 16 + X2 : Nat) : Int) := by rw [IntKind.wrap_u64]; omega
  have b5 : bits .and .u64 ((X2 / 16 + X2 : Nat) : Int) 1085102592571150095 = (((X2 / 16 + X2) &&& 1085102592571150095 : Nat) : Int) := bits_and_u64_nat _ 1085102592571150095 (by omega) (by omega)
  have l1 : ((X2 / 16 + X2) &&& 1085102592571150095) ≤ 1085102592571150095 := Nat.and_le_right
  have f1 : o3 8 X2 = ((X2 / 16 + X2) &&& 1085102592571150095) := by rw [o3, r3]
  rw [← f1] at b5 l1
  clear f1
  generalize o3 8 X2 = Y at *
  generalize (X2 / 16 + X2) = Z2 at *
  have w4 : IntKind.u64.wrap ((Y : Int) + (Y : Int) / 256) = ((Y + Y / 256 : Nat) : Int) := by rw [IntKind.wrap_u64]; omega
  simp only
  have l2 : Y + Y / 256 ≤ 1100000000000000000 := by omega
  generalize Y + Y / 256 = Y1 at *
  have w5 : IntKind.u64.wrap ((Y1 : Int) + (Y1 : Int) / 65536) = ((Y1 + Y1 / 65536 : Nat) : Int) := by rw [IntKind.wrap_u64]; omega
  have l3 : Y1 + Y1 / 65536 ≤ 1200000000000000000 := by omega
  generalize Y1 + Y1 / 65536 = Y2 at *
  have w6 : IntKind.u64.wrap ((Y2 : Int) + (Y2 : Int) / 4294967296) = ((Y2 + Y2 / 4294967296 : Nat) : Int) := by rw [IntKind.wrap_u64]; omega
  have l4 : Y2 + Y2 / 4294967296 ≤ 1300000000000000000 := by omega
  generalize Y2 + Y2 / 4294967296 = Y3 at *
  have w7 : IntKind.i64.wrap (Y3 : Int) = (Y3 : Int) := by rw [IntKind.wrap_i64]; omega
  have b6 : bits .and .i64 (Y3 : Int) 127 = ((Y3 % 128 : Nat) : Int) := by rw [i64_and127]; omega
  clear l1 l2 l3 l4 hX1 hX2 r1 r2 r3
  go_enter Tryd.func107, Tryd.ntmps107
  go_wp2_with fail
  go_ret
  exact ⟨rfl, rfl⟩
set_option maxRecDepth 100000 in
theorem onesu_any (x : Nat) (hx : x < 18446744073709551616) (w : World) :
    Calls Tryd.prog 96 #[.int .u64 x] w fun e w' => e = .returned (.int .i64 (oc x : Nat)) ∧ w' = w := by
  have w1 : IntKind.u64.wrap (x : Int) = (x : Int) := by rw [IntKind.wrap_u64]; omega
  go_enter Tryd.func96, Tryd.ntmps96
  go_wp2_with (go_at_call 107; refine (ones_any x hx _).mono ?_; rintro e w' ⟨rfl, hw'⟩; rw [hw'])
  go_ret
  exact ⟨rfl, rfl⟩
set_option maxRecDepth 100000 in
/-- Is a part whole: has it a power of two of entries? -/
theorem whole_any (t : Option Addr) (f n : Nat) (w : World) (hn : n < 9223372036854775808) :
    Calls Tryd.prog 78 #[pv (.pointer t) f n] w fun e w' => e = .returned (.bool (decide (oc n = 1))) ∧ Fr (fun _ => False) w w' := by
  have w1 : IntKind.u64.wrap (n : Int) = (n : Int) := by rw [IntKind.wrap_u64]; omega
  unfold pv
  go_enter Tryd.func78, Tryd.ntmps78
  go_wp2_with (go_at_call 96; refine (onesu_any n (by omega) _).mono ?_; rintro e w' ⟨rfl, hw'⟩; rw [hw'])
  go_ret
  refine ⟨?_, (Fr.refl _ _).alloc _⟩
  have e : (((oc n : Nat) : Int) == 1) = decide (oc n = 1) := by
    by_cases h : oc n = 1
    · simp [h]
    · have : ((oc n : Nat) : Int) ≠ 1 := by omega
      simp [h, this]
  exact congrArg (fun b => Ending.returned (Value.bool b)) e
end Go.Proofs.YthccbfgjekdiiaaDoor

namespace Go.Proofs.YthccbfgjekdiiaaDoor
open Go.RowKit

/-- A tree in memory: its rows of roots, each in bytes of its own. -/
structure TrAt (w : World) (base tb : Nat) (wi : Int) (n : Nat) (xo : Option Addr) (cp : Nat) (vs : List Value) (rs : List (List Nat)) : Prop where
  lo : base ≤ tb
  obj : w.heap[tb]? = some (.cells #[.int .i64 wi, .int .i64 n, .slice xo vs.length cp] 72 (0, 0))
  own : w.ownsRow base 25 1 (.slice xo vs.length cp) vs.length vs
  len : vs.length = rs.length
  row : ∀ (h : Nat) v r, vs[h]? = some v → rs[h]? = some r → ∃ ao c, v = .slice ao r.length c ∧ Ow w base ao c r
  apart : ∀ (h h' : Nat) v v' g g', h ≠ h' → vs[h]? = some v → vs[h']? = some v' → v.ownBlock = some g → v'.ownBlock = some g' → g ≠ g'
  byt : ∀ r ∈ rs, ∀ v ∈ r, v < 256
/-- The blocks that a tree has. -/
def TOwn (tb : Nat) (xo : Option Addr) (vs : List Value) (k : Nat) : Prop := k = tb ∨ (∃ o, xo = some ⟨k, o, none⟩) ∨ ∃ v ∈ vs, v.ownBlock = some k
theorem TrAt.cells {w : World} {base tb : Nat} {wi : Int} {n : Nat} {xo : Option Addr} {cp : Nat} {vs : List Value} {rs : List (List Nat)} (h : TrAt w base tb wi n xo cp vs rs) :
    w.cell? ⟨tb, 0, none⟩ = some (.int .i64 wi) ∧ w.cell? ⟨tb, 1, none⟩ = some (.int .i64 n) ∧ w.cell? ⟨tb, 2, none⟩ = some (.slice xo vs.length cp) ∧ (∀ j, w.frozen? ⟨tb, j, none⟩ = false) ∧ tb < w.heap.size := by
  have ho := h.obj
  refine ⟨?_, ?_, ?_, fun j => ?_, (Array.getElem?_eq_some_iff.1 ho).1⟩
  · simp [World.cell?, ho]
  · simp [World.cell?, ho]
  · simp [World.cell?, ho]
  · simp [World.frozen?, ho]
/-- The whole's block is no other. -/
theorem TrAt.ne {w : World} {base tb : Nat} {wi : Int} {n : Nat} {xo : Option Addr} {cp : Nat} {vs : List Value} {rs : List (List Nat)} (h : TrAt w base tb wi n xo cp vs rs) :
    (∀ g o, xo = some ⟨g, o, none⟩ → g ≠ tb) ∧ (∀ v ∈ vs, ∀ g, v.ownBlock = some g → g ≠ tb ∧ ∀ g' o, xo = some ⟨g', o, none⟩ → g ≠ g') := by
  have ho := h.obj
  have hx : ∀ g o, xo = some ⟨g, o, none⟩ → ∃ cur, w.heap[g]? = some (.cells cur 25 (0, 0)) := by
    rintro g o rfl
    rcases h.own.2 with ⟨e, _⟩ | ⟨g', cap, cur, e, _, hg, _⟩
    · simp at e
    · simp only [Value.slice.injEq, Option.some.injEq, Addr.mk.injEq] at e
      rw [e.1.1]
      exact ⟨cur, hg⟩
  have hr : ∀ v ∈ vs, ∀ g, v.ownBlock = some g → ∃ cur, w.heap[g]? = some (.cells cur 5 (0, 0)) := by
    intro v hv g hg
    obtain ⟨j, hj, rfl⟩ := List.getElem_of_mem hv
    obtain ⟨ao, c, e, hO⟩ := h.row j vs[j] (rs[j]'(by have := h.len; omega)) (List.getElem?_eq_getElem hj) (List.getElem?_eq_getElem _)
    rcases hO.2 with ⟨e', _⟩ | ⟨g', cap, cur, e', _, hg', _⟩
    · rw [e, e'] at hg; cases hg
    · rw [e, e'] at hg
      simp only [Value.ownBlock, Option.some.injEq] at hg
      exact ⟨cur, by rw [← hg]; exact hg'⟩
  refine ⟨fun g o hg e => ?_, fun v hv g hg => ⟨fun e => ?_, fun g' o hg' e => ?_⟩⟩
  · obtain ⟨cur, hc⟩ := hx g o hg
    rw [e, ho] at hc
    simp at hc
  · obtain ⟨cur, hc⟩ := hr v hv g hg
    rw [e, ho] at hc
    simp at hc
  · obtain ⟨cur, hc⟩ := hr v hv g hg
    obtain ⟨cur', hc'⟩ := hx g' o hg'
    rw [e, hc'] at hc
    simp at hc
set_option maxRecDepth 100000 in
/-- merkle.New. -/
theorem mnew_any (i : Int) (w : World) : Calls Tryd.prog 15 #[.int .i64 i] w fun e w' => e = .returned (.pointer (some ⟨w.heap.size, 0, none⟩)) ∧ TrAt w' w.heap.size w.heap.size i 0 none 0 [] [] ∧ Fr (fun _ => False) w w' := by
  go_enter Tryd.func15, Tryd.ntmps15
  go_wp2_with fail
  go_ret
  refine ⟨rfl, ⟨Nat.le_refl _, ?_, World.ownsRow_nil _ _ _ _, rfl, fun h v r hv => by simp at hv, fun h h' v v' g g' _ hv => by simp at hv, fun r hr => by simp at hr⟩, (Fr.refl _ _).alloc _⟩
  show (w.heap.push _)[w.heap.size]? = _
  exact Array.getElem?_push_size
set_option maxRecDepth 100000 in
theorem maybe_any (i : Int) (w : World) : Calls Tryd.prog 26 #[.int .i64 i] w fun e w' => e = .returned (.bool (decide (1 ≤ i ∧ i ≤ 32))) ∧ w' = w := by
  obtain ⟨B, hB⟩ : ∃ B, decide (1 ≤ i ∧ i ≤ 32) = B := ⟨_, rfl⟩
  rw [hB]
  have HB := hide hB
  clear hB
  go_enter Tryd.func26, Tryd.ntmps26
  by_cases h1 : 1 ≤ i
  · by_cases h2 : i ≤ 32
    · go_wp2_with fail
      go_ret
      have hb : B = true := by rw [← unhide HB]; exact decide_eq_true (by omega)
      exact ⟨by rw [hb]; rfl, rfl⟩
    · go_wp2_with fail
      go_ret
      have hb : B = false := by rw [← unhide HB]; exact decide_eq_false (by omega)
      exact ⟨by rw [hb]; rfl, rfl⟩
  · go_wp2_with fail
    go_ret
    have hb : B = false := by rw [← unhide HB]; exact decide_eq_false (by omega)
    exact ⟨by rw [hb]; rfl, rfl⟩
set_option maxRecDepth 100000 in
set_option maxHeartbeats 1000000 in
/-- Tree.kept: the root of the jth 2^h entries, where it lies. -/
theorem kept_any (tb wb wc g h j wi H L cp J : Nat) (w : World) (c0 : w.cell? ⟨tb, 0, none⟩ = some (.int .i64 wi)) (c2 : w.cell? ⟨tb, 2, none⟩ = some (.slice (some ⟨wb, 0, none⟩) H wc))
    (ch : w.cell? ⟨wb, h, none⟩ = some (.slice (some ⟨g, 0, none⟩) L cp)) (hh : h < H) (hJ : j * wi = J) (hL : J + wi ≤ L) (hc : L ≤ cp) (hcap : L < 4611686018427387904) (hj : j < 4611686018427387904) (hwi : 1 ≤ wi) :
    Calls Tryd.prog 80 #[.pointer (some ⟨tb, 0, none⟩), .int .i64 h, .int .i64 j] w fun e w' => e = .returned (.slice (some ⟨g, J, none⟩) wi (cp - J)) ∧ ∃ q, w' = w.drewN q := by
  have hJi : (j : Int) * (wi : Int) = (J : Int) := by rw [← hJ]; simp
  have w1 : IntKind.i64.wrap ((j : Int) * (wi : Int)) = (J : Int) := by rw [hJi, IntKind.wrap_i64]; omega
  have w2 : IntKind.i64.wrap ((j : Int) + 1) = (j : Int) + 1 := by rw [IntKind.wrap_i64]; omega
  have hJ2 : ((j : Int) + 1) * (wi : Int) = ((J + wi : Nat) : Int) := by rw [Int.add_mul, hJi]; omega
  have w3 : IntKind.i64.wrap (((j : Int) + 1) * (wi : Int)) = ((J + wi : Nat) : Int) := by rw [hJ2, IntKind.wrap_i64]; omega
  have hhi : (h : Int) < (H : Int) := by omega
  have hne : ¬ cp = J := by omega
  clear hJi hJ2
  go_enter Tryd.func80, Tryd.ntmps80
  go_wp2_with fail
  go_quiet (fail)
  go_wp2_with fail
  go_ret
  refine ⟨?_, _, rfl⟩
  show Ending.returned (Value.slice (some ⟨g, J, none⟩) (J + wi - J) (cp - J)) = _
  rw [Nat.add_sub_cancel_left]
set_option maxRecDepth 100000 in
/-- Tree.has. -/
theorem has_any (tb n : Nat) (wi k : Int) (w : World) (c0 : w.cell? ⟨tb, 0, none⟩ = some (.int .i64 wi)) (c1 : w.cell? ⟨tb, 1, none⟩ = some (.int .i64 n)) :
    Calls Tryd.prog 48 #[.pointer (some ⟨tb, 0, none⟩), .int .i64 k] w fun e w' => e = .returned (.bool (decide (1 ≤ wi ∧ wi ≤ 32 ∧ 0 ≤ k ∧ k ≤ n))) ∧ w' = w := by
  obtain ⟨B, hB⟩ : ∃ B, decide (1 ≤ wi ∧ wi ≤ 32 ∧ 0 ≤ k ∧ k ≤ n) = B := ⟨_, rfl⟩
  rw [hB]
  have HB := hide hB
  clear hB
  go_enter Tryd.func48, Tryd.ntmps48
  by_cases h1 : 1 ≤ wi ∧ wi ≤ 32
  · have H1 := hide h1
    clear h1
    by_cases h2 : 0 ≤ k
    · by_cases h3 : k ≤ n
      · go_wp2_with (go_at_call 26; refine (maybe_any wi _).mono ?_; rintro e w' ⟨rfl, hw'⟩; rw [hw', decide_eq_true (unhide H1)])
        go_ret
        have hb : B = true := by rw [← unhide HB]; exact decide_eq_true (by have := unhide H1; omega)
        exact ⟨by rw [hb]; rfl, rfl⟩
      · go_wp2_with (go_at_call 26; refine (maybe_any wi _).mono ?_; rintro e w' ⟨rfl, hw'⟩; rw [hw', decide_eq_true (unhide H1)])
        go_ret
        have hb : B = false := by rw [← unhide HB]; exact decide_eq_false (by omega)
        exact ⟨by rw [hb]; exact congrArg (fun b => Ending.returned (Value.bool b)) (decide_eq_false (by omega)), rfl⟩
    · go_wp2_with (go_at_call 26; refine (maybe_any wi _).mono ?_; rintro e w' ⟨rfl, hw'⟩; rw [hw', decide_eq_true (unhide H1)])
      go_ret
      have hb : B = false := by rw [← unhide HB]; exact decide_eq_false (by omega)
      exact ⟨by rw [hb]; rfl, rfl⟩
  · have H1 := hide h1
    clear h1
    go_wp2_with (go_at_call 26; refine (maybe_any wi _).mono ?_; rintro e w' ⟨rfl, hw'⟩; rw [hw', decide_eq_false (unhide H1)])
    go_ret
    have hb : B = false := by rw [← unhide HB]; exact decide_eq_false (by have := unhide H1; omega)
    exact ⟨by rw [hb]; rfl, rfl⟩
set_option maxRecDepth 100000 in
/-- Tree.first. -/
theorem first_any (t : Option Addr) (k : Nat) (w : World) : Calls Tryd.prog 49 #[.pointer t, .int .i64 k] w fun e w' => e = .returned (pv (.pointer t) 0 k) ∧ Fr (fun _ => False) w w' := by
  unfold pv
  go_enter Tryd.func49, Tryd.ntmps49
  go_wp2_with fail
  go_returns
  exact ⟨rfl, (Fr.refl _ _).alloc _⟩
end Go.Proofs.YthccbfgjekdiiaaDoor

