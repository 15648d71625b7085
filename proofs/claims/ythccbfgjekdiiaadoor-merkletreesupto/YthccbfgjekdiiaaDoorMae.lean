import Derived.Test.YthccbfgjekdiiaaDoorMad
namespace Go.Proofs.YthccbfgjekdiiaaDoor
open Go.RowKit

theorem sm32 (i : Int) (m : List Nat) : (sm i m).length ≤ 32 := by
  rw [sm]
  split
  · rw [List.length_take, sby_len]; omega
  · exact Nat.zero_le _
theorem Sl.frD {w w' : World} {x : Value} {l : List Nat} {S : Nat → Prop} (h : Sl w x l) (hf : Fr S w w') (hS : l = [] ∨ ∀ g o m c, x = .slice (some ⟨g, o, none⟩) m c → ¬ S g) : Sl w' x l :=
  ⟨h.s.frD hf hS, h.cap, h.lt.imp id (fun hh g o n c e => Nat.lt_of_lt_of_le (hh g o n c e) hf.size), h.b⟩
theorem OS.fr0 {w wr wq : World} {xo : Option Addr} {cp : Nat} {vs : List Value} (h : OS w wr xo cp vs) (hf : Fr (fun _ => False) wr wq) : OS w wq xo cp vs :=
  ⟨ownsRow_of_block h.own (fun g hg => hf.block g (h.own.lt g hg).2 (fun h => h)), h.fr.trans hf (fun _ _ h => h)⟩
/-- Hashes that were laid one by one. -/
structure LV (w wr : World) (ao : Option Addr) (cp : Nat) (us : List Value) (ls : List (List Nat)) : Prop where
  own : OS w wr ao cp us
  len : us.length = ls.length
  sl : ∀ (j : Nat) u l, us[j]? = some u → ls[j]? = some l → Sl wr u l ∧ (l = [] ∨ ∀ g o n c, u = .slice (some ⟨g, o, none⟩) n c → g < wr.heap.size ∧ ∀ g', (Value.slice ao us.length cp).ownBlock = some g' → ¬ g = g')
theorem LV.nil (w : World) : LV w w none 0 [] [] := ⟨OS.nil w, rfl, fun j u l h => by simp at h⟩
/-- One more hash. -/
theorem LV.step {w wr w1 : World} {ao : Option Addr} {cp : Nat} {us : List Value} {ls : List (List Nat)} (h : LV w wr ao cp us ls) (l : List Nat) (yo : Option Addr) (yc : Nat) (hO : OB wr w1 yo yc l) (hb : ∀ v ∈ l, v < 256) (hn : us.length < 16000000) :
    ∃ ao' cp' w2, (Builtin.append_ #[22, 22] 22 #[.slice ao us.length cp, .slice (some ⟨w1.heap.size, 0, none⟩) 1 1]).run Tryd.prog (w1.alloc (.cells #[.slice yo l.length yc] 25)) = .ok (.slice ao' (us.length + 1) cp') w2 ∧ LV w w2 ao' cp' (us ++ [.slice yo l.length yc]) (ls ++ [l]) := by
  have hown1 := h.own.fr0 hO.fr
  obtain ⟨ao', cp', w2, hr, hOS, hgrow, hat⟩ := hown1.app1 yo l.length yc hn
  have hF : Fr (fun k => (Value.slice ao us.length cp).ownBlock = some k) w1 w2 := ((Fr.refl _ _).alloc _).grown hgrow (fun g hg => .inl hg)
  have hbl : ∀ g', (Value.slice ao us.length cp).ownBlock = some g' → g' < wr.heap.size := fun g' hg => (h.own.own.lt g' hg).2
  have hsz : wr.heap.size ≤ w1.heap.size := hO.fr.size
  have hsz2 : w1.heap.size ≤ w2.heap.size := hF.size
  have hnew : ∀ g', (Value.slice ao' (us ++ [Value.slice yo l.length yc]).length cp').ownBlock = some g' → (Value.slice ao us.length cp).ownBlock = some g' ∨ w1.heap.size < g' := fun g' hg => by
    have e : (Value.slice ao' (us ++ [Value.slice yo l.length yc]).length cp').ownBlock = (Value.slice ao' (us.length + 1) cp').ownBlock := by rw [List.length_append]; rfl
    rw [e] at hg
    rcases hat with h1 | h1
    · rw [h1] at hg; exact .inl hg
    · rw [h1] at hg
      simp only [Option.some.injEq] at hg
      simp at hg
      exact .inr (by omega)
  refine ⟨ao', cp', w2, hr, hOS, by rw [List.length_append, List.length_append, h.len]; rfl, fun j u p hu hp => ?_⟩
  by_cases hj : j < us.length
  · rw [List.getElem?_append_left hj] at hu
    rw [List.getElem?_append_left (by rw [← h.len]; exact hj)] at hp
    obtain ⟨h1, h2⟩ := h.sl j u p hu hp
    refine ⟨(h1.fr0 hO.fr).frD hF (h2.imp id (fun hh g o n c e hg => (hh g o n c e).2 g hg rfl)), h2.imp id (fun hh g o n c e => ⟨by have := (hh g o n c e).1; omega, fun g' hg' e2 => ?_⟩)⟩
    rcases hnew g' hg' with h3 | h3
    · exact (hh g o n c e).2 g' h3 e2
    · have := (hh g o n c e).1; omega
  · have hje : j = us.length := by
      have := (List.getElem?_eq_some_iff.1 hu).1
      rw [List.length_append, List.length_singleton] at this
      omega
    subst hje
    rw [List.getElem?_append_right (Nat.le_refl _), Nat.sub_self] at hu
    rw [List.getElem?_append_right (by rw [h.len]; exact Nat.le_refl _), h.len, Nat.sub_self] at hp
    simp only [List.getElem?_cons_zero, Option.some.injEq] at hu hp
    subst hu hp
    have hlt := World.ownsRow.lt hO.own
    have hgb : ∀ g o n c, (Value.slice yo l.length yc) = .slice (some ⟨g, o, none⟩) n c → wr.heap.size ≤ g ∧ g < w1.heap.size := fun g o n c e => by
      simp only [Value.slice.injEq] at e
      obtain ⟨rfl, _⟩ := e
      exact hlt g rfl
    refine ⟨(hO.sl hb).frD hF (.inr (fun g o n c e hg => by have h1 := hbl g hg; have h2 := (hgb g o n c e).1; omega)), .inr (fun g o n c e => ⟨by have := (hgb g o n c e).2; omega, fun g' hg' e2 => ?_⟩)⟩
    rcases hnew g' hg' with h3 | h3
    · have h1 := hbl g' h3; have h2 := (hgb g o n c e).1; omega
    · have h2 := (hgb g o n c e).2; omega
theorem LV.pcs {w wr : World} {ao : Option Addr} {cp : Nat} {us : List Value} {ls : List (List Nat)} (h : LV w wr ao cp us ls) : Pcs wr (.slice ao us.length cp) us ls := h.own.pcs h.len (fun j v p hv hp => (h.sl j v p hv hp).1)
set_option maxRecDepth 100000 in
set_option maxHeartbeats 1000000 in
/-- The ref's Leaves. -/
theorem gleaves_any (i : Int) (x : Value) (vs : List Value) (es : List (List Nat)) (w : World) (hr : GR w) (hp : Pcs w x vs es) (hB : ∀ e ∈ es, e.length ≤ 4000000) (hn : es.length ≤ 8000000) :
    Calls Tryd.prog 41 #[.int .i64 i, x] w fun e' w' => ∃ ao cp us, e' = .returned (.slice ao es.length cp) ∧ Pcs w' (.slice ao es.length cp) us (es.map (lf i)) ∧ Fr (fun _ => False) w w' ∧ es.length ≤ cp := by
  obtain ⟨xo, xc, rfl⟩ := hp.form
  have HG := hide (And.intro hr (And.intro hp (And.intro hB hn)))
  clear hr hp hB hn
  generalize hN : es.length = N at *
  go_enter Tryd.func41, Tryd.ntmps41
  go_wp2_with fail
  go_loopw [5, 6] (fun v iv wr => ∃ (k : Nat) (ao : Option Addr) (cp : Nat) (us : List Value), k ≤ N ∧ iv = .int .i64 (k : Nat) ∧ v = .slice ao k cp ∧ us.length = k ∧ LV w wr ao cp us ((es.take k).map (lf i))) (fun _ iv _ => N - (intOf iv).toNat)
  case atStart => exact ⟨0, none, 0, [], Nat.zero_le _, rfl, rfl, rfl, LV.nil w⟩
  case round =>
    obtain ⟨k, ao, cp, us, hk, rfl, rfl, hus, hI⟩ := hrel
    have hN8 := (unhide HG).2.2.2
    by_cases hlt : k < N
    · have hlt' : (k : Int) < (N : Int) := by omega
      have hke : k < es.length := by omega
      have hF := hI.own.fr
      obtain ⟨g, o, v, rfl, hcell, hsrc, hcap, hltv, _⟩ := (unhide HG).2.1.cell hF k hke
      have hb1 := (unhide HG).2.2.1 es[k] (List.getElem_mem hke)
      have hbb := (unhide HG).2.1.byt es[k] (List.getElem_mem hke)
      have hgl := gleaf_any i v es[k] _ ((unhide HG).1.fr0 hF) hsrc hbb hb1
      have htk : (es.take (k + 1)).map (lf i) = (es.take k).map (lf i) ++ [lf i es[k]] := by
        rw [List.take_add_one, List.getElem?_eq_getElem hke, Option.toList_some, List.map_append]; rfl
      have hl32 := sm32 i (0 :: es[k])
      have hlb := lf_lt i es[k]
      obtain ⟨R, hR⟩ : ∃ R, lf i es[k] = R := ⟨_, rfl⟩
      rw [hR] at hgl htk hlb
      obtain ⟨vo, vc, rfl⟩ := hsrc.form
      have HI := hide (And.intro hI (And.intro hgl (And.intro htk hlb)))
      clear hI hgl htk hl32 hlb hR hF hsrc hcap hltv hb1 hbb
      generalize es[k].length = EL at *
      go_wp2_with fail
      refine (unhide HI).2.1.mono ?_
      rintro e' w1 ⟨yo, yc, rfl, hO⟩
      obtain ⟨ao', cp', w2, hr2, hL2⟩ := (unhide HI).1.step R yo yc hO (unhide HI).2.2.2 (by omega)
      rw [← (unhide HI).2.2.1] at hL2
      rw [hus] at hr2
      have HL := hide (And.intro hL2 hr2)
      clear hL2 hr2 hO
      generalize R.length = RL at *
      go_wp2_with (at_builtin; refine wpList_app rfl _ _ 22 22 rfl _ _ _ rfl rfl (unhide HL).2 ?_)
      exact ⟨⟨k + 1, ao', cp', _, by omega, by go_num, rfl, by rw [List.length_append, hus]; rfl, (unhide HL).1⟩, by simp [intOf]; omega⟩
    · have hkN : k = N := by omega
      have hlt' : ¬ (k : Int) < (N : Int) := by omega
      have htk : es.take k = es := List.take_of_length_le (by omega)
      rw [htk] at hI
      have hpc := hI.pcs
      rw [hus] at hpc
      have hcp : k ≤ cp := by
        rcases hI.own.own.2 with ⟨e, e2⟩ | ⟨g, cap, cur, e, _, _, h3, _⟩
        · omega
        · simp only [Value.slice.injEq, true_and] at e
          rw [e.2, ← hus]; exact h3
      have HI := hide (And.intro hpc (And.intro hI.own.fr (And.intro hcp hkN)))
      clear hI hpc hkN htk hcp
      go_wp2_with fail
      go_ret
      obtain ⟨h1, h2, h4, h3⟩ := unhide HI
      subst h3
      exact ⟨ao, cp, rfl, ⟨us, h1⟩, h2, h4⟩
end Go.Proofs.YthccbfgjekdiiaaDoor
