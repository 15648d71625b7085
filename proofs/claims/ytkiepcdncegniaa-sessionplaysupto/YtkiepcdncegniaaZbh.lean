import Derived.Test.YtkiepcdncegniaaZbg
namespace Go.Proofs.Ytkiepcdncegniaa
open Go.RowKit Go.Maps

/-- append(s.done, id). -/
theorem app_id (w : World) (v : Value) (l : List (Nat × Nat)) (p : Nat × Nat) (h : w.ownsRow 0 29 2 v l.length (icells l)) (hl : l.length ≤ 1048575) :
    ∃ ao cap w', (Builtin.append_ #[37, 37] 37 #[v, .slice (some ⟨w.heap.size, 0, none⟩) 1 1]).run Try.prog (w.alloc (.cells #[.int .u32 (p.1 : Nat), .int .u32 (p.2 : Nat)] 29)) = .ok (.slice ao (l.length + 1) cap) w' ∧ w'.ownsRow 0 29 2 (.slice ao (l.length + 1) cap) (l.length + 1) (icells (l ++ [p])) ∧ Fr (fun g => v.ownBlock = some g) w w' ∧
      ∀ g, (Value.slice ao (l.length + 1) cap).ownBlock = some g → v.ownBlock = some g ∨ w.heap.size ≤ g := by
  obtain ⟨i0, hi, hz0, hz1, hz2⟩ := info_parts Try.infoId
  have hb' := ownsRow_of_block (w' := w.alloc (.cells #[.int .u32 (p.1 : Nat), .int .u32 (p.2 : Nat)] 29)) h (fun g hg => Below.heap_alloc _ _ _ (h.lt g hg).2)
  obtain ⟨v', w', hr, h2, h3, _, h5⟩ := run_append_own_at (P := Try.prog) (w := w.alloc (.cells #[.int .u32 (p.1 : Nat), .int .u32 (p.2 : Nat)] 29)) 0 37 37 29 i0 (.agg #[.int .u32 0, .int .u32 0]) 2 8 Try.underlying37 hi hz0 hz1 hz2 rfl (by decide) v l.length (icells l) hb' ⟨w.heap.size, 0, none⟩ 1 1 [.int .u32 (p.1 : Nat), .int .u32 (p.2 : Nat)] rfl (fun j u hu => by
    rw [addr_add, World.cell?_alloc_at _ _ _ _ rfl]; simpa using hu) (fun u hu => by simp at hu; rcases hu with rfl | rfl <;> rfl) (by simp only [maxLen]; omega) (by omega) (by simp)
  obtain ⟨ao, cap, rfl⟩ := own_formX h2
  refine ⟨ao, cap, w', hr, by rw [icells_app]; exact h2, ((box1 w _).mono (fun _ _ h => h.elim)).grown h3 (fun g hg => .inl hg), fun g hg => ?_⟩
  rcases h5 with e | e
  · rw [e] at hg; exact .inl hg
  · rw [e] at hg; cases hg; exact .inr (by simp)
theorem rd_not {w : World} {x : Value} {n z b : Nat} {cs : List Value} (h : Rd w x n z cs) {es : Array MapEntry} {ck : Nat} (hb : w.heap[b]? = some (.map es ck)) : ∀ g o n c, x = .slice (some ⟨g, o, none⟩) n c → 0 < cs.length → g ≠ b := by
  intro g o n c e hp hg
  obtain ⟨xo, c', e2, _, _, h3⟩ := h.f
  obtain ⟨u, hu⟩ : ∃ u, cs[0]? = some u := ⟨cs[0], List.getElem?_eq_getElem hp⟩
  obtain ⟨g', o', e3, hc⟩ := h3 0 u hu
  rw [e] at e2
  cases e2
  cases e3
  rw [hg] at hc
  simp [World.cell?, hb] at hc
/-- A request answered. -/
theorem SsAt.answer {w w' : World} {d mw ma c : Nat} {cs : List SC} {dn : List Nat} {dv : Value} {T : Nat → Prop} (h : SsAt w d mw ma c cs dn dv T) {i : Nat} {q : SC} (hq : cs[i]? = some q) (hd : q.d = none) (a' : AN) (F : List F5) (H : List SM) (hFl : F.length ≤ 1048576) (hHl : H.length ≤ 1048576) (hdl : dn.length + 1 ≤ 1048576) (dv' : Value)
    (hf : Fr (fun g => g = mw ∨ g = ma ∨ dv.ownBlock = some g ∨ g = d) w w')
    (blk : w'.heap[d]? = some (.cells #[.int .u32 (c : Nat), .map (some mw), .map (some ma), dv'] 86))
    (wm : MpR w' mw c (nW cs - 1) (fun j => if j = i + 1 then none else fW cs j)) (am : MpR w' ma c (nA cs + 1) (fun j => if j = i + 1 then some a'.v else fA cs j))
    (hdn : w'.ownsRow 0 29 2 dv' (dn.length + 1) (icells ((dn ++ [i + 1]).map fun k => (c, k)))) (hdt : ∀ g, dv'.ownBlock = some g → dv.ownBlock = some g ∨ w.heap.size ≤ g)
    (hF : w'.ownsRow w.heap.size 79 5 a'.fv F.length (fcells F)) (hH : w'.ownsRow w.heap.size 81 4 a'.hv H.length (scells H)) :
    SsAt w' d mw ma c (cs.set i { q with d := some ⟨a', F, H⟩ }) (dn ++ [i + 1]) dv' (fun g => T g ∨ Nb w w' g) := by
  have hi := (List.getElem?_eq_some_iff.1 hq).1
  have hn := nA_set cs i q { q with d := some ⟨a', F, H⟩ } hq hd rfl
  have hL : ∀ {e z n : Nat} {v : Value} {xs : List Value}, e ≠ 86 → e ≠ 29 → LsT w T e z v n xs → LsT w' (fun g => T g ∨ Nb w w' g) e z v n xs := fun he he2 hl =>
    ⟨ownsRow_of_block hl.o (fun g hg => hf.block g (hl.o.lt g hg).2 (fun e => by
      have h1 := hl.ne h he hg
      rcases e with e | e | e | e
      · exact h1.2.1 e
      · exact h1.2.2 e
      · obtain ⟨c1, k1⟩ := own_blk hl.o hg
        obtain ⟨c2, k2⟩ := own_blk h.dn.o e
        rw [k1] at k2
        simp at k2
        exact he2 k2.2
      · exact h1.1 e)), fun g hg => .inl (hl.t g hg), hl.l⟩
  refine ⟨h.c16, by rw [List.length_set]; exact h.len, blk, ?_, ?_, ⟨by rw [List.length_append]; exact hdn, fun g hg => ?_, by simpa using hdl⟩, fun x hx => ?_, fun j x hx => ?_, ⟨.inl h.own.1, .inl h.own.2.1, .inl h.own.2.2⟩, h.ap, fun g hg => ?_⟩
  · rw [fW_set cs i _ hi, show nW (cs.set i { q with d := some ⟨a', F, H⟩ }) = nW cs - 1 by omega]; exact wm
  · rw [fA_set cs i _ hi, hn.1]; exact am
  · rcases hdt g hg with e | e
    · exact .inl (h.dn.t g e)
    · exact .inr ⟨e, (hdn.lt g hg).2⟩
  · rcases List.mem_or_eq_of_mem_set hx with hx | rfl
    · exact ⟨fun e => hL (by decide) (by decide) ((h.qs x hx).wt e), fun y e => ⟨hL (by decide) (by decide) ((h.qs x hx).an y e).1, hL (by decide) (by decide) ((h.qs x hx).an y e).2⟩⟩
    · refine ⟨fun e => (by cases e), fun y e => ?_⟩
      cases e
      exact ⟨⟨ownsRow_base hF (Nat.zero_le _), fun g hg => .inr (hF.lt g hg), hFl⟩, ⟨ownsRow_base hH (Nat.zero_le _), fun g hg => .inr (hH.lt g hg), hHl⟩⟩
  · by_cases e : i = j
    · subst e
      rw [List.getElem?_set_self hi] at hx
      cases hx
      exact h.id i q hq
    · rw [List.getElem?_set_ne e] at hx
      exact h.id j x hx
  · rcases hg with hg | hg
    · exact Nat.lt_of_lt_of_le (h.lt g hg) hf.size
    · exact hg.2
end Go.Proofs.Ytkiepcdncegniaa
