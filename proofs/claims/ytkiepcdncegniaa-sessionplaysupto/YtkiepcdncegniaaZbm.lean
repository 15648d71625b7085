import Derived.Test.YtkiepcdncegniaaZbl
namespace Go.Proofs.Ytkiepcdncegniaa
open Go.RowKit Go.Maps

theorem rd_fds {w : World} {x : Value} {F : List F5} (h : Rd w x F.length 5 (fcells F)) : Fds w x F := by
  obtain ⟨xo, c, rfl, h1, h2, h3⟩ := h.f
  cases F with
  | nil => exact .inl ⟨xo, c, rfl, rfl⟩
  | cons f r =>
    obtain ⟨e0, _⟩ := fcells_at (f :: r) 0 (by simp)
    obtain ⟨g, o, rfl, _⟩ := h3 _ _ e0
    refine .inr ⟨g, o, c, rfl, fun j hj => ?_⟩
    obtain ⟨d0, d1, d2, d3, d4⟩ := fcells_at (f :: r) j hj
    have k : ∀ i u, (fcells (f :: r))[i]? = some u → w.cell? ⟨g, o + i, none⟩ = some u := fun i u hu => by
      obtain ⟨g', o', e, hc⟩ := h3 i u hu
      cases e
      exact hc
    exact ⟨k _ _ d0, by rw [Nat.add_assoc]; exact k _ _ d1, by rw [Nat.add_assoc]; exact k _ _ d2, by rw [Nat.add_assoc]; exact k _ _ d3, by rw [Nat.add_assoc]; exact k _ _ d4⟩
/-- A request more. -/
theorem SsAt.call {w w' : World} {d mw ma c : Nat} {cs : List SC} {dn : List Nat} {dv : Value} {T : Nat → Prop} (h : SsAt w d mw ma c cs dn dv T) (q : SC) (hd : q.d = none) (hl : cs.length < 4096) (hid : q.r.cl = c ∧ q.r.nu = cs.length + 1) (hFl : q.F.length ≤ 1048576)
    (hf : Fr (fun g => g = mw) w w') (hm : MpR w' mw c (nW cs + 1) (fun j => if j = cs.length + 1 then some q.v else fW cs j)) (hF : w'.ownsRow w.heap.size 79 5 q.r.fv q.F.length (fcells q.F)) :
    SsAt w' d mw ma c (cs ++ [q]) dn dv (fun g => T g ∨ Nb w w' g) := by
  have hn := nA_put cs q hd
  have hdm := h.dm
  have hL : ∀ {e z n : Nat} {v : Value} {xs : List Value}, e ≠ 86 → LsT w T e z v n xs → LsT w' (fun g => T g ∨ Nb w w' g) e z v n xs := fun he hl =>
    ⟨ownsRow_of_block hl.o (fun g hg => hf.block g (hl.o.lt g hg).2 (fun e => (hl.ne h he hg).2.1 e)), fun g hg => .inl (hl.t g hg), hl.l⟩
  refine ⟨h.c16, by simp; omega, (hf.block d (h.lt d h.own.1) hdm.1).trans h.blk, ?_, ?_, hL (by decide) h.dn, fun x hx => ?_, fun j x hx => ?_, ⟨.inl h.own.1, .inl h.own.2.1, .inl h.own.2.2⟩, h.ap, fun g hg => ?_⟩
  · rw [hn.2, fW_put cs q hd]; exact hm
  · rw [hn.1, fA_put cs q hd]; exact h.am.keep (hf.block ma (h.lt ma h.own.2.2) (fun e => h.ap e.symm))
  · rcases List.mem_append.1 hx with hx | hx
    · exact ⟨fun e => hL (by decide) ((h.qs x hx).wt e), fun y e => ⟨hL (by decide) ((h.qs x hx).an y e).1, hL (by decide) ((h.qs x hx).an y e).2⟩⟩
    · simp at hx
      subst hx
      exact ⟨fun _ => ⟨ownsRow_base hF (Nat.zero_le _), fun g hg => .inr (hF.lt g hg), hFl⟩, fun y e => by rw [hd] at e; cases e⟩
  · by_cases e : j < cs.length
    · rw [List.getElem?_append_left e] at hx
      exact h.id j x hx
    · have hjl := (List.getElem?_eq_some_iff.1 hx).1
      simp at hjl
      obtain rfl : j = cs.length := by omega
      rw [List.getElem?_concat_length] at hx
      cases hx
      exact hid
  · rcases hg with hg | hg
    · exact Nat.lt_of_lt_of_le (h.lt g hg) hf.size
    · exact hg.2
end Go.Proofs.Ytkiepcdncegniaa
