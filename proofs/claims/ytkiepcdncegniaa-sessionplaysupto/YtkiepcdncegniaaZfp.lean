import Derived.Test.YtkiepcdncegniaaZfd
import Derived.Test.YtkiepcdncegniaaZfe
import Derived.Test.YtkiepcdncegniaaZff
import Derived.Test.YtkiepcdncegniaaZfj
import Derived.Test.YtkiepcdncegniaaZfk
import Derived.Test.YtkiepcdncegniaaZfo
namespace Go.Proofs.Ytkiepcdncegniaa
open Go.RowKit Go.Maps

theorem SS.wide {W W' : World} {d c : Nat} {cs : List SC} {dn : List Nat} {T : Nat → Prop} (h : SS W' d c cs dn T) : SS W' d c cs dn (Tn T W W') := by
  obtain ⟨mw, ma, dv, h⟩ := h
  exact ⟨mw, ma, dv, h.mono (fun g hg => .inl hg) (fun g hg => by
    rcases hg with hg | hg
    · exact h.lt g hg
    · exact hg.2)⟩
/-- What both sessions make of a message. -/
structure BothT (w0 w : World) (d c : Nat) (cs : List SC) (dn : List Nat) (T : Nat → Prop) (base : Nat) (v : Value) (got : Nat) (m : MG) (k : Nat) (r : Int) (dn' : List Nat) (l' : List RC) : Prop where
  ref : Calls Try.prog 22 #[.agg #[.int .u32 (c : Nat), v, .int .i64 (got : Nat)], .agg m.xs.toArray] w fun e w' => ∃ v', e = .returned (.tuple #[.agg #[.int .u32 (c : Nat), v', .int .i64 (dn'.length : Nat)], .int .i64 r]) ∧ OwC w' base v' l' ∧ Fr (fun _ => False) w w' ∧ ∀ g, v'.ownBlock = some g → v.ownBlock = some g ∨ w.heap.size ≤ g
  dl : dn'.length ≤ got + 1
  ses : ∀ W, SS W d c cs dn T → m.Ok W → Calls Try.prog 14 #[.pointer (some ⟨d, 0, none⟩), .agg m.xs.toArray] W fun e w' => ∃ cs', e = .returned (.int .i64 r) ∧ SS w' d c cs' dn' (Tn T W w') ∧ Fr T W w' ∧ Rel w0 c cs' dn' l' ∧ ∀ q ∈ cs', q.n ≤ k + 1
theorem gnum_no {c n cl k : Nat} (h : ¬ (cl = c ∧ k ≠ 0 ∧ k ≤ n)) : gnum c n cl k = 0 := by
  unfold gnum
  rw [if_neg]
  rintro ⟨h1, h2, h3⟩
  exact h ⟨h1, by omega, h3⟩
theorem both_take {w0 w : World} {d c : Nat} {cs : List SC} {dn : List Nat} {T : Nat → Prop} {l : List RC} (hs : SS w d c cs dn T) (hf : Fr (fun _ => False) w0 w) (m : MG) (hm : m.Ok w0) (base : Nat) (v : Value) (ho : OwC w base v l) (hb : base ≤ w.heap.size) (hR : Rel w0 c cs dn l) (hdl : dn.length ≤ 1048575) (k : Nat) (hk : k ≤ 100000000) (hn : ∀ q ∈ cs, q.n ≤ k) :
    ∃ r dn' l', BothT w0 w d c cs dn T base v dn.length m k r dn' l' := by
  have hl : l.length ≤ 4096 := by rw [hR.n]; exact hs.len
  have hok : ∀ y ∈ l, y.Ok w := fun y hy => (hR.k y hy).1.fr0 hf
  have hT : ∀ {W W' : World}, Fr (fun _ => False) W W' → Fr T W W' := fun hf => hf.mono (fun _ _ e => e.elim)
  have hm2 := hm.fr0 hf
  have same : ∀ (r : Int), (Calls Try.prog 22 #[.agg #[.int .u32 (c : Nat), v, .int .i64 (dn.length : Nat)], .agg m.xs.toArray] w fun e w' => ∃ v', e = .returned (.tuple #[.agg #[.int .u32 (c : Nat), v', .int .i64 (dn.length : Nat)], .int .i64 r]) ∧ OwC w' base v' l ∧ Fr (fun _ => False) w w' ∧ ∀ g, v'.ownBlock = some g → v.ownBlock = some g ∨ w.heap.size ≤ g) → (∀ W, SS W d c cs dn T → m.Ok W → Calls Try.prog 14 #[.pointer (some ⟨d, 0, none⟩), .agg m.xs.toArray] W fun e w' => ∃ r', e = .returned (.int .i64 r') ∧ r' = r ∧ Fr (fun _ => False) W w') → ∃ r dn' l', BothT w0 w d c cs dn T base v dn.length m k r dn' l' := fun r h1 h2 =>
    ⟨r, dn, l, h1, Nat.le_succ _, fun W hS hmW => (h2 W hS hmW).mono fun e w' ⟨r', e1, e2, hf'⟩ => ⟨cs, by rw [e1, e2], SS.wide (hS.fr0 hf'), hT hf', hR, fun q hq => by have := hn q hq; omega⟩⟩
  obtain ⟨xs, ki, icl, inu, co, a, F, K⟩ := m
  by_cases h3 : ki = 3
  · subst h3
    by_cases hu : a.cl = c ∧ a.nu ≠ 0 ∧ a.nu ≤ cs.length
    · obtain ⟨hc, h0, hle⟩ := hu
      obtain ⟨i, hi⟩ : ∃ i, a.nu = i + 1 := ⟨a.nu - 1, by omega⟩
      obtain ⟨q, hq⟩ : ∃ q, cs[i]? = some q := ⟨_, List.getElem?_eq_getElem (by omega)⟩
      obtain ⟨x, hx⟩ : ∃ x, l[i]? = some x := ⟨_, List.getElem?_eq_getElem (by rw [hR.n]; omega)⟩
      have hq0 := hR.q i q x hq hx
      cases hd : q.d with
      | none =>
        have hw := hq0.w hd
        have hxone : ∀ u ∈ a.cs, u.oneCell' = true := fun u hu => by
          obtain ⟨t, ht⟩ := List.getElem?_of_mem hu
          exact hm.one u (List.mem_of_getElem? (hm.x.an t u ht))
        refine ⟨0, dn ++ [i + 1], l.set i { x with o := dn.length + 1, a := a, G := F, K := K }, ?_, by simp, fun W hS hmW => ?_⟩
        · have := gtake_new c dn.length base i v l x xs icl inu co a w hm.x ho hb hok hl hx hc hi hw.1 (by omega) F K hxone
          rw [List.length_append]
          exact this
        · refine (hS.answer xs icl inu co a hm.x i q hq hd hc hi F K hmW.f hmW.h hm.fl hm.hl hdl).mono ?_
          rintro e w' ⟨r, rfl, rfl, ⟨v1, u1, hs'⟩, hf'⟩
          refine ⟨_, rfl, hs', hf', hR.new hq hd hx a hc hi F K v1 u1 hm.f hm.h hm.fl hm.hl, fun p hp => ?_⟩
          rcases List.mem_or_eq_of_mem_set hp with hp | rfl
          · have := hn p hp; omega
          · have := hn q (List.mem_of_getElem? hq); simp only; omega
      | some y =>
        obtain ⟨g1, g2, g3, g4, g5, g6, g7⟩ := hq0.d y hd
        have hsame : gsameA x.a a x.G F x.K K = sameA y.a a y.F F y.H K := by
          obtain ⟨e1, e2, e3, e4, e5⟩ := g3
          rw [g4, g5]
          unfold gsameA
          rw [g6, g7, hc, hi]
          simp only [decide_true, Bool.and_self, Bool.true_and]
          unfold sameA
          rw [e3, e4, e5]
        refine same (if gsameA x.a a x.G F x.K K then 0 else 4) ?_ (fun W hS hmW => ?_)
        · exact gtake_again c dn.length base i v l x xs icl inu co a w hm.x ho hok hl hx hc hi g1 F K (rd_fds hm2.f) (sms_of_rd hm2.h)
        · have hX := hS.fdsX (List.mem_of_getElem? hq) hd
          have hf' := rd_fds hmW.f
          have hh' := sms_of_rd hmW.h
          rw [hsame]
          exact hS.ansDone xs icl inu co a hm.x i q y hq hd hc hi (sameA y.a a y.F F y.H K) (fun W' hf2 => sameAnswer_any y.a a y.F F y.H K W' (hX.1.fr hf2) (hf'.fr hf2) (hX.2.1.fr hf2) (hh'.fr hf2) hX.2.2.1 hX.2.2.2)
    · refine same 15 (gtake_noneA c dn.length base v l xs icl inu co a w hm.x ho hl (gnum_no (by rw [hR.n]; exact hu))) (fun W hS hmW => ?_)
      refine hS.ansNone xs icl inu co a hm.x (fun e => ?_) hm.ac hm.an
      by_cases h0 : a.nu = 0
      · exact .inl h0
      · exact .inr (by
          have : ¬ a.nu ≤ cs.length := fun hl => hu ⟨e, h0, hl⟩
          omega)
  · by_cases h4 : ki = 4
    · subst h4
      by_cases hu : icl = c ∧ inu ≠ 0 ∧ inu ≤ cs.length
      · obtain ⟨hc, h0, hle⟩ := hu
        obtain ⟨i, hi⟩ : ∃ i, inu = i + 1 := ⟨inu - 1, by omega⟩
        obtain ⟨q, hq⟩ : ∃ q, cs[i]? = some q := ⟨_, List.getElem?_eq_getElem (by omega)⟩
        obtain ⟨x, hx⟩ : ∃ x, l[i]? = some x := ⟨_, List.getElem?_eq_getElem (by rw [hR.n]; omega)⟩
        have hq0 := hR.q i q x hq hx
        cases hd : q.d with
        | none =>
          have hw := hq0.w hd
          have hxn := hn q (List.mem_of_getElem? hq)
          refine ⟨0, dn, l.set i { x with c := co, b := x.b + 1 }, ?_, Nat.le_succ _, fun W hS hmW => ?_⟩
          · exact gtake_busyW c dn.length base i v l x xs icl inu co a w hm.x ho hb hok hl hx hc hi hw.1 (by omega)
          · subst hc
            subst hi
            refine (hS.busy xs co a i hm.x hm.bc q hq hd (by omega)).mono ?_
            rintro e w' ⟨r, rfl, rfl, hs', hf'⟩
            refine ⟨_, rfl, SS.wide hs', hf', hR.busy hq hd hx co hm.bc, fun p hp => ?_⟩
            rcases List.mem_or_eq_of_mem_set hp with hp | rfl
            · have := hn p hp; omega
            · simp only; omega
        | some y =>
          obtain ⟨g1, _⟩ := hq0.d y hd
          refine same 0 ?_ (fun W hS hmW => ?_)
          · have := gtake_busyD c dn.length base i v l x xs icl inu co a w hm.x ho hb hok hl hx hc hi g1
            rw [show l.set i x = l from by
              apply List.ext_getElem?
              intro j
              by_cases e : i = j
              · subst e
                rw [List.getElem?_set_self (List.getElem?_eq_some_iff.1 hx).1, hx]
              · rw [List.getElem?_set_ne e]] at this
            exact this
          · subst hc
            subst hi
            exact hS.busyDone xs co a i hm.x hm.bc q y hq hd
      · refine same 15 (gtake_noneB c dn.length base v l xs icl inu co a w hm.x ho hl (gnum_no (by rw [hR.n]; exact hu))) (fun W hS hmW => ?_)
        refine hS.busyNone xs icl inu co a hm.x hm.bc (fun e => ?_) hm.bi hm.bn
        by_cases h0 : inu = 0
        · exact .inl h0
        · exact .inr (by
            have : ¬ inu ≤ cs.length := fun hl => hu ⟨e, h0, hl⟩
            omega)
    · refine same 1 (gtake_no c dn.length base v l xs ki icl inu co a w hm.x ho h3 h4) (fun W hS hmW => ?_)
      refine (stake_no d xs ki icl inu co a hm.x h3 h4 W).mono ?_
      rintro e w' ⟨rfl, hf'⟩
      exact ⟨1, rfl, rfl, hf'⟩
end Go.Proofs.Ytkiepcdncegniaa
