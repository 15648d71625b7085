import Derived.Test.YtkiepcdncegniaaPk2
import Derived.Test.YtkiepcdncegniaaZdb
import Derived.Test.YtkiepcdncegniaaZcc
import Derived.Test.YtkiepcdncegniaaZai
import Derived.Test.YtkiepcdncegniaaPk1
namespace Go.Proofs.Ytkiepcdncegniaa
open Go.RowKit Go.Maps

/-- A message that came in: its cells, what Take looks at, what its answer's lists hold. -/
structure MG where
  xs : List Value
  ki : Nat
  icl : Nat
  inu : Nat
  co : Nat
  a : AN
  F : List F5
  H : List SM
structure MG.Ok (w : World) (m : MG) : Prop where
  x : MsX m.xs m.ki m.icl m.inu m.co m.a
  len : m.xs.length = 35
  one : ∀ v ∈ m.xs, v.oneCell' = true
  bk : m.ki < 256
  bi : m.icl < 4294967296
  bn : m.inu < 4294967296
  bc : m.co < 256
  ac : m.a.cl < 4294967296
  an : m.a.nu < 4294967296
  f : Rd w m.a.fv m.F.length 5 (fcells m.F)
  h : Rd w m.a.hv m.H.length 4 (scells m.H)
  fl : m.F.length ≤ 1048576
  hl : m.H.length ≤ 1048576
theorem MG.Ok.fr0 {w w' : World} {m : MG} (h : m.Ok w) (hf : Fr (fun _ => False) w w') : m.Ok w' :=
  ⟨h.x, h.len, h.one, h.bk, h.bi, h.bn, h.bc, h.ac, h.an, h.f.fr0 hf, h.h.fr0 hf, h.fl, h.hl⟩
/-- Messages that came in. -/
structure MgR (w : World) (v : Value) (l : List MG) : Prop where
  f : ∃ vo c, v = .slice vo l.length c ∧ ∀ j m, l[j]? = some m → m.Ok w ∧ ∃ g o, vo = some ⟨g, o, none⟩ ∧ w.rangeAt g (o + j * 35) m.xs
  l : l.length ≤ 1048576
/-- Is it the first answer of a request? -/
def fresh (c : Nat) (cs : List SC) (m : MG) : Prop := m.ki = 3 ∧ m.a.cl = c ∧ ∃ i q, m.a.nu = i + 1 ∧ cs[i]? = some q ∧ q.d = none
/-- What a message that is none leaves. -/
structure Kept (cs cs' : List SC) : Prop where
  n : cs'.length = cs.length
  q : ∀ (i : Nat) (x : SC), cs[i]? = some x → ∃ y, cs'[i]? = some y ∧ y.d = x.d ∧ y.n ≤ x.n + 1
theorem Kept.refl (cs : List SC) : Kept cs cs := ⟨rfl, fun i x h => ⟨x, h, rfl, by omega⟩⟩
theorem Kept.busy {cs : List SC} {i : Nat} {q : SC} (hq : cs[i]? = some q) (la : Int) : Kept cs (cs.set i { q with la := la, n := q.n + 1 }) :=
  ⟨List.length_set .., fun j x hj => by
    by_cases e : i = j
    · subst e
      rw [hq] at hj
      cases hj
      have hl := (List.getElem?_eq_some_iff.1 hq).1
      exact ⟨{ q with la := la, n := q.n + 1 }, by rw [List.getElem?_set_self hl], rfl, Nat.le_refl _⟩
    · exact ⟨x, by rw [List.getElem?_set_ne e]; exact hj, rfl, by omega⟩⟩
theorem sms_of_rd {w : World} {x : Value} {l : List SM} (h : Rd w x l.length 4 (scells l)) : Sms w x l := by
  obtain ⟨xo, c, rfl, h1, h2, h3⟩ := h.f
  cases l with
  | nil => exact .inl ⟨xo, c, rfl, rfl⟩
  | cons f r =>
    obtain ⟨e0, _⟩ := scells_at (f :: r) 0 (by simp)
    obtain ⟨g, o, rfl, _⟩ := h3 _ _ e0
    refine .inr ⟨g, o, c, rfl, fun j hj => ?_⟩
    obtain ⟨d0, d1, d2, d3⟩ := scells_at (f :: r) j hj
    have k : ∀ i u, (scells (f :: r))[i]? = some u → w.cell? ⟨g, o + i, none⟩ = some u := fun i u hu => by
      obtain ⟨g', o', e, hc⟩ := h3 i u hu
      cases e
      exact hc
    exact ⟨k _ _ d0, by rw [Nat.add_assoc]; exact k _ _ d1, by rw [Nat.add_assoc]; exact k _ _ d2, by rw [Nat.add_assoc]; exact k _ _ d3⟩
/-- Take of a message that is no first answer. -/
theorem SS.takeOld {w : World} {d c : Nat} {cs : List SC} {dn : List Nat} {T : Nat → Prop} (h : SS w d c cs dn T) (m : MG) (hm : m.Ok w) (hn : ¬ fresh c cs m) (hb : ∀ q ∈ cs, q.n ≤ 1000000000000) :
    Calls Try.prog 14 #[.pointer (some ⟨d, 0, none⟩), .agg m.xs.toArray] w fun e w' => ∃ r cs', e = .returned (.int .i64 r) ∧ Kept cs cs' ∧ SS w' d c cs' dn T ∧ Fr T w w' := by
  have hT : ∀ {W : World}, Fr (fun _ => False) w W → Fr T w W := fun hf => hf.mono (fun _ _ e => e.elim)
  obtain ⟨xs, ki, icl, inu, co, a, F, H⟩ := m
  by_cases h3 : ki = 3
  · subst h3
    by_cases hu : a.cl = c ∧ a.nu ≠ 0 ∧ a.nu ≤ cs.length
    · obtain ⟨hc, h0, hl⟩ := hu
      obtain ⟨q, hq⟩ : ∃ q, cs[a.nu - 1]? = some q := ⟨_, List.getElem?_eq_getElem (by omega)⟩
      cases hd : q.d with
      | none => exact absurd ⟨rfl, hc, a.nu - 1, q, by simp only; omega, hq, hd⟩ hn
      | some x =>
        have hx := h.fdsX (List.mem_of_getElem? hq) hd
        have hf := rd_fds hm.f
        have hh := sms_of_rd hm.h
        refine (h.ansDone xs icl inu co a hm.x (a.nu - 1) q x hq hd hc (by omega) (sameA x.a a x.F F x.H H) (fun W' hf' => sameAnswer_any x.a a x.F F x.H H W' (hx.1.fr hf') (hf.fr hf') (hx.2.1.fr hf') (hh.fr hf') hx.2.2.1 hx.2.2.2)).mono ?_
        rintro e w' ⟨r, rfl, _, hfr⟩
        exact ⟨r, cs, rfl, Kept.refl _, h.fr0 hfr, hT hfr⟩
    · refine (h.ansNone xs icl inu co a hm.x (fun e => ?_) hm.ac hm.an).mono ?_
      · by_cases h0 : a.nu = 0
        · exact .inl h0
        · exact .inr (by
            have : ¬ a.nu ≤ cs.length := fun hl => hu ⟨e, h0, hl⟩
            omega)
      · rintro e w' ⟨r, rfl, _, hfr⟩
        exact ⟨r, cs, rfl, Kept.refl _, h.fr0 hfr, hT hfr⟩
  · by_cases h4 : ki = 4
    · subst h4
      by_cases hu : icl = c ∧ inu ≠ 0 ∧ inu ≤ cs.length
      · obtain ⟨hc, h0, hl⟩ := hu
        subst hc
        obtain ⟨i, rfl⟩ : ∃ i, inu = i + 1 := ⟨inu - 1, by omega⟩
        obtain ⟨q, hq⟩ : ∃ q, cs[i]? = some q := ⟨_, List.getElem?_eq_getElem (by omega)⟩
        cases hd : q.d with
        | none =>
          refine (h.busy xs co a i hm.x hm.bc q hq hd (hb q (List.mem_of_getElem? hq))).mono ?_
          rintro e w' ⟨r, rfl, _, hs, hfr⟩
          exact ⟨r, _, rfl, Kept.busy hq _, hs, hfr⟩
        | some x =>
          refine (h.busyDone xs co a i hm.x hm.bc q x hq hd).mono ?_
          rintro e w' ⟨r, rfl, _, hfr⟩
          exact ⟨r, cs, rfl, Kept.refl _, h.fr0 hfr, hT hfr⟩
      · refine (h.busyNone xs icl inu co a hm.x hm.bc (fun e => ?_) hm.bi hm.bn).mono ?_
        · by_cases h0 : inu = 0
          · exact .inl h0
          · exact .inr (by
              have : ¬ inu ≤ cs.length := fun hl => hu ⟨e, h0, hl⟩
              omega)
        · rintro e w' ⟨r, rfl, _, hfr⟩
          exact ⟨r, cs, rfl, Kept.refl _, h.fr0 hfr, hT hfr⟩
    · refine (stake_no d xs ki icl inu co a hm.x h3 h4 w).mono ?_
      rintro e w' ⟨rfl, hfr⟩
      exact ⟨1, cs, rfl, Kept.refl _, h.fr0 hfr, hT hfr⟩
/-- As many wait as are not answered. -/
theorem wl_count (cs : List SC) : (wl cs).length = nW cs := by
  unfold wl nW
  rw [List.length_filterMap_eq_countP]
  have key : ∀ n, n ≤ cs.length → List.countP (fun j => ((if (cs[j]?.any fun q => q.d.isNone) = true then some (j + 1) else none) : Option Nat).isSome) (List.range n) = List.countP (fun q => q.d.isNone) (cs.take n) := by
    intro n
    induction n with
    | zero => simp
    | succ n ih =>
      intro hn
      obtain ⟨q, hq⟩ : ∃ q, cs[n]? = some q := ⟨_, List.getElem?_eq_getElem (by omega)⟩
      rw [List.range_succ, List.countP_append, ih (by omega), List.take_add_one, List.countP_append, hq]
      cases hd : q.d <;> simp [hq, hd]
  have := key cs.length (Nat.le_refl _)
  rw [List.take_length] at this
  exact this
end Go.Proofs.Ytkiepcdncegniaa

namespace Go.Proofs.Ytkiepcdncegniaa
open Go.RowKit Go.Maps

theorem wrapS (k : Nat) (h : k ≤ 1000000000) : wrap64 ((k : Int) + 1) = (k : Int) + 1 := by unfold wrap64; omega
theorem wrapU (k : Nat) (h : k ≤ 1000000000) : IntKind.u32.wrap ((k : Int) + 1) = (k : Int) + 1 := by
  have e : ((k : Int) + 1) % 4294967296 = (k : Int) + 1 := by omega
  simp [IntKind.wrap, IntKind.bits, IntKind.signed, e]
theorem eql_00 (w : World) : (binOp .eql 29 (.agg #[.int .u32 0, .int .u32 0]) (.agg #[.int .u32 0, .int .u32 0])).run Try.prog w = .ok (.bool true) w := eql_id 0 0 0 0 w
/-- SessionMany's loop: all that were called are answered. -/
structure MI (w wr : World) (d i : Nat) (cs : List SC) (dn : List Nat) (T : Nat → Prop) : Prop where
  s : SS wr d 15 cs dn T
  c : cs.length = i
  n : dn.length = i
  a : ∀ q ∈ cs, q.d.isSome = true
  b : ∀ g, T g → w.heap.size ≤ g
  f : Fr (fun _ => False) w wr
theorem wl_nil {cs : List SC} (h : ∀ q ∈ cs, q.d.isSome = true) : wl cs = [] := by
  apply List.eq_nil_iff_forall_not_mem.2
  intro k hk
  have h1 := (wl_mem cs k).1 hk
  unfold fW at h1
  split at h1
  · cases h1
  · cases hq : cs[k - 1]? with
    | none => rw [hq] at h1; cases h1
    | some q =>
      rw [hq] at h1
      have := h q (List.mem_of_getElem? hq)
      cases hd : q.d with
      | none => rw [hd] at this; cases this
      | some x => simp [hd] at h1
set_option maxRecDepth 100000 in
set_option maxHeartbeats 4000000 in
/-- SessionMany. -/
theorem smany_any (w : World) : Calls Try.prog 6 #[] w fun e w' => e = .returned (.bool true) ∧ Fr (fun _ => False) w w' := by
  go_enter Try.func6, Try.ntmps6
  go_wp2_with fail
  refine (awake17 w).mono ?_
  rintro e w0 ⟨rfl, hf0⟩
  have HF0 := hide hf0
  clear hf0
  go_wp2_with fail
  refine (SS.new 15 w0 (by omega)).mono ?_
  rintro e w1 ⟨d, rfl, hs1, hf1⟩
  have HM : Hid (MI w w1 d 0 [] [] (Nb w0 w1)) := hide ⟨hs1, rfl, rfl, (fun q hq => by simp at hq), (fun g hg => Nat.le_trans (unhide HF0).size hg.1), (unhide HF0).trans0 hf1⟩
  clear hs1 hf1
  go_wp2_with fail
  go_loopw [3] (fun iv wr => ∃ (i : Nat) (cs : List SC) (dn : List Nat) (T : Nat → Prop), i ≤ 4096 ∧ iv = .int .i64 (i : Nat) ∧ MI w wr d i cs dn T) (fun iv _ => 4096 - (intOf iv).toNat)
  case atStart => exact ⟨0, [], [], _, by omega, rfl, unhide HM⟩
  case round =>
    obtain ⟨i, cs, dn, T, hi, rfl, hM⟩ := hrel
    clear HM
    rename World => wr
    have HI := hide hM
    clear hM
    by_cases hlt : i < 4096
    · have hlt2 : (i : Int) < 4096 := by omega
      go_wp2_with fail
      refine (create_any _).mono ?_
      rintro e w2 ⟨rfl, hf2⟩
      have HC : Hid (Calls Try.prog 10 #[.pointer (some ⟨d, 0, none⟩), crR.v] w2 fun e w' => e = .returned (.tuple #[.agg #[.int .u32 15, .int .u32 ((i : Int) + 1)], .int .i64 0]) ∧ (∃ v, SS w' d 15 (cs ++ [⟨⟨15, i + 1, 1, 1, 0, 0, 7, 6, v, ⟨#[]⟩⟩, [], 0, 0, none⟩]) dn (Tn T w2 w')) ∧ Fr T w2 w') := hide (by
        have := ((unhide HI).s.fr0 hf2).call crR [] (Rd.nil w2 5) (by simp) (fun f hf => by simp at hf) rfl (by rw [(unhide HI).c]; exact hlt)
        rw [(unhide HI).c] at this
        exact this)
      have HF2 := hide hf2
      clear hf2
      go_wp2_with fail
      refine (unhide HC).mono ?_
      rintro e w3 ⟨rfl, ⟨v, hs3⟩, hf3⟩
      have HS3 := hide (And.intro hs3 hf3)
      clear hs3 hf3 HC
      have hw1 := wrapS i (by omega)
      have hw2 := wrapU i (by omega)
      go_wp2_with fail
      have HA : Hid (∀ W, Calls Try.prog 16 #[.int .u32 15, .int .u32 ((i : Int) + 1), .int .u32 1] W fun e w' => e = .returned (.agg (ansM 15 (i + 1) 1).toArray) ∧ Fr (fun _ => False) W w') := hide (fun W => answered_any 15 (i + 1) 1 W)
      refine ((unhide HA) _).mono ?_
      rintro e w5 ⟨rfl, hf5⟩
      have hf35 : Fr (fun _ => False) w3 w5 := (box1 w3 _).trans0 hf5
      have hlc := (unhide HI).c
      have hln := (unhide HI).n
      have HT := hide (((unhide HS3).1.fr0 hf35).answer (ansM 15 (i + 1) 1) 0 0 0 (ansA 15 (i + 1) 1) (ansM_x 15 (i + 1) 1) i _ (by rw [← hlc]; exact List.getElem?_concat_length) rfl rfl rfl [] [] (Rd.nil w5 5) (Rd.nil w5 4) (by simp) (by simp) (by omega))
      have HF5 := hide hf35
      clear hf5 hf35 HA hlc hln
      go_wp2_with fail
      refine (unhide HT).mono ?_
      rintro e w6 ⟨r6, rfl, rfl, ⟨v6, u6, hs6⟩, hf6⟩
      clear HT
      have h2 := unhide HF2
      have h3 := (unhide HS3).2
      have h5 := unhide HF5
      have hb := (unhide HI).b
      have hbT3 : ∀ g, Tn T w2 w3 g → w.heap.size ≤ g := fun g hg => by
        rcases hg with hg | hg
        · exact hb g hg
        · have := hg.1; have := (unhide HI).f.size; have := h2.size; omega
      have hfw3 : Fr (fun _ => False) w w3 := ((unhide HI).f.trans0 h2).trans h3 (fun g hg e => by have := hb g e; omega)
      have hfw5 := hfw3.trans0 h5
      have hfw6 : Fr (fun _ => False) w w6 := hfw5.trans hf6 (fun g hg e => by have := hbT3 g e; omega)
      have hset : ∀ x y : SC, (cs ++ [x]).set i y = cs ++ [y] := fun x y => by
        rw [List.set_append_right _ _ (by rw [(unhide HI).c]; exact Nat.le_refl _), (unhide HI).c, Nat.sub_self]
        rfl
      rw [hset] at hs6
      have HM6 : Hid (∃ cs' dn' T', MI w w6 d (i + 1) cs' dn' T') := hide ⟨_, _, _, hs6, by simp [(unhide HI).c], by simp [(unhide HI).n], (fun q hq => by
        rcases List.mem_append.1 hq with hq' | hq'
        · exact (unhide HI).a q hq'
        · simp at hq'; subst hq'; rfl), (fun g hg => by
          rcases hg with hg | hg
          · exact hbT3 g hg
          · have := hg.1; have := hfw5.size; omega), hfw6⟩
      clear h2 h3 h5 hb hbT3 hfw3 hfw5 hfw6 hs6 hf6 HF5 HS3 HF2 hset
      go_wp2_with fail
      go_roundw
      case rel =>
        obtain ⟨cs', dn', T', hm⟩ := unhide HM6
        exact ⟨i + 1, cs', dn', T', by omega, by go_num, hm⟩
      case measure => simp [intOf]; omega
    · obtain rfl : i = 4096 := by omega
      clear hlt
      go_wp2_with fail
      refine (create_any _).mono ?_
      rintro e w2 ⟨rfl, hf2⟩
      have HC := hide (((unhide HI).s.fr0 hf2).full crR [] (Rd.nil w2 5) (by simp) (fun f hf => by simp at hf) rfl (unhide HI).c)
      have HF2 := hide hf2
      clear hf2
      go_wp2_with fail
      refine (unhide HC).mono ?_
      rintro e w3 ⟨rfl, hf3⟩
      have HF3 := hide hf3
      clear HC hf3
      have heq := eql_00
      go_wp2_with fail
      have hs4 : SS (w3.alloc (.cells #[.int .u32 0, .int .u32 0] 29)) d 15 cs dn T := (((unhide HI).s.fr0 (unhide HF2)).fr0 (unhide HF3)).fr0 (box1 _ _)
      have hl := (unhide HI).n
      refine hs4.done.mono ?_
      rintro e w5 ⟨v5, rfl, ho5, hf5⟩
      obtain ⟨ao5, cap5, e5⟩ := own_formX ho5
      rw [List.length_map, hl] at e5
      subst e5
      have hs5 := hs4.fr0 hf5
      have HS5 := hide (And.intro hs5 hf5)
      clear hs4 hs5 hf5 ho5 hl
      go_wp2_with fail
      refine (unhide HS5).1.waiting.mono ?_
      rintro e w6 ⟨v6, rfl, ho6, hf6⟩
      rw [wl_nil (unhide HI).a] at ho6
      obtain ⟨ao6, cap6, e6⟩ := own_formX ho6
      have e6' : v6 = .slice ao6 0 cap6 := e6
      subst e6'
      have HF6 : Hid (Fr (fun _ => False) w w6) := hide ((((((unhide HI).f.trans0 (unhide HF2)).trans0 (unhide HF3)).trans0 (box1 _ _)).trans0 (unhide HS5).2).trans0 hf6)
      clear ho6 hf6 e6
      go_wp2_with fail
      go_ret
      exact ⟨rfl, unhide HF6⟩
end Go.Proofs.Ytkiepcdncegniaa

namespace Go.Proofs.Ytkiepcdncegniaa
open Go.RowKit

theorem scells_app (a : List SM) (s : SM) : scells (a ++ [s]) = scells a ++ [.int .u32 (s.au : Nat), .int .u32 (s.ev : Nat), .int .u32 (s.nf : Nat), .bool s.rd] := by simp [scells]
/-- append(l, s). -/
theorem app_sum (w : World) (base : Nat) (v : Value) (l : List SM) (s : SM) (h : OwS w base v l) (hb : base ≤ w.heap.size) (hl : l.length ≤ 1000000000) :
    ∃ ao cap w', (Builtin.append_ #[42, 42] 42 #[v, .slice (some ⟨w.heap.size, 0, none⟩) 1 1]).run Try.prog (w.alloc (.cells #[.int .u32 (s.au : Nat), .int .u32 (s.ev : Nat), .int .u32 (s.nf : Nat), .bool s.rd] 81)) = .ok (.slice ao (l.length + 1) cap) w' ∧ OwS w' base (.slice ao (l.length + 1) cap) (l ++ [s]) ∧ Fr (fun g => v.ownBlock = some g) w w' ∧
      ∀ g, (Value.slice ao (l.length + 1) cap).ownBlock = some g → v.ownBlock = some g ∨ w.heap.size ≤ g := by
  obtain ⟨i0, hi, hz0, hz1, hz2⟩ := info_parts Try.infoSm
  have hb' := ownsRow_of_block (w' := w.alloc (.cells #[.int .u32 (s.au : Nat), .int .u32 (s.ev : Nat), .int .u32 (s.nf : Nat), .bool s.rd] 81)) h (fun g hg => Below.heap_alloc _ _ _ (h.lt g hg).2)
  obtain ⟨v', w', hr, h2, h3, _, h5⟩ := run_append_own_at (P := Try.prog) (w := w.alloc (.cells #[.int .u32 (s.au : Nat), .int .u32 (s.ev : Nat), .int .u32 (s.nf : Nat), .bool s.rd] 81)) base 42 42 81 i0 (.agg #[.int .u32 0, .int .u32 0, .int .u32 0, .bool false]) 4 16 Try.underlying42 hi hz0 hz1 hz2 rfl (by decide) v l.length (scells l) hb' ⟨w.heap.size, 0, none⟩ 1 1 [.int .u32 (s.au : Nat), .int .u32 (s.ev : Nat), .int .u32 (s.nf : Nat), .bool s.rd] rfl (fun j u hu => by
    rw [addr_add, World.cell?_alloc_at _ _ _ _ rfl]; simpa using hu) (fun u hu => by simp at hu; rcases hu with rfl | rfl | rfl | rfl <;> rfl) (by simp only [maxLen]; omega) (by omega) (by simp; omega)
  obtain ⟨ao, cap, rfl⟩ := own_formX h2
  refine ⟨ao, cap, w', hr, by unfold OwS; rw [scells_app, List.length_append, List.length_singleton]; exact h2, ((box1 w _).mono (fun _ _ h => h.elim)).grown h3 (fun g hg => .inl hg), fun g hg => ?_⟩
  rcases h5 with e | e
  · rw [e] at hg; exact .inl hg
  · rw [e] at hg; cases hg; exact .inr (by simp)
/-- Strings of one's own. -/
def OwT (w : World) (base : Nat) (v : Value) (l : List ByteArray) : Prop := w.ownsRow base 9 1 v l.length (l.map Value.string)
theorem Try.infoTx : (Try.prog.info? 9).map (fun i => (i.zero, i.size, i.bytes)) = some (some (.string ⟨#[]⟩), 1, 16) := by kernel_rfl
/-- append(l, t). -/
theorem app_txt (w : World) (base : Nat) (v : Value) (l : List ByteArray) (s : ByteArray) (h : OwT w base v l) (hb : base ≤ w.heap.size) (hl : l.length ≤ 1000000000) :
    ∃ ao cap w', (Builtin.append_ #[76, 76] 76 #[v, .slice (some ⟨w.heap.size, 0, none⟩) 1 1]).run Try.prog (w.alloc (.cells #[.string s] 9)) = .ok (.slice ao (l.length + 1) cap) w' ∧ OwT w' base (.slice ao (l.length + 1) cap) (l ++ [s]) ∧ Fr (fun g => v.ownBlock = some g) w w' ∧
      ∀ g, (Value.slice ao (l.length + 1) cap).ownBlock = some g → v.ownBlock = some g ∨ w.heap.size ≤ g := by
  obtain ⟨i0, hi, hz0, hz1, hz2⟩ := info_parts Try.infoTx
  have hb' := ownsRow_of_block (w' := w.alloc (.cells #[.string s] 9)) h (fun g hg => Below.heap_alloc _ _ _ (h.lt g hg).2)
  obtain ⟨v', w', hr, h2, h3, _, h5⟩ := run_append_own_at (P := Try.prog) (w := w.alloc (.cells #[.string s] 9)) base 76 76 9 i0 (.string ⟨#[]⟩) 1 16 Try.underlying76 hi hz0 hz1 hz2 rfl (by decide) v l.length (l.map Value.string) hb' ⟨w.heap.size, 0, none⟩ 1 1 [.string s] rfl (fun j u hu => by
    rw [addr_add, World.cell?_alloc_at _ _ _ _ rfl]; simpa using hu) (fun u hu => by simp at hu; subst hu; rfl) (by simp only [maxLen]; omega) (by omega) (by simp; omega)
  obtain ⟨ao, cap, rfl⟩ := own_formX h2
  refine ⟨ao, cap, w', hr, by unfold OwT; rw [List.map_append, List.length_append, List.length_singleton]; exact h2, ((box1 w _).mono (fun _ _ h => h.elim)).grown h3 (fun g hg => .inl hg), fun g hg => ?_⟩
  rcases h5 with e | e
  · rw [e] at hg; exact .inl hg
  · rw [e] at hg; cases hg; exact .inr (by simp)
end Go.Proofs.Ytkiepcdncegniaa

namespace Go.Proofs.Ytkiepcdncegniaa
open Go.RowKit Go.Maps

theorem own_set {w : World} {base e size n g cap : Nat} {xs : List Value} {v : Value} (h : w.ownsRow base e size v n xs) (hv : v = .slice (some ⟨g, 0, none⟩) n cap) (j : Nat) (u : Value) : (w.setCell ⟨g, j, none⟩ u).ownsRow base e size v n (xs.set j u) := by
  subst hv
  exact (h.stored j u).1
/-- Out, where one request waits. -/
theorem SS.out1 {w : World} {d c : Nat} {q : SC} {T : Nat → Prop} (h : SS w d c [q] [] T) (hd : q.d = none) :
    Calls Try.prog 13 #[.pointer (some ⟨d, 0, none⟩)] w fun e w' => ∃ gh ch tv v, e = .returned (.tuple #[.slice (some ⟨gh, 0, none⟩) 1 ch, tv]) ∧ (1 ≤ ch ∧ w.heap.size ≤ gh ∧ gh < w'.heap.size) ∧ w'.cell? ⟨gh, 9, none⟩ = some v ∧ OwF w' w.heap.size v q.F ∧ v.ownBlock ≠ some gh ∧ Fr (fun _ => False) w w' := by
  refine h.out.mono ?_
  rintro e w5 ⟨hv, tv, rfl, W2, R, hfo, hO⟩
  have hwl : wl [q] = [1] := by simp [wl, hd]
  rw [hwl] at hO
  have hR1 : R.length = 1 := hO.rl
  obtain ⟨r, rfl⟩ : ∃ r, R = [r] := by
    match R, hR1 with
    | [r], _ => exact ⟨r, rfl⟩
  obtain ⟨k, q', hk, hq, v', hr, hF⟩ := hO.rr 0 r rfl
  rw [hwl] at hk
  obtain rfl : 1 = k := by simpa using hk
  obtain rfl : q = q' := by simpa using hq
  subst hr
  obtain ⟨gh, ch, rfl, hgb, hgc⟩ := own_one_form hO.h (by simp)
  have hc9 : w5.cell? ⟨gh, 9, none⟩ = some v' := hgc 9 _ rfl
  have hcap : 1 ≤ ch := by
    rcases hO.h.2 with ⟨e, _⟩ | ⟨g', cap', cur, e, _, _, h3, _⟩
    · cases e
    · simp only [Value.slice.injEq] at e
      rw [e.2.2]
      exact h3
  refine ⟨gh, ch, tv, v', rfl, ⟨hcap, Nat.le_trans hfo.size hgb, lt_of_cell hc9⟩, hc9, ownsRow_base hF hfo.size, fun e => ?_, hfo.trans0 hO.fr⟩
  obtain ⟨c1, h1⟩ := own_blk hF e
  obtain ⟨c2, h2⟩ := own_blk hO.h (g := gh) rfl
  rw [h1] at h2
  simp only [Option.some.injEq, Obj.cells.injEq] at h2
  exact absurd h2.2.1 (by decide)
def fN (s : ByteArray) : F5 := ⟨s, 0, ⟨#[]⟩, 0, 0⟩
def sN (i : Nat) : SM := ⟨i, 0, 0, false⟩
/-- The message of SessionKept. -/
def mK (fv hv : Value) : List Value := .int .u8 3 :: (zR ++ ([.int .u32 0, .int .u32 0] ++ ((⟨2, 1, 0, 1, 1, fv, hv⟩ : AN).cs ++ (.int .u8 0 :: (zE ++ [.int .u32 0])))))
theorem mK_x (fv hv : Value) : MsX (mK fv hv) 3 0 0 0 ⟨2, 1, 0, 1, 1, fv, hv⟩ := ⟨rfl, rfl, rfl, fun j v hj => by
  have h7 : j < 7 := (List.getElem?_eq_some_iff.1 hj).1
  match j, h7 with
  | 0, _ => exact hj
  | 1, _ => exact hj
  | 2, _ => exact hj
  | 3, _ => exact hj
  | 4, _ => exact hj
  | 5, _ => exact hj
  | 6, _ => exact hj, rfl⟩
theorem mK_one (fv hv : Value) (h1 : fv.oneCell' = true) (h2 : hv.oneCell' = true) : ∀ v ∈ mK fv hv, v.oneCell' = true := List.all_eq_true.1 (show List.all (mK fv hv) (fun v => v.oneCell') = true by simp [mK, AN.cs, zR, zE, Value.oneCell']; exact ⟨h1, h2⟩)
/-- SessionKept, ahead of Take. -/
structure KB (w W : World) (d M gh gf cf : Nat) (q : SC) (T : Nat → Prop) (F : List F5) (H : List SM) (S : List ByteArray) (fv hv wv : Value) : Prop where
  s : SS W d 2 [q] [] T
  hm : W.cell? ⟨gh, 9, none⟩ = some (.slice (some ⟨gf, 0, none⟩) 2 cf)
  hg : W.cell? ⟨gf, 0, none⟩ = some (.string ⟨#[97]⟩)
  m : W.heap[M]? = some (.cells (mK fv hv).toArray 49)
  f : OwF W (M + 1) fv F
  h : OwS W (M + 1) hv H
  t : OwT W (M + 1) wv S
  ap : ∀ g, (fv.ownBlock = some g → hv.ownBlock ≠ some g ∧ wv.ownBlock ≠ some g) ∧ (hv.ownBlock = some g → wv.ownBlock ≠ some g)
  lt : w.heap.size ≤ M ∧ gh < M ∧ gf < M ∧ ∀ g, T g → w.heap.size ≤ g ∧ g < M
  fr : Fr (fun _ => False) w W
theorem own_ge {w : World} {base e z n g : Nat} {v : Value} {xs : List Value} (h : w.ownsRow base e z v n xs) (hg : v.ownBlock = some g) : base ≤ g := (h.lt g hg).1
theorem KB.fr0 {w W W' : World} {d M gh gf cf : Nat} {q : SC} {T : Nat → Prop} {F : List F5} {H : List SM} {S : List ByteArray} {fv hv wv : Value} (h : KB w W d M gh gf cf q T F H S fv hv wv) (hf : Fr (fun _ => False) W W') : KB w W' d M gh gf cf q T F H S fv hv wv :=
  ⟨h.s.fr0 hf, (hf.cell (p := ⟨gh, 9, none⟩) (lt_of_cell h.hm) (fun h => h)).trans h.hm, (hf.cell (p := ⟨gf, 0, none⟩) (lt_of_cell h.hg) (fun h => h)).trans h.hg, (hf.block M (lt_of_block h.m) (fun h => h)).trans h.m, h.f.fr hf (fun _ _ h => h), ownsRow_of_block h.h (fun g hg => hf.block g (h.h.lt g hg).2 (fun h => h)), ownsRow_of_block h.t (fun g hg => hf.block g (h.t.lt g hg).2 (fun h => h)), h.ap, h.lt, h.fr.trans0 hf⟩
/-- One field more. -/
theorem KB.fld {w W W' : World} {d M gh gf cf : Nat} {q : SC} {T : Nat → Prop} {F F' : List F5} {H : List SM} {S : List ByteArray} {fv fv' hv wv : Value} (h : KB w W d M gh gf cf q T F H S fv hv wv) (h2 : OwF W' (M + 1) fv' F') (hf : Fr (fun g => fv.ownBlock = some g) W W') (hb : ∀ g, fv'.ownBlock = some g → fv.ownBlock = some g ∨ W.heap.size ≤ g) : KB w (W'.setCell ⟨M, 18, none⟩ fv') d M gh gf cf q T F' H S fv' hv wv := by
  have hM := lt_of_block h.m
  have nM : fv.ownBlock ≠ some M := fun e => by have := own_ge h.f e; omega
  have hfs : Fr (fun g => fv.ownBlock = some g ∨ g = M) W (W'.setCell ⟨M, 18, none⟩ fv') := (hf.mono (fun _ _ e => .inl e)).setCell (p := ⟨M, 18, none⟩) (.inl (.inr rfl)) _
  have hlo : ∀ g, g < M → ¬ (fv.ownBlock = some g ∨ g = M) := fun g hg e => by
    rcases e with e | e
    · have := own_ge h.f e; omega
    · omega
  have hf2 : Fr (fun g => g = M) W' (W'.setCell ⟨M, 18, none⟩ fv') := (Fr.refl (fun g => g = M) _).setCell (p := ⟨M, 18, none⟩) (.inl rfl) _
  refine ⟨h.s.fr hfs (fun g hg => hlo g (h.lt.2.2.2 g hg).2), (hfs.cell (p := ⟨gh, 9, none⟩) (lt_of_cell h.hm) (hlo gh h.lt.2.1)).trans h.hm, (hfs.cell (p := ⟨gf, 0, none⟩) (lt_of_cell h.hg) (hlo gf h.lt.2.2.1)).trans h.hg, ?_, ?_, ?_, ?_, fun g => ⟨fun e => ?_, (h.ap g).2⟩, h.lt, ?_⟩
  · rw [blkset ((hf.block M hM nM).trans h.m)]
    simp [mK, AN.cs, zR]
  · exact h2.fr hf2 (fun g hg e => by have := own_ge h2 hg; omega)
  · refine ownsRow_of_block h.h (fun g hg => hfs.block g (h.h.lt g hg).2 (fun e => ?_))
    rcases e with e | e
    · exact ((h.ap g).1 e).1 hg
    · have := own_ge h.h hg; omega
  · refine ownsRow_of_block h.t (fun g hg => hfs.block g (h.t.lt g hg).2 (fun e => ?_))
    rcases e with e | e
    · exact ((h.ap g).1 e).2 hg
    · have := own_ge h.t hg; omega
  · rcases hb g e with e | e
    · exact (h.ap g).1 e
    · exact ⟨fun e2 => by have := (h.h.lt g e2).2; omega, fun e2 => by have := (h.t.lt g e2).2; omega⟩
  · exact h.fr.trans hfs (fun g hg e => hlo g (by have := h.lt.1; omega) e)
/-- One summary more. -/
theorem KB.sum {w W W' : World} {d M gh gf cf : Nat} {q : SC} {T : Nat → Prop} {F : List F5} {H H' : List SM} {S : List ByteArray} {fv hv hv' wv : Value} (h : KB w W d M gh gf cf q T F H S fv hv wv) (h2 : OwS W' (M + 1) hv' H') (hf : Fr (fun g => hv.ownBlock = some g) W W') (hb : ∀ g, hv'.ownBlock = some g → hv.ownBlock = some g ∨ W.heap.size ≤ g) : KB w (W'.setCell ⟨M, 19, none⟩ hv') d M gh gf cf q T F H' S fv hv' wv := by
  have hM := lt_of_block h.m
  have nM : hv.ownBlock ≠ some M := fun e => by have := own_ge h.h e; omega
  have hfs : Fr (fun g => hv.ownBlock = some g ∨ g = M) W (W'.setCell ⟨M, 19, none⟩ hv') := (hf.mono (fun _ _ e => .inl e)).setCell (p := ⟨M, 19, none⟩) (.inl (.inr rfl)) _
  have hlo : ∀ g, g < M → ¬ (hv.ownBlock = some g ∨ g = M) := fun g hg e => by
    rcases e with e | e
    · have := own_ge h.h e; omega
    · omega
  have hf2 : Fr (fun g => g = M) W' (W'.setCell ⟨M, 19, none⟩ hv') := (Fr.refl (fun g => g = M) _).setCell (p := ⟨M, 19, none⟩) (.inl rfl) _
  refine ⟨h.s.fr hfs (fun g hg => hlo g (h.lt.2.2.2 g hg).2), (hfs.cell (p := ⟨gh, 9, none⟩) (lt_of_cell h.hm) (hlo gh h.lt.2.1)).trans h.hm, (hfs.cell (p := ⟨gf, 0, none⟩) (lt_of_cell h.hg) (hlo gf h.lt.2.2.1)).trans h.hg, ?_, ?_, ?_, ?_, fun g => ⟨fun e => ?_, fun e => ?_⟩, h.lt, ?_⟩
  · rw [blkset ((hf.block M hM nM).trans h.m)]
    simp [mK, AN.cs, zR]
  · refine h.f.fr hfs (fun g hg e => ?_)
    rcases e with e | e
    · exact ((h.ap g).1 hg).1 e
    · have := own_ge h.f hg; omega
  · exact ownsRow_of_block h2 (fun g hg => hf2.block g (h2.lt g hg).2 (fun e => by have := own_ge h2 hg; omega))
  · refine ownsRow_of_block h.t (fun g hg => hfs.block g (h.t.lt g hg).2 (fun e => ?_))
    rcases e with e | e
    · exact (h.ap g).2 e hg
    · have := own_ge h.t hg; omega
  · refine ⟨fun e2 => ?_, ((h.ap g).1 e).2⟩
    rcases hb g e2 with e2 | e2
    · exact ((h.ap g).1 e).1 e2
    · have := (h.f.lt g e).2; omega
  · rcases hb g e with e | e
    · exact (h.ap g).2 e
    · exact fun e2 => by have := (h.t.lt g e2).2; omega
  · exact h.fr.trans hfs (fun g hg e => hlo g (by have := h.lt.1; omega) e)
/-- One name more. -/
theorem KB.txt {w W W' : World} {d M gh gf cf : Nat} {q : SC} {T : Nat → Prop} {F : List F5} {H : List SM} {S S' : List ByteArray} {fv hv wv wv' : Value} (h : KB w W d M gh gf cf q T F H S fv hv wv) (h2 : OwT W' (M + 1) wv' S') (hfs : Fr (fun g => wv.ownBlock = some g) W W') (hb : ∀ g, wv'.ownBlock = some g → wv.ownBlock = some g ∨ W.heap.size ≤ g) : KB w W' d M gh gf cf q T F H S' fv hv wv' := by
  have hM := lt_of_block h.m
  have hlo : ∀ g, g ≤ M → ¬ wv.ownBlock = some g := fun g hg e => by have := own_ge h.t e; omega
  refine ⟨h.s.fr hfs (fun g hg => hlo g (by have := (h.lt.2.2.2 g hg).2; omega)), (hfs.cell (p := ⟨gh, 9, none⟩) (lt_of_cell h.hm) (hlo gh (by have := h.lt.2.1; omega))).trans h.hm, (hfs.cell (p := ⟨gf, 0, none⟩) (lt_of_cell h.hg) (hlo gf (by have := h.lt.2.2.1; omega))).trans h.hg, (hfs.block M hM (hlo M (Nat.le_refl _))).trans h.m, ?_, ?_, h2, fun g => ⟨fun e => ?_, fun e => ?_⟩, h.lt, ?_⟩
  · exact h.f.fr hfs (fun g hg e => ((h.ap g).1 hg).2 e)
  · exact ownsRow_of_block h.h (fun g hg => hfs.block g (h.h.lt g hg).2 (fun e => (h.ap g).2 hg e))
  · refine ⟨((h.ap g).1 e).1, fun e2 => ?_⟩
    rcases hb g e2 with e2 | e2
    · exact ((h.ap g).1 e).2 e2
    · have := (h.f.lt g e).2; omega
  · intro e2
    rcases hb g e2 with e2 | e2
    · exact (h.ap g).2 e e2
    · have := (h.h.lt g e).2; omega
  · exact h.fr.trans hfs (fun g hg e => hlo g (by have := h.lt.1; omega) e)
end Go.Proofs.Ytkiepcdncegniaa

namespace Go.Proofs.Ytkiepcdncegniaa
open Go.RowKit Go.Maps

/-- A call of the document's session, with what its lists hold. -/
structure RC where
  r : RQ
  F : List F5
  o : Nat
  a : AN
  G : List F5
  K : List SM
  c : Nat
  b : Nat
def RC.cs (x : RC) : List Value := x.r.cs ++ (.int .i64 (x.o : Nat) :: (x.a.cs ++ [.int .u8 (x.c : Nat), .int .i64 (x.b : Nat)]))
theorem RC.len (x : RC) : x.cs.length = 20 := rfl
/-- Its lists came in. -/
structure RC.Ok (w : World) (x : RC) : Prop where
  f : Rd w x.r.fv x.F.length 5 (fcells x.F)
  g : Rd w x.a.fv x.G.length 5 (fcells x.G)
  k : Rd w x.a.hv x.K.length 4 (scells x.K)
  fl : x.F.length ≤ 1048576
  gl : x.G.length ≤ 1048576
  kl : x.K.length ≤ 1048576
theorem RC.Ok.fr0 {w w' : World} {x : RC} (h : x.Ok w) (hf : Fr (fun _ => False) w w') : x.Ok w' := ⟨h.f.fr0 hf, h.g.fr0 hf, h.k.fr0 hf, h.fl, h.gl, h.kl⟩
theorem rd_one {w : World} {x : Value} {n z : Nat} {cs : List Value} (h : Rd w x n z cs) : x.oneCell' = true := by
  obtain ⟨xo, c, rfl, _⟩ := h.f
  rfl
theorem RC.Ok.one {w : World} {x : RC} (h : x.Ok w) : ∀ v ∈ x.cs, v.oneCell' = true := by
  have h1 := rd_one h.f
  have h2 := rd_one h.g
  have h3 := rd_one h.k
  exact List.all_eq_true.1 (show List.all x.cs (fun v => v.oneCell') = true by simp [RC.cs, RQ.cs, AN.cs, Value.oneCell']; exact ⟨h1, h2, h3⟩)
/-- Calls of one's own. -/
def OwC (w : World) (base : Nat) (v : Value) (l : List RC) : Prop := w.ownsRow base 66 20 v l.length (l.flatMap RC.cs)
theorem OwC.fr {w w' : World} {base : Nat} {v : Value} {l : List RC} {S : Nat → Prop} (h : OwC w base v l) (hf : Fr S w w') (hS : ∀ g, v.ownBlock = some g → ¬ S g) : OwC w' base v l := ownsRow_of_block h (fun g hg => hf.block g (h.lt g hg).2 (hS g hg))
theorem OwC.fr0 {w w' : World} {base : Nat} {v : Value} {l : List RC} (h : OwC w base v l) (hf : Fr (fun _ => False) w w') : OwC w' base v l := h.fr hf (fun _ _ h => h)
/-- The document's session. -/
def rsC (c : Nat) (v : Value) (got : Nat) : List Value := [.int .u32 (c : Nat), v, .int .i64 (got : Nat)]
theorem Try.sizeRs : (Try.prog.info? 60).map (·.size) = some 3 := by kernel_rfl
theorem Try.sizeCl : (Try.prog.info? 66).map (·.size) = some 20 := by kernel_rfl
set_option maxRecDepth 100000 in
/-- Id. -/
theorem gid_any (c : Nat) (v : Value) (got k : Nat) (w : World) (hk : k < 4294967296) :
    Calls Try.prog 21 #[.agg #[.int .u32 (c : Nat), v, .int .i64 (got : Nat)], .int .i64 (k : Nat)] w fun e w' => e = .returned (.agg #[.int .u32 (c : Nat), .int .u32 (k : Nat)]) ∧ Fr (fun _ => False) w w' := by
  have hw0 := wrapU0 k hk
  go_enter Try.func21, Try.ntmps21
  go_wp2_with fail
  refine bodyPost_ret (results_cell_mid rfl _ _ (w.heap.size + 1) 0 [.int .u32 (c : Nat), .int .u32 (k : Nat)] _ rfl (range_of_block (t := 29) ?_) Try.underlying29 rfl Try.sizeId2) rfl ?_
  · have := heap_alloc_new (w.alloc (.cells #[.int .u32 (c : Nat), v, .int .i64 (got : Nat)] 60)) (.cells #[.int .u32 (c : Nat), .int .u32 (k : Nat)] 29)
    rwa [World.size_alloc] at this
  · exact ⟨rfl, (box1 w _).alloc _⟩
end Go.Proofs.Ytkiepcdncegniaa

namespace Go.Proofs.Ytkiepcdncegniaa
open Go.RowKit Go.Maps

/-- The number of the request of an id, or 0. -/
def gnum (c n cl k : Nat) : Nat := if cl = c ∧ 1 ≤ k ∧ k ≤ n then k else 0
set_option maxRecDepth 100000 in
set_option maxHeartbeats 4000000 in
theorem gfind_any (c : Nat) (ao : Option Addr) (n cap got cl k : Nat) (w : World) (hn : n ≤ 4096) :
    Calls Try.prog 37 #[.agg #[.int .u32 (c : Nat), .slice ao n cap, .int .i64 (got : Nat)], .agg #[.int .u32 (cl : Nat), .int .u32 (k : Nat)]] w fun e w' => e = .returned (.int .i64 (gnum c n cl k : Nat)) ∧ Fr (fun _ => False) w w' := by
  go_enter Try.func37, Try.ntmps37
  have hb0 : ((w.alloc (.cells #[.int .u32 (c : Nat), .slice ao n cap, .int .i64 (got : Nat)] 60)).alloc (.cells #[.int .u32 (cl : Nat), .int .u32 (k : Nat)] 29)).heap[w.heap.size]? = some (.cells #[.int .u32 (c : Nat), .slice ao n cap, .int .i64 (got : Nat)] 60) := (Below.heap_alloc _ _ _ (by simp)).trans (heap_alloc_new w _)
  have hb1 : ((w.alloc (.cells #[.int .u32 (c : Nat), .slice ao n cap, .int .i64 (got : Nat)] 60)).alloc (.cells #[.int .u32 (cl : Nat), .int .u32 (k : Nat)] 29)).heap[w.heap.size + 1]? = some (.cells #[.int .u32 (cl : Nat), .int .u32 (k : Nat)] 29) := by
    have := heap_alloc_new (w.alloc (.cells #[.int .u32 (c : Nat), .slice ao n cap, .int .i64 (got : Nat)] 60)) (.cells #[.int .u32 (cl : Nat), .int .u32 (k : Nat)] 29)
    rwa [World.size_alloc] at this
  obtain ⟨W1, hW1⟩ : ∃ W1, (w.alloc (.cells #[.int .u32 (c : Nat), .slice ao n cap, .int .i64 (got : Nat)] 60)).alloc (.cells #[.int .u32 (cl : Nat), .int .u32 (k : Nat)] 29) = W1 := ⟨_, rfl⟩
  have hf1 : Fr (fun _ => False) w W1 := by rw [← hW1]; exact (box1 w _).alloc _
  rw [hW1] at hb0 hb1
  have HB := hide (And.intro hb0 (And.intro hb1 hf1))
  have HS : Hid (∀ W', Fr (fun _ => False) W1 W' → (fun W : World => W.rangeAt w.heap.size 0 [.int .u32 (c : Nat), .slice ao n cap, .int .i64 (got : Nat)] ∧ W.rangeAt (w.heap.size + 1) 0 [.int .u32 (cl : Nat), .int .u32 (k : Nat)]) W') := hide (fun W' hf => ⟨range_of_block ((hf.block _ (lt_of_block hb0) (fun h => h)).trans hb0), range_of_block ((hf.block _ (lt_of_block hb1) (fun h => h)).trans hb1)⟩)
  clear hb0 hb1 hf1
  go_wp2_with fail
  go_loopw [5] (fun iv wr => ∃ (i : Nat), 1 ≤ i ∧ i ≤ n + 1 ∧ iv = .int .i64 (i : Nat) ∧ (cl = c ∧ 1 ≤ k ∧ k ≤ n → i ≤ k) ∧ Fr (fun _ => False) W1 wr) (fun iv _ => n + 1 - (intOf iv).toNat)
  case atStart => exact ⟨1, Nat.le_refl _, by omega, rfl, fun h => h.2.1, Fr.refl _ _⟩
  case round =>
    clear hW1
    obtain ⟨i, hi1, hi2, rfl, hik, hfr⟩ := hrel
    rename World => wr
    have c1 : wr.cell? ⟨w.heap.size, 1, none⟩ = some (.slice ao n cap) := by
      have := (((unhide HS) wr hfr).1) 1 _ rfl
      simpa using this
    have HF := hide hfr
    clear hfr
    by_cases hlt : i ≤ n
    · have l1 : (i : Int) ≤ (n : Int) := by omega
      have hw1 := wrapS i (by omega)
      have hq : ∀ w : World, (binOp .eql 29 (.agg #[.int .u32 (cl : Nat), .int .u32 (k : Nat)]) (.agg #[.int .u32 (c : Nat), .int .u32 (i : Nat)])).run Try.prog w = .ok (.bool (decide (cl = c) && decide (k = i))) w := fun w => eql_id cl k c i w
      go_wp2_with fail
      refine wp_region_held_drew (S := (fun W : World => W.rangeAt w.heap.size 0 [.int .u32 (c : Nat), .slice ao n cap, .int .i64 (got : Nat)] ∧ W.rangeAt (w.heap.size + 1) 0 [.int .u32 (cl : Nat), .int .u32 (k : Nat)])) (by kernel_rfl) ((unhide HS) _ (unhide HF).drew) (fun hHeld => ?_)
      refine wtk (i := 0) rfl (yieldsIf_load_mid rfl 29 (.tmp 3) rfl (w.heap.size + 1) 0 rfl _ _ (fun w h => h.2) Try.underlying29 rfl Try.sizeId2) hHeld ?_
      (try simp only [Act.put, nrm])
      refine wtk (i := 1) rfl (yieldsIf_load_mid rfl 60 (.tmp 2) rfl w.heap.size 0 rfl _ _ (fun w h => h.1) Try.underlying60 rfl Try.sizeRs) hHeld ?_
      (try simp only [Act.put, nrm])
      refine wtk2 (i := 2) rfl hHeld ?_
      (try simp only [Act.put, nrm])
      refine wpAnyH_ready (rs := [3]) (by kernel_rfl) (by simp) (AllReadyH.cons rfl (fun K hK => ?_) AllReadyH.nil)
      go_simp
      refine (gid_any c (.slice ao n cap) got i _ (by omega)).mono ?_
      rintro e w4 ⟨rfl, hf4⟩
      have hf34 : Fr (fun _ => False) W1 w4 := (unhide HF).drew.trans0 hf4
      clear hf4
      try dsimp only
      refine hK.out _ _ ((unhide HS) _ hf34) (fun hHeld => ?_)
      clear hK K
      (try simp only [Act.put, nrm])
      refine wtk2 (i := 4) rfl hHeld ?_
      (try simp only [Act.put, nrm])
      refine wpAnyH_done (by kernel_rfl) ?_ _
      clear hHeld
      have HF4 := hide hf34
      clear hf34 hq
      by_cases hit : cl = c ∧ k = i
      · obtain ⟨rfl, rfl⟩ := hit
        have e1 : (decide (cl = cl) && decide (k = k)) = true := by simp
        rw [e1]
        go_wp2_with fail
        go_ret
        refine ⟨?_, (unhide HB).2.2.trans0 (unhide HF4)⟩
        simp [gnum, hi1, hlt]
      · have e1 : (decide (cl = c) && decide (k = i)) = false := by
          cases hx : (decide (cl = c) && decide (k = i)) with
          | false => rfl
          | true => simp only [Bool.and_eq_true, decide_eq_true_eq] at hx; exact absurd hx hit
        rw [e1]
        go_wp2_with fail
        go_roundw
        case rel => exact ⟨i + 1, by omega, by omega, by go_num, fun h => by have h1 := hik h; have : k ≠ i := fun e => hit ⟨h.1, e⟩; omega, unhide HF4⟩
        case measure => simp [intOf]; omega
    · have l1 : ¬ (i : Int) ≤ (n : Int) := by omega
      go_wp2_with fail
      go_ret
      refine ⟨?_, (unhide HB).2.2.trans0 (unhide HF)⟩
      have : ¬ (cl = c ∧ 1 ≤ k ∧ k ≤ n) := fun h => by have := hik h; omega
      simp only [gnum, if_neg this]
      rfl
end Go.Proofs.Ytkiepcdncegniaa

namespace Go.Proofs.Ytkiepcdncegniaa
open Go.RowKit Go.Maps

theorem Try.infoCl : (Try.prog.info? 66).map (fun i => (i.zero, i.size, i.bytes)) = some (some (.agg #[.int .u32 0, .int .u32 0, .int .u32 0, .int .u8 0, .int .u32 0, .int .u32 0, .int .u32 0, .int .u32 0, .slice none 0 0, .string ⟨#[]⟩, .int .i64 0, .int .u32 0, .int .u32 0, .int .u8 0, .int .u32 0, .int .u32 0, .slice none 0 0, .slice none 0 0, .int .u8 0, .int .i64 0]), 20, 168) := by kernel_rfl
theorem alloc_cl (w : World) : (Instr.alloc 66 true (.tuple #[])).run Try.prog w = .ok (.pointer (some ⟨w.heap.size, 0, none⟩)) (w.alloc (.cells #[.int .u32 0, .int .u32 0, .int .u32 0, .int .u8 0, .int .u32 0, .int .u32 0, .int .u32 0, .int .u32 0, .slice none 0 0, .string ⟨#[]⟩, .int .i64 0, .int .u32 0, .int .u32 0, .int .u8 0, .int .u32 0, .int .u32 0, .slice none 0 0, .slice none 0 0, .int .u8 0, .int .i64 0] 66)) := by
  obtain ⟨i0, hi, hz0, hz1, hz2⟩ := info_parts Try.infoCl
  simp [Instr.alloc, zeroValue, typeInfo, hi, hz0, go_sem]
theorem wpList_allocN {P : Program} {w w' : World} {ops : Array Oper} {rest : List Oper} {op : Oper} {a : Act} {Q : Exit → Act → World → Prop} (hgd : op.guard = none) (ty : TypeId) (ho : op.op = .alloc ty) (p : Value) (hr : (Instr.alloc ty true (.tuple #[])).run P w = .ok p w')
    (h : wpList P ops Q rest (a.put op.dst p) w') : wpList P ops Q (op :: rest) a w :=
  wpList_plain hgd fun _ hK => by
    unfold Oper.wp execOp
    simp only [ho, Sem.run_bind, hr, Result.andThen_ok, Sem.run_pure]
    exact hK _ _ h
theorem ccells_len (l : List RC) : (l.flatMap RC.cs).length = l.length * 20 := by
  induction l with
  | nil => rfl
  | cons x r ih => rw [List.flatMap_cons, List.length_append, ih, RC.len, List.length_cons]; omega
theorem ccells_at : ∀ (l : List RC) (i j : Nat) (x : RC), l[i]? = some x → j < 20 → (l.flatMap RC.cs)[i * 20 + j]? = x.cs[j]?
  | [], i, j, x, h, _ => by simp at h
  | y :: r, 0, j, x, h, hj => by
    simp only [List.getElem?_cons_zero, Option.some.injEq] at h
    subst h
    rw [List.flatMap_cons, Nat.zero_mul, Nat.zero_add, List.getElem?_append_left (by rw [RC.len]; exact hj)]
  | y :: r, i + 1, j, x, h, hj => by
    have ih := ccells_at r i j x (by simpa using h) hj
    rw [List.flatMap_cons, List.getElem?_append_right (by rw [RC.len]; omega), RC.len, ← ih]
    congr 1
    omega
/-- append(l, x). -/
theorem app_cl (w : World) (base : Nat) (v : Value) (l : List RC) (x : RC) (hx : ∀ u ∈ x.cs, u.oneCell' = true) (h : OwC w base v l) (hb : base ≤ w.heap.size) (hl : l.length ≤ 100000) :
    ∃ ao cap w', (Builtin.append_ #[58, 58] 58 #[v, .slice (some ⟨w.heap.size, 0, none⟩) 1 1]).run Try.prog (w.alloc (.cells x.cs.toArray 66)) = .ok (.slice ao (l.length + 1) cap) w' ∧ OwC w' base (.slice ao (l.length + 1) cap) (l ++ [x]) ∧ Fr (fun g => v.ownBlock = some g) w w' ∧
      ∀ g, (Value.slice ao (l.length + 1) cap).ownBlock = some g → v.ownBlock = some g ∨ w.heap.size ≤ g := by
  obtain ⟨i0, hi, hz0, hz1, hz2⟩ := info_parts Try.infoCl
  have hb' := ownsRow_of_block (w' := w.alloc (.cells x.cs.toArray 66)) h (fun g hg => Below.heap_alloc _ _ _ (h.lt g hg).2)
  obtain ⟨v', w', hr, h2, h3, _, h5⟩ := run_append_own_at (P := Try.prog) (w := w.alloc (.cells x.cs.toArray 66)) base 58 58 66 i0 (.agg #[.int .u32 0, .int .u32 0, .int .u32 0, .int .u8 0, .int .u32 0, .int .u32 0, .int .u32 0, .int .u32 0, .slice none 0 0, .string ⟨#[]⟩, .int .i64 0, .int .u32 0, .int .u32 0, .int .u8 0, .int .u32 0, .int .u32 0, .slice none 0 0, .slice none 0 0, .int .u8 0, .int .i64 0]) 20 168 Try.underlying58 hi hz0 hz1 hz2 rfl (by decide) v l.length (l.flatMap RC.cs) hb' ⟨w.heap.size, 0, none⟩ 1 1 x.cs rfl (fun j u hu => by
    rw [addr_add, World.cell?_alloc_at _ _ _ _ rfl]; simpa using hu) hx (by simp only [maxLen]; omega) (by omega) (by simp; omega)
  obtain ⟨ao, cap, rfl⟩ := own_formX h2
  refine ⟨ao, cap, w', hr, by unfold OwC; rw [List.flatMap_append, List.length_append, List.length_singleton]; simpa using h2, ((box1 w _).mono (fun _ _ h => h.elim)).grown h3 (fun g hg => .inl hg), fun g hg => ?_⟩
  rcases h5 with e | e
  · rw [e] at hg; exact .inl hg
  · rw [e] at hg; cases hg; exact .inr (by simp)
set_option maxRecDepth 100000 in
set_option maxHeartbeats 4000000 in
/-- with. -/
theorem gwith_any (c got base k : Nat) (v : Value) (l : List RC) (x : RC) (w : World) (h : OwC w base v l) (h1 : ∀ y ∈ l, ∀ u ∈ y.cs, u.oneCell' = true) (hx1 : ∀ u ∈ x.cs, u.oneCell' = true) (hk : k < l.length) (hl : l.length ≤ 4096) :
    Calls Try.prog 38 #[.agg #[.int .u32 (c : Nat), v, .int .i64 (got : Nat)], .int .i64 ((k : Int) + 1), .agg x.cs.toArray] w fun e w' => ∃ v', e = .returned (.agg #[.int .u32 (c : Nat), v', .int .i64 (got : Nat)]) ∧ OwC w' w.heap.size v' (l.set k x) ∧ Fr (fun _ => False) w w' := by
  obtain ⟨ao, cap, rfl⟩ := own_formX h
  obtain ⟨N, hN⟩ : ∃ N, l.length = N := ⟨_, rfl⟩
  have HO := hide h
  have H1 := hide (And.intro h1 hx1)
  have HNN := hide hN
  rw [hN] at hk hl HO ⊢
  clear h h1 hx1 hN
  obtain ⟨⟨xcl, xnu, xac, xop, xrc, xve, xwa, xow, xfv, xrs⟩, xF, xo, ⟨xdl, xdn, xdo, xdr, xdv, xgv, xhv⟩, xG, xK, xc, xb⟩ := x
  simp only [RC.cs, RQ.cs, AN.cs, List.cons_append, List.nil_append]
  go_enter Try.func38, Try.ntmps38
  obtain ⟨W1, hW1⟩ : ∃ W1, ((w.alloc (.cells #[.int .u32 (c : Nat), .slice ao N cap, .int .i64 (got : Nat)] 60)).alloc (.cells #[.int .u32 (xcl : Nat), .int .u32 (xnu : Nat), .int .u32 (xac : Nat), .int .u8 (xop : Nat), .int .u32 (xrc : Nat), .int .u32 (xve : Nat), .int .u32 (xwa : Nat), .int .u32 (xow : Nat), xfv, .string xrs, .int .i64 (xo : Nat), .int .u32 (xdl : Nat), .int .u32 (xdn : Nat), .int .u8 (xdo : Nat), .int .u32 (xdr : Nat), .int .u32 (xdv : Nat), xgv, xhv, .int .u8 (xc : Nat), .int .i64 (xb : Nat)] 66)).alloc (.cells #[.int .u32 0, .slice none 0 0, .int .i64 0] 60) = W1 := ⟨_, rfl⟩
  have hf1 : Fr (fun _ => False) w W1 := by rw [← hW1]; exact ((box1 w _).alloc _).alloc _
  have hb0 : W1.heap[w.heap.size]? = some (.cells #[.int .u32 (c : Nat), .slice ao N cap, .int .i64 (got : Nat)] 60) := by rw [← hW1]; exact (Below.heap_alloc _ _ _ (by simp; omega)).trans ((Below.heap_alloc _ _ _ (by simp)).trans (heap_alloc_new w _))
  have hb1 : W1.heap[w.heap.size + 1]? = some (.cells #[.int .u32 (xcl : Nat), .int .u32 (xnu : Nat), .int .u32 (xac : Nat), .int .u8 (xop : Nat), .int .u32 (xrc : Nat), .int .u32 (xve : Nat), .int .u32 (xwa : Nat), .int .u32 (xow : Nat), xfv, .string xrs, .int .i64 (xo : Nat), .int .u32 (xdl : Nat), .int .u32 (xdn : Nat), .int .u8 (xdo : Nat), .int .u32 (xdr : Nat), .int .u32 (xdv : Nat), xgv, xhv, .int .u8 (xc : Nat), .int .i64 (xb : Nat)] 66) := by
    rw [← hW1]
    refine (Below.heap_alloc _ _ _ (by simp)).trans ?_
    have := heap_alloc_new (w.alloc (.cells #[.int .u32 (c : Nat), .slice ao N cap, .int .i64 (got : Nat)] 60)) (.cells #[.int .u32 (xcl : Nat), .int .u32 (xnu : Nat), .int .u32 (xac : Nat), .int .u8 (xop : Nat), .int .u32 (xrc : Nat), .int .u32 (xve : Nat), .int .u32 (xwa : Nat), .int .u32 (xow : Nat), xfv, .string xrs, .int .i64 (xo : Nat), .int .u32 (xdl : Nat), .int .u32 (xdn : Nat), .int .u8 (xdo : Nat), .int .u32 (xdr : Nat), .int .u32 (xdv : Nat), xgv, xhv, .int .u8 (xc : Nat), .int .i64 (xb : Nat)] 66)
    rwa [World.size_alloc] at this
  have hb2 : W1.heap[w.heap.size + 1 + 1]? = some (.cells #[.int .u32 0, .slice none 0 0, .int .i64 0] 60) := by
    rw [← hW1]
    have := heap_alloc_new ((w.alloc (.cells #[.int .u32 (c : Nat), .slice ao N cap, .int .i64 (got : Nat)] 60)).alloc (.cells #[.int .u32 (xcl : Nat), .int .u32 (xnu : Nat), .int .u32 (xac : Nat), .int .u8 (xop : Nat), .int .u32 (xrc : Nat), .int .u32 (xve : Nat), .int .u32 (xwa : Nat), .int .u32 (xow : Nat), xfv, .string xrs, .int .i64 (xo : Nat), .int .u32 (xdl : Nat), .int .u32 (xdn : Nat), .int .u8 (xdo : Nat), .int .u32 (xdr : Nat), .int .u32 (xdv : Nat), xgv, xhv, .int .u8 (xc : Nat), .int .i64 (xb : Nat)] 66)) (.cells #[.int .u32 0, .slice none 0 0, .int .i64 0] 60)
    rwa [World.size_alloc, World.size_alloc] at this
  have HB := hide (And.intro hb0 (And.intro hb1 (And.intro hb2 hf1)))
  clear hb0 hb1 hb2 hf1
  go_wp2_with fail
  go_loopw [7, 8] (fun tv iv wr => ∃ (i : Nat), i ≤ N ∧ iv = .int .i64 (i : Nat) ∧ OwC wr W1.heap.size tv ((l.set k ⟨⟨xcl, xnu, xac, xop, xrc, xve, xwa, xow, xfv, xrs⟩, xF, xo, ⟨xdl, xdn, xdo, xdr, xdv, xgv, xhv⟩, xG, xK, xc, xb⟩).take i) ∧ Fr (fun _ => False) W1 wr) (fun _ iv _ => N - (intOf iv).toNat)
  case atStart => exact ⟨0, Nat.zero_le _, rfl, World.ownsRow_nil _ _ _ _, Fr.refl _ _⟩
  case round =>
    clear hW1
    obtain ⟨i, hi, rfl, hO, hfr⟩ := hrel
    rename World => wr
    have HI := hide (And.intro hO hfr)
    have c1 : wr.cell? ⟨w.heap.size, 1, none⟩ = some (.slice ao N cap) := cell_of_blk ((hfr.block _ (lt_of_block (unhide HB).1) (fun h => h)).trans (unhide HB).1) rfl
    clear hO hfr
    have hw2 : wrap64 ((k : Int) + 1 - 1) = (k : Int) := by unfold wrap64; omega
    by_cases hlt : i < N
    · have l1 : (i : Int) < (N : Int) := by omega
      have l3 : (0 : Int) ≤ (i : Int) := by omega
      have hw1 := wrapS i (by omega)
      have hlen : ((l.set k ⟨⟨xcl, xnu, xac, xop, xrc, xve, xwa, xow, xfv, xrs⟩, xF, xo, ⟨xdl, xdn, xdo, xdr, xdv, xgv, xhv⟩, xG, xK, xc, xb⟩).take i).length = i := by have := unhide HNN; simp; omega
      by_cases hik : i = k
      · subst hik
        have hT : (l.set i ⟨⟨xcl, xnu, xac, xop, xrc, xve, xwa, xow, xfv, xrs⟩, xF, xo, ⟨xdl, xdn, xdo, xdr, xdv, xgv, xhv⟩, xG, xK, xc, xb⟩).take (i + 1) = (l.set i ⟨⟨xcl, xnu, xac, xop, xrc, xve, xwa, xow, xfv, xrs⟩, xF, xo, ⟨xdl, xdn, xdo, xdr, xdv, xgv, xhv⟩, xG, xK, xc, xb⟩).take i ++ [⟨⟨xcl, xnu, xac, xop, xrc, xve, xwa, xow, xfv, xrs⟩, xF, xo, ⟨xdl, xdn, xdo, xdr, xdv, xgv, xhv⟩, xG, xK, xc, xb⟩] := by
          rw [List.take_add_one, List.getElem?_set_self (by have := unhide HNN; omega)]; rfl
        obtain ⟨bo, bc, W2, hap, ho, hf2, ht⟩ := app_cl wr W1.heap.size u7 ((l.set i ⟨⟨xcl, xnu, xac, xop, xrc, xve, xwa, xow, xfv, xrs⟩, xF, xo, ⟨xdl, xdn, xdo, xdr, xdv, xgv, xhv⟩, xG, xK, xc, xb⟩).take i) ⟨⟨xcl, xnu, xac, xop, xrc, xve, xwa, xow, xfv, xrs⟩, xF, xo, ⟨xdl, xdn, xdo, xdr, xdv, xgv, xhv⟩, xG, xK, xc, xb⟩ (unhide H1).2 (unhide HI).1 (unhide HI).2.size (by omega)
        rw [hlen] at hap ho ht
        have HAP : Hid ((Builtin.append_ #[58, 58] 58 #[u7, .slice (some ⟨wr.heap.size, 0, none⟩) 1 1]).run Try.prog (wr.alloc (.cells #[.int .u32 (xcl : Nat), .int .u32 (xnu : Nat), .int .u32 (xac : Nat), .int .u8 (xop : Nat), .int .u32 (xrc : Nat), .int .u32 (xve : Nat), .int .u32 (xwa : Nat), .int .u32 (xow : Nat), xfv, .string xrs, .int .i64 (xo : Nat), .int .u32 (xdl : Nat), .int .u32 (xdn : Nat), .int .u8 (xdo : Nat), .int .u32 (xdr : Nat), .int .u32 (xdv : Nat), xgv, xhv, .int .u8 (xc : Nat), .int .i64 (xb : Nat)] 66)) = .ok (.slice bo (i + 1) bc) W2) := hide hap
        have hfb : Fr (fun _ => False) W1 W2 := (unhide HI).2.trans hf2 (fun g hg e => by have := own_ge (unhide HI).1 e; omega)
        have HI2 : Hid (OwC W2 W1.heap.size (.slice bo (i + 1) bc) ((l.set i ⟨⟨xcl, xnu, xac, xop, xrc, xve, xwa, xow, xfv, xrs⟩, xF, xo, ⟨xdl, xdn, xdo, xdr, xdv, xgv, xhv⟩, xG, xK, xc, xb⟩).take (i + 1)) ∧ Fr (fun _ => False) W1 W2) := hide ⟨by rw [hT]; exact ho, hfb⟩
        have HR := hide (range_of_block (cs := [.int .u32 (xcl : Nat), .int .u32 (xnu : Nat), .int .u32 (xac : Nat), .int .u8 (xop : Nat), .int .u32 (xrc : Nat), .int .u32 (xve : Nat), .int .u32 (xwa : Nat), .int .u32 (xow : Nat), xfv, .string xrs, .int .i64 (xo : Nat), .int .u32 (xdl : Nat), .int .u32 (xdn : Nat), .int .u8 (xdo : Nat), .int .u32 (xdr : Nat), .int .u32 (xdv : Nat), xgv, xhv, .int .u8 (xc : Nat), .int .i64 (xb : Nat)]) (((unhide HI).2.block _ (lt_of_block (unhide HB).2.1) (fun h => h)).trans (unhide HB).2.1))
        clear hap ho hf2 ht hfb HI
        go_wp2_with (first | refine wpList_load_mid rfl 66 (.tmp 5) rfl (w.heap.size + 1) 0 rfl _ _ (unhide HR) Try.underlying66 rfl Try.sizeCl ?_ | refine wpList_app rfl (.tmp 20) (.tmp 22) 58 58 rfl _ _ _ (by simp [Act.eval]) (by simp [Act.eval]) (unhide HAP) ?_)
        go_roundw
        case rel => exact ⟨i + 1, by omega, by go_num, (unhide HI2).1, (unhide HI2).2⟩
        case measure => simp [intOf]; omega
      · have l4 : ¬ (i : Int) = (k : Int) := by omega
        have l5 : ((i : Int) == (k : Int)) = false := by simpa using l4
        obtain ⟨y, hy⟩ : ∃ y, l[i]? = some y := ⟨_, List.getElem?_eq_getElem (by have := unhide HNN; omega)⟩
        have hT : (l.set k ⟨⟨xcl, xnu, xac, xop, xrc, xve, xwa, xow, xfv, xrs⟩, xF, xo, ⟨xdl, xdn, xdo, xdr, xdv, xgv, xhv⟩, xG, xK, xc, xb⟩).take (i + 1) = (l.set k ⟨⟨xcl, xnu, xac, xop, xrc, xve, xwa, xow, xfv, xrs⟩, xF, xo, ⟨xdl, xdn, xdo, xdr, xdv, xgv, xhv⟩, xG, xK, xc, xb⟩).take i ++ [y] := by
          rw [List.take_add_one, List.getElem?_set_ne (fun e => hik e.symm), hy]; rfl
        have hy1 := (unhide H1).1 y (List.mem_of_getElem? hy)
        have hrow := unhide HO
        unfold OwC at hrow
        rw [unhide HNN] at hrow
        obtain ⟨g, cp, eg, _, hg⟩ := own_one_form hrow (by omega)
        cases eg
        have hcy : wr.rangeAt g (i * 20) y.cs := fun j u hu => by
          have h20 : j < 20 := by have := (List.getElem?_eq_some_iff.1 hu).1; rwa [RC.len] at this
          have := hg (i * 20 + j) u (by rw [ccells_at l i j y hy h20]; exact hu)
          exact (((unhide HB).2.2.2.trans0 (unhide HI).2).cell (p := ⟨g, i * 20 + j, none⟩) (lt_of_cell this) (fun h => h)).trans this
        obtain ⟨bo, bc, W2, hap, ho, hf2, ht⟩ := app_cl wr W1.heap.size u7 ((l.set k ⟨⟨xcl, xnu, xac, xop, xrc, xve, xwa, xow, xfv, xrs⟩, xF, xo, ⟨xdl, xdn, xdo, xdr, xdv, xgv, xhv⟩, xG, xK, xc, xb⟩).take i) y hy1 (unhide HI).1 (unhide HI).2.size (by omega)
        rw [hlen] at hap ho ht
        have hfb : Fr (fun _ => False) W1 W2 := (unhide HI).2.trans hf2 (fun g hg e => by have := own_ge (unhide HI).1 e; omega)
        have HI2 : Hid (OwC W2 W1.heap.size (.slice bo (i + 1) bc) ((l.set k ⟨⟨xcl, xnu, xac, xop, xrc, xve, xwa, xow, xfv, xrs⟩, xF, xo, ⟨xdl, xdn, xdo, xdr, xdv, xgv, xhv⟩, xG, xK, xc, xb⟩).take (i + 1)) ∧ Fr (fun _ => False) W1 W2) := hide ⟨by rw [hT]; exact ho, hfb⟩
        obtain ⟨⟨ycl, ynu, yac, yop, yrc, yve, ywa, yow, yfv, yrs⟩, yF, yo, ⟨ydl, ydn, ydo, ydr, ydv, ygv, yhv⟩, yG, yK, yc, yb⟩ := y
        simp only [RC.cs, RQ.cs, AN.cs, List.cons_append, List.nil_append] at hap hcy
        have HAP := hide hap
        have HR := hide hcy
        clear hap ho hf2 ht hfb HI hcy hy1 hrow hg hT hy
        go_wp2_with (first | refine wpList_load_mid rfl 66 (.tmp 28) rfl g (i * 20) rfl _ _ (unhide HR) Try.underlying66 rfl Try.sizeCl ?_ | refine wpList_app rfl (.tmp 24) (.tmp 30) 58 58 rfl _ _ _ (by simp [Act.eval]) (by simp [Act.eval]) (unhide HAP) ?_)
        go_roundw
        case rel => exact ⟨i + 1, by omega, by go_num, (unhide HI2).1, (unhide HI2).2⟩
        case measure => simp [intOf]; omega
    · obtain rfl : i = N := by omega
      have l1 : ¬ (i : Int) < (i : Int) := by omega
      have hlen : (l.set k ⟨⟨xcl, xnu, xac, xop, xrc, xve, xwa, xow, xfv, xrs⟩, xF, xo, ⟨xdl, xdn, xdo, xdr, xdv, xgv, xhv⟩, xG, xK, xc, xb⟩).length = i := by have := unhide HNN; simp; omega
      obtain ⟨hO, hfr⟩ := unhide HI
      rw [List.take_of_length_le (by omega)] at hO
      obtain ⟨bo, bc, rfl⟩ := own_formX hO
      rw [hlen] at hO HI ⊢
      have hb0 := (hfr.block _ (lt_of_block (unhide HB).1) (fun h => h)).trans (unhide HB).1
      have hb2 := (hfr.block _ (lt_of_block (unhide HB).2.2.1) (fun h => h)).trans (unhide HB).2.2.1
      have z1 : wr.frozen? ⟨w.heap.size, 1, none⟩ = false := by simp [World.frozen?, hb0]
      obtain ⟨W2, hW2⟩ : ∃ W2, wr.setCell ⟨w.heap.size, 1, none⟩ (.slice bo i bc) = W2 := ⟨_, rfl⟩
      have hf2 : Fr (fun g => g = w.heap.size) wr W2 := by rw [← hW2]; exact (Fr.refl (fun g => g = w.heap.size) _).setCell (p := ⟨w.heap.size, 1, none⟩) (.inl rfl) _
      have hb02 : W2.heap[w.heap.size]? = some (.cells [.int .u32 (c : Nat), .slice bo i bc, .int .i64 (got : Nat)].toArray 60) := by
        rw [← hW2, blkset hb0]
        simp
      have hb22 := (hf2.block _ (lt_of_block hb2) (fun e => by omega)).trans hb2
      obtain ⟨W3, hst, hb3, hf3⟩ := st_all (P := Try.prog) (ty := 60) [.int .u32 0, .slice none 0 0, .int .i64 0] [.int .u32 (c : Nat), .slice bo i bc, .int .i64 (got : Nat)] hb22 rfl Try.sizeRs (fun u hu => by simp at hu; rcases hu with rfl | rfl | rfl <;> rfl)
      have HR := hide (range_of_block hb02)
      have HST := hide hst
      have HE : Hid (OwC W3 w.heap.size (.slice bo i bc) (l.set k ⟨⟨xcl, xnu, xac, xop, xrc, xve, xwa, xow, xfv, xrs⟩, xF, xo, ⟨xdl, xdn, xdo, xdr, xdv, xgv, xhv⟩, xG, xK, xc, xb⟩) ∧ Fr (fun _ => False) w W3) := hide (by
        have z0 := (unhide HB).2.2.2.size
        have z3 : w.heap.size + 1 + 1 < W1.heap.size := lt_of_block (unhide HB).2.2.1
        refine ⟨ownsRow_base (base := W1.heap.size) (ownsRow_of_block hO (fun g hg => ?_)) z0, (((unhide HB).2.2.2.trans0 hfr).trans hf2 (fun g hg e => by omega)).trans hf3 (fun g hg e => by omega)⟩
        have hgl := hO.lt g hg
        exact (hf3.block g (Nat.lt_of_lt_of_le hgl.2 hf2.size) (fun e => by omega)).trans (hf2.block g hgl.2 (fun e => by omega)))
      have HB3 := hide (range_of_block hb3)
      clear hO hfr hb0 hb2 hf2 hb02 hb22 hst hb3 hf3 HI
      go_wp2_with (first | refine wpList_load_mid rfl 60 (.tmp 3) rfl w.heap.size 0 rfl _ _ (unhide HR) Try.underlying60 rfl Try.sizeRs ?_ | refine wpList_stN rfl 60 (.tmp 6) (.tmp 34) rfl _ _ rfl rfl (unhide HST) ?_)
      refine bodyPost_ret (results_cell_mid rfl _ _ (w.heap.size + 1 + 1) 0 _ _ rfl (unhide HB3) Try.underlying60 rfl Try.sizeRs) rfl ?_
      exact ⟨_, rfl, (unhide HE).1, (unhide HE).2⟩
end Go.Proofs.Ytkiepcdncegniaa

namespace Go.Proofs.Ytkiepcdncegniaa
open Go.RowKit Go.Maps

set_option maxRecDepth 100000 in
set_option maxHeartbeats 4000000 in
/-- SameRequest of two that tell the same. -/
theorem gsameReq_refl (r : RQ) (fv gv : Value) (F : List F5) (w : World) (hf : Fds w fv F) (hg : Fds w gv F) (hl : F.length ≤ 1048576) :
    Calls Try.prog 50 #[.agg (r.re fv).cs.toArray, .agg (r.re gv).cs.toArray] w fun e w' => e = .returned (.bool true) ∧ Fr (fun _ => False) w w' := by
  obtain ⟨cl, nu, ac, op, rc, ve, wa, ow, rv, rs⟩ := r
  simp only [RQ.re, RQ.cs]
  have HG := hide (fun W (h : Fr (fun _ => False) w W) => gfields_any fv gv F F W (hf.fr h) (hg.fr h) hl)
  obtain ⟨b1, hb1⟩ : ∃ b1, sameL sameF F F = b1 := ⟨_, rfl⟩
  rw [hb1] at HG
  obtain rfl : b1 = true := by rw [← hb1]; exact sameL_refl sameF_refl F
  obtain ⟨fo, fc, rfl⟩ := hf.form
  obtain ⟨go, gc, rfl⟩ := hg.form
  clear hb1 hf hg
  have hq : ∀ w : World, (binOp .eql 29 (.agg #[.int .u32 (cl : Nat), .int .u32 (nu : Nat)]) (.agg #[.int .u32 (cl : Nat), .int .u32 (nu : Nat)])).run Try.prog w = .ok (.bool true) w := fun w => by rw [eql_id]; simp
  go_enter Try.func50, Try.ntmps50
  go_wp2_with fail
  refine ((unhide HG) _ ((box1 w _).alloc _)).mono ?_
  rintro e w2 ⟨rfl, hf2⟩
  go_wp2_with fail
  go_ret
  exact ⟨rfl, ((box1 w _).alloc _).trans0 hf2⟩
end Go.Proofs.Ytkiepcdncegniaa

namespace Go.Proofs.Ytkiepcdncegniaa
open Go.RowKit Go.Maps

/-- A load of a struct that is guarded, where it is wanted. -/
theorem wpList_load_midG {P : Program} {ops : Array Oper} {rest : List Oper} {op : Oper} {a : Act} {w : World} {Q : Exit → Act → World → Prop} (hw : Region.wanted op (yielded ops a.tmps) = true) (ty : TypeId) (x : Operand) (ho : op.op = .load ty x)
    (b o : Nat) (hx : a.eval x = .pointer (some ⟨b, o, none⟩)) (cs : List Value) (d : TypeDesc) (hc : w.rangeAt b o cs)
    (hu : P.underlying ty = some d) (hd : d.isRow = true) (hi : (P.info? ty).map (·.size) = some cs.length)
    (h : wpList P ops Q rest (a.put op.dst (.agg cs.toArray)) w) : wpList P ops Q (op :: rest) a w :=
  wpList_step fun K hK => by rw [if_pos hw]; exact wp_load_mid ty x ho b o hx cs d hc hu hd hi (hK _ _ h)
/-- append(l, f), whatever is in l. -/
theorem app_fldR (w : World) (base : Nat) (v : Value) (n : Nat) (xs : List Value) (f : F5) (h : w.ownsRow base 79 5 v n xs) (hb : base ≤ w.heap.size) (hl : n ≤ 1000000000) :
    ∃ ao cap w', (Builtin.append_ #[32, 32] 32 #[v, .slice (some ⟨w.heap.size, 0, none⟩) 1 1]).run Try.prog (w.alloc (.cells #[.string f.n, .int .u8 (f.k : Nat), .string f.t, .float .f32 f.v, .int .u8 (f.u : Nat)] 79)) = .ok (.slice ao (n + 1) cap) w' ∧ (∃ ys, w'.ownsRow base 79 5 (.slice ao (n + 1) cap) (n + 1) ys) ∧ Fr (fun g => v.ownBlock = some g) w w' ∧
      ∀ g, (Value.slice ao (n + 1) cap).ownBlock = some g → v.ownBlock = some g ∨ w.heap.size ≤ g := by
  obtain ⟨i0, hi, hz0, hz1, hz2⟩ := info_parts Try.infoFl
  have hb' := ownsRow_of_block (w' := w.alloc (.cells #[.string f.n, .int .u8 (f.k : Nat), .string f.t, .float .f32 f.v, .int .u8 (f.u : Nat)] 79)) h (fun g hg => Below.heap_alloc _ _ _ (h.lt g hg).2)
  obtain ⟨v', w', hr, h2, h3, _, h5⟩ := run_append_own_at (P := Try.prog) (w := w.alloc (.cells #[.string f.n, .int .u8 (f.k : Nat), .string f.t, .float .f32 f.v, .int .u8 (f.u : Nat)] 79)) base 32 32 79 i0 (.agg #[.string ⟨#[]⟩, .int .u8 0, .string ⟨#[]⟩, .float .f32 0, .int .u8 0]) 5 48 Try.underlying32 hi hz0 hz1 hz2 rfl (by decide) v n xs hb' ⟨w.heap.size, 0, none⟩ 1 1 [.string f.n, .int .u8 (f.k : Nat), .string f.t, .float .f32 f.v, .int .u8 (f.u : Nat)] rfl (fun j u hu => by
    rw [addr_add, World.cell?_alloc_at _ _ _ _ rfl]; simpa using hu) (fun u hu => by simp at hu; rcases hu with rfl | rfl | rfl | rfl | rfl <;> rfl) (by simp only [maxLen]; omega) (by omega) (by simp; omega)
  obtain ⟨ao, cap, rfl⟩ := own_formX h2
  refine ⟨ao, cap, w', hr, ⟨_, h2⟩, ((box1 w _).mono (fun _ _ h => h.elim)).grown h3 (fun g hg => .inl hg), fun g hg => ?_⟩
  rcases h5 with e | e
  · rw [e] at hg; exact .inl hg
  · rw [e] at hg; cases hg; exact .inr (by simp)
/-- append(l, s), whatever is in l. -/
theorem app_sumR (w : World) (base : Nat) (v : Value) (n : Nat) (xs : List Value) (s : SM) (h : w.ownsRow base 81 4 v n xs) (hb : base ≤ w.heap.size) (hl : n ≤ 1000000000) :
    ∃ ao cap w', (Builtin.append_ #[42, 42] 42 #[v, .slice (some ⟨w.heap.size, 0, none⟩) 1 1]).run Try.prog (w.alloc (.cells #[.int .u32 (s.au : Nat), .int .u32 (s.ev : Nat), .int .u32 (s.nf : Nat), .bool s.rd] 81)) = .ok (.slice ao (n + 1) cap) w' ∧ (∃ ys, w'.ownsRow base 81 4 (.slice ao (n + 1) cap) (n + 1) ys) ∧ Fr (fun g => v.ownBlock = some g) w w' ∧
      ∀ g, (Value.slice ao (n + 1) cap).ownBlock = some g → v.ownBlock = some g ∨ w.heap.size ≤ g := by
  obtain ⟨i0, hi, hz0, hz1, hz2⟩ := info_parts Try.infoSm
  have hb' := ownsRow_of_block (w' := w.alloc (.cells #[.int .u32 (s.au : Nat), .int .u32 (s.ev : Nat), .int .u32 (s.nf : Nat), .bool s.rd] 81)) h (fun g hg => Below.heap_alloc _ _ _ (h.lt g hg).2)
  obtain ⟨v', w', hr, h2, h3, _, h5⟩ := run_append_own_at (P := Try.prog) (w := w.alloc (.cells #[.int .u32 (s.au : Nat), .int .u32 (s.ev : Nat), .int .u32 (s.nf : Nat), .bool s.rd] 81)) base 42 42 81 i0 (.agg #[.int .u32 0, .int .u32 0, .int .u32 0, .bool false]) 4 16 Try.underlying42 hi hz0 hz1 hz2 rfl (by decide) v n xs hb' ⟨w.heap.size, 0, none⟩ 1 1 [.int .u32 (s.au : Nat), .int .u32 (s.ev : Nat), .int .u32 (s.nf : Nat), .bool s.rd] rfl (fun j u hu => by
    rw [addr_add, World.cell?_alloc_at _ _ _ _ rfl]; simpa using hu) (fun u hu => by simp at hu; rcases hu with rfl | rfl | rfl | rfl <;> rfl) (by simp only [maxLen]; omega) (by omega) (by simp; omega)
  obtain ⟨ao, cap, rfl⟩ := own_formX h2
  refine ⟨ao, cap, w', hr, ⟨_, h2⟩, ((box1 w _).mono (fun _ _ h => h.elim)).grown h3 (fun g hg => .inl hg), fun g hg => ?_⟩
  rcases h5 with e | e
  · rw [e] at hg; exact .inl hg
  · rw [e] at hg; cases hg; exact .inr (by simp)
/-- SessionKept, behind Take: the message is spoilt. -/
structure KC (w W : World) (d M : Nat) (cs : List SC) (dn : List Nat) (T : Nat → Prop) (n : Nat) (S : List ByteArray) (fv hv wv : Value) : Prop where
  s : SS W d 2 cs dn T
  m : W.heap[M]? = some (.cells (mK fv hv).toArray 49)
  f : ∃ xs, W.ownsRow (M + 1) 79 5 fv n xs
  h : ∃ xs, W.ownsRow (M + 1) 81 4 hv n xs
  t : OwT W (M + 1) wv S
  ap : ∀ g, (fv.ownBlock = some g → hv.ownBlock ≠ some g ∧ wv.ownBlock ≠ some g) ∧ (hv.ownBlock = some g → wv.ownBlock ≠ some g)
  tl : w.heap.size ≤ M ∧ ∀ g, T g → w.heap.size ≤ g ∧ g ≠ M ∧ fv.ownBlock ≠ some g ∧ hv.ownBlock ≠ some g ∧ wv.ownBlock ≠ some g
  fr : Fr (fun _ => False) w W
theorem KB.taken {w W W' : World} {d M gh gf cf n : Nat} {q : SC} {T : Nat → Prop} {F : List F5} {H : List SM} {S : List ByteArray} {fv hv wv : Value} {cs : List SC} {dn : List Nat} (h : KB w W d M gh gf cf q T F H S fv hv wv) (hF : F.length = n) (hH : H.length = n) (hs : SS W' d 2 cs dn (Tn T W W')) (hf : Fr T W W') : KC w W' d M cs dn (Tn T W W') n S fv hv wv := by
  have hlo : ∀ g, M ≤ g → ¬ T g := fun g hg e => by have := (h.lt.2.2.2 g e).2; omega
  have hM := lt_of_block h.m
  refine ⟨hs, (hf.block M hM (hlo M (Nat.le_refl _))).trans h.m, ⟨fcells F, ?_⟩, ⟨scells H, ?_⟩, ?_, h.ap, ⟨h.lt.1, fun g hg => ?_⟩, h.fr.trans hf (fun g hg e => by have := (h.lt.2.2.2 g e).1; omega)⟩
  · subst hF; exact ownsRow_of_block h.f (fun g hg => hf.block g (h.f.lt g hg).2 (hlo g (by have := own_ge h.f hg; omega)))
  · subst hH; exact ownsRow_of_block h.h (fun g hg => hf.block g (h.h.lt g hg).2 (hlo g (by have := own_ge h.h hg; omega)))
  · exact ownsRow_of_block h.t (fun g hg => hf.block g (h.t.lt g hg).2 (hlo g (by have := own_ge h.t hg; omega)))
  · rcases hg with hg | hg
    · have h2 := h.lt.2.2.2 g hg
      exact ⟨h2.1, by omega, fun e => by have := own_ge h.f e; omega, fun e => by have := own_ge h.h e; omega, fun e => by have := own_ge h.t e; omega⟩
    · have h1 := hg.1
      have h2 := h.fr.size
      exact ⟨by omega, by omega, fun e => by have := (h.f.lt g e).2; omega, fun e => by have := (h.h.lt g e).2; omega, fun e => by have := (h.t.lt g e).2; omega⟩
theorem KC.fr0 {w W W' : World} {d M n : Nat} {cs : List SC} {dn : List Nat} {T : Nat → Prop} {S : List ByteArray} {fv hv wv : Value} (h : KC w W d M cs dn T n S fv hv wv) (hf : Fr (fun _ => False) W W') : KC w W' d M cs dn T n S fv hv wv := by
  obtain ⟨xs, hx⟩ := h.f
  obtain ⟨ys, hy⟩ := h.h
  exact ⟨h.s.fr0 hf, (hf.block M (lt_of_block h.m) (fun h => h)).trans h.m, ⟨xs, ownsRow_of_block hx (fun g hg => hf.block g (hx.lt g hg).2 (fun h => h))⟩, ⟨ys, ownsRow_of_block hy (fun g hg => hf.block g (hy.lt g hg).2 (fun h => h))⟩, ownsRow_of_block h.t (fun g hg => hf.block g (h.t.lt g hg).2 (fun h => h)), h.ap, h.tl, h.fr.trans0 hf⟩
theorem KC.setF {w W : World} {d M n : Nat} {cs : List SC} {dn : List Nat} {T : Nat → Prop} {S : List ByteArray} {hv wv : Value} {g c : Nat} (h : KC w W d M cs dn T n S (.slice (some ⟨g, 0, none⟩) n c) hv wv) (j : Nat) (u : Value) : KC w (W.setCell ⟨g, j, none⟩ u) d M cs dn T n S (.slice (some ⟨g, 0, none⟩) n c) hv wv := by
  obtain ⟨xs, hx⟩ := h.f
  obtain ⟨ys, hy⟩ := h.h
  have hg := own_ge hx (g := g) rfl
  have hf : Fr (fun k => k = g) W (W.setCell ⟨g, j, none⟩ u) := (Fr.refl (fun k => k = g) _).setCell (p := ⟨g, j, none⟩) (.inl rfl) _
  refine ⟨h.s.fr hf (fun k hk e => (h.tl.2 k hk).2.2.1 (by rw [e]; rfl)), (hf.block M (lt_of_block h.m) (fun e => by omega)).trans h.m, ⟨_, own_set hx rfl j u⟩, ⟨ys, ownsRow_of_block hy (fun k hk => hf.block k (hy.lt k hk).2 (fun e => ((h.ap k).1 (by rw [e]; rfl)).1 hk))⟩, ownsRow_of_block h.t (fun k hk => hf.block k (h.t.lt k hk).2 (fun e => ((h.ap k).1 (by rw [e]; rfl)).2 hk)), h.ap, h.tl, h.fr.trans hf (fun k hk e => by have := h.tl.1; omega)⟩
theorem KC.setH {w W : World} {d M n : Nat} {cs : List SC} {dn : List Nat} {T : Nat → Prop} {S : List ByteArray} {fv wv : Value} {g c : Nat} (h : KC w W d M cs dn T n S fv (.slice (some ⟨g, 0, none⟩) n c) wv) (j : Nat) (u : Value) : KC w (W.setCell ⟨g, j, none⟩ u) d M cs dn T n S fv (.slice (some ⟨g, 0, none⟩) n c) wv := by
  obtain ⟨xs, hx⟩ := h.f
  obtain ⟨ys, hy⟩ := h.h
  have hg := own_ge hy (g := g) rfl
  have hf : Fr (fun k => k = g) W (W.setCell ⟨g, j, none⟩ u) := (Fr.refl (fun k => k = g) _).setCell (p := ⟨g, j, none⟩) (.inl rfl) _
  refine ⟨h.s.fr hf (fun k hk e => (h.tl.2 k hk).2.2.2.1 (by rw [e]; rfl)), (hf.block M (lt_of_block h.m) (fun e => by omega)).trans h.m, ⟨xs, ownsRow_of_block hx (fun k hk => hf.block k (hx.lt k hk).2 (fun e => ((h.ap k).1 hk).1 (by rw [e]; rfl)))⟩, ⟨_, own_set hy rfl j u⟩, ownsRow_of_block h.t (fun k hk => hf.block k (h.t.lt k hk).2 (fun e => (h.ap k).2 (by rw [e]; rfl) hk)), h.ap, h.tl, h.fr.trans hf (fun k hk e => by have := h.tl.1; omega)⟩
/-- The session, and the names that are wanted. -/
structure KD (w W : World) (d : Nat) (cs : List SC) (dn : List Nat) (T : Nat → Prop) (S : List ByteArray) (wv : Value) : Prop where
  s : SS W d 2 cs dn T
  t : OwT W w.heap.size wv S
  tl : ∀ g, T g → w.heap.size ≤ g ∧ wv.ownBlock ≠ some g
  fr : Fr (fun _ => False) w W
theorem KC.kd {w W : World} {d M n : Nat} {cs : List SC} {dn : List Nat} {T : Nat → Prop} {S : List ByteArray} {fv hv wv : Value} (h : KC w W d M cs dn T n S fv hv wv) : KD w W d cs dn T S wv :=
  ⟨h.s, ownsRow_base h.t (by have := h.tl.1; omega), fun g hg => ⟨(h.tl.2 g hg).1, (h.tl.2 g hg).2.2.2.2⟩, h.fr⟩
theorem KD.fr0 {w W W' : World} {d : Nat} {cs : List SC} {dn : List Nat} {T : Nat → Prop} {S : List ByteArray} {wv : Value} (h : KD w W d cs dn T S wv) (hf : Fr (fun _ => False) W W') : KD w W' d cs dn T S wv :=
  ⟨h.s.fr0 hf, ownsRow_of_block h.t (fun g hg => hf.block g (h.t.lt g hg).2 (fun h => h)), h.tl, h.fr.trans0 hf⟩
/-- What the answer that is spoilt must not lie on. -/
structure KO (w : World) (T : Nat → Prop) (wv : Value) (B : Nat) (fb hb : Value) (g : Nat) : Prop where
  w : w.heap.size ≤ g
  t : ¬ T g
  wv : wv.ownBlock ≠ some g
  b : g ≠ B
  fb : fb.ownBlock ≠ some g
  hb : hb.ownBlock ≠ some g
/-- And the second answer, in its box. -/
structure KS (w W : World) (d : Nat) (cs : List SC) (dn : List Nat) (T : Nat → Prop) (S : List ByteArray) (wv : Value) (B : Nat) (F : List F5) (H : List SM) (fb hb : Value) : Prop where
  k : KD w W d cs dn T S wv
  b : W.heap[B]? = some (.cells (AN.cs ⟨2, 1, 0, 1, 1, fb, hb⟩).toArray 44)
  f : OwF W w.heap.size fb F
  h : OwS W w.heap.size hb H
  bl : w.heap.size ≤ B
theorem KS.fr {w W W' : World} {d : Nat} {cs : List SC} {dn : List Nat} {T X : Nat → Prop} {S : List ByteArray} {wv : Value} {B : Nat} {F : List F5} {H : List SM} {fb hb : Value} (h : KS w W d cs dn T S wv B F H fb hb) (hf : Fr X W W') (hX : ∀ g, X g → KO w T wv B fb hb g) : KS w W' d cs dn T S wv B F H fb hb :=
  ⟨⟨h.k.s.fr hf (fun g hg e => (hX g e).t hg), ownsRow_of_block h.k.t (fun g hg => hf.block g (h.k.t.lt g hg).2 (fun e => (hX g e).wv hg)), h.k.tl, h.k.fr.trans hf (fun g hg e => by have := (hX g e).w; omega)⟩, (hf.block B (lt_of_block h.b) (fun e => (hX B e).b rfl)).trans h.b, h.f.fr hf (fun g hg e => (hX g e).fb hg), ownsRow_of_block h.h (fun g hg => hf.block g (h.h.lt g hg).2 (fun e => (hX g e).hb hg)), h.bl⟩
theorem KS.fr0 {w W W' : World} {d : Nat} {cs : List SC} {dn : List Nat} {T : Nat → Prop} {S : List ByteArray} {wv : Value} {B : Nat} {F : List F5} {H : List SM} {fb hb : Value} (h : KS w W d cs dn T S wv B F H fb hb) (hf : Fr (fun _ => False) W W') : KS w W' d cs dn T S wv B F H fb hb := h.fr hf (fun _ h => h.elim)
/-- What is new lies on nothing. -/
theorem KS.new {w W : World} {d : Nat} {cs : List SC} {dn : List Nat} {T : Nat → Prop} {S : List ByteArray} {wv : Value} {B : Nat} {F : List F5} {H : List SM} {fb hb : Value} (h : KS w W d cs dn T S wv B F H fb hb) {g : Nat} (hg : W.heap.size ≤ g) : KO w T wv B fb hb g :=
  ⟨by have := h.k.fr.size; omega, fun e => by have := h.k.s.lt g e; omega, fun e => by have := (h.k.t.lt g e).2; omega, fun e => by have := lt_of_block h.b; omega, fun e => by have := (h.f.lt g e).2; omega, fun e => by have := (h.h.lt g e).2; omega⟩
/-- And the first answer, whatever its lists hold. -/
structure KE (w W : World) (d : Nat) (cs : List SC) (dn : List Nat) (T : Nat → Prop) (S : List ByteArray) (wv : Value) (B : Nat) (F : List F5) (H : List SM) (fb hb : Value) (A : Nat) (fa ha : Value) (P Q : Nat → List Value → Prop) : Prop where
  k : KS w W d cs dn T S wv B F H fb hb
  a : W.heap[A]? = some (.cells (AN.cs ⟨2, 1, 0, 1, 1, fa, ha⟩).toArray 44)
  f : ∃ n xs, W.ownsRow 0 79 5 fa n xs ∧ P n xs
  h : ∃ n xs, W.ownsRow 0 81 4 ha n xs ∧ Q n xs
  oa : KO w T wv B fb hb A
  of : ∀ g, fa.ownBlock = some g → KO w T wv B fb hb g ∧ ha.ownBlock ≠ some g ∧ g ≠ A
  oh : ∀ g, ha.ownBlock = some g → KO w T wv B fb hb g ∧ g ≠ A
variable {w W W' : World} {d : Nat} {cs : List SC} {dn : List Nat} {T : Nat → Prop} {S : List ByteArray} {wv : Value} {B : Nat} {F : List F5} {H : List SM} {fb hb : Value} {A : Nat} {fa ha : Value} {P P' Q Q' : Nat → List Value → Prop}
theorem KE.fr0 (h : KE w W d cs dn T S wv B F H fb hb A fa ha P Q) (hf : Fr (fun _ => False) W W') : KE w W' d cs dn T S wv B F H fb hb A fa ha P Q := by
  obtain ⟨n, xs, hx, hp⟩ := h.f
  obtain ⟨m, ys, hy, hq⟩ := h.h
  exact ⟨h.k.fr0 hf, (hf.block A (lt_of_block h.a) (fun h => h)).trans h.a, ⟨n, xs, ownsRow_of_block hx (fun g hg => hf.block g (hx.lt g hg).2 (fun h => h)), hp⟩, ⟨m, ys, ownsRow_of_block hy (fun g hg => hf.block g (hy.lt g hg).2 (fun h => h)), hq⟩, h.oa, h.of, h.oh⟩
theorem KE.weak (h : KE w W d cs dn T S wv B F H fb hb A fa ha P Q) (hP : ∀ n xs, P n xs → P' n xs) (hQ : ∀ n xs, Q n xs → Q' n xs) : KE w W d cs dn T S wv B F H fb hb A fa ha P' Q' := by
  obtain ⟨n, xs, hx, hp⟩ := h.f
  obtain ⟨m, ys, hy, hq⟩ := h.h
  exact ⟨h.k, h.a, ⟨n, xs, hx, hP _ _ hp⟩, ⟨m, ys, hy, hQ _ _ hq⟩, h.oa, h.of, h.oh⟩
theorem KE.setF {g n c : Nat} (h : KE w W d cs dn T S wv B F H fb hb A (.slice (some ⟨g, 0, none⟩) n c) ha P Q) (j : Nat) (u : Value) (hP : ∀ m xs, P m xs → P' m (xs.set j u)) : KE w (W.setCell ⟨g, j, none⟩ u) d cs dn T S wv B F H fb hb A (.slice (some ⟨g, 0, none⟩) n c) ha P' Q := by
  obtain ⟨n', xs, hx, hp⟩ := h.f
  obtain ⟨m, ys, hy, hq⟩ := h.h
  have hnn : n' = n := by
    obtain ⟨ao, cap, e⟩ := own_formX hx
    exact (Value.slice.inj e).2.1.symm
  subst hnn
  have ho := h.of g rfl
  have hf : Fr (fun k => k = g) W (W.setCell ⟨g, j, none⟩ u) := (Fr.refl (fun k => k = g) _).setCell (p := ⟨g, j, none⟩) (.inl rfl) _
  exact ⟨h.k.fr hf (fun k e => by rw [e]; exact ho.1), (hf.block A (lt_of_block h.a) (fun e => ho.2.2 e.symm)).trans h.a, ⟨n', _, own_set hx rfl j u, hP _ _ hp⟩, ⟨m, ys, ownsRow_of_block hy (fun k hk => hf.block k (hy.lt k hk).2 (fun e => ho.2.1 (by rw [← e]; exact hk))), hq⟩, h.oa, h.of, h.oh⟩
theorem KE.setH {g n c : Nat} (h : KE w W d cs dn T S wv B F H fb hb A fa (.slice (some ⟨g, 0, none⟩) n c) P Q) (j : Nat) (u : Value) (hQ : ∀ m xs, Q m xs → Q' m (xs.set j u)) : KE w (W.setCell ⟨g, j, none⟩ u) d cs dn T S wv B F H fb hb A fa (.slice (some ⟨g, 0, none⟩) n c) P Q' := by
  obtain ⟨m, xs, hx, hp⟩ := h.f
  obtain ⟨n', ys, hy, hq⟩ := h.h
  have hnn : n' = n := by
    obtain ⟨ao, cap, e⟩ := own_formX hy
    exact (Value.slice.inj e).2.1.symm
  subst hnn
  have ho := h.oh g rfl
  have hf : Fr (fun k => k = g) W (W.setCell ⟨g, j, none⟩ u) := (Fr.refl (fun k => k = g) _).setCell (p := ⟨g, j, none⟩) (.inl rfl) _
  exact ⟨h.k.fr hf (fun k e => by rw [e]; exact ho.1), (hf.block A (lt_of_block h.a) (fun e => ho.2 e.symm)).trans h.a, ⟨m, xs, ownsRow_of_block hx (fun k hk => hf.block k (hx.lt k hk).2 (fun e => (h.of k hk).2.1 (by rw [e]; rfl))), hp⟩, ⟨n', _, own_set hy rfl j u, hQ _ _ hq⟩, h.oa, h.of, h.oh⟩
theorem KE.appF {n : Nat} {ys : List Value} {fa' : Value} (h : KE w W d cs dn T S wv B F H fb hb A fa ha P Q) (h2 : W'.ownsRow 0 79 5 fa' n ys) (hf : Fr (fun g => fa.ownBlock = some g) W W') (hb2 : ∀ g, fa'.ownBlock = some g → fa.ownBlock = some g ∨ W.heap.size ≤ g) (hP : P' n ys) : KE w (W'.setCell ⟨A, 5, none⟩ fa') d cs dn T S wv B F H fb hb A fa' ha P' Q := by
  obtain ⟨m, zs, hy, hq⟩ := h.h
  have hA := lt_of_block h.a
  have nA : fa.ownBlock ≠ some A := fun e => (h.of A e).2.2 rfl
  have hfs : Fr (fun g => fa.ownBlock = some g ∨ g = A) W (W'.setCell ⟨A, 5, none⟩ fa') := (hf.mono (fun _ _ e => .inl e)).setCell (p := ⟨A, 5, none⟩) (.inl (.inr rfl)) _
  have hf2 : Fr (fun g => g = A) W' (W'.setCell ⟨A, 5, none⟩ fa') := (Fr.refl (fun g => g = A) _).setCell (p := ⟨A, 5, none⟩) (.inl rfl) _
  have hnew : ∀ g, fa'.ownBlock = some g → KO w T wv B fb hb g ∧ ha.ownBlock ≠ some g ∧ g ≠ A := fun g hg => by
    rcases hb2 g hg with e | e
    · exact h.of g e
    · exact ⟨h.k.new e, fun e2 => by have := (hy.lt g e2).2; omega, by omega⟩
  refine ⟨h.k.fr hfs (fun g e => ?_), ?_, ⟨n, ys, ownsRow_of_block h2 (fun g hg => hf2.block g (h2.lt g hg).2 (hnew g hg).2.2), hP⟩, ⟨m, zs, ownsRow_of_block hy (fun g hg => hfs.block g (hy.lt g hg).2 (fun e => ?_)), hq⟩, h.oa, hnew, h.oh⟩
  · rcases e with e | e
    · exact (h.of g e).1
    · rw [e]; exact h.oa
  · rw [blkset ((hf.block A hA nA).trans h.a)]
    simp [AN.cs]
  · rcases e with e | e
    · exact (h.of g e).2.1 hg
    · exact (h.oh g hg).2 e
theorem KE.appH {n : Nat} {ys : List Value} {ha' : Value} (h : KE w W d cs dn T S wv B F H fb hb A fa ha P Q) (h2 : W'.ownsRow 0 81 4 ha' n ys) (hf : Fr (fun g => ha.ownBlock = some g) W W') (hb2 : ∀ g, ha'.ownBlock = some g → ha.ownBlock = some g ∨ W.heap.size ≤ g) (hQ : Q' n ys) : KE w (W'.setCell ⟨A, 6, none⟩ ha') d cs dn T S wv B F H fb hb A fa ha' P Q' := by
  obtain ⟨m, zs, hy, hq⟩ := h.f
  have hA := lt_of_block h.a
  have nA : ha.ownBlock ≠ some A := fun e => (h.oh A e).2 rfl
  have hfs : Fr (fun g => ha.ownBlock = some g ∨ g = A) W (W'.setCell ⟨A, 6, none⟩ ha') := (hf.mono (fun _ _ e => .inl e)).setCell (p := ⟨A, 6, none⟩) (.inl (.inr rfl)) _
  have hf2 : Fr (fun g => g = A) W' (W'.setCell ⟨A, 6, none⟩ ha') := (Fr.refl (fun g => g = A) _).setCell (p := ⟨A, 6, none⟩) (.inl rfl) _
  have hnew : ∀ g, ha'.ownBlock = some g → KO w T wv B fb hb g ∧ g ≠ A := fun g hg => by
    rcases hb2 g hg with e | e
    · exact h.oh g e
    · exact ⟨h.k.new e, by omega⟩
  refine ⟨h.k.fr hfs (fun g e => ?_), ?_, ⟨m, zs, ownsRow_of_block hy (fun g hg => hfs.block g (hy.lt g hg).2 (fun e => ?_)), hq⟩, ⟨n, ys, ownsRow_of_block h2 (fun g hg => hf2.block g (h2.lt g hg).2 (hnew g hg).2), hQ⟩, h.oa, fun g hg => ⟨(h.of g hg).1, fun e => ?_, (h.of g hg).2.2⟩, hnew⟩
  · rcases e with e | e
    · exact (h.oh g e).1
    · rw [e]; exact h.oa
  · rw [blkset ((hf.block A hA nA).trans h.a)]
    simp [AN.cs]
  · rcases e with e | e
    · exact (h.of g hg).2.1 e
    · exact (h.of g hg).2.2 e
  · rcases hb2 g e with e | e
    · exact (h.of g hg).2.1 e
    · have := (hy.lt g hg).2; omega
theorem fN_at {l : List ByteArray} {i : Nat} {s : ByteArray} (h : l[i]? = some s) : (fcells (l.map fN))[i * 5]? = some (.string s) := by
  obtain ⟨hi, he⟩ := List.getElem?_eq_some_iff.1 h
  rw [(fcells_at (l.map fN) i (by simpa using hi)).1]
  simp [fN, he]
theorem sN_at {n i : Nat} (h : i < n) : (scells ((List.range n).map sN))[i * 4]? = some (.int .u32 (i : Nat)) := by
  rw [(scells_at ((List.range n).map sN) i (by simpa using h)).1]
  simp [sN]
/-- An element of a row of one's own, not frozen. -/
theorem own_cell {W : World} {b e z m g c : Nat} {xs : List Value} (h : W.ownsRow b e z (.slice (some ⟨g, 0, none⟩) m c) m xs) {j : Nat} (hj : j < m * z) : (∃ x, W.cell? ⟨g, j, none⟩ = some x) ∧ W.frozen? ⟨g, j, none⟩ = false := by
  refine ⟨⟨_, (h.cellAt j hj).trans (List.getElem?_eq_getElem (by have := h.1; omega))⟩, ?_⟩
  obtain ⟨cur, hb⟩ := own_blk h (g := g) rfl
  simp [World.frozen?, hb]
end Go.Proofs.Ytkiepcdncegniaa

namespace Go.Proofs.Ytkiepcdncegniaa
open Go.RowKit Go.Maps

theorem fds_no (w : World) : Fds w (.slice none 0 0) [] := .inl ⟨none, 0, rfl, rfl⟩
theorem sms_no (w : World) : Sms w (.slice none 0 0) [] := .inl ⟨none, 0, rfl, rfl⟩
theorem gsameReq_zero (w : World) : Calls Try.prog 50 #[.agg zR.toArray, .agg zR.toArray] w fun e w' => e = .returned (.bool true) ∧ Fr (fun _ => False) w w' :=
  gsameReq_refl ⟨0, 0, 0, 0, 0, 0, 0, 0, .slice none 0 0, ⟨#[]⟩⟩ (.slice none 0 0) (.slice none 0 0) [] w (fds_no w) (fds_no w) (by simp)
theorem gsameAns_zero (w : World) : Calls Try.prog 25 #[.agg zA.toArray, .agg zA.toArray] w fun e w' => e = .returned (.bool true) ∧ Fr (fun _ => False) w w' :=
  gsameAnswer_any ⟨0, 0, 0, 0, 0, .slice none 0 0, .slice none 0 0⟩ ⟨0, 0, 0, 0, 0, .slice none 0 0, .slice none 0 0⟩ [] [] [] [] w (fds_no w) (fds_no w) (sms_no w) (sms_no w) (by simp) (by simp)
/-- What asked looks at. -/
structure AsK (W : World) (B c k : Nat) : Prop where
  k0 : W.cell? ⟨B, 0, none⟩ = some (.int .u8 2)
  k11 : W.cell? ⟨B, 11, none⟩ = some (.int .u32 (c : Nat))
  k12 : W.cell? ⟨B, 12, none⟩ = some (.int .u32 (k : Nat))
  k20 : W.cell? ⟨B, 20, none⟩ = some (.int .u8 0)
  k21 : W.cell? ⟨B, 21, none⟩ = some (.int .u32 0)
  k32 : W.cell? ⟨B, 32, none⟩ = some (.int .u8 0)
  k33 : W.cell? ⟨B, 33, none⟩ = some (.slice none 0 0)
  k34 : W.cell? ⟨B, 34, none⟩ = some (.int .u32 0)
  r : W.rangeAt B 1 zR
  a : W.rangeAt B 13 zA
  e : W.rangeAt B 22 zR
theorem AsK.of {W : World} {B c k : Nat} (hb : W.heap[B]? = some (.cells (tmsg c k).toArray 49)) : AsK W B c k := by
  have h := range_of_block hb
  have hr : ∀ (o : Nat) (cs : List Value), (∀ j v, cs[j]? = some v → (tmsg c k)[o + j]? = some v) → W.rangeAt B o cs := fun o cs hc j v hv => by
    have := h (o + j) v (hc j v hv)
    rwa [Nat.zero_add] at this
  refine ⟨cell_of_blk hb rfl, cell_of_blk hb rfl, cell_of_blk hb rfl, cell_of_blk hb rfl, cell_of_blk hb rfl, cell_of_blk hb rfl, cell_of_blk hb rfl, cell_of_blk hb rfl, hr 1 zR (fun j v hj => ?_), hr 13 zA (fun j v hj => ?_), hr 22 zR (fun j v hj => ?_)⟩
  · have hl : j < 10 := (List.getElem?_eq_some_iff.1 hj).1
    match j, hl with
    | 0, _ => exact hj
    | 1, _ => exact hj
    | 2, _ => exact hj
    | 3, _ => exact hj
    | 4, _ => exact hj
    | 5, _ => exact hj
    | 6, _ => exact hj
    | 7, _ => exact hj
    | 8, _ => exact hj
    | 9, _ => exact hj
  · have hl : j < 7 := (List.getElem?_eq_some_iff.1 hj).1
    match j, hl with
    | 0, _ => exact hj
    | 1, _ => exact hj
    | 2, _ => exact hj
    | 3, _ => exact hj
    | 4, _ => exact hj
    | 5, _ => exact hj
    | 6, _ => exact hj
  · have hl : j < 10 := (List.getElem?_eq_some_iff.1 hj).1
    match j, hl with
    | 0, _ => exact hj
    | 1, _ => exact hj
    | 2, _ => exact hj
    | 3, _ => exact hj
    | 4, _ => exact hj
    | 5, _ => exact hj
    | 6, _ => exact hj
    | 7, _ => exact hj
    | 8, _ => exact hj
    | 9, _ => exact hj
set_option maxRecDepth 100000 in
set_option maxHeartbeats 4000000 in
/-- asked. -/
theorem asked_true (c k : Nat) (w : World) : Calls Try.prog 40 #[.agg (tmsg c k).toArray, .agg #[.int .u32 (c : Nat), .int .u32 (k : Nat)]] w fun e w' => e = .returned (.bool true) ∧ Fr (fun _ => False) w w' := by
  obtain ⟨W1, hW1⟩ : ∃ W1, (w.alloc (.cells (tmsg c k).toArray 49)).alloc (.cells #[.int .u32 (c : Nat), .int .u32 (k : Nat)] 29) = W1 := ⟨_, rfl⟩
  have hf1 : Fr (fun _ => False) w W1 := by rw [← hW1]; exact (box1 w _).alloc _
  have hb0 : W1.heap[w.heap.size]? = some (.cells (tmsg c k).toArray 49) := by rw [← hW1]; exact (Below.heap_alloc _ _ _ (by simp)).trans (heap_alloc_new w _)
  have hb1 : W1.heap[w.heap.size + 1]? = some (.cells #[.int .u32 (c : Nat), .int .u32 (k : Nat)] 29) := by
    rw [← hW1]
    have := heap_alloc_new (w.alloc (.cells (tmsg c k).toArray 49)) (.cells #[.int .u32 (c : Nat), .int .u32 (k : Nat)] 29)
    rwa [World.size_alloc] at this
  have HK : Hid (∀ W', Fr (fun _ => False) W1 W' → AsK W' w.heap.size c k) := hide (fun W' hf => AsK.of ((hf.block _ (lt_of_block hb0) (fun h => h)).trans hb0))
  have HF := hide hf1
  obtain ⟨k0, k11, k12, k20, k21, k32, k33, k34, r1, _, _⟩ := (unhide HK) W1 (Fr.refl _ _)
  have i0 : W1.cell? ⟨w.heap.size + 1, 0, none⟩ = some (.int .u32 (c : Nat)) := cell_of_blk hb1 rfl
  have i1 : W1.cell? ⟨w.heap.size + 1, 1, none⟩ = some (.int .u32 (k : Nat)) := cell_of_blk hb1 rfl
  have HR1 := hide r1
  have hq : ∀ w : World, (binOp .eql 29 (.agg #[.int .u32 (c : Nat), .int .u32 (k : Nat)]) (.agg #[.int .u32 (c : Nat), .int .u32 (k : Nat)])).run Try.prog w = .ok (.bool true) w := fun w => by rw [eql_id]; simp
  clear hb0 hb1 hf1 r1
  go_enter Try.func40, Try.ntmps40
  go_wp2_with (refine wpList_load_midG rfl 34 (.tmp 25) rfl w.heap.size 1 rfl _ _ (unhide HR1) Try.underlying34 rfl Try.sizeRq ?_)
  refine (gsameReq_zero _).mono ?_
  rintro e w2 ⟨rfl, hf2⟩
  have HF2 := hide hf2
  clear hf2 k0 k11 k12 k20 k21 k32 k33 k34 i0 i1 HR1 hW1 hq
  have HR2 := hide ((unhide HK) w2 (unhide HF2)).a
  go_wp2_with (refine wpList_load_midG rfl 44 (.tmp 31) rfl w.heap.size 13 rfl _ _ (unhide HR2) Try.underlying44 rfl Try.sizeAn ?_)
  refine (gsameAns_zero _).mono ?_
  rintro e w3 ⟨rfl, hf3⟩
  have HF3 := hide ((unhide HF2).trans0 hf3)
  clear hf3 HR2 HF2
  obtain ⟨k0, k11, k12, k20, k21, k32, k33, k34, _, _, r3⟩ := (unhide HK) w3 (unhide HF3)
  have HR3 := hide r3
  clear r3
  go_wp2_with (refine wpList_load_midG rfl 34 (.tmp 57) rfl w.heap.size 22 rfl _ _ (unhide HR3) Try.underlying34 rfl Try.sizeRq ?_)
  refine (gsameReq_zero _).mono ?_
  rintro e w4 ⟨rfl, hf4⟩
  have HF4 := hide (((unhide HF).trans0 (unhide HF3)).trans0 hf4)
  clear hf4 k0 k11 k12 k20 k21 k32 k33 k34 HR3
  go_wp2_with fail
  go_ret
  exact ⟨rfl, unhide HF4⟩
end Go.Proofs.Ytkiepcdncegniaa

namespace Go.Proofs.Ytkiepcdncegniaa
open Go.RowKit Go.Maps

set_option maxRecDepth 100000 in
set_option maxHeartbeats 4000000 in
theorem looked_none {w : World} {d c : Nat} {cs : List SC} {dn : List Nat} {T : Nat → Prop} (hs : SS w d c cs dn T) (got base : Nat) (v : Value) (l : List RC) (h : OwC w base v l) (hl : l.length ≤ 4096) (cl k : Nat) (hcl : cl < 4294967296) (hk : k < 4294967296) (hn : gnum c l.length cl k = 0) (hA : cl = c → fA cs k = none) (hW : cl = c → fW cs k = none) : Calls Try.prog 23 #[.pointer (some ⟨d, 0, none⟩), .agg #[.int .u32 (c : Nat), v, .int .i64 (got : Nat)], .agg #[.int .u32 (cl : Nat), .int .u32 (k : Nat)]] w fun e w' => e = .returned (.bool true) ∧ Fr (fun _ => False) w w' := by
  obtain ⟨ao, cap, rfl⟩ := own_formX h
  obtain ⟨N, hN⟩ : ∃ N, l.length = N := ⟨_, rfl⟩
  have HO := hide h
  have HSS := hide hs
  have HNN := hide hN
  rw [hN] at hl HO hn ⊢
  obtain ⟨W1, hW1⟩ : ∃ W1, (w.alloc (.cells #[.int .u32 (c : Nat), .slice ao N cap, .int .i64 (got : Nat)] 60)).alloc (.cells #[.int .u32 (cl : Nat), .int .u32 (k : Nat)] 29) = W1 := ⟨_, rfl⟩
  have hf1 : Fr (fun _ => False) w W1 := by rw [← hW1]; exact (box1 w _).alloc _
  have hb0 : W1.heap[w.heap.size]? = some (.cells #[.int .u32 (c : Nat), .slice ao N cap, .int .i64 (got : Nat)] 60) := by rw [← hW1]; exact (Below.heap_alloc _ _ _ (by simp)).trans (heap_alloc_new w _)
  have hb1 : W1.heap[w.heap.size + 1]? = some (.cells #[.int .u32 (cl : Nat), .int .u32 (k : Nat)] 29) := by
    rw [← hW1]
    have := heap_alloc_new (w.alloc (.cells #[.int .u32 (c : Nat), .slice ao N cap, .int .i64 (got : Nat)] 60)) (.cells #[.int .u32 (cl : Nat), .int .u32 (k : Nat)] 29)
    rwa [World.size_alloc] at this
  have HRS : Hid (∀ W', Fr (fun _ => False) W1 W' → W'.rangeAt w.heap.size 0 [.int .u32 (c : Nat), .slice ao N cap, .int .i64 (got : Nat)]) := hide (fun W' hf => range_of_block ((hf.block _ (lt_of_block hb0) (fun h => h)).trans hb0))
  have HID : Hid (∀ W', Fr (fun _ => False) W1 W' → W'.cell? ⟨w.heap.size + 1, 0, none⟩ = some (.int .u32 (cl : Nat)) ∧ W'.cell? ⟨w.heap.size + 1, 1, none⟩ = some (.int .u32 (k : Nat)) ∧ w.heap.size + 1 < W'.heap.size) := hide (fun W' hf => by
    have hb := (hf.block _ (lt_of_block hb1) (fun h => h)).trans hb1
    exact ⟨cell_of_blk hb rfl, cell_of_blk hb rfl, lt_of_block hb⟩)
  have HB := hide (And.intro hb0 (And.intro hb1 hf1))
  obtain ⟨i0, i1, _⟩ := (unhide HID) W1 (Fr.refl _ _)
  clear hb0 hb1 hf1 h hs hN
  go_enter Try.func23, Try.ntmps23
  go_wp2_with fail
  have HT : Hid (Calls Try.prog 19 #[.pointer (some ⟨d, 0, none⟩), .agg #[.int .u32 (cl : Nat), .int .u32 (k : Nat)]] W1 fun e w' => ∃ v u, e = .returned (.tuple #[.agg #[.int .u32 0, .int .u32 0, .int .u8 0, .int .u32 0, .int .u32 0, v, u], .bool false]) ∧ OwF w' W1.heap.size v [] ∧ OwS w' W1.heap.size u [] ∧ Fr (fun _ => False) W1 w') := hide (((unhide HSS).fr0 (unhide HB).2.2).aNo cl k hcl hk hA)
  refine (unhide HT).mono ?_
  clear HT
  rintro e w2 ⟨v2, u2, rfl, hF2, hH2, hf2⟩
  obtain ⟨fo, fc, rfl⟩ := own_formX hF2
  obtain ⟨ho, hc2, rfl⟩ := own_formX hH2
  have HO2 := hide (And.intro hF2 hH2)
  have HF2 := hide hf2
  obtain ⟨j0, j1, j2⟩ := (unhide HID) w2 hf2
  clear hF2 hH2 hf2 i0 i1
  go_wp2_with fail
  obtain ⟨W3, hW3⟩ : ∃ W3, w2.alloc (.cells #[.int .u32 0, .int .u32 0, .int .u8 0, .int .u32 0, .int .u32 0, .slice fo 0 fc, .slice ho 0 hc2] 44) = W3 := ⟨_, rfl⟩
  have hf3 : Fr (fun _ => False) w2 W3 := by rw [← hW3]; exact box1 w2 _
  have hb3 : W3.heap[w2.heap.size]? = some (.cells #[.int .u32 0, .int .u32 0, .int .u8 0, .int .u32 0, .int .u32 0, .slice fo 0 fc, .slice ho 0 hc2] 44) := by rw [← hW3]; exact heap_alloc_new w2 _
  rw [hW3]
  have HF3 := hide (And.intro ((unhide HF2).trans0 hf3) (And.intro hf3 hb3))
  clear hW3 hf3 hb3 j0 j1 j2
  refine ((((unhide HSS).fr0 (unhide HB).2.2).fr0 (unhide HF3).1).bNo cl k hcl hk hW).mono ?_
  rintro e w4 ⟨rfl, hf4⟩
  have HF4 := hide ((unhide HF3).1.trans0 hf4)
  have HF34 := hide hf4
  obtain ⟨j0, j1, j2⟩ := (unhide HID) w4 (unhide HF4)
  have HR4 := hide ((unhide HRS) w4 (unhide HF4))
  clear hf4
  go_wp2_with (refine wpList_load_mid rfl 60 (.tmp 4) rfl w.heap.size 0 rfl _ _ (unhide HR4) Try.underlying60 rfl Try.sizeRs ?_)
  refine (gfind_any c ao N cap got cl k w4 hl).mono ?_
  rintro e w5 ⟨rfl, hf5⟩
  have HF5 := hide (And.intro ((unhide HF4).trans0 hf5) ((unhide HF34).trans0 hf5))
  clear hf5 j0 j1 j2 HR4
  rw [hn]
  have HRA : Hid (w5.rangeAt w2.heap.size 0 [.int .u32 0, .int .u32 0, .int .u8 0, .int .u32 0, .int .u32 0, .slice fo 0 fc, .slice ho 0 hc2]) := hide (range_of_block (((unhide HF5).2.block _ (lt_of_block (unhide HF3).2.2) (fun h => h)).trans (unhide HF3).2.2))
  have HGS : Hid (Calls Try.prog 25 #[.agg #[.int .u32 0, .int .u32 0, .int .u8 0, .int .u32 0, .int .u32 0, .slice fo 0 fc, .slice ho 0 hc2], .agg #[.int .u32 0, .int .u32 0, .int .u8 0, .int .u32 0, .int .u32 0, .slice none 0 0, .slice none 0 0]] w5 fun e w' => e = .returned (.bool true) ∧ Fr (fun _ => False) w5 w') := hide (gsameAnswer_any ⟨0, 0, 0, 0, 0, .slice fo 0 fc, .slice ho 0 hc2⟩ ⟨0, 0, 0, 0, 0, .slice none 0 0, .slice none 0 0⟩ [] [] [] [] w5 ((OwF.fds (unhide HO2).1).fr ((unhide HF3).2.1.trans0 (unhide HF5).2)) (fds_no _) ((OwS.sms (unhide HO2).2).fr ((unhide HF3).2.1.trans0 (unhide HF5).2)) (sms_no _) (by simp) (by simp))
  go_wp2_with (refine wpList_load_midG rfl 44 (.tmp 7) rfl w2.heap.size 0 rfl _ _ (unhide HRA) Try.underlying44 rfl Try.sizeAn ?_)
  refine (unhide HGS).mono ?_
  rintro e w6 ⟨rfl, hf6⟩
  have HE := hide (((unhide HB).2.2.trans0 (unhide HF5).1).trans0 hf6)
  clear hf6 HGS HRA
  go_wp2_with fail
  go_ret
  exact ⟨rfl, unhide HE⟩
end Go.Proofs.Ytkiepcdncegniaa

