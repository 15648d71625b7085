import Derived.Test.YtfaponkpgcdgkaaZca
namespace Go.Proofs.Ytfaponkpgcdgkaa
open Go.RowKit Go.Maps

theorem SsAt.mono {w : World} {d mw ma c : Nat} {cs : List SC} {dn : List Nat} {dv : Value} {T T' : Nat → Prop} (h : SsAt w d mw ma c cs dn dv T) (hT : ∀ g, T g → T' g) (hl : ∀ g, T' g → g < w.heap.size) : SsAt w d mw ma c cs dn dv T' :=
  ⟨h.c16, h.len, h.blk, h.wm, h.am, h.dn.mono hT, fun q hq => ⟨fun e => ((h.qs q hq).wt e).mono hT, fun x e => ⟨((h.qs q hq).an x e).1.mono hT, ((h.qs q hq).an x e).2.mono hT⟩⟩, h.id, ⟨hT _ h.own.1, hT _ h.own.2.1, hT _ h.own.2.2⟩, h.ap, hl⟩
/-- A session, wherever its maps lie. -/
def SS (w : World) (d c : Nat) (cs : List SC) (dn : List Nat) (T : Nat → Prop) : Prop := ∃ mw ma dv, SsAt w d mw ma c cs dn dv T
/-- The session's blocks, and those made since. -/
def Tn (T : Nat → Prop) (w w' : World) (g : Nat) : Prop := T g ∨ Nb w w' g
theorem SS.fr {w w' : World} {d c : Nat} {cs : List SC} {dn : List Nat} {T S : Nat → Prop} (h : SS w d c cs dn T) (hf : Fr S w w') (hS : ∀ g, T g → ¬ S g) : SS w' d c cs dn T := by
  obtain ⟨mw, ma, dv, h⟩ := h
  exact ⟨mw, ma, dv, h.fr hf hS⟩
theorem SS.fr0 {w w' : World} {d c : Nat} {cs : List SC} {dn : List Nat} {T : Nat → Prop} (h : SS w d c cs dn T) (hf : Fr (fun _ => False) w w') : SS w' d c cs dn T := h.fr hf (fun _ _ h => h)
theorem SS.lt {w : World} {d c : Nat} {cs : List SC} {dn : List Nat} {T : Nat → Prop} (h : SS w d c cs dn T) : ∀ g, T g → g < w.heap.size := by
  obtain ⟨mw, ma, dv, h⟩ := h
  exact h.lt
theorem SS.dT {w : World} {d c : Nat} {cs : List SC} {dn : List Nat} {T : Nat → Prop} (h : SS w d c cs dn T) : T d := by
  obtain ⟨mw, ma, dv, h⟩ := h
  exact h.own.1
theorem SS.len {w : World} {d c : Nat} {cs : List SC} {dn : List Nat} {T : Nat → Prop} (h : SS w d c cs dn T) : cs.length ≤ 4096 := by
  obtain ⟨mw, ma, dv, h⟩ := h
  exact h.len
theorem SS.new (c : Nat) (w : World) (hc : c < 16) :
    Calls Try.prog 8 #[.int .u32 (c : Nat)] w fun e w' => ∃ d, e = .returned (.tuple #[.pointer (some ⟨d, 0, none⟩), .int .i64 0]) ∧ SS w' d c [] [] (Nb w w') ∧ Fr (fun _ => False) w w' := by
  refine (snew_in c w hc).mono ?_
  rintro e w' ⟨d, h1, ⟨mw, ma, h2⟩, h3⟩
  exact ⟨d, h1, ⟨mw, ma, _, h2⟩, h3⟩
theorem SS.call {w : World} {d c : Nat} {cs : List SC} {dn : List Nat} {T : Nat → Prop} (h : SS w d c cs dn T) (r : RQ) (F : List F5) (hx : Rd w r.fv F.length 5 (fcells F)) (hl : F.length ≤ 1048576) (hv : ∀ f ∈ F, f.v < 4294967296 ∧ f.u < 256) (hfm : r.frm F = true) (hkl : cs.length < 4096) :
    Calls Try.prog 10 #[.pointer (some ⟨d, 0, none⟩), r.v] w fun e w' => e = .returned (.tuple #[.agg #[.int .u32 (c : Nat), .int .u32 ((cs.length : Int) + 1)], .int .i64 0]) ∧ (∃ v, SS w' d c (cs ++ [⟨⟨c, cs.length + 1, r.ac, r.op, r.rc, r.ve, r.wa, r.ow, v, r.rs⟩, F, 0, 0, none⟩]) dn (Tn T w w')) ∧ Fr T w w' := by
  obtain ⟨mw, ma, dv, h⟩ := h
  refine (scall_ok d mw ma c cs dn dv T w h r F hx hl hv hfm hkl).mono ?_
  rintro e w' ⟨h1, ⟨v, h2⟩, h3⟩
  exact ⟨h1, ⟨v, mw, ma, dv, h2⟩, h3.mono (fun g _ e => by rw [e]; exact h.own.2.1)⟩
theorem SS.bad {w : World} {d c : Nat} {cs : List SC} {dn : List Nat} {T : Nat → Prop} (h : SS w d c cs dn T) (r : RQ) (F : List F5) (hx : Rd w r.fv F.length 5 (fcells F)) (hl : F.length ≤ 1048576) (hv : ∀ f ∈ F, f.v < 4294967296 ∧ f.u < 256) (hfm : r.frm F = false) :
    Calls Try.prog 10 #[.pointer (some ⟨d, 0, none⟩), r.v] w fun e w' => e = .returned (.tuple #[.agg #[.int .u32 0, .int .u32 0], .int .i64 1]) ∧ Fr (fun _ => False) w w' := by
  obtain ⟨mw, ma, dv, h⟩ := h
  exact scall_bad d mw ma c cs dn dv T w h r F hx hl hv hfm
theorem SS.full {w : World} {d c : Nat} {cs : List SC} {dn : List Nat} {T : Nat → Prop} (h : SS w d c cs dn T) (r : RQ) (F : List F5) (hx : Rd w r.fv F.length 5 (fcells F)) (hl : F.length ≤ 1048576) (hv : ∀ f ∈ F, f.v < 4294967296 ∧ f.u < 256) (hfm : r.frm F = true) (hkl : cs.length = 4096) :
    Calls Try.prog 10 #[.pointer (some ⟨d, 0, none⟩), r.v] w fun e w' => e = .returned (.tuple #[.agg #[.int .u32 0, .int .u32 0], .int .i64 2]) ∧ Fr (fun _ => False) w w' := by
  obtain ⟨mw, ma, dv, h⟩ := h
  exact scall_full d mw ma c cs dn dv T w h r F hx hl hv hfm hkl
theorem SS.waiting {w : World} {d c : Nat} {cs : List SC} {dn : List Nat} {T : Nat → Prop} (h : SS w d c cs dn T) :
    Calls Try.prog 17 #[.pointer (some ⟨d, 0, none⟩)] w fun e w' => ∃ v, e = .returned v ∧ OwI w' w.heap.size v ((wl cs).map fun k => (c, k)) ∧ Fr (fun _ => False) w w' := by
  obtain ⟨mw, ma, dv, h⟩ := h
  exact swaiting_any d mw ma c cs dn dv T w h
theorem SS.done {w : World} {d c : Nat} {cs : List SC} {dn : List Nat} {T : Nat → Prop} (h : SS w d c cs dn T) :
    Calls Try.prog 18 #[.pointer (some ⟨d, 0, none⟩)] w fun e w' => ∃ v, e = .returned v ∧ OwI w' w.heap.size v (dn.map fun k => (c, k)) ∧ Fr (fun _ => False) w w' := by
  obtain ⟨mw, ma, dv, h⟩ := h
  exact sdone_any d mw ma c cs dn dv T w h
theorem SS.out {w : World} {d c : Nat} {cs : List SC} {dn : List Nat} {T : Nat → Prop} (h : SS w d c cs dn T) :
    Calls Try.prog 13 #[.pointer (some ⟨d, 0, none⟩)] w fun e w' => ∃ hv tv, e = .returned (.tuple #[hv, tv]) ∧ ∃ W2 R, Fr (fun _ => False) w W2 ∧ OutI W2 w' c cs (wl cs).length hv tv R := by
  obtain ⟨mw, ma, dv, h⟩ := h
  exact sout_any d mw ma c cs dn dv T w h
/-- Take of an answer of a request that waits. -/
theorem SS.answer {w : World} {d c : Nat} {cs : List SC} {dn : List Nat} {T : Nat → Prop} (h : SS w d c cs dn T) (xs : List Value) (icl inu ico : Nat) (a : AN) (hm : MsX xs 3 icl inu ico a) (i : Nat) (q : SC) (hq : cs[i]? = some q) (hd : q.d = none) (hc : a.cl = c) (hn : a.nu = i + 1) (F : List F5) (H : List SM)
    (hF : Rd w a.fv F.length 5 (fcells F)) (hH : Rd w a.hv H.length 4 (scells H)) (hFl : F.length ≤ 1048576) (hHl : H.length ≤ 1048576) (hdl : dn.length ≤ 1048575) :
    Calls Try.prog 14 #[.pointer (some ⟨d, 0, none⟩), .agg xs.toArray] w fun e w' => ∃ r, e = .returned (.int .i64 r) ∧ r = 0 ∧ (∃ v u, SS w' d c (cs.set i { q with d := some ⟨⟨c, i + 1, a.co, a.rc, a.ve, v, u⟩, F, H⟩ }) (dn ++ [i + 1]) (Tn T w w')) ∧ Fr T w w' := by
  obtain ⟨mw, ma, dv, h⟩ := h
  obtain ⟨cl, nu, co, rc, ve, fv, hv⟩ := a
  simp only at hc hn hF hH
  subst hc
  subst hn
  have hf1 := box1 w (.cells xs.toArray 49)
  refine stake_ans d xs icl inu ico _ hm w _ ?_
  refine (sta_wait d mw ma cl cs dn dv T _ (h.fr0 hf1) i q hq hd co rc ve fv hv F H (hF.fr0 hf1) (hH.fr0 hf1) hFl hHl hdl).mono ?_
  rintro e w' ⟨h1, v, u, dv', h2, h3⟩
  have hfw : Fr T w w' := (hf1.mono (fun _ _ e => e.elim)).trans h3 (fun g _ e => by
    rcases e with e | e | e | e
    · rw [e]; exact h.own.2.1
    · rw [e]; exact h.own.2.2
    · exact h.dn.t g e
    · rw [e]; exact h.own.1)
  refine ⟨0, h1, rfl, ⟨v, u, mw, ma, dv', h2.mono (fun g hg => ?_) (fun g hg => ?_)⟩, hfw⟩
  · rcases hg with hg | hg
    · exact .inl hg
    · exact .inr ⟨Nat.le_trans hf1.size hg.1, hg.2⟩
  · rcases hg with hg | hg
    · exact Nat.lt_of_lt_of_le (h.lt g hg) hfw.size
    · exact hg.2
/-- What is known of an id that was not called. -/
def Unc (c : Nat) (cs : List SC) (cl k : Nat) : Prop := cl = c → k = 0 ∨ cs.length < k
/-- Take of an answer of none. -/
theorem SS.ansNone {w : World} {d c : Nat} {cs : List SC} {dn : List Nat} {T : Nat → Prop} (h : SS w d c cs dn T) (xs : List Value) (icl inu ico : Nat) (a : AN) (hm : MsX xs 3 icl inu ico a) (hu : Unc c cs a.cl a.nu) (hcl : a.cl < 4294967296) (hnu : a.nu < 4294967296) :
    Calls Try.prog 14 #[.pointer (some ⟨d, 0, none⟩), .agg xs.toArray] w fun e w' => ∃ r, e = .returned (.int .i64 r) ∧ r = 15 ∧ Fr (fun _ => False) w w' := by
  obtain ⟨mw, ma, dv, h⟩ := h
  have hf1 := box1 w (.cells xs.toArray 49)
  have h1 := h.fr0 hf1
  refine stake_ans d xs icl inu ico _ hm w _ ?_
  refine (sta_none d mw ma a.cl a.nu a.co a.rc a.ve a.fv a.hv _ h1.cells.2.1 h1.cells.2.2.1 (fun W' hf => (h1.look_wn hcl hnu (fun e => fW_no (hu e)) W' hf).1) (fun W' hf => h1.look_an hcl hnu (fun e => fA_no (hu e)) W' hf)).mono ?_
  rintro e w' ⟨e1, hf⟩
  exact ⟨15, e1, rfl, hf1.trans0 hf⟩
/-- Take of an answer of a request that is answered. -/
theorem SS.ansDone {w : World} {d c : Nat} {cs : List SC} {dn : List Nat} {T : Nat → Prop} (h : SS w d c cs dn T) (xs : List Value) (icl inu ico : Nat) (a : AN) (hm : MsX xs 3 icl inu ico a) (i : Nat) (q : SC) (x : AD) (hq : cs[i]? = some q) (hd : q.d = some x) (hc : a.cl = c) (hn : a.nu = i + 1) (b : Bool)
    (hS : ∀ W', Fr (fun _ => False) w W' → Calls Try.prog 43 #[.agg x.a.cs.toArray, .agg a.cs.toArray] W' fun e w' => e = .returned (.bool b) ∧ Fr (fun _ => False) W' w') :
    Calls Try.prog 14 #[.pointer (some ⟨d, 0, none⟩), .agg xs.toArray] w fun e w' => ∃ r, e = .returned (.int .i64 r) ∧ r = (if b then 0 else 4) ∧ Fr (fun _ => False) w w' := by
  obtain ⟨mw, ma, dv, h⟩ := h
  obtain ⟨cl, nu, co, rc, ve, fv, hv⟩ := a
  simp only at hc hn
  subst hc
  subst hn
  have hf1 := box1 w (.cells xs.toArray 49)
  have h1 := h.fr0 hf1
  have hx := (h.qs q (List.mem_of_getElem? hq)).an x hd
  have h7 : ∀ v ∈ x.a.cs, v.oneCell' = true := AN.one x.a (own_one hx.1.o) (own_one hx.2.o)
  have hc16 := h.c16
  have hil := (List.getElem?_eq_some_iff.1 hq).1
  have hln := h.len
  refine stake_ans d xs icl inu ico _ hm w _ ?_
  cases b with
  | true =>
    refine (sta_same d mw ma cl (i + 1) co rc ve fv hv x.a h7 _ h1.cells.2.1 h1.cells.2.2.1 (fun W' hf => (h1.look_wn (by omega) (by omega) (fun _ => fW_dn hq hd) W' hf).1) (fun W' hf => h1.look_a hq hd W' hf) (fun W' hf => hS W' (hf1.trans0 hf))).mono ?_
    rintro e w' ⟨e1, hf⟩
    exact ⟨0, e1, rfl, hf1.trans0 hf⟩
  | false =>
    refine (sta_other d mw ma cl (i + 1) co rc ve fv hv x.a h7 _ h1.cells.2.1 h1.cells.2.2.1 (fun W' hf => (h1.look_wn (by omega) (by omega) (fun _ => fW_dn hq hd) W' hf).1) (fun W' hf => h1.look_a hq hd W' hf) (fun W' hf => hS W' (hf1.trans0 hf))).mono ?_
    rintro e w' ⟨e1, hf⟩
    exact ⟨4, e1, rfl, hf1.trans0 hf⟩
/-- Take of a refusal of a request that waits. -/
theorem SS.busy {w : World} {d c : Nat} {cs : List SC} {dn : List Nat} {T : Nat → Prop} (h : SS w d c cs dn T) (xs : List Value) (ico : Nat) (a : AN) (i : Nat) (hm : MsX xs 4 c (i + 1) ico a) (hco : ico < 256) (q : SC) (hq : cs[i]? = some q) (hd : q.d = none) (hn : q.n ≤ 1000000000000) :
    Calls Try.prog 14 #[.pointer (some ⟨d, 0, none⟩), .agg xs.toArray] w fun e w' => ∃ r, e = .returned (.int .i64 r) ∧ r = 0 ∧ SS w' d c (cs.set i { q with la := (ico : Nat), n := q.n + 1 }) dn T ∧ Fr T w w' := by
  obtain ⟨mw, ma, dv, h⟩ := h
  have hf1 := box1 w (.cells xs.toArray 49)
  have h1 := h.fr0 hf1
  have hc16 := h.c16
  have hil := (List.getElem?_eq_some_iff.1 hq).1
  have hln := h.len
  have hnw := nWA cs
  refine stake_busy d xs c (i + 1) ico a hm hco w _ ?_
  refine (stb_wait d mw c (i + 1) (ico : Nat) q.la q.n hn q.r.cs rfl (RQ.one q.r (own_one ((h.qs q (List.mem_of_getElem? hq)).wt hd).o)) _ h1.cells.2.1 h.dm.1 (h1.lt mw h1.own.2.1) (fun W => MpR W mw c (nW cs) (fun j => if j = i + 1 then some (SC.v { q with la := (ico : Nat), n := q.n + 1 }) else fW cs j)) (fun W' hf => (h1.look_w hq hd W' hf).1) (fun W' hf => ?_)).mono ?_
  · obtain ⟨W2, a1, a2, a3⟩ := (h1.fr0 hf).wm.put (by omega) (by omega) Try.underlying83 (k := i + 1) (by omega) (SC.v { q with la := (ico : Nat), n := q.n + 1 })
    rw [fW_at hq hd] at a2
    exact ⟨W2, a1, by simpa using a2, a3⟩
  · rintro e w' ⟨e1, hp, w1, hf2, hf3⟩
    have h4 := h1.busy hf2 (q' := { q with la := (ico : Nat), n := q.n + 1 }) hq hd rfl rfl hd hp hf3
    exact ⟨0, e1, rfl, ⟨mw, ma, dv, h4⟩, ((hf1.trans0 hf2).mono (fun _ _ e => e.elim)).trans hf3 (fun g _ e => by rw [e]; exact h.own.2.1)⟩
/-- Take of a refusal of another id. -/
theorem SS.busyDone {w : World} {d c : Nat} {cs : List SC} {dn : List Nat} {T : Nat → Prop} (h : SS w d c cs dn T) (xs : List Value) (ico : Nat) (a : AN) (i : Nat) (hm : MsX xs 4 c (i + 1) ico a) (hco : ico < 256) (q : SC) (x : AD) (hq : cs[i]? = some q) (hd : q.d = some x) :
    Calls Try.prog 14 #[.pointer (some ⟨d, 0, none⟩), .agg xs.toArray] w fun e w' => ∃ r, e = .returned (.int .i64 r) ∧ r = 0 ∧ Fr (fun _ => False) w w' := by
  obtain ⟨mw, ma, dv, h⟩ := h
  have hf1 := box1 w (.cells xs.toArray 49)
  have h1 := h.fr0 hf1
  have hx := (h.qs q (List.mem_of_getElem? hq)).an x hd
  have hc16 := h.c16
  have hil := (List.getElem?_eq_some_iff.1 hq).1
  have hln := h.len
  refine stake_busy d xs c (i + 1) ico a hm hco w _ ?_
  refine (stb_done d mw ma c (i + 1) (ico : Nat) x.a (AN.one x.a (own_one hx.1.o) (own_one hx.2.o)) _ h1.cells.2.1 h1.cells.2.2.1 (fun W' hf => (h1.look_wn (by omega) (by omega) (fun _ => fW_dn hq hd) W' hf).1) (fun W' hf => h1.look_a hq hd W' hf)).mono ?_
  rintro e w' ⟨e1, hf⟩
  exact ⟨0, e1, rfl, hf1.trans0 hf⟩
theorem SS.busyNone {w : World} {d c : Nat} {cs : List SC} {dn : List Nat} {T : Nat → Prop} (h : SS w d c cs dn T) (xs : List Value) (icl inu ico : Nat) (a : AN) (hm : MsX xs 4 icl inu ico a) (hco : ico < 256) (hu : Unc c cs icl inu) (hcl : icl < 4294967296) (hnu : inu < 4294967296) :
    Calls Try.prog 14 #[.pointer (some ⟨d, 0, none⟩), .agg xs.toArray] w fun e w' => ∃ r, e = .returned (.int .i64 r) ∧ r = 15 ∧ Fr (fun _ => False) w w' := by
  obtain ⟨mw, ma, dv, h⟩ := h
  have hf1 := box1 w (.cells xs.toArray 49)
  have h1 := h.fr0 hf1
  refine stake_busy d xs icl inu ico a hm hco w _ ?_
  refine (stb_none d mw ma icl inu (ico : Nat) _ h1.cells.2.1 h1.cells.2.2.1 (fun W' hf => (h1.look_wn hcl hnu (fun e => fW_no (hu e)) W' hf).1) (fun W' hf => h1.look_an hcl hnu (fun e => fA_no (hu e)) W' hf)).mono ?_
  rintro e w' ⟨e1, hf⟩
  exact ⟨15, e1, rfl, hf1.trans0 hf⟩
end Go.Proofs.Ytfaponkpgcdgkaa
