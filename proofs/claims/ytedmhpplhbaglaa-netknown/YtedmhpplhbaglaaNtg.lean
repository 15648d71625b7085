import Derived.Test.YtedmhpplhbaglaaNtf
namespace Go.Proofs.Ytedmhpplhbaglaa
open Go.RowKit Go.ChangeShapes Go.WideShapes Go.Maps

theorem set_self (l : List PK) (k : Nat) (p : PK) (h : l[k]? = some p) : l.set k p = l := by
  refine List.ext_getElem? fun j => ?_
  rw [List.getElem?_set]
  split
  · next e => subst e; split <;> simp_all
  · rfl
theorem NtAt.re {w w' : World} {d m : Nat} {pl : Int} {ps ps' : List PK} {sv : Nat → Option Addr × Nat} {T : Nat → Prop} (h : NtAt w d m pl ps sv T) (hl : ps'.length = ps.length) (hs : ∀ (k : Nat) q, ps'[k]? = some q → q.gone = 0 → ps[k]? = some q) (hb : ∀ (k : Nat) q, ps'[k]? = some q → q.b.length ≤ 1048576)
    (hd : w'.heap[d]? = some (.cells (NC pl m ps') 58)) {D : DataW PV} (hm : w'.ownsMap Try.prog 3 RV m ps.length D) (hD : DOk D ps' sv) (hf : Fr (fun k => k = d ∨ k = m) w w') : NtAt w' d m pl ps' sv T := by
  refine ⟨hd, ⟨D, by rw [hl]; exact hm, hD⟩, fun j q hj hq => ?_, fun j q hj hq => h.own j q (hs j q hj hq) hq, fun g hg => ⟨(h.ns g hg).1, (h.ns g hg).2.1, Nat.lt_of_lt_of_le (h.ns g hg).2.2 hf.size⟩, fun q hq => ?_⟩
  · have hj' := hs j q hj hq
    refine (h.src j q hj' hq).fr hf (fun g o n c e2 => ?_)
    cases hs : (sv j).1 with
    | none => rw [hs] at e2; cases e2
    | some a =>
      rw [hs] at e2
      cases e2
      have := h.ns g (h.own j q hj' hq g o hs)
      omega
  · obtain ⟨k, hk⟩ := List.getElem?_of_mem hq
    exact hb k q hk
theorem lost_gone0 {TO : Int} {p q : PK} (h : lostTo TO p = q) (hq : q.gone = 0) : p = q := by
  unfold lostTo at h
  split at h
  · subst h; cases hq
  · exact h
theorem lost_b {TO : Int} (p : PK) : (lostTo TO p).b = p.b := by unfold lostTo; split <;> rfl
theorem ok_inj {α : Type} {a b : α} {w w' : World} (h : Result.ok a w = .ok b w') : w = w' := by injection h
theorem ranges_keep {H : Type} {w w' : World} {P : Program} {k : TypeId} {R : Value → Option (DataW H × List MemPlace)} {b r n : Nat} {D : DataW H} {left : Lit → Bool} {cnt : Nat} (h : w.ranges P k R b r n D left cnt) (hb : w'.heap[b]? = w.heap[b]?) (hr : w'.heap[r]? = w.heap[r]?) : w'.ranges P k R b r n D left cnt := by
  obtain ⟨es, clock, since, seen, c0, h1, F, hs, hD, h2, rest⟩ := h
  exact ⟨es, clock, since, seen, c0, hb.trans h1, F, hs, hD, hr.trans h2, rest⟩
/-- The loop of Lose under way. -/
structure LI (w wr : World) (d m : Nat) (pl TO : Int) (ps : List PK) (sv : Nat → Option Addr × Nat) (left : Lit → Bool) (cnt : Nat) (D : DataW PV) : Prop where
  rg : wr.ranges Try.prog 3 RV m w.heap.size ps.length D left cnt
  ok : DOk D (lp TO left ps) sv
  blk : wr.heap[d]? = some (.cells (NC pl m (lp TO left ps)) 58)
  fr : Fr (fun k => k = d ∨ k = m) w wr
set_option maxHeartbeats 1000000 in
set_option maxRecDepth 100000 in
theorem lose_any (d m : Nat) (pl TO : Int) (ps : List PK) (sv : Nat → Option Addr × Nat) (T : Nat → Prop) (w : World) (h : NtAt w d m pl ps sv T) (hn : ps.length ≤ 1048576) :
    Calls Try.prog 15 #[.pointer (some ⟨d, 0, none⟩), .int .i64 TO] w fun e w' => e = .returned (.int .i64 (loseN TO ps : Nat)) ∧ NtAt w' d m pl (ps.map (lostTo TO)) sv T ∧ Fr (fun k => k = d ∨ k = m) w w' := by
  obtain ⟨c0, c1, c2, c3, c4, c5, fz⟩ := h.cells
  have hdm := h.dm
  have hdl := h.lt.1
  have hcnt := (lose_cS ps TO).2.2.2
  have hcL : cL ps ≤ 1048576 := Nat.le_trans List.countP_le_length hn
  have hcN : loseN TO ps ≤ 1048576 := Nat.le_trans List.countP_le_length hn
  obtain ⟨D, hown, hD⟩ := h.map
  have HX := hide (And.intro h (And.intro hdm hdl))
  clear c0 c2 c3 c4 fz h hdm
  go_enter Try.func15, Try.ntmps15
  go_wp2_with (first
    | (at_range; refine wpList_range_own _ rfl _ 56 rfl 3 34 Try.iK Try.underlying56 _ m ps.length D rfl hown ?_; intro w0 hrg0 hg0 hs0)
    | go_in)
  go_frame
  have hl0 : lp TO (Maps.has D) ps = ps := lp_start TO _ ps (fun z => hD.has z)
  have hf0 : Fr (fun k => k = d ∨ k = m) w w0 := (Fr.refl _ _).grown hg0 (fun k hk => by cases hk)
  have HI0 : Hid (LI w w0 d m pl TO ps sv (Maps.has D) (Maps.size D) D) := ⟨hrg0, by rw [hl0]; exact hD, by rw [hl0]; exact ((Fr.refl (fun _ => False) w).grown hg0 (fun k hk => by cases hk)).block d hdl (fun h => h) |>.trans (unhide HX).1.blk, hf0⟩
  clear hl0 hf0 hrg0 hg0 hs0 hown hD c1 c5
  go_loopw [6] (fun _ wr => ∃ (left : Lit → Bool) (cnt : Nat) (D' : DataW PV), LI w wr d m pl TO ps sv left cnt D') (fun _ wr => wr.rangeLeft m w.heap.size)
  case atStart => exact ⟨_, _, _, unhide HI0⟩
  case round =>
    obtain ⟨left, cnt, D', hLI⟩ := hrel
    rename World => wr
    have HL := hide hLI
    have hrg := hLI.rg
    clear hLI HI0
    go_wp2_with (first
      | (at_next; refine wpList_next_ranges _ rfl _ rfl 3 Try.iK RV (Value.int .i64) (fun c : PV => .agg #[.int .i64 c.n, .int .i64 c.f, .int .i64 c.t, .slice c.a c.l c.c]) (fun key kl hkey => by obtain ⟨x, rfl, _⟩ := Maps.keyOf_int_inv Try.underlying3 hkey; exact ⟨x, rfl⟩) (fun v y hv => by obtain ⟨c, rfl, _⟩ := RV_inv hv; exact ⟨c, rfl⟩) m w.heap.size ps.length D' left cnt rfl hrg ?_ ?_)
      | go_in)
    · intro _ hl0
      have e1 := lp_end TO left ps hl0
      have hb := (unhide HL).blk
      rw [e1] at hb
      have k5 : wr.cell? ⟨d, 5, none⟩ = some (.int .i64 ((cL ps : Int) + (loseN TO ps : Nat))) := by
        rw [cell_of_blk hb (show _ = some (Value.int .i64 ((cL (ps.map (lostTo TO)) : Nat) : Int)) from rfl), hcnt]
        simp
      have hN : NtAt wr d m pl (ps.map (lostTo TO)) sv T := by
        refine (unhide HX).1.re (by simp) (fun k q hk hq => ?_) (fun k q hk => ?_) hb (unhide HL).rg.owns (by rw [← e1]; exact (unhide HL).ok) (unhide HL).fr
        · rw [List.getElem?_map] at hk
          obtain ⟨p, hp, e⟩ := Option.map_eq_some_iff.1 hk
          rw [hp, lost_gone0 e hq]
        · rw [List.getElem?_map] at hk
          obtain ⟨p, hp, rfl⟩ := Option.map_eq_some_iff.1 hk
          rw [lost_b]
          exact (unhide HX).1.lim p (List.mem_of_getElem? hp)
      have HN := hide (And.intro hN (unhide HL).fr)
      clear hN hb e1 hl0 hrg HL HX hcnt
      go_wp2_with fail
      go_ret
      refine ⟨congrArg (fun z => Ending.returned (.int .i64 z)) ?_, unhide HN⟩
      first
        | omega
    · intro x c kl y1 y2 w1 cnt1 hkey hlk hv hat hrg1 hlt hg1 hs1 hen
      obtain ⟨x', ex, rfl, hwx⟩ := Maps.keyOf_int_inv Try.underlying3 hkey
      cases ex
      obtain ⟨c', ec, ey⟩ := RV_inv hv
      cases ey
      have ec' : c = c' := by
        simp only [PV.v, Value.agg.injEq] at ec
        cases c; cases c'
        simp at ec
        simp [ec]
      subst ec'
      have hhas : Maps.has D' (.int .i64 x) = true := has_true_of_atKey hat
      obtain ⟨k, q, rfl, hq, hq0⟩ := und_some ((((unhide HL).ok.has x).symm.trans hhas))
      have hcq : c = pvOf sv k q := by
        have := (unhide HL).ok.at_ k q hq hq0 .nil
        rw [hat .nil] at this
        injection this
      have hqp : ps[k]? = some q := by
        rw [lp_at] at hq
        obtain ⟨p, hp, e⟩ := Option.map_eq_some_iff.1 hq
        rw [if_pos hlk] at e
        rw [hp, e]
      have hml := (unhide HX).1.lt.2
      have hdm := (unhide HX).2.1
      have hf1 : Fr (fun k => k = d ∨ k = m) w w1 := (unhide HL).fr.grown hg1 (fun j hj => by cases hj; exact .inr (Nat.le_refl _))
      have hb1 : w1.heap[d]? = some (.cells (NC pl m (lp TO left ps)) 58) := (hg1.block d (Nat.lt_of_lt_of_le hdl (unhide HL).fr.size) (fun e => by injection e with e; omega)).trans (unhide HL).blk
      have hml1 : m < w1.heap.size := hrg1.owns.lt
      have hdl1 : d < w1.heap.size := lt_of_block hb1
      have hpl : (lp TO left ps).length ≤ 1048576 := by rw [lp_len]; exact hn
      have hkl : k < (lp TO left ps).length := (List.getElem?_eq_some_iff.1 hq).1
      have hlm := lp_met TO left ps k q hqp
      unfold pvOf at hcq
      subst hcq
      by_cases ht : q.t = TO
      · have hlo : lostTo TO q = { q with gone := 2 } := by simp [lostTo, hq0, ht]
        rw [hlo] at hlm
        have HC : Hid (∀ o, Calls Try.prog 25 #[.pointer (some ⟨d, 0, none⟩), .int .i64 ((k : Int) + 1)] (w1.alloc o) fun e w' => e = .returned (.tuple #[]) ∧ ∃ cnt2 D2, cnt2 < cnt ∧ LI w w' d m pl TO ps sv (fun z => left z && !z.sameKey (.int .i64 ((k : Int) + 1))) cnt2 D2) := fun o => by
          have hbo : (w1.alloc o).heap[d]? = some (.cells (NC pl m (lp TO left ps)) 58) := (Below.heap_alloc _ _ _ hdl1).trans hb1
          obtain ⟨w2, cnt2, hr2, hrg2, hle2, ht2⟩ := (hrg1.alloc o).drop Try.iK (t := 56) Try.underlying56 hkey 0
          rw [strike_twice] at hrg2
          refine (loseOne_any d m ps.length _ (cL (lp TO left ps)) D' (w1.alloc o) (cell_of_blk hbo rfl) (cell_of_blk hbo rfl) (by simp [World.frozen?, hbo]) (hrg1.alloc o).owns hdm hwx (Nat.le_trans List.countP_le_length hpl)).mono ?_
          rintro e w' ⟨rfl, w3, hr3, ht3, rfl⟩
          have e3 : w3 = w2 := (ok_inj (hr2.symm.trans hr3)).symm
          subst e3
          have hft := Fr.turned ht3
          have hb3 : w3.heap[d]? = some (.cells (NC pl m (lp TO left ps)) 58) := (hft.block d (by simp; omega) hdm).trans hbo
          have hfs : Fr (fun k => k = d) w3 (w3.setCell ⟨d, 5, none⟩ (.int .i64 ((cL (lp TO left ps) : Int) + 1))) := (Fr.refl (fun k => k = d) w3).setCell (p := ⟨d, 5, none⟩) (.inl rfl) _
          refine ⟨rfl, cnt2, _, by omega, ranges_keep hrg2 (hfs.block m hrg2.owns.lt (fun e => hdm e.symm)) (hfs.block w.heap.size hrg2.lt (fun e => by have e' : w.heap.size = d := e; omega)), ?_, ?_, ?_⟩
          · rw [hlm]; exact (unhide HL).ok.del k _ hkl (by simp)
          · rw [blkset hb3, hlm, (NC_gone pl m (lp TO left ps) k q hq hq0).2]
          · exact (((hf1.alloc o).trans hft (fun _ _ h => .inr h)).trans hfs (fun _ _ h => .inl h))
        have e1 : (q.t == TO) = true := by simp [ht]
        have HM := hide (And.intro hrg hlt)
        clear ht hlo hlm hkl hpl hml1 hb1 hf1 hml hdm hqp hq0 hq hhas hlt hs1 hg1 hrg1 hat hv hlk hkey hwx hrg ec HL HX hcnt
        go_wp2_with fail
        refine ((unhide HC) _).mono ?_
        rintro e w2 ⟨rfl, cnt2, D2, hc2, hL2⟩
        have HL2 := hide hL2
        clear hL2 HC
        go_wp2_with fail
        go_roundw
        case rel => exact ⟨_, cnt2, D2, unhide HL2⟩
        case measure => rw [(unhide HL2).rg.left_eq, (unhide HM).1.left_eq]; exact hc2
      · have hlo : lostTo TO q = q := lost_other ht
        rw [hlo, set_self _ _ _ hq] at hlm
        have HL2 : Hid (∀ o, LI w (w1.alloc o) d m pl TO ps sv (fun z => left z && !z.sameKey (.int .i64 ((k : Int) + 1))) cnt1 D') := fun o => ⟨hrg1.alloc o, by rw [hlm]; exact (unhide HL).ok, by rw [hlm]; exact (Below.heap_alloc _ _ _ hdl1).trans hb1, hf1.alloc o⟩
        have e1 : (q.t == TO) = false := by simp [ht]
        have HM := hide (And.intro hrg hlt)
        clear ht hlo hlm hkl hpl hml1 hb1 hf1 hml hdm hqp hq0 hq hhas hlt hs1 hg1 hrg1 hat hv hlk hkey hwx hrg ec HL HX hcnt
        go_wp2_with fail
        go_roundw
        case rel => exact ⟨_, cnt1, D', (unhide HL2) _⟩
        case measure => rw [((unhide HL2) _).rg.left_eq, (unhide HM).1.left_eq]; exact (unhide HM).2
end Go.Proofs.Ytedmhpplhbaglaa
