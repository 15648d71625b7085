import Derived.Test.YtocdnomfpgdglabDoorPk1
import Derived.Test.YtocdnomfpgdglabDoorMae
import Derived.Test.YtocdnomfpgdglabDoorSbw
import Derived.Test.YtocdnomfpgdglabDoorMaf
namespace Go.Proofs.YtocdnomfpgdglabDoor
open Go.RowKit

set_option maxRecDepth 100000 in
set_option maxHeartbeats 1000000 in
/-- same, of lists that are the same. -/
theorem msame_T (x y : Value) (vs us : List Value) (ps : List (List Nat)) (w : World) (hx : Pcs w x vs ps) (hy : Pcs w y us ps) (hB : ∀ p ∈ ps, p.length ≤ 1000000) (hn : ps.length ≤ 16000000) :
    Calls Tryd.prog 101 #[x, y] w fun e w' => e = .returned (.bool true) ∧ Fr (fun _ => False) w w' := by
  obtain ⟨xo, xc, rfl⟩ := hx.form
  obtain ⟨yo, yc, rfl⟩ := hy.form
  have HG := hide (And.intro hx (And.intro hy (And.intro hB hn)))
  clear hx hy hB hn
  generalize hN : ps.length = N at *
  go_enter Tryd.func101, Tryd.ntmps101
  go_wp2_with fail
  go_loopw [5] (fun iv wr => ∃ (k : Nat), k ≤ N ∧ iv = .int .i64 (k : Nat) ∧ Fr (fun _ => False) w wr) (fun iv _ => N - (intOf iv).toNat)
  case atStart => exact ⟨0, Nat.zero_le _, rfl, Fr.refl _ _⟩
  case round =>
    obtain ⟨k, hk, rfl, hF⟩ := hrel
    have hN8 := (unhide HG).2.2.2
    by_cases hlt : k < N
    · have hlt' : (k : Int) < (N : Int) := by omega
      have hke : k < ps.length := by omega
      obtain ⟨g, o, vo, vc, rfl, c1, s1⟩ := (unhide HG).1.nth hF k hke
      obtain ⟨g2, o2, uo, uc, rfl, c2, s2⟩ := (unhide HG).2.1.nth hF k hke
      have hpb := (unhide HG).2.2.1 ps[k] (List.getElem_mem hke)
      have hsm : sameB ps[k] ps[k] = true := sameB_refl _
      have hsame := fun (w' : World) (hf : Fr (fun _ => False) wr w') => same_T (s1.s.fr0 hf) (s2.s.fr0 hf) (by omega) hsm
      generalize ps[k].length = PL at *
      have HS := hide (And.intro hsame hF)
      clear hsame hF s1 s2 hsm
      have w5 : IntKind.i64.wrap ((k : Int) + 1) = (k : Int) + 1 := by rw [IntKind.wrap_i64]; omega
      have hS : ∀ w', Fr (fun _ => False) wr w' → w'.cell? ⟨g, o + k, none⟩ = some (.slice vo PL vc) ∧ w'.cell? ⟨g2, o2 + k, none⟩ = some (.slice uo PL uc) := fun w' hf => ⟨(hf.cell (lt_of_cell c1) (fun h => h)).trans c1, (hf.cell (lt_of_cell c2) (fun h => h)).trans c2⟩
      have HSS := hide hS
      clear hS
      go_wp2_with fail
      go_region_held3 (fun w' => w'.cell? ⟨g, o + k, none⟩ = some (.slice vo PL vc) ∧ w'.cell? ⟨g2, o2 + k, none⟩ = some (.slice uo PL uc))
        (first | assumption | exact (unhide HSS) _ (Fr.refl _ _).drew | exact (unhide HSS) _ fC)
        (first | (go_at_call 11; refine ((unhide HS).1 _ (by exact (Fr.refl _ _).drew)).mono ?_; rintro e wC ⟨rfl, hC⟩; have fC : Fr (fun _ => False) wr wC := (Fr.refl _ _).drew.trans hC (fun _ _ h => h)))
      have HE := hide ((unhide HS).2.trans fC (fun _ _ h => h))
      clear fC hC
      go_wp2_with fail
      exact ⟨⟨k + 1, by omega, by go_num, unhide HE⟩, by simp [intOf]; omega⟩
    · have hlt' : ¬ (k : Int) < (N : Int) := by omega
      have HE := hide hF
      clear hF
      go_wp2_with fail
      go_ret
      exact ⟨rfl, unhide HE⟩
set_option maxRecDepth 100000 in
set_option maxHeartbeats 1000000 in
/-- apart, of hashes that bear their marks. -/
theorem apart_T (x : Value) (vs : List Value) (qs : List (List Nat)) (w : World) (hx : Pcs w x vs qs) (hm : Mkd qs qs.length) (hB : ∀ p ∈ qs, p.length ≤ 1000000) (hn : qs.length ≤ 16000000) :
    Calls Tryd.prog 103 #[x] w fun e w' => e = .returned (.bool true) ∧ w' = w := by
  obtain ⟨xo, xc, rfl⟩ := hx.form
  have HG := hide (And.intro hx (And.intro hm (And.intro hB hn)))
  clear hx hm hB hn
  generalize hN : qs.length = N at *
  go_enter Tryd.func103, Tryd.ntmps103
  go_wp2_with fail
  go_loopw [3] (fun iv wr => ∃ (k : Nat), k ≤ N ∧ iv = .int .i64 (k : Nat) ∧ wr = w) (fun iv _ => N - (intOf iv).toNat)
  case atStart => exact ⟨0, Nat.zero_le _, rfl, rfl⟩
  case round =>
    obtain ⟨k, hk, rfl, rfl⟩ := hrel
    have hN8 := (unhide HG).2.2.2
    by_cases hlt : k < N
    · have hlt' : (k : Int) < (N : Int) := by omega
      have hke : k < qs.length := by omega
      obtain ⟨g, o, vo, vc, rfl, c1, s1⟩ := (unhide HG).1.nth (Fr.refl _ _) k hke
      have hpb := (unhide HG).2.2.1 qs[k] (List.getElem_mem hke)
      have hmk := (unhide HG).2.1 k qs[k] hlt (List.getElem?_eq_getElem hke)
      generalize qs[k] = q at *
      have HS := hide (And.intro s1 hmk)
      clear s1 hmk
      generalize hL : q.length = L at *
      obtain ⟨V, hV⟩ : ∃ V, (99 + k) % 256 = V := ⟨_, rfl⟩
      have r1 : IntKind.i64.wrap (99 + (k : Int)) = 99 + (k : Int) := by rw [IntKind.wrap_i64]; omega
      have r2 : IntKind.u8.wrap (99 + (k : Int)) = (V : Int) := by rw [IntKind.wrap_u8]; omega
      have w3 : IntKind.i64.wrap ((k : Int) + 1) = (k : Int) + 1 := by rw [IntKind.wrap_i64]; omega
      have HV := hide hV
      clear hV
      go_wp2_with fail
      go_loopw [4] (fun jv wz => ∃ (j : Nat), j ≤ L ∧ jv = .int .i64 (j : Nat) ∧ wz = wr) (fun jv _ => L - (intOf jv).toNat)
      case atStart => exact ⟨0, Nat.zero_le _, rfl, rfl⟩
      case round =>
        obtain ⟨j, hj, rfl, rfl⟩ := hrel
        by_cases hjl : j < L
        · have hjl' : (j : Int) < (L : Int) := by omega
          obtain ⟨g1, o1, rfl, b1⟩ := src_cell (unhide HS).1.s j (by omega) (unhide HS).1.b
          have hu : q.getD j 0 = V := by
            rw [List.getD, List.getElem?_eq_getElem (by omega), Option.getD_some, ← unhide HV]
            exact (unhide HS).2 _ (List.getElem_mem _)
          rw [hu] at b1
          have w4 : IntKind.i64.wrap ((j : Int) + 1) = (j : Int) + 1 := by rw [IntKind.wrap_i64]; omega
          clear hu
          go_wp2_with fail
          exact ⟨⟨j + 1, by omega, by go_num, by first | rfl | trivial⟩, by simp [intOf]; omega⟩
        · have hjl' : ¬ (j : Int) < (L : Int) := by omega
          go_wp2_with fail
          exact ⟨⟨k + 1, by omega, by go_num, by first | rfl | trivial⟩, by simp [intOf]; omega⟩
    · have hlt' : ¬ (k : Int) < (N : Int) := by omega
      go_wp2_with fail
      go_ret
      exact ⟨rfl, by first | rfl | trivial⟩
/-- Hashes made later stay where what was made before them is written. -/
theorem OL.pcs_ge {w wr wq : World} {ao : Option Addr} {cp : Nat} {vs : List Value} {ps : List (List Nat)} (h : OL w wr ao cp vs ps) (hf : Fr (fun k => k < w.heap.size) wr wq) : Pcs wq (.slice ao vs.length cp) vs ps := by
  have hp := h.pcs
  refine ⟨hp.len, ?_, fun j v p hv hpp => ?_, hp.byt⟩
  · rcases h.own.own.2 with ⟨e, e0⟩ | ⟨g, cap, cur, e, h1, _⟩
    · simp only [Value.slice.injEq] at e
      obtain ⟨rfl, _, rfl⟩ := e
      exact .inl ⟨by rw [e0], List.length_eq_zero_iff.1 e0⟩
    · simp only [Value.slice.injEq, true_and] at e
      obtain ⟨rfl, rfl⟩ := e
      have hg := h.own.own.lt g rfl
      refine .inr (.inr ⟨g, 0, cp, rfl, Nat.lt_of_lt_of_le hg.2 hf.size, fun j v hv => ?_⟩)
      have hj : j < vs.length := (List.getElem?_eq_some_iff.1 hv).1
      rw [Nat.zero_add, hf.cell (p := ⟨g, j, none⟩) hg.2 (by simp only; omega), h.own.own.cellAt j (by omega), hv]
  · obtain ⟨bo, c, rfl, hO⟩ := h.row j v p hv hpp
    have hO2 : Ow wq w.heap.size bo c p := hO.fr hf (fun k hk h => by omega)
    have := hO2.sl (h.byt p (List.mem_of_getElem? hpp))
    exact ⟨this.s, this.cap, this.lt⟩
theorem OL.inner_lt' {w wr : World} {ao : Option Addr} {cp : Nat} {vs : List Value} {ps : List (List Nat)} (h : OL w wr ao cp vs ps) : (∀ v ∈ vs, ∀ g, v.ownBlock = some g → g < wr.heap.size) ∧ ∀ g, (Value.slice ao vs.length cp).ownBlock = some g → g < wr.heap.size :=
  ⟨fun v hv g hg => (h.inner_lt v hv g hg).2, fun g hg => (h.own.own.lt g hg).2⟩
set_option maxRecDepth 100000 in
set_option maxHeartbeats 1000000 in
theorem held_T {w2 w3 w4 : World} {ao bo : Option Addr} {cp bc : Nat} {vs us ts : List Value} {ps : List (List Nat)} {z : Value} (ha : OL w2 w3 ao cp vs ps) (hb : OL w3 w4 bo bc us ps) (hz : Pcs w2 z ts ps) (c : Int) (hB : ∀ p ∈ ps, p.length ≤ 1000) (hn : ps.length ≤ 8000000) :
    Calls Tryd.prog 67 #[.slice ao vs.length cp, .int .i64 c, .slice bo us.length bc, .int .i64 c, z, .int .i64 c] w4 fun e w' => e = .returned (.bool true) ∧ Fr (fun _ => False) w2 w' := by
  have hB2 : ∀ p ∈ ps, p.length ≤ 1000000 := fun p hp => by have := hB p hp; omega
  have ha4 := ha.fr0 hb.own.fr
  have h1 := fun w' (hf : Fr (fun _ => False) w4 w') => msame_T _ _ vs ts ps w' (ha4.fr0 hf).pcs (((hz.fr0 ha.own.fr).fr0 hb.own.fr).fr0 hf) hB2 (by omega)
  have h2 := fun w' (hf : Fr (fun _ => False) w4 w') => msame_T _ _ us ts ps w' (hb.fr0 hf).pcs (((hz.fr0 ha.own.fr).fr0 hb.own.fr).fr0 hf) hB2 (by omega)
  have hl := ha.inner_lt'
  have hsp := fun w' (hf : Fr (fun _ => False) w4 w') => spoil_any (ha4.fr0 hf) w3.heap.size hB (by rw [ha.len]; exact hn) hl.1 hl.2
  have hap : ∀ w' qs, OL w2 w' ao cp vs qs → Mkd qs vs.length → Calls Tryd.prog 103 #[.slice ao vs.length cp] w' fun e w'' => e = .returned (.bool true) ∧ w'' = w' := fun w' qs hq hm => by
    refine apart_T _ vs qs w' hq.pcs (by rw [← hq.len]; exact hm) (fun q hqm => ?_) (by rw [← hq.len, ha.len]; omega)
    obtain ⟨j, hj, rfl⟩ := List.getElem_of_mem hqm
    have hjv : j < vs.length := by rw [hq.len]; exact hj
    have hjp : j < ps.length := by rw [← ha.len]; exact hjv
    obtain ⟨b1, c1, e1, _⟩ := hq.row j vs[j] qs[j] (List.getElem?_eq_getElem hjv) (List.getElem?_eq_getElem hj)
    obtain ⟨b2, c2, e2, _⟩ := ha.row j vs[j] ps[j] (List.getElem?_eq_getElem hjv) (List.getElem?_eq_getElem hjp)
    rw [e1] at e2
    simp only [Value.slice.injEq] at e2
    rw [e2.2.1]
    exact hB2 _ (List.getElem_mem _)
  have h3 := fun w' w'' (hf : Fr (fun _ => False) w4 w') (hf2 : Fr (fun k => k < w3.heap.size) w' w'') (hf3 : Fr (fun _ => False) w2 w'') => msame_T _ _ us ts ps w'' ((hb.fr0 hf).pcs_ge hf2) (hz.fr0 hf3) hB2 (by omega)
  have HC := hide (And.intro h1 (And.intro h2 (And.intro hsp (And.intro hap h3))))
  obtain ⟨zo, zc, rfl⟩ := hz.form
  clear h1 h2 hsp hap h3 hl ha4 hB2 hB hn ha hb hz
  generalize vs.length = VL at *
  generalize us.length = UL at *
  generalize ps.length = PL at *
  go_enter Tryd.func67, Tryd.ntmps67
  go_wp2_with fail
  refine ((unhide HC).1 w4 (Fr.refl _ _)).mono ?_
  rintro e w5 ⟨rfl, hF⟩
  have H5 := hide hF
  clear hF
  go_wp2_with fail
  refine ((unhide HC).2.1 w5 (unhide H5)).mono ?_
  rintro e w6 ⟨rfl, hF⟩
  have H6 := hide ((unhide H5).trans hF (fun _ _ h => h))
  clear hF
  go_wp2_with fail
  refine ((unhide HC).2.2.1 w6 (unhide H6)).mono ?_
  rintro e w7 ⟨rfl, qs, hq, hm, hF⟩
  have H7 := hide (And.intro hq (And.intro hm hF))
  clear hq hm hF
  go_wp2_with fail
  refine ((unhide HC).2.2.2.1 w7 qs (unhide H7).1 (unhide H7).2.1).mono ?_
  rintro e w8 ⟨rfl, rfl⟩
  go_wp2_with fail
  refine ((unhide HC).2.2.2.2 w6 w8 (unhide H6) (unhide H7).2.2 (unhide H7).1.own.fr).mono ?_
  rintro e w9 ⟨rfl, hF⟩
  have H9 := hide ((unhide H7).1.own.fr.trans hF (fun _ _ h => h))
  clear hF
  go_wp2_with fail
  go_ret
  exact ⟨rfl, unhide H9⟩
end Go.Proofs.YtocdnomfpgdglabDoor

namespace Go.Proofs.YtocdnomfpgdglabDoor
open Go.RowKit

set_option maxRecDepth 100000 in
set_option maxHeartbeats 1000000 in
/-- The ref's with. -/
theorem with_any (x y : Value) (vs : List Value) (ps : List (List Nat)) (h : List Nat) (w : World) (hx : Pcs w x vs ps) (hy : Sl w y h) (hn : ps.length ≤ 8000000) :
    Calls Tryd.prog 117 #[x, y] w fun e w' => ∃ ao cp, e = .returned (.slice ao (ps.length + 1) cp) ∧ Pcs w' (.slice ao (ps.length + 1) cp) (vs ++ [y]) (ps ++ [h]) ∧ Fr (fun _ => False) w w' := by
  obtain ⟨xo, xc, rfl⟩ := hx.form
  obtain ⟨yo, yc, rfl⟩ := hy.form
  have hvl : vs.length = ps.length := hx.len
  have HG := hide (And.intro hx (And.intro hy (And.intro hn hvl)))
  clear hx hy hn hvl
  generalize hN : ps.length = N at *
  generalize hH : h.length = HL at *
  go_enter Tryd.func117, Tryd.ntmps117
  go_wp2_with fail
  go_loopw [5, 6] (fun ov iv wr => ∃ (k : Nat) (ao : Option Addr) (cp : Nat), k ≤ N ∧ iv = .int .i64 (k : Nat) ∧ ov = .slice ao k cp ∧ OS w wr ao cp (vs.take k)) (fun _ iv _ => N - (intOf iv).toNat)
  case atStart => exact ⟨0, none, 0, Nat.zero_le _, rfl, rfl, OS.nil w⟩
  case round =>
    obtain ⟨k, ao, cp, hk, rfl, rfl, hO⟩ := hrel
    have hN8 := (unhide HG).2.2.1
    have hvl := (unhide HG).2.2.2
    have htl : (vs.take k).length = k := by rw [List.length_take]; omega
    by_cases hlt : k < N
    · have hlt' : (k : Int) < (N : Int) := by omega
      have hke : k < ps.length := by omega
      obtain ⟨g, o, v, rfl, hcell, hsrc, -⟩ := (unhide HG).1.cell hO.fr k hke
      have hvk : vs[k]? = some v := by
        have hkv : k < vs.length := by omega
        rcases (unhide HG).1.at_ with ⟨e', _⟩ | ⟨_, _, e', _⟩ | ⟨g', o', c', e', hg', hc'⟩
        · simp at e'
        · simp only [Value.slice.injEq] at e'; omega
        · simp only [Value.slice.injEq, Option.some.injEq, Addr.mk.injEq, and_true] at e'
          obtain ⟨⟨rfl, rfl⟩, _⟩ := e'
          have h1 := (hO.fr.cell (p := ⟨g, o + k, none⟩) hg' (fun h => h)).trans (hc' k _ (List.getElem?_eq_getElem hkv))
          rw [h1] at hcell
          rw [List.getElem?_eq_getElem hkv, Option.some.inj hcell]
      obtain ⟨vo, vc, rfl⟩ := hsrc.form
      obtain ⟨a2, c2, w2, hr2, hO2, -, -⟩ := hO.app1 vo ps[k].length vc (by omega)
      have htk : vs.take k ++ [.slice vo ps[k].length vc] = vs.take (k + 1) := by
        rw [List.take_add_one, hvk]; rfl
      rw [htk] at hO2
      rw [htl] at hr2
      have HR2 := hide hr2
      have HO2 := hide hO2
      clear hr2 hO2 hO hsrc htk hvk htl
      generalize ps[k].length = PL at *
      go_wp2_with (at_builtin; refine wpList_app rfl (.tmp 13) (.tmp 18) 22 22 rfl _ _ _ rfl rfl (unhide HR2) ?_)
      exact ⟨⟨k + 1, a2, c2, by omega, by go_num, rfl, unhide HO2⟩, by simp [intOf]; omega⟩
    · have hkN : k = N := by omega
      have hlt' : ¬ (k : Int) < (N : Int) := by omega
      have htk : vs.take k = vs := List.take_of_length_le (by omega)
      rw [htk] at hO htl
      obtain ⟨a2, c2, w2, hr2, hO2, -, -⟩ := hO.app1 yo HL yc (by omega)
      rw [htl] at hr2
      have hpc : Pcs w2 (.slice a2 (vs ++ [Value.slice yo HL yc]).length c2) (vs ++ [.slice yo HL yc]) (ps ++ [h]) := hO2.pcs (by rw [List.length_append, List.length_append, hvl, hN]; rfl) (fun j v p hv hp => by
        by_cases hj : j < vs.length
        · rw [List.getElem?_append_left hj] at hv
          rw [List.getElem?_append_left (by omega)] at hp
          exact ((unhide HG).1.sl j v p hv hp).fr0 hO2.fr
        · have hje : j = vs.length := by
            have := (List.getElem?_eq_some_iff.1 hv).1
            rw [List.length_append, List.length_singleton] at this
            omega
          subst hje
          rw [List.getElem?_append_right (Nat.le_refl _), Nat.sub_self] at hv
          rw [List.getElem?_append_right (by omega), show vs.length - ps.length = 0 by omega] at hp
          simp only [List.getElem?_cons_zero, Option.some.injEq] at hv hp
          subst hv hp
          exact (unhide HG).2.1.fr0 hO2.fr)
      rw [List.length_append, htl] at hpc
      have HR2 := hide hr2
      have HO2 := hide (And.intro hpc (And.intro hO2.fr hkN))
      clear hr2 hO2 hO hpc htk htl hkN
      go_wp2_with (at_builtin; refine wpList_app rfl (.tmp 20) (.tmp 22) 22 22 rfl _ _ _ rfl rfl (unhide HR2) ?_)
      go_ret
      obtain ⟨h1, h2, h3⟩ := unhide HO2
      subst h3
      exact ⟨a2, c2, rfl, h1, h2⟩
theorem pth_le (wi : Nat) (m : Nat) : ∀ (ls : List (List Nat)) (i : Nat), ls.length ≤ m → (pth wi ls i).length ≤ ls.length := by
  induction m with
  | zero => intro ls i h; rw [pth_short _ _ _ (by omega)]; exact Nat.zero_le _
  | succ m ih =>
    intro ls i h
    by_cases h2 : ls.length < 2
    · rw [pth_short _ _ _ h2]; exact Nat.zero_le _
    · have h3 := hf_lt ls.length (by omega)
      have h4 := hf_pos ls.length
      by_cases hi : i < hf ls.length
      · rw [pth_l (by omega) hi, List.length_append]
        have := ih (ls.take (hf ls.length)) i (by rw [List.length_take]; omega)
        rw [List.length_take] at this
        simp; omega
      · rw [pth_r (by omega) hi, List.length_append]
        have := ih (ls.drop (hf ls.length)) (i - hf ls.length) (by rw [List.length_drop]; omega)
        rw [List.length_drop] at this
        simp; omega
def PathSays (wi : Nat) (ls : List (List Nat)) (I : Nat) (x : Value) (w : World) : Prop :=
  Calls Tryd.prog 104 #[.int .i64 wi, x, .int .i64 I] w fun e w' => ∃ yo yc us, e = .returned (.slice yo (pth wi ls I).length yc) ∧ Pcs w' (.slice yo (pth wi ls I).length yc) us (pth wi ls I) ∧ Fr (fun _ => False) w w'
set_option maxRecDepth 100000 in
theorem gpath_short (wi : Nat) (ps : List (List Nat)) (I : Nat) (x : Value) (vs : List Value) (w : World) (hp : Pcs w x vs ps) (h : ps.length < 2) : PathSays wi ps I x w := by
  unfold PathSays
  rw [pth_short _ _ _ h]
  obtain ⟨xo, xc, rfl⟩ := hp.form
  have q1 : (ps.length : Int) < 2 := by omega
  clear hp
  generalize ps.length = N at *
  go_enter Tryd.func104, Tryd.ntmps104
  go_wp2_with fail
  go_ret
  exact ⟨none, 0, [], rfl, ⟨rfl, .inl ⟨rfl, rfl⟩, (fun j v p h => by simp at h), (fun p h => by cases h)⟩, Fr.refl _ _⟩
set_option maxRecDepth 100000 in
set_option maxHeartbeats 1000000 in
/-- The ref's PathOf. -/
theorem gpath_any (wi : Nat) (n : Nat) : ∀ (ps : List (List Nat)) (I : Nat) (x : Value) (vs : List Value) (w : World), ps.length ≤ n → ps.length ≤ 8000000 → I < ps.length → GR w → Pcs w x vs ps → Cp x → (∀ p ∈ ps, p.length ≤ 4000000) → PathSays wi ps I x w := by
  induction n with
  | zero => intro ps I x vs w hl _ hI; omega
  | succ n ih =>
    intro ps I x vs w hl hl8 hIl hr hp hcx hB
    by_cases h2 : ps.length < 2
    · exact gpath_short wi ps I x vs w hp h2
    · obtain ⟨xo, xc, rfl⟩ := hp.form
      obtain ⟨g, o, v, rfl, -⟩ := hp.cell (Fr.refl _ _) 0 (by omega)
      have hk1 := hf_lt ps.length (by omega)
      have hk2 := hf_pos ps.length
      have hle : vs.length = ps.length := hp.len
      have hcapx : ps.length ≤ xc := hcx _ _ _ rfl
      have cp1 : Cp (.slice (some ⟨g, o, none⟩) (hf ps.length) xc) := fun _ _ _ e => by cases e; omega
      have cp2 : Cp (.slice (some ⟨g, o + hf ps.length, none⟩) (ps.length - hf ps.length) (xc - hf ps.length)) := fun _ _ _ e => by cases e; omega
      have hP1 := hp.take (hf ps.length) (by omega)
      have hP2 := hp.drop (hf ps.length) hk1
      have hB1 : ∀ p ∈ ps.take (hf ps.length), p.length ≤ 4000000 := fun p h => hB p (List.mem_of_mem_take h)
      have hB2 : ∀ p ∈ ps.drop (hf ps.length), p.length ≤ 4000000 := fun p h => hB p (List.mem_of_mem_drop h)
      have hl1 : (ps.take (hf ps.length)).length = hf ps.length := by rw [List.length_take]; omega
      have hl2 : (ps.drop (hf ps.length)).length = ps.length - hf ps.length := by rw [List.length_drop]
      have hha := half_any ps.length w (by omega) (by omega)
      by_cases hI : I < hf ps.length
      · have hmt := pth_l (wi := wi) (ls := ps) (i := I) (by omega) hI
        have c1 : ∀ w', Fr (fun _ => False) w w' → PathSays wi (ps.take (hf ps.length)) I (.slice (some ⟨g, o, none⟩) (hf ps.length) xc) w' := fun w' hfr => ih _ _ _ _ w' (by omega) (by omega) (by omega) (hr.fr0 hfr) (hP1.fr0 hfr) cp1 hB1
        have c2 : ∀ w', Fr (fun _ => False) w w' → OfSays wi (ps.drop (hf ps.length)) (.slice (some ⟨g, o + hf ps.length, none⟩) (ps.length - hf ps.length) (xc - hf ps.length)) w' := fun w' hfr => of_any wi _ _ _ _ w' (Nat.le_refl _) (by omega) (hr.fr0 hfr) (hP2.fr0 hfr) cp2 hB2
        have hplen : (pth wi (ps.take (hf ps.length)) I).length ≤ 8000000 := Nat.le_trans (pth_le wi _ _ _ (Nat.le_refl _)) (by omega)
        unfold PathSays at c1 ⊢
        unfold OfSays at c2
        rw [hmt]
        generalize pth wi (ps.take (hf ps.length)) I = P1 at *
        generalize mth wi (ps.drop (hf ps.length)) = M2 at *
        have hwith : ∀ (x y : Value) us w', Pcs w' x us P1 → Sl w' y M2 → _ := fun x y us w' h1 h2 => with_any x y us P1 M2 w' h1 h2 hplen
        have HG := hide (And.intro c1 (And.intro c2 (And.intro hwith hha)))
        clear hr hP1 hP2 c1 c2 hha hmt hB hB1 hB2 hp hl1 hl2 ih cp1 cp2 hcx hwith hplen
        generalize hK : hf ps.length = K at *
        have q1 : (K : Int) ≤ (ps.length : Int) := by omega
        have q2 : (K : Int) ≤ (xc : Int) := by omega
        have q3 : ¬ (ps.length : Int) < 2 := by omega
        have q4 : ¬ ps.length < 2 := by omega
        have q7 : (I : Int) < (K : Int) := by omega
        have q8 : IntKind.i64.wrap ((I : Int) - (K : Int)) = ((I - K : Nat) : Int) ∨ True := .inr trivial
        clear q8 hK
        generalize ps.length = N at *
        go_enter Tryd.func104, Tryd.ntmps104
        go_wp2_with fail
        refine (unhide HG).2.2.2.mono ?_
        rintro e w0 ⟨rfl, rfl⟩
        go_wp2_with fail
        have q5 : ¬ xc = K := by omega
        have q6 : ¬ K = xc := by omega
        go_region_held3 (fun _ => True) (trivial) (first
          | (go_at_call 104; refine ((unhide HG).1 _ ((Fr.refl _ _).drew)).mono ?_; rintro e wA ⟨yA, cA, uA, rfl, sA, fA⟩)
          | (go_at_call 41; refine ((unhide HG).2.1 _ (((Fr.refl _ _).drew).trans fA (fun _ _ h => h))).mono ?_; rintro e wB ⟨yB, cB, rfl, sB, fB⟩)
          | (go_at_call 117; refine ((unhide HG).2.2.1 _ _ _ wB (sA.fr0 fB) sB).mono ?_; rintro e wC ⟨zo, zc, rfl, oC, fC⟩))
        have hFC : Fr (fun _ => False) w0 wC := ((((Fr.refl (fun _ => False) w0).drew).trans fA (fun _ _ h => h)).trans fB (fun _ _ h => h)).trans fC (fun _ _ h => h)
        have HE := hide (And.intro oC hFC)
        clear hFC oC
        go_wp2_with fail
        go_ret
        exact ⟨zo, zc, _, by rw [List.length_append]; rfl, by rw [List.length_append]; exact (unhide HE).1, (unhide HE).2⟩
      · have hmt := pth_r (wi := wi) (ls := ps) (i := I) (by omega) hI
        have c1 : ∀ w', Fr (fun _ => False) w w' → PathSays wi (ps.drop (hf ps.length)) (I - hf ps.length) (.slice (some ⟨g, o + hf ps.length, none⟩) (ps.length - hf ps.length) (xc - hf ps.length)) w' := fun w' hfr => ih _ _ _ _ w' (by omega) (by omega) (by omega) (hr.fr0 hfr) (hP2.fr0 hfr) cp2 hB2
        have c2 : ∀ w', Fr (fun _ => False) w w' → OfSays wi (ps.take (hf ps.length)) (.slice (some ⟨g, o, none⟩) (hf ps.length) xc) w' := fun w' hfr => of_any wi _ _ _ _ w' (Nat.le_refl _) (by omega) (hr.fr0 hfr) (hP1.fr0 hfr) cp1 hB1
        have hplen : (pth wi (ps.drop (hf ps.length)) (I - hf ps.length)).length ≤ 8000000 := Nat.le_trans (pth_le wi _ _ _ (Nat.le_refl _)) (by omega)
        unfold PathSays at c1 ⊢
        unfold OfSays at c2
        rw [hmt]
        generalize pth wi (ps.drop (hf ps.length)) (I - hf ps.length) = P1 at *
        generalize mth wi (ps.take (hf ps.length)) = M2 at *
        have hwith : ∀ (x y : Value) us w', Pcs w' x us P1 → Sl w' y M2 → _ := fun x y us w' h1 h2 => with_any x y us P1 M2 w' h1 h2 hplen
        have HG := hide (And.intro c1 (And.intro c2 (And.intro hwith hha)))
        clear hr hP1 hP2 c1 c2 hha hmt hB hB1 hB2 hp hl1 hl2 ih cp1 cp2 hcx hwith hplen
        generalize hK : hf ps.length = K at *
        have q1 : (K : Int) ≤ (ps.length : Int) := by omega
        have q2 : (K : Int) ≤ (xc : Int) := by omega
        have q3 : ¬ (ps.length : Int) < 2 := by omega
        have q4 : ¬ ps.length < 2 := by omega
        have q7 : ¬ (I : Int) < (K : Int) := by omega
        have q8 : IntKind.i64.wrap ((I : Int) - (K : Int)) = ((I - K : Nat) : Int) ∨ True := .inr trivial
        have q9 : IntKind.i64.wrap ((I : Int) - (K : Int)) = (I : Int) - (K : Int) := by rw [IntKind.wrap_i64]; omega
        have q10 : ((I - K : Nat) : Int) = (I : Int) - (K : Int) := by omega
        rw [q10] at HG
        clear q8 hK q10
        generalize ps.length = N at *
        go_enter Tryd.func104, Tryd.ntmps104
        go_wp2_with fail
        refine (unhide HG).2.2.2.mono ?_
        rintro e w0 ⟨rfl, rfl⟩
        go_wp2_with fail
        have q5 : ¬ xc = K := by omega
        have q6 : ¬ K = xc := by omega
        go_region_held3 (fun _ => True) (trivial) (first
          | (go_at_call 104; refine ((unhide HG).1 _ ((Fr.refl _ _).drew)).mono ?_; rintro e wA ⟨yA, cA, uA, rfl, sA, fA⟩)
          | (go_at_call 41; refine ((unhide HG).2.1 _ (((Fr.refl _ _).drew).trans fA (fun _ _ h => h))).mono ?_; rintro e wB ⟨yB, cB, rfl, sB, fB⟩)
          | (go_at_call 117; refine ((unhide HG).2.2.1 _ _ _ wB (sA.fr0 fB) sB).mono ?_; rintro e wC ⟨zo, zc, rfl, oC, fC⟩))
        have hFC : Fr (fun _ => False) w0 wC := ((((Fr.refl (fun _ => False) w0).drew).trans fA (fun _ _ h => h)).trans fB (fun _ _ h => h)).trans fC (fun _ _ h => h)
        have HE := hide (And.intro oC hFC)
        clear hFC oC
        go_wp2_with fail
        go_ret
        exact ⟨zo, zc, _, by rw [List.length_append]; rfl, by rw [List.length_append]; exact (unhide HE).1, (unhide HE).2⟩
end Go.Proofs.YtocdnomfpgdglabDoor

namespace Go.Proofs.YtocdnomfpgdglabDoor
open Go.RowKit

set_option maxRecDepth 100000 in
set_option maxHeartbeats 1000000 in
theorem hex_O (s : ByteArray) (w : World) (hs : s.size < 1048576) : Calls Tryd.prog 51 #[.string s] w fun e w' => ∃ yo yc, e = .returned (.slice yo (hxl (bytesOf s)).length yc) ∧ OB w w' yo yc (hxl (bytesOf s)) := by
  go_enter Tryd.func51, Tryd.ntmps51
  go_wp2_with fail
  go_loopw [3, 4] (fun x i wr => ∃ k j : Nat, j = 2 * k ∧ j ≤ s.size ∧ i = .int .i64 j ∧ wr.ownsRow w.heap.size 5 1 x k (cellsOf (hxk (bytesOf s) k)) ∧ Fr (fun _ => False) w wr) (fun _ i _ => s.size - (intOf i).toNat)
  case atStart => exact ⟨0, 0, rfl, Nat.zero_le _, rfl, own_nil w _, Fr.refl _ _⟩
  case round =>
    obtain ⟨k, j, hj, hjs, rfl, ho, hF⟩ := hrel
    rename World => wr
    rename_i x'
    by_cases hlt : j + 1 < s.size
    · have hlt1 : j < s.size := by omega
      have hlt2 : j < s.data.size := hlt1
      have hlt3 : j + 1 < s.data.size := hlt
      have a0 : s[j].toNat < 256 := s[j].toNat_lt
      have a1 : s[j + 1].toNat < 256 := s[j + 1].toNat_lt
      have e0 : (bytesOf s).getD (2 * k) 0 = s[j].toNat := by
        rw [← hj, List.getD, List.getElem?_eq_getElem (by rw [bytesOf_length]; exact hlt1)]; simp [bytesOf]; rfl
      have e1 : (bytesOf s).getD (2 * k + 1) 0 = s[j + 1].toNat := by
        rw [← hj, List.getD, List.getElem?_eq_getElem (by rw [bytesOf_length]; exact hlt)]; simp [bytesOf]; rfl
      have hv : hbl (bytesOf s) k = (dg s[j].toNat * 16 % 256) ||| dg s[j + 1].toNat := by rw [hbl, e0, e1]
      have hj2 : j + 2 ≤ s.size := by omega
      obtain ⟨xo, xcap, rfl⟩ := own_form ho
      have x0 : ∀ w0 : World, (Instr.index 9 (.string s) (.int .i64 (j : Int))).run Tryd.prog w0 = .ok (.int .u8 (s[j].toNat : Int)) w0 := fun w0 => by
        rw [run_index_string _ _ _ _ _ Tryd.underlying9, dif_pos ⟨by omega, by omega⟩]
        simp only [Int.toNat_natCast]
      have x1 : ∀ w0 : World, (Instr.index 9 (.string s) (.int .i64 ((j : Int) + 1))).run Tryd.prog w0 = .ok (.int .u8 (s[j + 1].toNat : Int)) w0 := fun w0 => by
        have e : (j : Int) + 1 = ((j + 1 : Nat) : Int) := by omega
        rw [e, run_index_string _ _ _ _ _ Tryd.underlying9, dif_pos ⟨by omega, by omega⟩]
        simp only [Int.toNat_natCast]
      generalize s[j].toNat = A at *
      generalize s[j + 1].toNat = B1 at *
      have i1 : (j : Int) + 1 < (s.size : Int) := by omega
      have r0 : IntKind.i64.wrap ((j : Int) + 1) = (j : Int) + 1 := by rw [IntKind.wrap_i64]; omega
      have j0 : (0 : Int) ≤ (j : Int) + 1 := by omega
      have d0 := dg_lt A a0
      have d1 := dg_lt B1 a1
      have hd0 := fun w0 => digit_any A w0 a0
      have hd1 := fun w0 => digit_any B1 w0 a1
      generalize dg A = DA at *
      generalize dg B1 = DB at *
      have p1 : IntKind.u8.wrap ((DA : Int) * 16) = ((DA * 16 % 256 : Nat) : Int) := by rw [IntKind.wrap_u8]; omega
      have p1' : (DA : Int) * 16 % 256 = ((DA * 16 % 256 : Nat) : Int) := by omega
      have p2 := u8_or_nat (DA * 16 % 256) DB (Nat.mod_lt _ (by decide)) d1
      have vlt : (DA * 16 % 256) ||| DB < 256 := Nat.or_lt_two_pow (n := 8) (Nat.mod_lt _ (by decide)) d1
      generalize DA * 16 % 256 = P at *
      generalize P ||| DB = V at *
      have ho2 : (wr.alloc (.cells #[.int .u8 (V : Int)] 5)).drew.ownsRow w.heap.size 5 1 (.slice xo k xcap) k (cellsOf (hxk (bytesOf s) k)) := ownsRow_of_block (w' := (wr.alloc (.cells #[.int .u8 (V : Int)] 5)).drew) ho (fun g hg => Below.heap_alloc _ _ _ (ho.lt g hg).2)
      have hsr : Src (wr.alloc (.cells #[.int .u8 (V : Int)] 5)).drew (.slice (some ⟨wr.heap.size, 0, none⟩) 1 1) [V] := (lit_src wr [V] #[.int .u8 (V : Int)] 1 1 rfl (by simp [cellsOf, B, Nat.mod_eq_of_lt vlt])).fr0 (Fr.refl _ _).drew
      obtain ⟨ao, c', w2, hr, hown, hgrow, hat⟩ := run_app_sl _ 23 w.heap.size k _ _ _ [V] ho2 hsr (by simp; omega) (by have := hF.size; simp; omega)
      have hF2 : Fr (fun _ => False) w w2 := ((hF.alloc _).drew).grown hgrow (fun g hg => .inr (ho.lt g hg).1)
      have hnew : w2.ownsRow w.heap.size 5 1 (.slice ao (k + 1) c') (k + 1) (cellsOf (hxk (bytesOf s) (k + 1))) := by
        rw [hxk_succ, hv, cellsOf_append]; exact hown
      have hj' : j + 2 = 2 * (k + 1) := by omega
      have HR := hide hr
      have HV := hide (And.intro hnew (And.intro hF2 hj'))
      clear hv hj ho hF e0 e1 hlt1 hlt2 hlt3 ho2 hsr hr hown hgrow hat hF2 hnew hj'
      go_wp2_with fail
      go_region_held3 (fun _ => True) (trivial) (first
        | (go_at_call 90; refine (hd0 _).mono ?_; rintro e w' ⟨rfl, rfl⟩; clear hd0)
        | (go_at_call 90; refine (hd1 _).mono ?_; rintro e w' ⟨rfl, rfl⟩)
        | (refine step_app rfl (.tmp 12) (.tmp 24) 23 23 rfl (.slice xo k xcap) (.slice (some ⟨wr.heap.size, 0, none⟩) 1 1) _ (by simp [Act.eval]) (by simp [Act.eval]) (unhide HR) ?_))
      all_goals
        go_wp2_with fail
        exact ⟨⟨k + 1, j + 2, (unhide HV).2.2, hj2, by go_num, (unhide HV).1, (unhide HV).2.1⟩, by simp [intOf]; omega⟩
    · have hlt' : ¬ (j : Int) + 1 < (s.size : Int) := by omega
      have e : hxl (bytesOf s) = hxk (bytesOf s) k := by rw [hxl, bytesOf_length]; congr 1; omega
      obtain ⟨xo, xcap, rfl⟩ := own_form ho
      have hO : OB w wr xo xcap (hxk (bytesOf s) k) := ⟨by rw [hxk_len]; exact ho, hF⟩
      have hl := hxk_len (bytesOf s) k
      rw [← e] at hO hl
      have HV := hide (And.intro hO hl)
      clear hO hF ho e hj hl
      go_wp2_with fail
      go_ret
      exact ⟨xo, xcap, by rw [(unhide HV).2]; rfl, (unhide HV).1⟩
/-- A literal of slices of bytes. -/
theorem pcs_lit {w : World} {vs : List Value} {ps : List (List Nat)} (hl : vs.length = ps.length) (hs : ∀ (j : Nat) v p, vs[j]? = some v → ps[j]? = some p → Sl w v p) (W : World) (hW : w.alloc (.cells vs.toArray 23) = W) (n : Nat) (hn : vs.length = n) : Pcs W (.slice (some ⟨w.heap.size, 0, none⟩) n n) vs ps ∧ Fr (fun _ => False) w W := by
  have hF1 : Fr (fun _ => False) w W := by rw [← hW]; exact (Fr.refl _ _).alloc _
  have hc : ∀ j, W.cell? ⟨w.heap.size, 0 + j, none⟩ = vs.toArray[j]? := fun j => by rw [Nat.zero_add, ← hW, World.cell?_alloc_at _ _ _ _ rfl]
  have hlt : w.heap.size < W.heap.size := by rw [← hW]; simp
  refine ⟨⟨hl, .inr (.inr ⟨w.heap.size, 0, n, by rw [hn], hlt, fun j v hv => ?_⟩), fun j v p hv hp => ?_, fun p hp => ?_⟩, hF1⟩
  · rw [hc j]; simpa using hv
  · have := (hs j v p hv hp).fr0 hF1
    exact ⟨this.s, this.cap, this.lt⟩
  · obtain ⟨j, hj, rfl⟩ := List.getElem_of_mem hp
    exact (hs j (vs[j]'(by omega)) ps[j] (List.getElem?_eq_getElem _) (List.getElem?_eq_getElem hj)).b
/-- The entries of the document's examples. -/
def tes : List (List Nat) := [[], [0], [16], [32, 33], [48, 49], [64, 65, 66, 67], [80, 81, 82, 83, 84, 85, 86, 87], [96, 97, 98, 99, 100, 101, 102, 103, 104, 105, 106, 107, 108, 109, 110, 111]]
theorem hex_lit (s : ByteArray) (l : List Nat) (w : World) (hs : s.size < 1048576) (hl : hxl (bytesOf s) = l) (n : Nat) (hn : l.length = n) (hb : ∀ v ∈ l, v < 256) : Calls Tryd.prog 51 #[.string s] w fun e w' => ∃ yo yc, e = .returned (.slice yo n yc) ∧ Sl w' (.slice yo n yc) l ∧ Fr (fun _ => False) w w' := by
  refine (hex_O s w hs).mono ?_
  rintro e w' ⟨yo, yc, rfl, hO⟩
  rw [hl] at hO ⊢
  have := hO.sl hb
  rw [hn] at this ⊢
  exact ⟨yo, yc, rfl, this, hO.fr⟩
theorem sl_nil (w : World) : Sl w (.slice none 0 0) [] := ⟨.inl ⟨rfl, rfl⟩, fun _ _ _ e => by cases e; exact Nat.le_refl _, .inl rfl, fun _ h => by cases h⟩
set_option maxRecDepth 100000 in
set_option maxHeartbeats 4000000 in
theorem tests_any (w : World) : Calls Tryd.prog 50 #[] w fun e w' => ∃ g vs, e = .returned (.slice (some ⟨g, 0, none⟩) 8 8) ∧ Pcs w' (.slice (some ⟨g, 0, none⟩) 8 8) vs tes ∧ Fr (fun _ => False) w w' := by
  go_enter Tryd.func50, Tryd.ntmps50
  go_wp2_with fail
  refine (hex_lit ⟨#[48, 48]⟩ [0] _ (by decide) (by decide) 1 rfl (by decide)).mono ?_
  rintro e w1 ⟨a1, c1, rfl, hS, hF⟩
  have S1 := hide hS
  have F1 := hide hF
  clear hS hF
  go_wp2_with fail
  refine (hex_lit ⟨#[49, 48]⟩ [16] _ (by decide) (by decide) 1 rfl (by decide)).mono ?_
  rintro e w2 ⟨a2, c2, rfl, hS, hF⟩
  have S1 := hide ((unhide S1).fr0 hF)
  have S2 := hide hS
  have F2 := hide ((unhide F1).trans hF (fun _ _ h => h))
  clear hS hF
  go_wp2_with fail
  refine (hex_lit ⟨#[50, 48, 50, 49]⟩ [32, 33] _ (by decide) (by decide) 2 rfl (by decide)).mono ?_
  rintro e w3 ⟨a3, c3, rfl, hS, hF⟩
  have S1 := hide ((unhide S1).fr0 hF)
  have S2 := hide ((unhide S2).fr0 hF)
  have S3 := hide hS
  have F3 := hide ((unhide F2).trans hF (fun _ _ h => h))
  clear hS hF
  go_wp2_with fail
  refine (hex_lit ⟨#[51, 48, 51, 49]⟩ [48, 49] _ (by decide) (by decide) 2 rfl (by decide)).mono ?_
  rintro e w4 ⟨a4, c4, rfl, hS, hF⟩
  have S1 := hide ((unhide S1).fr0 hF)
  have S2 := hide ((unhide S2).fr0 hF)
  have S3 := hide ((unhide S3).fr0 hF)
  have S4 := hide hS
  have F4 := hide ((unhide F3).trans hF (fun _ _ h => h))
  clear hS hF
  go_wp2_with fail
  refine (hex_lit ⟨#[52, 48, 52, 49, 52, 50, 52, 51]⟩ [64, 65, 66, 67] _ (by decide) (by decide) 4 rfl (by decide)).mono ?_
  rintro e w5 ⟨a5, c5, rfl, hS, hF⟩
  have S1 := hide ((unhide S1).fr0 hF)
  have S2 := hide ((unhide S2).fr0 hF)
  have S3 := hide ((unhide S3).fr0 hF)
  have S4 := hide ((unhide S4).fr0 hF)
  have S5 := hide hS
  have F5 := hide ((unhide F4).trans hF (fun _ _ h => h))
  clear hS hF
  go_wp2_with fail
  refine (hex_lit ⟨#[53, 48, 53, 49, 53, 50, 53, 51, 53, 52, 53, 53, 53, 54, 53, 55]⟩ [80, 81, 82, 83, 84, 85, 86, 87] _ (by decide) (by decide) 8 rfl (by decide)).mono ?_
  rintro e w6 ⟨a6, c6, rfl, hS, hF⟩
  have S1 := hide ((unhide S1).fr0 hF)
  have S2 := hide ((unhide S2).fr0 hF)
  have S3 := hide ((unhide S3).fr0 hF)
  have S4 := hide ((unhide S4).fr0 hF)
  have S5 := hide ((unhide S5).fr0 hF)
  have S6 := hide hS
  have F6 := hide ((unhide F5).trans hF (fun _ _ h => h))
  clear hS hF
  go_wp2_with fail
  refine (hex_lit ⟨#[54, 48, 54, 49, 54, 50, 54, 51, 54, 52, 54, 53, 54, 54, 54, 55, 54, 56, 54, 57, 54, 97, 54, 98, 54, 99, 54, 100, 54, 101, 54, 102]⟩ [96, 97, 98, 99, 100, 101, 102, 103, 104, 105, 106, 107, 108, 109, 110, 111] _ (by decide) (by decide) 16 rfl (by decide)).mono ?_
  rintro e w7 ⟨a7, c7, rfl, hS, hF⟩
  have S1 := hide ((unhide S1).fr0 hF)
  have S2 := hide ((unhide S2).fr0 hF)
  have S3 := hide ((unhide S3).fr0 hF)
  have S4 := hide ((unhide S4).fr0 hF)
  have S5 := hide ((unhide S5).fr0 hF)
  have S6 := hide ((unhide S6).fr0 hF)
  have S7 := hide hS
  have F7 := hide ((unhide F6).trans hF (fun _ _ h => h))
  clear hS hF
  go_wp2_with fail
  go_ret
  obtain ⟨hP, hF⟩ := pcs_lit (w := w7) (vs := [.slice none 0 0, .slice a1 1 c1, .slice a2 1 c2, .slice a3 2 c3, .slice a4 2 c4, .slice a5 4 c5, .slice a6 8 c6, .slice a7 16 c7]) (ps := tes) rfl (fun j v p hv hp => by
    match j with
    | 0 => simp [tes] at hv hp; subst hv hp; exact sl_nil _
    | 1 => simp [tes] at hv hp; subst hv hp; exact unhide S1
    | 2 => simp [tes] at hv hp; subst hv hp; exact unhide S2
    | 3 => simp [tes] at hv hp; subst hv hp; exact unhide S3
    | 4 => simp [tes] at hv hp; subst hv hp; exact unhide S4
    | 5 => simp [tes] at hv hp; subst hv hp; exact unhide S5
    | 6 => simp [tes] at hv hp; subst hv hp; exact unhide S6
    | 7 => simp [tes] at hv hp; subst hv hp; exact unhide S7
    | j + 8 => simp at hv) _ rfl 8 rfl
  exact ⟨_, _, rfl, hP, (unhide F7).trans hF (fun _ _ h => h)⟩
end Go.Proofs.YtocdnomfpgdglabDoor

namespace Go.Proofs.YtocdnomfpgdglabDoor
open Go.RowKit

/-- SUB. -/
def subF (wi : Nat) (ls : List (List Nat)) (m : Nat) (b : Bool) : List (List Nat) :=
  if _h : m = ls.length ∨ ls.length < 2 then (if b then [] else [mth wi ls])
  else if m ≤ hf ls.length then subF wi (ls.take (hf ls.length)) m b ++ [mth wi (ls.drop (hf ls.length))]
  else subF wi (ls.drop (hf ls.length)) (m - hf ls.length) false ++ [mth wi (ls.take (hf ls.length))]
termination_by ls.length
decreasing_by
  · rw [List.length_take]; have := hf_lt ls.length (by omega); omega
  · rw [List.length_drop]; have := hf_pos ls.length; omega
theorem subF_eq {wi : Nat} {ls : List (List Nat)} {m : Nat} {b : Bool} (h : m = ls.length) : subF wi ls m b = if b then [] else [mth wi ls] := by rw [subF, dif_pos (.inl h)]
theorem subF_l {wi : Nat} {ls : List (List Nat)} {m : Nat} {b : Bool} (h : 2 ≤ ls.length) (hne : ¬ m = ls.length) (hi : m ≤ hf ls.length) : subF wi ls m b = subF wi (ls.take (hf ls.length)) m b ++ [mth wi (ls.drop (hf ls.length))] := by
  conv => lhs; rw [subF, dif_neg (by omega), if_pos hi]
theorem subF_r {wi : Nat} {ls : List (List Nat)} {m : Nat} {b : Bool} (h : 2 ≤ ls.length) (hne : ¬ m = ls.length) (hi : ¬ m ≤ hf ls.length) : subF wi ls m b = subF wi (ls.drop (hf ls.length)) (m - hf ls.length) false ++ [mth wi (ls.take (hf ls.length))] := by
  conv => lhs; rw [subF, dif_neg (by omega), if_neg hi]
theorem subF_le (wi : Nat) (k : Nat) : ∀ (ls : List (List Nat)) (m : Nat) (b : Bool), ls.length ≤ k → (subF wi ls m b).length ≤ ls.length + 1 := by
  induction k with
  | zero => intro ls m b h; rw [subF, dif_pos (by omega)]; split <;> simp
  | succ k ih =>
    intro ls m b h
    by_cases h2 : m = ls.length ∨ ls.length < 2
    · rw [subF, dif_pos h2]; split <;> simp
    · have h3 := hf_lt ls.length (by omega)
      have h4 := hf_pos ls.length
      by_cases hi : m ≤ hf ls.length
      · rw [subF_l (by omega) (by omega) hi, List.length_append]
        have := ih (ls.take (hf ls.length)) m b (by rw [List.length_take]; omega)
        rw [List.length_take] at this
        simp; omega
      · rw [subF_r (by omega) (by omega) hi, List.length_append]
        have := ih (ls.drop (hf ls.length)) (m - hf ls.length) false (by rw [List.length_drop]; omega)
        rw [List.length_drop] at this
        simp; omega
/-- SUB by the part where it ends. -/
theorem sub_bes (wi : Nat) (L : List (List Nat)) (k : Nat) : ∀ f n m, n ≤ k → f + n ≤ L.length → 0 < m → m ≤ n →
    subF wi (blk L f n) m true = (if (endF f n (f + m)).1 = f then bes wi L f n (endF f n (f + m)).1 (endF f n (f + m)).2 else mth wi (blk L (endF f n (f + m)).1 (endF f n (f + m)).2) :: bes wi L f n (endF f n (f + m)).1 (endF f n (f + m)).2) ∧
    subF wi (blk L f n) m false = mth wi (blk L (endF f n (f + m)).1 (endF f n (f + m)).2) :: bes wi L f n (endF f n (f + m)).1 (endF f n (f + m)).2 := by
  induction k with
  | zero => intro f n m h1 _ h2 h3; omega
  | succ k ih =>
    intro f n m h1 hL h2 h3
    have hlen := blk_len L f n hL
    by_cases e : m = n
    · subst e
      rw [endF_eq rfl, subF_eq hlen.symm, subF_eq hlen.symm, if_pos rfl, bes_eq]
      exact ⟨by rw [if_pos rfl], by simp⟩
    · have hlt := hf_lt n (by omega)
      have hp := hf_pos n
      by_cases hl : m ≤ hf n
      · obtain ⟨i1, i2⟩ := ih f (hf n) m (by omega) (by omega) h2 hl
        obtain ⟨o1, o2, o3, o4, o5⟩ := endF_ok (hf n) f (hf n) (f + m) (Nat.le_refl _) (by omega) (by omega)
        have e1 : ∀ b, subF wi (blk L f n) m b = subF wi (blk L f (hf n)) m b ++ [mth wi (blk L (f + hf n) (n - hf n))] := fun b => by
          rw [subF_l (by omega) (by omega) (by rw [hlen]; exact hl), hlen, blk_take _ _ _ _ (by omega), blk_drop]
        have e2 : endF f n (f + m) = endF f (hf n) (f + m) := endF_l (by omega) (by omega) (by omega)
        rw [e1 true, e1 false, i1, i2, e2]
        generalize endF f (hf n) (f + m) = E at *
        have e3 : bes wi L f n E.1 E.2 = bes wi L f (hf n) E.1 E.2 ++ [mth wi (blk L (f + hf n) (n - hf n))] := bes_l (by omega) (by omega) (by omega)
        rw [e3]
        refine ⟨?_, by simp⟩
        split
        · rfl
        · simp
      · obtain ⟨i1, i2⟩ := ih (f + hf n) (n - hf n) (m - hf n) (by omega) (by omega) (by omega) (by omega)
        have ee : f + hf n + (m - hf n) = f + m := by omega
        rw [ee] at i1 i2
        obtain ⟨o1, o2, o3, o4, o5⟩ := endF_ok (n - hf n) (f + hf n) (n - hf n) (f + m) (Nat.le_refl _) (by omega) (by omega)
        have e1 : ∀ b, subF wi (blk L f n) m b = subF wi (blk L (f + hf n) (n - hf n)) (m - hf n) false ++ [mth wi (blk L f (hf n))] := fun b => by
          rw [subF_r (by omega) (by omega) (by rw [hlen]; exact hl), hlen, blk_take _ _ _ _ (by omega), blk_drop]
        have e2 : endF f n (f + m) = endF (f + hf n) (n - hf n) (f + m) := endF_r (by omega) (by omega) (by omega)
        rw [e1 true, e1 false, i2, e2]
        generalize endF (f + hf n) (n - hf n) (f + m) = E at *
        have e3 : bes wi L f n E.1 E.2 = bes wi L (f + hf n) (n - hf n) E.1 E.2 ++ [mth wi (blk L f (hf n))] := bes_r (by omega) (by omega) (by omega)
        rw [e3, if_neg (by omega)]
        exact ⟨by simp, by simp⟩
theorem prf_sub (wi : Nat) (L : List (List Nat)) (m : Nat) (hm : m ≤ L.length) : prf wi L L.length m = if m = 0 ∨ m = L.length then [] else subF wi L m true := by
  rw [prf]
  by_cases h0 : m = 0
  · rw [if_pos h0, if_pos (.inl h0)]
  · rw [if_neg h0]
    by_cases h1 : m = L.length
    · have e1 : (if m = 0 ∨ m = L.length then ([] : List (List Nat)) else subF wi L m true) = [] := if_pos (.inr h1)
      rw [e1, endF_eq (by omega), if_pos rfl, bes_eq]
    · have e1 : (if m = 0 ∨ m = L.length then ([] : List (List Nat)) else subF wi L m true) = subF wi L m true := if_neg (by omega)
      have := (sub_bes wi L L.length 0 L.length m (Nat.le_refl _) (by omega) (by omega) hm).1
      rw [blk_all, Nat.zero_add] at this
      rw [e1]
      exact this.symm
def SubSays (wi : Nat) (ls : List (List Nat)) (I : Nat) (b : Bool) (x : Value) (w : World) : Prop :=
  Calls Tryd.prog 118 #[.int .i64 wi, .int .i64 I, x, .bool b] w fun e w' => ∃ yo yc us, e = .returned (.slice yo (subF wi ls I b).length yc) ∧ Pcs w' (.slice yo (subF wi ls I b).length yc) us (subF wi ls I b) ∧ Fr (fun _ => False) w w'
theorem pcs_nil (w : World) : Pcs w (.slice none 0 0) [] [] := ⟨rfl, .inl ⟨rfl, rfl⟩, (fun j v p h => by simp at h), (fun p h => by cases h)⟩
set_option maxRecDepth 100000 in
set_option maxHeartbeats 1000000 in
theorem gsub_end (wi : Nat) (ps : List (List Nat)) (b : Bool) (x : Value) (vs : List Value) (w : World) (hr : GR w) (hp : Pcs w x vs ps) (hcx : Cp x) (hn : ps.length ≤ 8000000) (hB : ∀ p ∈ ps, p.length ≤ 4000000) : SubSays wi ps ps.length b x w := by
  have hof := of_any wi _ ps x vs w (Nat.le_refl _) hn hr hp hcx hB
  unfold SubSays
  unfold OfSays at hof
  rw [subF_eq rfl]
  obtain ⟨xo, xc, rfl⟩ := hp.form
  generalize mth wi ps = M at *
  have HC := hide hof
  clear hof hp hcx hn hB hr
  generalize ps.length = N at *
  have q1 : ((N : Int) == (N : Int)) = true := by simp
  cases b
  · go_enter Tryd.func118, Tryd.ntmps118
    go_wp2_with fail
    refine (unhide HC).mono ?_
    rintro e w1 ⟨yo, yc, rfl, hS, hF⟩
    obtain ⟨W, hW⟩ : ∃ W, w1.alloc (.cells #[.slice yo M.length yc] 23) = W := ⟨_, rfl⟩
    obtain ⟨hP, hF2⟩ := pcs_lit (w := w1) (vs := [.slice yo M.length yc]) (ps := [M]) rfl (fun j v p hv hp => by
      match j with
      | 0 => simp at hv hp; subst hv hp; exact hS
      | j + 1 => simp at hv) W hW 1 rfl
    have H1 := hide (And.intro hP (hF.trans hF2 (fun _ _ h => h)))
    clear hP hF hF2 hS
    generalize M.length = ML at *
    go_wp2_with fail
    go_ret
    first | exact ⟨_, 1, _, rfl, (unhide H1).1, (unhide H1).2⟩ | exact ⟨_, 1, rfl, ⟨_, (unhide H1).1⟩, (unhide H1).2⟩
  · go_enter Tryd.func118, Tryd.ntmps118
    go_wp2_with fail
    go_ret
    first | exact ⟨none, 0, [], rfl, pcs_nil _, Fr.refl _ _⟩ | exact ⟨none, 0, rfl, ⟨[], pcs_nil _⟩, Fr.refl _ _⟩ | exact ⟨none, 0, rfl, [], pcs_nil _, Fr.refl _ _⟩
set_option maxRecDepth 100000 in
set_option maxHeartbeats 1000000 in
/-- The ref's sub. -/
theorem gsub_any (wi : Nat) (n : Nat) : ∀ (ps : List (List Nat)) (I : Nat) (b : Bool) (x : Value) (vs : List Value) (w : World), ps.length ≤ n → ps.length ≤ 8000000 - 1 → 0 < I → I ≤ ps.length → GR w → Pcs w x vs ps → Cp x → (∀ p ∈ ps, p.length ≤ 4000000) → SubSays wi ps I b x w := by
  induction n with
  | zero => intro ps I b x vs w hl _ h0 hI; omega
  | succ n ih =>
    intro ps I b x vs w hl hl8 h0 hIl hr hp hcx hB
    by_cases hne : I = ps.length
    · subst hne
      exact gsub_end wi ps b x vs w hr hp hcx (by omega) hB
    · obtain ⟨xo, xc, rfl⟩ := hp.form
      obtain ⟨g, o, v, rfl, -⟩ := hp.cell (Fr.refl _ _) 0 (by omega)
      have hk1 := hf_lt ps.length (by omega)
      have hk2 := hf_pos ps.length
      have hle : vs.length = ps.length := hp.len
      have hcapx : ps.length ≤ xc := hcx _ _ _ rfl
      have cp1 : Cp (.slice (some ⟨g, o, none⟩) (hf ps.length) xc) := fun _ _ _ e => by cases e; omega
      have cp2 : Cp (.slice (some ⟨g, o + hf ps.length, none⟩) (ps.length - hf ps.length) (xc - hf ps.length)) := fun _ _ _ e => by cases e; omega
      have hP1 := hp.take (hf ps.length) (by omega)
      have hP2 := hp.drop (hf ps.length) hk1
      have hB1 : ∀ p ∈ ps.take (hf ps.length), p.length ≤ 4000000 := fun p h => hB p (List.mem_of_mem_take h)
      have hB2 : ∀ p ∈ ps.drop (hf ps.length), p.length ≤ 4000000 := fun p h => hB p (List.mem_of_mem_drop h)
      have hl1 : (ps.take (hf ps.length)).length = hf ps.length := by rw [List.length_take]; omega
      have hl2 : (ps.drop (hf ps.length)).length = ps.length - hf ps.length := by rw [List.length_drop]
      have hha := half_any ps.length w (by omega) (by omega)
      by_cases hI : I ≤ hf ps.length
      · have hmt := subF_l (wi := wi) (ls := ps) (m := I) (b := b) (by omega) hne hI
        have c1 : ∀ w', Fr (fun _ => False) w w' → SubSays wi (ps.take (hf ps.length)) I b (.slice (some ⟨g, o, none⟩) (hf ps.length) xc) w' := fun w' hfr => ih _ _ _ _ _ w' (by omega) (by omega) (by omega) (by omega) (hr.fr0 hfr) (hP1.fr0 hfr) cp1 hB1
        have c2 : ∀ w', Fr (fun _ => False) w w' → OfSays wi (ps.drop (hf ps.length)) (.slice (some ⟨g, o + hf ps.length, none⟩) (ps.length - hf ps.length) (xc - hf ps.length)) w' := fun w' hfr => of_any wi _ _ _ _ w' (Nat.le_refl _) (by omega) (hr.fr0 hfr) (hP2.fr0 hfr) cp2 hB2
        have hplen : (subF wi (ps.take (hf ps.length)) I b).length ≤ 8000000 := Nat.le_trans (subF_le wi _ _ _ _ (Nat.le_refl _)) (by omega)
        unfold SubSays at c1 ⊢
        unfold OfSays at c2
        rw [hmt]
        generalize subF wi (ps.take (hf ps.length)) I b = P1 at *
        generalize mth wi (ps.drop (hf ps.length)) = M2 at *
        have hwith : ∀ (x y : Value) us w', Pcs w' x us P1 → Sl w' y M2 → _ := fun x y us w' h1 h2 => with_any x y us P1 M2 w' h1 h2 hplen
        have HG := hide (And.intro c1 (And.intro c2 (And.intro hwith hha)))
        clear hr hP1 hP2 c1 c2 hha hmt hB hB1 hB2 hp hl1 hl2 ih cp1 cp2 hcx hwith hplen
        generalize hK : hf ps.length = K at *
        have q1 : (K : Int) ≤ (ps.length : Int) := by omega
        have q2 : (K : Int) ≤ (xc : Int) := by omega
        have q3 : ¬ (I : Int) = (ps.length : Int) := by omega
        have q3b : ((I : Int) == (ps.length : Int)) = false := beq_false_of_ne q3
        have q4 : ¬ ps.length < 2 := by omega
        have q7 : (I : Int) ≤ (K : Int) := by omega
        have q8 : IntKind.i64.wrap ((I : Int) - (K : Int)) = ((I - K : Nat) : Int) ∨ True := .inr trivial
        clear q8 hK
        generalize ps.length = N at *
        go_enter Tryd.func118, Tryd.ntmps118
        go_wp2_with fail
        refine (unhide HG).2.2.2.mono ?_
        rintro e w0 ⟨rfl, rfl⟩
        go_wp2_with fail
        have q5 : ¬ xc = K := by omega
        have q6 : ¬ K = xc := by omega
        go_region_held3 (fun _ => True) (trivial) (first
          | (go_at_call 118; refine ((unhide HG).1 _ ((Fr.refl _ _).drew)).mono ?_; rintro e wA ⟨yA, cA, uA, rfl, sA, fA⟩)
          | (go_at_call 41; refine ((unhide HG).2.1 _ (((Fr.refl _ _).drew).trans fA (fun _ _ h => h))).mono ?_; rintro e wB ⟨yB, cB, rfl, sB, fB⟩)
          | (go_at_call 117; refine ((unhide HG).2.2.1 _ _ _ wB (sA.fr0 fB) sB).mono ?_; rintro e wC ⟨zo, zc, rfl, oC, fC⟩))
        have hFC : Fr (fun _ => False) w0 wC := ((((Fr.refl (fun _ => False) w0).drew).trans fA (fun _ _ h => h)).trans fB (fun _ _ h => h)).trans fC (fun _ _ h => h)
        have HE := hide (And.intro oC hFC)
        clear hFC oC
        go_wp2_with fail
        go_ret
        exact ⟨zo, zc, _, by rw [List.length_append]; rfl, by rw [List.length_append]; exact (unhide HE).1, (unhide HE).2⟩
      · have hmt := subF_r (wi := wi) (ls := ps) (m := I) (b := b) (by omega) hne hI
        have c1 : ∀ w', Fr (fun _ => False) w w' → SubSays wi (ps.drop (hf ps.length)) (I - hf ps.length) false (.slice (some ⟨g, o + hf ps.length, none⟩) (ps.length - hf ps.length) (xc - hf ps.length)) w' := fun w' hfr => ih _ _ _ _ _ w' (by omega) (by omega) (by omega) (by omega) (hr.fr0 hfr) (hP2.fr0 hfr) cp2 hB2
        have c2 : ∀ w', Fr (fun _ => False) w w' → OfSays wi (ps.take (hf ps.length)) (.slice (some ⟨g, o, none⟩) (hf ps.length) xc) w' := fun w' hfr => of_any wi _ _ _ _ w' (Nat.le_refl _) (by omega) (hr.fr0 hfr) (hP1.fr0 hfr) cp1 hB1
        have hplen : (subF wi (ps.drop (hf ps.length)) (I - hf ps.length) false).length ≤ 8000000 := Nat.le_trans (subF_le wi _ _ _ _ (Nat.le_refl _)) (by omega)
        unfold SubSays at c1 ⊢
        unfold OfSays at c2
        rw [hmt]
        generalize subF wi (ps.drop (hf ps.length)) (I - hf ps.length) false = P1 at *
        generalize mth wi (ps.take (hf ps.length)) = M2 at *
        have hwith : ∀ (x y : Value) us w', Pcs w' x us P1 → Sl w' y M2 → _ := fun x y us w' h1 h2 => with_any x y us P1 M2 w' h1 h2 hplen
        have HG := hide (And.intro c1 (And.intro c2 (And.intro hwith hha)))
        clear hr hP1 hP2 c1 c2 hha hmt hB hB1 hB2 hp hl1 hl2 ih cp1 cp2 hcx hwith hplen
        generalize hK : hf ps.length = K at *
        have q1 : (K : Int) ≤ (ps.length : Int) := by omega
        have q2 : (K : Int) ≤ (xc : Int) := by omega
        have q3 : ¬ (I : Int) = (ps.length : Int) := by omega
        have q3b : ((I : Int) == (ps.length : Int)) = false := beq_false_of_ne q3
        have q4 : ¬ ps.length < 2 := by omega
        have q7 : ¬ (I : Int) ≤ (K : Int) := by omega
        have q8 : IntKind.i64.wrap ((I : Int) - (K : Int)) = ((I - K : Nat) : Int) ∨ True := .inr trivial
        have q9 : IntKind.i64.wrap ((I : Int) - (K : Int)) = (I : Int) - (K : Int) := by rw [IntKind.wrap_i64]; omega
        have q10 : ((I - K : Nat) : Int) = (I : Int) - (K : Int) := by omega
        rw [q10] at HG
        clear q8 hK q10
        generalize ps.length = N at *
        go_enter Tryd.func118, Tryd.ntmps118
        go_wp2_with fail
        refine (unhide HG).2.2.2.mono ?_
        rintro e w0 ⟨rfl, rfl⟩
        go_wp2_with fail
        have q5 : ¬ xc = K := by omega
        have q6 : ¬ K = xc := by omega
        go_region_held3 (fun _ => True) (trivial) (first
          | (go_at_call 118; refine ((unhide HG).1 _ ((Fr.refl _ _).drew)).mono ?_; rintro e wA ⟨yA, cA, uA, rfl, sA, fA⟩)
          | (go_at_call 41; refine ((unhide HG).2.1 _ (((Fr.refl _ _).drew).trans fA (fun _ _ h => h))).mono ?_; rintro e wB ⟨yB, cB, rfl, sB, fB⟩)
          | (go_at_call 117; refine ((unhide HG).2.2.1 _ _ _ wB (sA.fr0 fB) sB).mono ?_; rintro e wC ⟨zo, zc, rfl, oC, fC⟩))
        have hFC : Fr (fun _ => False) w0 wC := ((((Fr.refl (fun _ => False) w0).drew).trans fA (fun _ _ h => h)).trans fB (fun _ _ h => h)).trans fC (fun _ _ h => h)
        have HE := hide (And.intro oC hFC)
        clear hFC oC
        go_wp2_with fail
        go_ret
        exact ⟨zo, zc, _, by rw [List.length_append]; rfl, by rw [List.length_append]; exact (unhide HE).1, (unhide HE).2⟩
end Go.Proofs.YtocdnomfpgdglabDoor

namespace Go.Proofs.YtocdnomfpgdglabDoor
open Go.RowKit

/-- Whether hashes say of a part that the older root and the root come out of them. -/
def bodyQ (wi n ef en : Nat) (r : List Nat) (qs : List (List Nat)) (old root : List Nat) : Bool :=
  decide (qs.length = dep 0 n ef en) && (decide (olderv wi r 0 n ef en qs = old) && decide (topv wi r 0 n ef en qs = root))
def prfQ (wi n m : Nat) (old root : List Nat) (ps : List (List Nat)) : Bool :=
  if (endF 0 n m).1 = 0 then bodyQ wi n (endF 0 n m).1 (endF 0 n m).2 old ps old root
  else match ps with
    | [] => false
    | p :: q => bodyQ wi n (endF 0 n m).1 (endF 0 n m).2 p q old root
/-- Whether CheckProof takes a proof. -/
def chkQ (j m n : Int) (old root : List Nat) (ps : List (List Nat)) : Bool :=
  decide (1 ≤ j ∧ j ≤ 32) && (decide (0 ≤ m) && (decide (m ≤ n) && (wdq j [old, root] && (wdq j ps &&
    (if m = 0 then decide (ps = []) && (decide (old = sm j []) && (decide (0 < n) || decide (root = sm j []))) else prfQ j.toNat n.toNat m.toNat old root ps)))))
/-- The claim that a proof makes. -/
theorem ofProof_any (wi m n : Nat) (h0 : 0 < m) (hm : m ≤ n) (hn : n < 9223372036854775808) (ov x : Value) (old root : List Nat) (vs : List Value) (ps : List (List Nat)) (w : World) (ho : Sl w ov old) (hp : Pcs w x vs ps) (hcx : Cp x) (how : old.length = wi) (hpw : ∀ p ∈ ps, p.length = wi) (h : (endF 0 n m).1 = 0 ∨ ps ≠ []) :
    ∃ (ro : Option Addr) (rn rc : Nat) (yo : Option Addr) (yc : Nat) (r : List Nat) (us : List Value) (qs : List (List Nat)), Sl w (.slice ro rn rc) r ∧ r.length = wi ∧ Pcs w (.slice yo qs.length yc) us qs ∧ Cp (.slice yo qs.length yc) ∧ (∀ p ∈ qs, p.length = wi) ∧ prfQ wi n m old root ps = bodyQ wi n (endF 0 n m).1 (endF 0 n m).2 r qs old root ∧
      ∀ w', Fr (fun _ => False) w w' → Calls Tryd.prog 47 #[.int .i64 wi, .int .i64 m, .int .i64 n, ov, x] w' fun e w'' => e = .returned (.tuple #[cv wi (endF 0 n m).1 (endF 0 n m).2 (.slice ro rn rc) (.slice yo qs.length yc), .bool true]) ∧ Fr (fun _ => False) w' w'' := by
  obtain ⟨oo, oc, rfl⟩ := ho.form
  obtain ⟨xo, xc, rfl⟩ := hp.form
  by_cases he : (endF 0 n m).1 = 0
  · exact ⟨oo, old.length, oc, xo, xc, old, vs, ps, ho, how, hp, hcx, hpw, by unfold prfQ; rw [if_pos he], fun w' _ => ofProof_l wi m n h0 hm hn he oo _ oc xo _ xc w'⟩
  · have hne := h.resolve_left he
    match ps, hne with
    | p :: q, _ =>
      obtain ⟨g, o, vo, vc, rfl, hc, hs⟩ := hp.nth (Fr.refl _ _) 0 (by simp)
      have hcap : q.length + 1 ≤ xc := hcx _ _ _ rfl
      simp only [List.getElem_cons_zero, Nat.add_zero] at hc hs
      have e : prfQ wi n m old root (p :: q) = bodyQ wi n (endF 0 n m).1 (endF 0 n m).2 p q old root := by unfold prfQ; rw [if_neg he]
      by_cases h1 : xc = 1
      · have hq : q = [] := List.length_eq_zero_iff.1 (by omega)
        subst h1 hq
        refine ⟨vo, p.length, vc, some ⟨g, o, none⟩, 0, p, [], [], hs, hpw p (by simp), ⟨rfl, .inr (.inl ⟨_, _, rfl, rfl⟩), (fun j v p h => by simp at h), (fun p h => by cases h)⟩, (fun _ _ _ e => by cases e; exact Nat.le_refl _), (fun p h => by cases h), e, fun w' hf => ?_⟩
        exact ofProof_r1 wi m n h0 hm hn he oo _ oc g o vo _ vc w' ((hf.cell (lt_of_cell hc) (fun h => h)).trans hc)
      · have hP : Pcs w (.slice (some ⟨g, o + 1, none⟩) q.length (xc - 1)) (vs.drop 1) q := by
          by_cases hq : q.length = 0
          · have hq0 : q = [] := List.length_eq_zero_iff.1 hq
            subst hq0
            have hv : vs.drop 1 = [] := List.length_eq_zero_iff.1 (by rw [List.length_drop, hp.len]; rfl)
            rw [hv]
            exact ⟨rfl, .inr (.inl ⟨_, _, rfl, rfl⟩), (fun j v p h => by simp at h), (fun p h => by cases h)⟩
          · exact hp.drop 1 (by simp; omega)
        refine ⟨vo, p.length, vc, some ⟨g, o + 1, none⟩, xc - 1, p, vs.drop 1, q, hs, hpw p (by simp), hP, fun _ _ _ e => by cases e; omega, fun p' h => hpw p' (by simp [h]), e, fun w' hf => ?_⟩
        exact ofProof_r wi m n h0 hm hn he oo _ oc g o q.length xc vo _ vc w' ((hf.cell (lt_of_cell hc) (fun h => h)).trans hc) hcap h1
end Go.Proofs.YtocdnomfpgdglabDoor

namespace Go.Proofs.YtocdnomfpgdglabDoor

/-- The hash of a tree, with a bound on the halvings. -/
def mthF (i : Int) : Nat → List (List Nat) → List Nat
  | 0, _ => []
  | k + 1, ps => if ps.length < 2 then (match ps with | [] => sm i [] | p :: _ => p) else nd i (mthF i k (ps.take (hf ps.length))) (mthF i k (ps.drop (hf ps.length)))
theorem mthF_eq (i : Int) (k : Nat) : ∀ ps : List (List Nat), ps.length < k → mthF i k ps = mth i ps := by
  induction k with
  | zero => intro ps h; omega
  | succ k ih =>
    intro ps h
    unfold mthF
    by_cases h2 : ps.length < 2
    · rw [if_pos h2]
      match ps, h2 with
      | [], _ => rw [mth_nil]
      | [p], _ => rw [mth_one]
    · have h3 := hf_lt ps.length (by omega)
      have h4 := hf_pos ps.length
      rw [if_neg h2, mth_two i ps (by omega), ih _ (by rw [List.length_take]; omega), ih _ (by rw [List.length_drop]; omega)]
def rootB : List Nat := [93, 201, 218, 121, 167, 6, 89, 169, 173, 85, 156, 183, 1, 222, 217, 162, 171, 157, 130, 58, 173, 47, 73, 96, 207, 227, 112, 239, 244, 96, 67, 40]
def leafB : List Nat := [110, 52, 11, 156, 255, 179, 122, 152, 156, 165, 68, 230, 187, 120, 10, 44, 120, 144, 29, 63, 179, 55, 56, 118, 133, 17, 163, 6, 23, 175, 160, 29]
theorem rootB_hex : hxl (bytesOf ⟨#[53, 100, 99, 57, 100, 97, 55, 57, 97, 55, 48, 54, 53, 57, 97, 57, 97, 100, 53, 53, 57, 99, 98, 55, 48, 49, 100, 101, 100, 57, 97, 50, 97, 98, 57, 100, 56, 50, 51, 97, 97, 100, 50, 102, 52, 57, 54, 48, 99, 102, 101, 51, 55, 48, 101, 102, 102, 52, 54, 48, 52, 51, 50, 56]⟩) = rootB := by decide +kernel
theorem leafB_hex : hxl (bytesOf ⟨#[54, 101, 51, 52, 48, 98, 57, 99, 102, 102, 98, 51, 55, 97, 57, 56, 57, 99, 97, 53, 52, 52, 101, 54, 98, 98, 55, 56, 48, 97, 50, 99, 55, 56, 57, 48, 49, 100, 51, 102, 98, 51, 51, 55, 51, 56, 55, 54, 56, 53, 49, 49, 97, 51, 48, 54, 49, 55, 97, 102, 97, 48, 49, 100]⟩) = leafB := by decide +kernel
theorem leaf_nil : lf 32 [] = leafB := by decide +kernel
theorem root_tes : mthF 32 9 (tes.map (lf 32)) = rootB := by decide +kernel
theorem root_tests : mth 32 (tes.map (lf 32)) = rootB := by rw [← mthF_eq 32 9 _ (by decide)]; exact root_tes
theorem dep_tests : dep 0 8 0 1 = 3 := by
  have h8 : hf 8 = 4 := by decide +kernel
  have h4 : hf 4 = 2 := by decide +kernel
  have h2 : hf 2 = 1 := by decide +kernel
  rw [dep_l (by decide) (by decide) (by rw [h8]; decide), h8, dep_l (by decide) (by decide) (by rw [h4]; decide), h4, dep_l (by decide) (by decide) (by rw [h2]; decide), h2, dep_eq]
end Go.Proofs.YtocdnomfpgdglabDoor

namespace Go.Proofs.YtocdnomfpgdglabDoor
open Go.RowKit

theorem bes_wid (wi : Nat) (hw1 : 1 ≤ wi) (hw32 : wi ≤ 32) (L : List (List Nat)) (hL : ∀ p ∈ L, p.length = wi) (m : Nat) : ∀ f n tf tn, n ≤ m → ∀ p ∈ bes wi L f n tf tn, p.length = wi := by
  induction m with
  | zero => intro f n tf tn h p hp; rw [bes, dif_pos (by omega)] at hp; cases hp
  | succ m ih =>
    intro f n tf tn h p hp
    by_cases e : (f = tf ∧ n = tn) ∨ n < 2
    · rw [bes, dif_pos e] at hp; cases hp
    · have hlt := hf_lt n (by omega)
      have hpos := hf_pos n
      by_cases hl : tf < f + hf n
      · rw [bes_l (by omega) (by omega) hl] at hp
        rcases List.mem_append.1 hp with hp | hp
        · exact ih _ _ _ _ (by omega) p hp
        · simp at hp; subst hp; exact mth_wid wi hw1 hw32 _ (fun p hp => hL p (blk_mem _ _ _ p hp))
      · rw [bes_r (by omega) (by omega) hl] at hp
        rcases List.mem_append.1 hp with hp | hp
        · exact ih _ _ _ _ (by omega) p hp
        · simp at hp; subst hp; exact mth_wid wi hw1 hw32 _ (fun p hp => hL p (blk_mem _ _ _ p hp))
theorem wdq_of {j : Int} {ps : List (List Nat)} (h : ∀ p ∈ ps, (p.length : Int) = j) : wdq j ps = true := by
  rw [wdq, List.all_eq_true]
  intro p hp
  simpa using h p hp
/-- A path that the tree tells is taken. -/
theorem chkP_bes (wi : Nat) (hw1 : 1 ≤ wi) (hw32 : wi ≤ 32) (L : List (List Nat)) (hL : ∀ p ∈ L, p.length = wi) (i : Nat) (hi : i < L.length) : chkP wi (L[i]) i L.length (bes wi L 0 L.length i 1) (mth wi L) = true := by
  have hb : blk L i 1 = [L[i]] := by
    rw [blk, List.drop_eq_getElem_cons hi]; rfl
  have ht := topv_bes wi L L.length 0 L.length i 1 (Nat.le_refl _) (by omega) (rch_one _ 0 L.length i (Nat.le_refl _) (by omega) (by omega))
  rw [hb, mth_one, blk_all] at ht
  rw [chkP, decide_eq_true (by omega), decide_eq_true (by omega), decide_eq_true (by omega), wdq_of (fun p hp => ?_), wdq_of (fun p hp => ?_), Int.toNat_natCast, Int.toNat_natCast, Int.toNat_natCast, bes_len _ _ _ _ _ _ _ (Nat.le_refl _), decide_eq_true rfl, ht, decide_eq_true rfl]
  · rfl
  · have := bes_wid wi hw1 hw32 L hL _ 0 L.length i 1 (Nat.le_refl _) p hp
    omega
  · simp at hp
    rcases hp with rfl | rfl
    · have := hL L[i] (List.getElem_mem _); omega
    · have := mth_wid wi hw1 hw32 L hL; omega
theorem chkP_tests : chkP 32 (lf 32 []) 0 8 (bes 32 (tes.map (lf 32)) 0 8 0 1) rootB = true := by
  have := chkP_bes 32 (by decide) (by decide) (tes.map (lf 32)) (map_lf_len 32 (by decide) (by decide) _) 0 (by simp [tes])
  have e : mth ((32 : Nat) : Int) (tes.map (lf 32)) = rootB := root_tests
  rw [e] at this
  exact this
set_option maxRecDepth 100000 in
set_option maxHeartbeats 4000000 in
theorem mlives_any (w : World) (hg : GS w) (ht : GT w) : Calls Tryd.prog 16 #[] w fun e w' => e = .returned (.bool true) ∧ Fr (fun _ => False) w w' := by
  have hB : ∀ e ∈ tes, e.length ≤ 16000000 := by decide
  have hnew : ∀ w', GS w' → Calls Tryd.prog 27 #[.int .i64 32] w' fun e w'' => ∃ tb, e = .returned (.pointer (some ⟨tb, 0, none⟩)) ∧ TrAt w'' w'.heap.size tb 32 0 none 0 [] [] ∧ 6 ≤ w'.heap.size ∧ w'.heap.size ≤ tb ∧ Fr (fun _ => False) w' w'' := fun w' hg' => by
    refine (mnew_any 32 w').mono ?_
    rintro e w'' ⟨rfl, h1, h2⟩
    exact ⟨_, rfl, h1, hg'.1.2, Nat.le_refl _, h2⟩
  have hadd : ∀ (w' : World) (base tb : Nat), GS w' → GT w' → TrAt w' base tb 32 0 none 0 [] [] → 6 ≤ base → Calls Tryd.prog 30 #[.pointer (some ⟨tb, 0, none⟩), .slice none 0 0] w' fun e w'' => e = .returned (.int .i64 0) ∧ Tk w'' tb 32 [lf 32 []] ∧ Fr (TOwn tb none []) w' w'' := fun w' base tb hg' ht' hT hb => by
    refine (add_in 32 (by decide) (by decide) base tb 0 hb w' none 0 [] [] (.slice none 0 0) [] hT hg' (sl_nil _) (by decide) (fun j row h => by simp at h) (by decide) (by decide)).mono ?_
    rintro e w'' ⟨rfl, xo, cp, vs, hT2, hF, _⟩
    have hlo : ∀ k, k < 6 → ¬ TOwn tb none [] k := fun k hk hO => by
      have := (hT.lt k hO).1; omega
    refine ⟨rfl, ⟨⟨base, xo, cp, vs, _, hT2, ?_⟩, hg'.fr hF hlo, ht'.fr hF hlo, fun p hp => ?_, fun p hp => ?_, by decide⟩, hF⟩
    · exact (rows_nil 32).add (by decide) (by decide) (lf 32 []) (fun p hp => by simp at hp; subst hp; exact lf_len 32 (by decide) (by decide) _)
    · simp at hp; subst hp; exact lf_len 32 (by decide) (by decide) _
    · simp at hp; subst hp; exact lf_lt _ _
  have hp0 := fun w' x vs (h1 : GS w') (h2 : GT w') (h3 : Pcs w' x vs tes) => mpath_in 32 (by decide) (by decide) x vs tes 0 w' h1 h2 h3 hB (by decide) (by decide)
  have hr0 : ∀ w' x vs, GS w' → GT w' → Pcs w' x vs tes → Calls Tryd.prog 17 #[.int .i64 32, x] w' fun e w'' => ∃ yo yc, e = .returned (.slice yo 32 yc) ∧ OB w' w'' yo yc rootB := fun w' x vs h1 h2 h3 => by
    have := mroot_in 32 (by decide) (by decide) x vs tes w' h1 h2 h3 hB (by decide)
    rw [← root_tests]
    exact this
  have hr1 : ∀ w' tb, Tk w' tb 32 [lf 32 []] → Calls Tryd.prog 32 #[.pointer (some ⟨tb, 0, none⟩), .int .i64 1] w' fun e w'' => ∃ yo yc, e = .returned (.tuple #[.slice yo 32 yc, .int .i64 0]) ∧ OB w' w'' yo yc leafB := fun w' tb h => by
    have := troot_in tb 32 (by decide) (by decide) _ 1 w' h (by decide)
    have e : mth (32 : Nat) (blk [lf 32 []] 0 1) = leafB := by
      have : blk [lf 32 []] 0 1 = [lf 32 []] := rfl
      rw [this, mth_one, leaf_nil]
    rw [← e]
    exact this
  have hlf : ∀ w', GS w' → Calls Tryd.prog 19 #[.int .i64 32, .slice none 0 0] w' fun e w'' => ∃ yo, e = .returned (.slice yo 32 32) ∧ OB w' w'' yo 32 (lf 32 []) := fun w' h => by
    have := leaf_any 32 (.slice none 0 0) [] w' h (sl_nil _) (by decide)
    have e : (lf 32 []).length = 32 := lf_len 32 (by decide) (by decide) _
    rw [e] at this
    exact this
  have hbl : (bes 32 (tes.map (lf 32)) 0 8 0 1).length = 3 := by rw [bes_len _ _ _ _ _ _ _ (Nat.le_refl _), dep_tests]
  have hck := chkP_tests
  have e8 : tes.length = 8 := rfl
  simp only [e8] at hp0
  have e0 : ((0 : Nat) : Int) = 0 := rfl
  have e32 : ((32 : Nat) : Int) = 32 := rfl
  simp only [e0, e32] at hp0
  generalize bes 32 (tes.map (lf 32)) 0 8 0 1 = BS at *
  have hrb : ∀ v ∈ rootB, v < 256 := by decide
  have hlb : ∀ v ∈ leafB, v < 256 := by decide
  have HG := hide (And.intro hg ht)
  have HC := hide (And.intro hnew (And.intro hadd (And.intro hp0 (And.intro hr0 (And.intro hr1 (And.intro hlf (And.intro hbl (And.intro hck (And.intro hrb hlb)))))))))
  clear hnew hadd hp0 hr0 hr1 hlf hbl hck hrb hlb hg ht hB e8 e0 e32
  go_enter Tryd.func16, Tryd.ntmps16
  go_wp2_with fail
  refine (tests_any w).mono ?_
  rintro e w1 ⟨g1, vs1, rfl, hP, hF⟩
  have F1 := hide hF
  have P1 := hide hP
  clear hF hP
  go_wp2_with fail
  refine ((unhide HC).2.2.1 _ _ _ ((unhide HG).1.fr0 (unhide F1)) ((unhide HG).2.fr0 (unhide F1)) (unhide P1)).mono ?_
  rintro e w2 ⟨ao, cp, us, rfl, hO⟩
  have hus : us.length = 3 := hO.len.trans (unhide HC).2.2.2.2.2.2.1
  rw [hus]
  have F2 := hide ((unhide F1).trans hO.own.fr (fun _ _ h => h))
  have P2 := hide ((unhide P1).fr0 hO.own.fr)
  have O2 := hide hO
  have HU := hide hus
  clear hO hus
  go_wp2_with fail
  refine ((unhide HC).1 _ ((unhide HG).1.fr0 (unhide F2))).mono ?_
  rintro e w3 ⟨tb, rfl, hT, hb1, hb2, hF⟩
  have T3 := hide (And.intro hT (And.intro hb1 hb2))
  have F23 := hide hF
  have F3 := hide ((unhide F2).trans hF (fun _ _ h => h))
  have P3 := hide ((unhide P2).fr0 hF)
  have O3 := hide ((unhide O2).fr0 hF)
  clear hT hb1 hb2 hF
  go_wp2_with fail
  refine ((unhide HC).2.1 _ _ _ ((unhide HG).1.fr0 (unhide F3)) ((unhide HG).2.fr0 (unhide F3)) (unhide T3).1 (unhide T3).2.1).mono ?_
  rintro e w4 ⟨rfl, hT, hF⟩
  have hF24 : Fr (fun _ => False) w2 w4 := (unhide F23).trans hF (fun k hk hO => by
    have h2 := (unhide T3).2.2
    rcases hO with rfl | ⟨o, e⟩ | ⟨v, hv, _⟩
    · omega
    · cases e
    · cases hv)
  have F4 := hide ((unhide F2).trans hF24 (fun _ _ h => h))
  have P4 := hide ((unhide P2).fr0 hF24)
  have O4 := hide ((unhide O2).fr0 hF24)
  have T4 := hide hT
  clear hT hF hF24 T3 F3
  go_wp2_with fail
  refine ((unhide HC).2.2.2.2.1 _ _ (unhide T4)).mono ?_
  rintro e w5 ⟨lo, lc, rfl, hO⟩
  have F5 := hide ((unhide F4).trans hO.fr (fun _ _ h => h))
  have P5 := hide ((unhide P4).fr0 hO.fr)
  have O5 := hide ((unhide O4).fr0 hO.fr)
  have L5 := hide (hO.sl (unhide HC).2.2.2.2.2.2.2.2.2)
  clear hO
  go_wp2_with fail
  refine ((unhide HC).2.2.2.1 _ _ _ ((unhide HG).1.fr0 (unhide F5)) ((unhide HG).2.fr0 (unhide F5)) (unhide P5)).mono ?_
  rintro e w6 ⟨ro, rc, rfl, hO⟩
  have F6 := hide ((unhide F5).trans hO.fr (fun _ _ h => h))
  have O6 := hide ((unhide O5).fr0 hO.fr)
  have L6 := hide ((unhide L5).fr0 hO.fr)
  have R6 := hide (hO.sl (unhide HC).2.2.2.2.2.2.2.2.1)
  clear hO
  go_wp2_with fail
  refine (hex_lit ⟨#[53, 100, 99, 57, 100, 97, 55, 57, 97, 55, 48, 54, 53, 57, 97, 57, 97, 100, 53, 53, 57, 99, 98, 55, 48, 49, 100, 101, 100, 57, 97, 50, 97, 98, 57, 100, 56, 50, 51, 97, 97, 100, 50, 102, 52, 57, 54, 48, 99, 102, 101, 51, 55, 48, 101, 102, 102, 52, 54, 48, 52, 51, 50, 56]⟩ rootB _ (by decide) rootB_hex 32 rfl (by decide)).mono ?_
  rintro e w7 ⟨xo, xc, rfl, hS, hF⟩
  have F7 := hide ((unhide F6).trans hF (fun _ _ h => h))
  have O7 := hide ((unhide O6).fr0 hF)
  have L7 := hide ((unhide L6).fr0 hF)
  have R7 := hide (And.intro ((unhide R6).fr0 hF) hS)
  clear hS hF
  go_wp2_with fail
  refine (same_T (unhide R7).1.s (unhide R7).2.s (by decide) (sameB_refl _)).mono ?_
  rintro e w8 ⟨rfl, hF⟩
  have F8 := hide ((unhide F7).trans hF (fun _ _ h => h))
  have O8 := hide ((unhide O7).fr0 hF)
  have L8 := hide ((unhide L7).fr0 hF)
  clear hF R7 R6
  go_wp2_with fail
  refine ((unhide HC).2.2.2.2.2.1 _ ((unhide HG).1.fr0 (unhide F8))).mono ?_
  rintro e w9 ⟨fo, rfl, hO⟩
  have F9 := hide ((unhide F8).trans hO.fr (fun _ _ h => h))
  have O9 := hide ((unhide O8).fr0 hO.fr)
  have L9 := hide ((unhide L8).fr0 hO.fr)
  have hsl := hO.sl (lf_lt 32 [])
  have e32 : (lf 32 []).length = 32 := lf_len 32 (by decide) (by decide) _
  rw [e32] at hsl
  have K9 := hide hsl
  clear hO hsl e32
  go_wp2_with fail
  refine (hex_lit ⟨#[53, 100, 99, 57, 100, 97, 55, 57, 97, 55, 48, 54, 53, 57, 97, 57, 97, 100, 53, 53, 57, 99, 98, 55, 48, 49, 100, 101, 100, 57, 97, 50, 97, 98, 57, 100, 56, 50, 51, 97, 97, 100, 50, 102, 52, 57, 54, 48, 99, 102, 101, 51, 55, 48, 101, 102, 102, 52, 54, 48, 52, 51, 50, 56]⟩ rootB _ (by decide) rootB_hex 32 rfl (by decide)).mono ?_
  rintro e w10 ⟨yo, yc, rfl, hS, hF⟩
  have F10 := hide ((unhide F9).trans hF (fun _ _ h => h))
  have O10 := hide ((unhide O9).fr0 hF)
  have L10 := hide ((unhide L9).fr0 hF)
  have K10 := hide (And.intro ((unhide K9).fr0 hF) hS)
  clear hS hF
  have hpc := (unhide O10).pcs
  have hcp := (unhide O10).cap
  rw [unhide HU] at hpc hcp
  have PC := hide (And.intro hpc hcp)
  clear hpc hcp
  go_wp2_with fail
  refine (checkPath_any 32 0 8 _ _ _ _ _ us BS _ ((unhide HG).1.fr0 (unhide F10)) (unhide K10).1 (unhide K10).2 (unhide PC).1 (fun _ _ _ e => by cases e; exact (unhide PC).2) (by decide) (by rw [(unhide HC).2.2.2.2.2.2.1]; decide)).mono ?_
  rintro e w11 ⟨rfl, hF⟩
  rw [(unhide HC).2.2.2.2.2.2.2.1]
  have F11 := hide ((unhide F10).trans hF (fun _ _ h => h))
  have L11 := hide ((unhide L10).fr0 hF)
  clear hF
  go_wp2_with fail
  refine (hex_lit ⟨#[54, 101, 51, 52, 48, 98, 57, 99, 102, 102, 98, 51, 55, 97, 57, 56, 57, 99, 97, 53, 52, 52, 101, 54, 98, 98, 55, 56, 48, 97, 50, 99, 55, 56, 57, 48, 49, 100, 51, 102, 98, 51, 51, 55, 51, 56, 55, 54, 56, 53, 49, 49, 97, 51, 48, 54, 49, 55, 97, 102, 97, 48, 49, 100]⟩ leafB _ (by decide) leafB_hex 32 rfl (by decide)).mono ?_
  rintro e w12 ⟨zo, zc, rfl, hS, hF⟩
  have F12 := hide ((unhide F11).trans hF (fun _ _ h => h))
  have L12 := hide (And.intro ((unhide L11).fr0 hF) hS)
  clear hS hF
  go_wp2_with fail
  refine (same_T (unhide L12).1.s (unhide L12).2.s (by decide) (sameB_refl _)).mono ?_
  rintro e w13 ⟨rfl, hF⟩
  have F13 := hide ((unhide F12).trans hF (fun _ _ h => h))
  clear hF
  go_wp2_with fail
  go_ret
  exact ⟨rfl, unhide F13⟩
end Go.Proofs.YtocdnomfpgdglabDoor

namespace Go.Proofs.YtocdnomfpgdglabDoor
open Go.RowKit

theorem hf_mid {n k : Nat} (h1 : hf n < k) (h2 : k ≤ n) : hf k = hf n := by
  have hp := hf_pos n
  have hge := hf_ge n (by omega)
  exact hf_uniq k _ (by unfold hf at h1; exact h1) (by unfold hf at hge; omega)
/-- The older root that a proof's hashes give. -/
theorem olderv_bes (wi : Nat) (L : List (List Nat)) (k : Nat) : ∀ f n m, n ≤ k → f + n ≤ L.length → f < m → m ≤ f + n → olderv wi (mth wi (blk L (endF f n m).1 (endF f n m).2)) f n (endF f n m).1 (endF f n m).2 (bes wi L f n (endF f n m).1 (endF f n m).2) = mth wi (blk L f (m - f)) := by
  induction k with
  | zero => intro f n m h _ h1 h2; omega
  | succ k ih =>
    intro f n m h hL h1 h2
    by_cases e : m = f + n
    · rw [endF_eq e]
      simp only [olderv_eq]
      rw [show m - f = n by omega]
    · have hn2 : 2 ≤ n := by omega
      have hlt := hf_lt n hn2
      have hp := hf_pos n
      by_cases hl : m ≤ f + hf n
      · rw [endF_l hn2 e hl]
        obtain ⟨e1, e2, e3, -, -⟩ := endF_ok _ f (hf n) m (Nat.le_refl _) h1 hl
        have hne : ¬ (f = (endF f (hf n) m).1 ∧ n = (endF f (hf n) m).2) := by omega
        have hlt2 : (endF f (hf n) m).1 < f + hf n := by omega
        rw [olderv_l hn2 hne hlt2, bes_l hn2 hne hlt2]
        simp only [List.dropLast_concat]
        exact ih f (hf n) m (by omega) (by omega) h1 hl
      · rw [endF_r hn2 e hl]
        obtain ⟨e1, e2, e3, -, -⟩ := endF_ok _ (f + hf n) (n - hf n) m (Nat.le_refl _) (by omega) (by omega)
        have hne : ¬ (f = (endF (f + hf n) (n - hf n) m).1 ∧ n = (endF (f + hf n) (n - hf n) m).2) := by omega
        have hlt2 : ¬ (endF (f + hf n) (n - hf n) m).1 < f + hf n := by omega
        rw [olderv_r hn2 hne hlt2, bes_r hn2 hne hlt2]
        simp only [List.dropLast_concat, List.getLastD_concat]
        rw [ih (f + hf n) (n - hf n) m (by omega) (by omega) (by omega) (by omega)]
        have hm : hf (m - f) = hf n := hf_mid (by omega) (by omega)
        rw [blk_halves L f (m - f) (by omega) (by omega) wi, hm]
        rw [show m - f - hf n = m - (f + hf n) by omega]
theorem prf_wid (wi : Nat) (hw1 : 1 ≤ wi) (hw32 : wi ≤ 32) (L : List (List Nat)) (hL : ∀ p ∈ L, p.length = wi) (n m : Nat) : ∀ p ∈ prf wi L n m, p.length = wi := by
  intro p hp
  unfold prf at hp
  split at hp
  · cases hp
  · split at hp
    · exact bes_wid wi hw1 hw32 L hL _ _ _ _ _ (Nat.le_refl _) p hp
    · rcases List.mem_cons.1 hp with rfl | hp
      · exact mth_wid wi hw1 hw32 _ (fun p hp => hL p (blk_mem _ _ _ p hp))
      · exact bes_wid wi hw1 hw32 L hL _ _ _ _ _ (Nat.le_refl _) p hp
theorem wdq_two {j : Int} {a b : List Nat} (ha : (a.length : Int) = j) (hb : (b.length : Int) = j) : wdq j [a, b] = true := by simp [wdq, ha, hb]
/-- A proof that the tree tells is taken. -/
theorem chkQ_prf (wi : Nat) (hw1 : 1 ≤ wi) (hw32 : wi ≤ 32) (L : List (List Nat)) (hL : ∀ p ∈ L, p.length = wi) (m : Nat) (hm : m ≤ L.length) : chkQ wi m L.length (mth wi (L.take m)) (mth wi L) (prf wi L L.length m) = true := by
  have hwd := wdq_of (j := (wi : Int)) (fun p hp => by have := prf_wid wi hw1 hw32 L hL L.length m p hp; omega)
  have h1 := mth_wid wi hw1 hw32 L hL
  have h2 := mth_wid wi hw1 hw32 (L.take m) (fun p hp => hL p (List.mem_of_mem_take hp))
  rw [chkQ, decide_eq_true (by omega), decide_eq_true (by omega), decide_eq_true (by omega), wdq_two (by omega) (by omega), hwd]
  simp only [Bool.true_and, Int.toNat_natCast]
  by_cases h0 : m = 0
  · subst h0
    rw [if_pos (by rfl), prf, if_pos rfl]
    simp only [decide_true, Bool.true_and, List.take_zero, mth_nil]
    rcases L with _ | ⟨a, r⟩
    · simp [mth_nil]
    · simp
  · rw [if_neg (by omega)]
    have hb0 : blk L 0 m = L.take m := by rw [blk, List.drop_zero]
    obtain ⟨e1, e2, e3, e4, -⟩ := endF_ok _ 0 L.length m (Nat.le_refl _) (by omega) (by omega)
    have ho := olderv_bes wi L _ 0 L.length m (Nat.le_refl _) (by omega) (by omega) (by omega)
    have ht := topv_bes wi L _ 0 L.length _ _ (Nat.le_refl _) (by omega) e4
    rw [Nat.sub_zero, hb0] at ho
    rw [blk_all] at ht
    have hl := bes_len wi L _ 0 L.length (endF 0 L.length m).1 (endF 0 L.length m).2 (Nat.le_refl _)
    unfold prfQ prf
    rw [if_neg h0]
    by_cases he : (endF 0 L.length m).1 = 0
    · rw [if_pos he, if_pos he]
      have hb : blk L (endF 0 L.length m).1 (endF 0 L.length m).2 = L.take m := by rw [← hb0, he]; congr 1; omega
      rw [hb] at ho ht
      unfold bodyQ
      rw [hl, ho, ht]
      simp
    · rw [if_neg he, if_neg he]
      simp only
      unfold bodyQ
      rw [hl, ho, ht]
      simp
/-- With a hash more it is not. -/
theorem chkQ_more (wi : Nat) (L : List (List Nat)) (n m : Nat) (old root x : List Nat) : chkQ wi m n old root (prf wi L n m ++ [x]) = false := by
  cases hq : chkQ wi m n old root (prf wi L n m ++ [x]) with
  | false => rfl
  | true =>
    exfalso
    unfold chkQ at hq
    simp only [Bool.and_eq_true, Int.toNat_natCast] at hq
    obtain ⟨-, -, -, -, -, hq⟩ := hq
    by_cases h0 : m = 0
    · subst h0
      rw [if_pos (by rfl)] at hq
      simp at hq
    · rw [if_neg (by omega)] at hq
      have hl := bes_len wi L _ 0 n (endF 0 n m).1 (endF 0 n m).2 (Nat.le_refl _)
      unfold prfQ prf at hq
      rw [if_neg h0] at hq
      by_cases he : (endF 0 n m).1 = 0
      · rw [if_pos he, if_pos he] at hq
        unfold bodyQ at hq
        simp only [Bool.and_eq_true, decide_eq_true_eq, List.length_append, List.length_singleton] at hq
        omega
      · rw [if_neg he, if_neg he] at hq
        simp only [List.cons_append] at hq
        unfold bodyQ at hq
        simp only [Bool.and_eq_true, decide_eq_true_eq, List.length_append, List.length_singleton] at hq
        omega
theorem chkP_more (wi : Nat) (L : List (List Nat)) (n i : Nat) (leaf root x : List Nat) : chkP wi leaf i n (bes wi L 0 n i 1 ++ [x]) root = false := by
  cases hq : chkP wi leaf i n (bes wi L 0 n i 1 ++ [x]) root with
  | false => rfl
  | true =>
    exfalso
    unfold chkP at hq
    simp only [Bool.and_eq_true, Int.toNat_natCast, decide_eq_true_eq, List.length_append, List.length_singleton] at hq
    have hl := bes_len wi L _ 0 n i 1 (Nat.le_refl _)
    omega
end Go.Proofs.YtocdnomfpgdglabDoor

namespace Go.Proofs.YtocdnomfpgdglabDoor
open Go.RowKit

/-- The halves of a part, as they come out of a claim. -/
def sdl (wi : Nat) (r : List Nat) (f n tf tn : Nat) (ps : List (List Nat)) : List Nat := if tf < f + hf n then topv wi r f (hf n) tf tn ps.dropLast else ps.getLastD []
def sdr (wi : Nat) (r : List Nat) (f n tf tn : Nat) (ps : List (List Nat)) : List Nat := if tf < f + hf n then ps.getLastD [] else topv wi r (f + hf n) (n - hf n) tf tn ps.dropLast
def hva (wi : Nat) (r : List Nat) (f n tf tn : Nat) (ps : List (List Nat)) : List Nat := 1 :: (sdl wi r f n tf tn ps ++ sdr wi r f n tf tn ps)
def hvb (wi : Nat) (L : List (List Nat)) (f n : Nat) : List Nat := 1 :: (mth wi (blk L f (hf n)) ++ mth wi (blk L (f + hf n) (n - hf n)))
/-- From a part down: the first bytes hashed that are not the tree's. -/
def cld (wi : Nat) (L : List (List Nat)) (r : List Nat) (f n tf tn : Nat) (ps : List (List Nat)) : Option (List Nat × List Nat) :=
  if _h : (f = tf ∧ n = tn) ∨ n < 2 then none
  else if hva wi r f n tf tn ps = hvb wi L f n then
    (if tf < f + hf n then cld wi L r f (hf n) tf tn ps.dropLast else cld wi L r (f + hf n) (n - hf n) tf tn ps.dropLast)
  else some (hva wi r f n tf tn ps, hvb wi L f n)
termination_by n
decreasing_by
  · exact hf_lt n (by omega)
  · have := hf_pos n; omega
theorem cld_eq (wi : Nat) (L : List (List Nat)) (r : List Nat) (f n : Nat) (ps : List (List Nat)) : cld wi L r f n f n ps = none := by rw [cld, dif_pos (.inl ⟨rfl, rfl⟩)]
theorem cld_no {wi : Nat} {L : List (List Nat)} {r : List Nat} {f n tf tn : Nat} {ps : List (List Nat)} (h2 : 2 ≤ n) (hne : ¬ (f = tf ∧ n = tn)) (h : ¬ hva wi r f n tf tn ps = hvb wi L f n) : cld wi L r f n tf tn ps = some (hva wi r f n tf tn ps, hvb wi L f n) := by
  rw [cld, dif_neg (by omega), if_neg h]
theorem cld_l {wi : Nat} {L : List (List Nat)} {r : List Nat} {f n tf tn : Nat} {ps : List (List Nat)} (h2 : 2 ≤ n) (hne : ¬ (f = tf ∧ n = tn)) (h : hva wi r f n tf tn ps = hvb wi L f n) (hl : tf < f + hf n) : cld wi L r f n tf tn ps = cld wi L r f (hf n) tf tn ps.dropLast := by
  conv => lhs; rw [cld, dif_neg (by omega), if_pos h, if_pos hl]
theorem cld_r {wi : Nat} {L : List (List Nat)} {r : List Nat} {f n tf tn : Nat} {ps : List (List Nat)} (h2 : 2 ≤ n) (hne : ¬ (f = tf ∧ n = tn)) (h : hva wi r f n tf tn ps = hvb wi L f n) (hl : ¬ tf < f + hf n) : cld wi L r f n tf tn ps = cld wi L r (f + hf n) (n - hf n) tf tn ps.dropLast := by
  conv => lhs; rw [cld, dif_neg (by omega), if_pos h, if_neg hl]
theorem topv_sd {wi : Nat} {r : List Nat} {f n tf tn : Nat} {ps : List (List Nat)} (h2 : 2 ≤ n) (hne : ¬ (f = tf ∧ n = tn)) : topv wi r f n tf tn ps = sm wi (hva wi r f n tf tn ps) := by
  unfold hva sdl sdr
  by_cases hl : tf < f + hf n
  · rw [topv_l h2 hne hl, if_pos hl, if_pos hl]; rfl
  · rw [topv_r h2 hne hl, if_neg hl, if_neg hl]; rfl
theorem mth_hv {wi : Nat} {L : List (List Nat)} {f n : Nat} (h2 : 2 ≤ n) (hL : f + n ≤ L.length) : mth wi (blk L f n) = sm wi (hvb wi L f n) := by
  rw [blk_halves L f n h2 hL wi]; rfl
/-- Where the hashes are as many and as wide as they should be, and the part's root is the tree's: either all is the tree's own, or two unlike byte strings with one hash come out. -/
theorem cld_ok (wi : Nat) (hw1 : 1 ≤ wi) (hw32 : wi ≤ 32) (L : List (List Nat)) (hL : ∀ p ∈ L, p.length = wi) (r : List Nat) (hr : r.length = wi) (m : Nat) : ∀ f n tf tn (ps : List (List Nat)), n ≤ m → f + n ≤ L.length → Rch f n tf tn → ps.length = dep f n tf tn → (∀ p ∈ ps, p.length = wi) → topv wi r f n tf tn ps = mth wi (blk L f n) →
    (cld wi L r f n tf tn ps = none ∧ r = mth wi (blk L tf tn) ∧ ps = bes wi L f n tf tn) ∨ ∃ a b, cld wi L r f n tf tn ps = some (a, b) ∧ a ≠ b ∧ sm wi a = sm wi b := by
  induction m with
  | zero =>
    intro f n tf tn ps h _ hR hd hpw ht
    by_cases e : f = tf ∧ n = tn
    · obtain ⟨rfl, rfl⟩ := e
      rw [dep_eq] at hd
      rw [topv_eq] at ht
      exact .inl ⟨cld_eq _ _ _ _ _ _, ht, by rw [bes, dif_pos (.inl ⟨rfl, rfl⟩)]; exact List.length_eq_zero_iff.1 hd⟩
    · have := (rch_ne hR e).1; omega
  | succ m ih =>
    intro f n tf tn ps h hLn hR hd hpw ht
    by_cases e : f = tf ∧ n = tn
    · obtain ⟨rfl, rfl⟩ := e
      rw [dep_eq] at hd
      rw [topv_eq] at ht
      exact .inl ⟨cld_eq _ _ _ _ _ _, ht, by rw [bes, dif_pos (.inl ⟨rfl, rfl⟩)]; exact List.length_eq_zero_iff.1 hd⟩
    · obtain ⟨h2, r1, r2⟩ := rch_ne hR e
      have hlt := hf_lt n h2
      have hp := hf_pos n
      by_cases hv : hva wi r f n tf tn ps = hvb wi L f n
      · have hwA := mth_wid wi hw1 hw32 (blk L f (hf n)) (fun p hp => hL p (blk_mem _ _ _ p hp))
        have hwB := mth_wid wi hw1 hw32 (blk L (f + hf n) (n - hf n)) (fun p hp => hL p (blk_mem _ _ _ p hp))
        have hcons := List.cons.inj (show (1 :: (sdl wi r f n tf tn ps ++ sdr wi r f n tf tn ps) : List Nat) = 1 :: (mth wi (blk L f (hf n)) ++ mth wi (blk L (f + hf n) (n - hf n))) from hv)
        by_cases hl : tf < f + hf n
        · rw [dep_l h2 e hl] at hd
          have hlen := topv_wid wi hw1 hw32 r hr _ f (hf n) tf tn ps.dropLast (Nat.le_refl _)
          unfold sdl sdr at hcons
          rw [if_pos hl, if_pos hl] at hcons
          obtain ⟨k1, k2⟩ := List.append_inj hcons.2 (by rw [hlen, hwA])
          have hdl : ps.dropLast.length = dep f (hf n) tf tn := by rw [List.length_dropLast]; omega
          have hps : ps = ps.dropLast ++ [ps.getLastD []] := by
            have hne : ps ≠ [] := fun h => by rw [h] at hd; simp at hd
            rw [List.getLastD_eq_getLast?, List.getLast?_eq_some_getLast hne]
            exact (List.dropLast_concat_getLast hne).symm
          rw [cld_l h2 e hv hl]
          rcases ih f (hf n) tf tn ps.dropLast (by omega) (by omega) (r1 hl) hdl (fun p hp => hpw p ((List.dropLast_sublist ps).subset hp)) k1 with ⟨q1, q2, q3⟩ | q
          · refine .inl ⟨q1, q2, ?_⟩
            rw [bes_l h2 e hl, ← q3, ← k2]
            exact hps
          · exact .inr q
        · rw [dep_r h2 e hl] at hd
          have hne : ps ≠ [] := fun h => by rw [h] at hd; simp at hd
          have hps : ps = ps.dropLast ++ [ps.getLastD []] := by
            rw [List.getLastD_eq_getLast?, List.getLast?_eq_some_getLast hne]
            exact (List.dropLast_concat_getLast hne).symm
          have hgw : (ps.getLastD []).length = wi := by
            rw [List.getLastD_eq_getLast?, List.getLast?_eq_some_getLast hne]
            exact hpw _ (List.getLast_mem hne)
          unfold sdl sdr at hcons
          rw [if_neg hl, if_neg hl] at hcons
          obtain ⟨k1, k2⟩ := List.append_inj hcons.2 (by rw [hgw, hwA])
          have hdl : ps.dropLast.length = dep (f + hf n) (n - hf n) tf tn := by rw [List.length_dropLast]; omega
          rw [cld_r h2 e hv hl]
          rcases ih (f + hf n) (n - hf n) tf tn ps.dropLast (by omega) (by omega) (r2 hl) hdl (fun p hp => hpw p ((List.dropLast_sublist ps).subset hp)) k2 with ⟨q1, q2, q3⟩ | q
          · refine .inl ⟨q1, q2, ?_⟩
            rw [bes_r h2 e hl, ← q3, ← k1]
            exact hps
          · exact .inr q
      · refine .inr ⟨_, _, cld_no h2 e hv, hv, ?_⟩
        rw [← topv_sd h2 e, ht, mth_hv h2 hLn]
end Go.Proofs.YtocdnomfpgdglabDoor

namespace Go.Proofs.YtocdnomfpgdglabDoor
open Go.RowKit

theorem box35 (w : World) (p0 p1 p2 a0 a1 a2 a3 a4 : Value) (tp ta : Nat) (W : World) (hW : (w.alloc (.cells #[p0, p1, p2] tp)).alloc (.cells #[a0, a1, a2, a3, a4] ta) = W) :
    (W.cell? ⟨w.heap.size, 0, none⟩ = some p0 ∧ W.cell? ⟨w.heap.size, 1, none⟩ = some p1 ∧ W.cell? ⟨w.heap.size, 2, none⟩ = some p2) ∧ (W.cell? ⟨w.heap.size + 1, 0, none⟩ = some a0 ∧ W.cell? ⟨w.heap.size + 1, 1, none⟩ = some a1 ∧ W.cell? ⟨w.heap.size + 1, 2, none⟩ = some a2 ∧ W.cell? ⟨w.heap.size + 1, 3, none⟩ = some a3 ∧ W.cell? ⟨w.heap.size + 1, 4, none⟩ = some a4) ∧ Fr (fun _ => False) w W := by
  subst hW
  have e1 : w.heap.size + 1 = (w.alloc (.cells #[p0, p1, p2] tp)).heap.size := by simp
  have hc : ∀ j, ((w.alloc (.cells #[p0, p1, p2] tp)).alloc (.cells #[a0, a1, a2, a3, a4] ta)).cell? ⟨w.heap.size + 1, j, none⟩ = (#[a0, a1, a2, a3, a4] : Array Value)[j]? := fun j => by rw [e1]; exact World.cell?_alloc_at _ _ _ _ rfl
  have hd : ∀ j, (w.alloc (.cells #[p0, p1, p2] tp)).cell? ⟨w.heap.size, j, none⟩ = (#[p0, p1, p2] : Array Value)[j]? := fun j => World.cell?_alloc_at _ _ _ _ rfl
  have hf : Fr (fun _ => False) (w.alloc (.cells #[p0, p1, p2] tp)) ((w.alloc (.cells #[p0, p1, p2] tp)).alloc (.cells #[a0, a1, a2, a3, a4] ta)) := (Fr.refl _ _).alloc _
  have hk : ∀ j v, (w.alloc (.cells #[p0, p1, p2] tp)).cell? ⟨w.heap.size, j, none⟩ = some v → ((w.alloc (.cells #[p0, p1, p2] tp)).alloc (.cells #[a0, a1, a2, a3, a4] ta)).cell? ⟨w.heap.size, j, none⟩ = some v := fun j v h => (hf.cell (p := ⟨w.heap.size, j, none⟩) (lt_of_cell h) (fun h => h)).trans h
  exact ⟨⟨hk 0 _ (hd 0), hk 1 _ (hd 1), hk 2 _ (hd 2)⟩, ⟨hc 0, hc 1, hc 2, hc 3, hc 4⟩, ((Fr.refl _ _).alloc _).alloc _⟩
/-- What is told: two texts. -/
def Two (w' : World) (e : Ending) (a b : List Nat) : Prop := ∃ ao ac bo bc, e = .returned (.tuple #[.slice ao a.length ac, .slice bo b.length bc, .bool true]) ∧ Sl w' (.slice ao a.length ac) a ∧ Sl w' (.slice bo b.length bc) b
set_option maxRecDepth 100000 in
set_option maxHeartbeats 4000000 in
/-- collide, one level; the part lies in the first half. -/
theorem coll_l (tb wi tf tn f n N xc g o : Nat) (ro : Option Addr) (rn rc : Nat) (vo : Option Addr) (vn vc : Nat) (w : World) (hc : w.cell? ⟨g, o + N, none⟩ = some (.slice vo vn vc)) (hcp : N + 1 ≤ xc) (hN : N < 9223372036854775807) (h2 : 2 ≤ n) (hb : f + n < 9223372036854775808) (hl : tf < f + hf n) (M V A B : List Nat) (hv : Sl w (.slice vo vn vc) V) (hM16 : M.length ≤ 16000000) (hV16 : V.length ≤ 16000000) (hA16 : A.length ≤ 16000000) (hB16 : B.length ≤ 16000000) (Post : Ending → World → Prop)
    (ht : ∀ w', Fr (fun _ => False) w w' → Calls Tryd.prog 55 #[cv wi tf tn (.slice ro rn rc) (.slice (some ⟨g, o, none⟩) N xc), sv f (hf n)] w' fun e w'' => ∃ uo un uc, e = .returned (.slice uo un uc) ∧ Sl w'' (.slice uo un uc) M ∧ Fr (fun _ => False) w' w'')
    (hr1 : ∀ w', Fr (fun _ => False) w w' → Calls Tryd.prog 75 #[pv (.pointer (some ⟨tb, 0, none⟩)) f (hf n)] w' fun e w'' => ∃ yo yc, e = .returned (.slice yo wi yc) ∧ Sl w'' (.slice yo wi yc) A ∧ Fr (fun _ => False) w' w'')
    (hr2 : ∀ w', Fr (fun _ => False) w w' → Calls Tryd.prog 75 #[pv (.pointer (some ⟨tb, 0, none⟩)) (f + hf n) (n - hf n)] w' fun e w'' => ∃ yo yc, e = .returned (.slice yo wi yc) ∧ Sl w'' (.slice yo wi yc) B ∧ Fr (fun _ => False) w' w'')
    (ih : (1 :: (M ++ V) : List Nat) = 1 :: (A ++ B) → ∀ w', Fr (fun _ => False) w w' → Calls Tryd.prog 37 #[pv (.pointer (some ⟨tb, 0, none⟩)) f (hf n), cv wi tf tn (.slice ro rn rc) (.slice (some ⟨g, o, none⟩) N xc)] w' fun e w'' => (∃ ao an ac bo bn bc z, e = .returned (.tuple #[.slice ao an ac, .slice bo bn bc, .bool z])) ∧ Post e w'' ∧ Fr (fun _ => False) w' w'') :
    Calls Tryd.prog 37 #[pv (.pointer (some ⟨tb, 0, none⟩)) f n, cv wi tf tn (.slice ro rn rc) (.slice (some ⟨g, o, none⟩) (N + 1) xc)] w fun e w' => (¬ (1 :: (M ++ V) : List Nat) = 1 :: (A ++ B) → Two w' e (1 :: (M ++ V)) (1 :: (A ++ B))) ∧ ((1 :: (M ++ V) : List Nat) = 1 :: (A ++ B) → Post e w') ∧ (∃ ao an ac bo bn bc z, e = .returned (.tuple #[.slice ao an ac, .slice bo bn bc, .bool z])) ∧ Fr (fun _ => False) w w' := by
  have hpt := fun w => parts_any (some ⟨tb, 0, none⟩) f n w hb h2
  have hsd := fun w' (hf' : Fr (fun _ => False) w w') => sides_l wi tf tn f n N xc g o ro rn rc (.slice vo vn vc) w' ((hf'.cell (lt_of_cell hc) (fun h => h)).trans hc) hcp hN ⟨_, _, _, rfl⟩ h2 hb hl M (fun w'' hf'' => ht w'' (hf'.trans hf'' (fun _ _ h => h)))
  have hin := fun w' (hf' : Fr (fun _ => False) w w') => inner_any wi tf tn N xc g o ro rn rc (.slice vo vn vc) w' ((hf'.cell (lt_of_cell hc) (fun h => h)).trans hc) hcp hN ⟨_, _, _, rfl⟩
  have hbf := fun w => before_any tf tn (f + hf n) (n - hf n) w
  rw [decide_eq_true hl] at hbf
  have hj : ∀ w' xo xn xc' yo yn yc' (a b : List Nat) W, Sl w' (.slice xo xn xc') a → Sl w' (.slice yo yn yc') b → a.length ≤ 16000000 → b.length ≤ 16000000 → w'.alloc (.cells #[.slice xo xn xc', .slice yo yn yc'] 23) = W → Calls Tryd.prog 56 #[.int .u8 1, .slice (some ⟨w'.heap.size, 0, none⟩) 2 2] W fun e w'' => ∃ ao cp, e = .returned (.slice ao (1 :: (a ++ b)).length cp) ∧ Sl w'' (.slice ao (1 :: (a ++ b)).length cp) (1 :: (a ++ b)) ∧ Fr (fun _ => False) w' w'' := fun w' xo xn xc' yo yn yc' a b W k1 k2 k3 k4 hW => by
    have hF : Fr (fun _ => False) w' W := by rw [← hW]; exact (Fr.refl _ _).alloc _
    have := join_any 1 _ _ [a, b] W (pcs2 k1 k2 W hW) (by decide) (fun p hp => by simp at hp; rcases hp with rfl | rfl <;> assumption) (by simp)
    refine this.mono ?_
    rintro e w'' ⟨ao, cp, rfl, hO⟩
    have hs := hO.sl (cons_lt (by decide) (fun v hv => by
      simp at hv
      rcases hv with hv | hv
      · exact k1.b v hv
      · exact k2.b v hv))
    simp only [List.flatten_cons, List.flatten_nil, List.append_nil] at hs ⊢
    exact ⟨ao, cp, rfl, hs, hF.trans hO.fr (fun _ _ h => h)⟩
  clear ht hc hcp hN hb h2 hl
  generalize f + hf n = F2 at *
  generalize n - hf n = N2 at *
  generalize hf n = K at *
  generalize hP1 : (1 :: (M ++ V) : List Nat) = P1 at *
  generalize hP2 : (1 :: (A ++ B) : List Nat) = P2 at *
  have HC := hide (And.intro hpt (And.intro hsd (And.intro hin (And.intro hbf (And.intro hr1 (And.intro hr2 (And.intro ih (And.intro hv hj))))))))
  have HQ := hide (And.intro hP1 (And.intro hP2 (And.intro hM16 (And.intro hV16 (And.intro hA16 hB16)))))
  clear hpt hsd hin hbf hr1 hr2 ih hv hj hP1 hP2 hM16 hV16 hA16 hB16
  unfold sv cv pv at *
  obtain ⟨W0, hW0⟩ : ∃ W0, (w.alloc (.cells #[.pointer (some ⟨tb, 0, none⟩), .int .i64 f, .int .i64 n] 63)).alloc (.cells #[.int .i64 wi, .int .i64 tf, .int .i64 tn, .slice ro rn rc, .slice (some ⟨g, o, none⟩) (N + 1) xc] 67) = W0 := ⟨_, rfl⟩
  obtain ⟨⟨p0, p1, p2⟩, ⟨a0, a1, a2, a3, a4⟩, hF0⟩ := box35 w _ _ _ _ _ _ _ _ _ _ W0 hW0
  go_enter Tryd.func37, Tryd.ntmps37
  go_wp2_with fail
  try rw [hW0]
  refine ((unhide HC).1 _).mono ?_
  rintro e wA ⟨rfl, hFA⟩
  have kA : ∀ c j v, W0.cell? ⟨c, j, none⟩ = some v → wA.cell? ⟨c, j, none⟩ = some v := fun c j v h => (hFA.cell (p := ⟨c, j, none⟩) (lt_of_cell h) (fun h => h)).trans h
  replace p0 := kA _ _ _ p0
  replace p1 := kA _ _ _ p1
  replace p2 := kA _ _ _ p2
  replace a0 := kA _ _ _ a0
  replace a1 := kA _ _ _ a1
  replace a2 := kA _ _ _ a2
  replace a3 := kA _ _ _ a3
  replace a4 := kA _ _ _ a4
  have HF := hide (hF0.trans hFA (fun _ _ h => h))
  clear hFA hF0 hW0 kA
  generalize w.heap.size = b at *
  have l0 : b < wA.heap.size := lt_of_cell p0
  have l1 : b + 1 < wA.heap.size := lt_of_cell a0
  go_wp2_with fail
  obtain ⟨W1, hW1⟩ : ∃ W1, (wA.alloc (.cells #[.pointer (some ⟨tb, 0, none⟩), .int .i64 f, .int .i64 K] 63)).alloc (.cells #[.pointer (some ⟨tb, 0, none⟩), .int .i64 F2, .int .i64 N2] 63) = W1 := ⟨_, rfl⟩
  try rw [hW1]
  obtain ⟨x0, x1, x2, y0, y1, y2, hF1⟩ := two3 wA _ _ _ _ _ _ _ W1 hW1
  refine ((unhide HC).2.1 _ ((unhide HF).trans hF1 (fun _ _ h => h))).mono ?_
  rintro e wB ⟨uo, un, uc, rfl, hS, hFB⟩
  have hF1B := hF1.trans hFB (fun _ _ h => h)
  have kA : ∀ c j v, wA.cell? ⟨c, j, none⟩ = some v → wB.cell? ⟨c, j, none⟩ = some v := fun c j v h => (hF1B.cell (p := ⟨c, j, none⟩) (lt_of_cell h) (fun h => h)).trans h
  have kB : ∀ c j v, W1.cell? ⟨c, j, none⟩ = some v → wB.cell? ⟨c, j, none⟩ = some v := fun c j v h => (hFB.cell (p := ⟨c, j, none⟩) (lt_of_cell h) (fun h => h)).trans h
  replace x0 := kB _ _ _ x0
  replace x1 := kB _ _ _ x1
  replace x2 := kB _ _ _ x2
  replace y0 := kB _ _ _ y0
  replace y1 := kB _ _ _ y1
  replace y2 := kB _ _ _ y2
  replace a0 := kA _ _ _ a0
  replace a1 := kA _ _ _ a1
  replace a2 := kA _ _ _ a2
  replace a3 := kA _ _ _ a3
  replace a4 := kA _ _ _ a4
  have HB := hide (And.intro ((unhide HF).trans hF1B (fun _ _ h => h)) (And.intro hS ((unhide HC).2.2.2.2.2.2.2.1.fr0 ((unhide HF).trans hF1B (fun _ _ h => h)))))
  clear hF1 hFB hF1B hW1 hS kA kB HF p0 p1 p2 l0 l1
  generalize wA.heap.size = Z at *
  have hS : ∀ w', Fr (fun _ => False) wB w' → w'.cell? ⟨Z, 0, none⟩ = some (.pointer (some ⟨tb, 0, none⟩)) ∧ w'.cell? ⟨Z, 1, none⟩ = some (.int .i64 f) ∧ w'.cell? ⟨Z, 2, none⟩ = some (.int .i64 K) ∧ w'.cell? ⟨Z + 1, 0, none⟩ = some (.pointer (some ⟨tb, 0, none⟩)) ∧ w'.cell? ⟨Z + 1, 1, none⟩ = some (.int .i64 F2) ∧ w'.cell? ⟨Z + 1, 2, none⟩ = some (.int .i64 N2) := fun w' hf => by
    have k : ∀ c j v, wB.cell? ⟨c, j, none⟩ = some v → w'.cell? ⟨c, j, none⟩ = some v := fun c j v h => (hf.cell (p := ⟨c, j, none⟩) (lt_of_cell h) (fun h => h)).trans h
    exact ⟨k _ _ _ x0, k _ _ _ x1, k _ _ _ x2, k _ _ _ y0, k _ _ _ y1, k _ _ _ y2⟩
  have HS := hide hS
  clear hS
  have hj1 : Calls Tryd.prog 56 #[.int .u8 1, .slice (some ⟨wB.heap.size, 0, none⟩) 2 2] (wB.drew.alloc (.cells #[.slice uo un uc, .slice vo vn vc] 23)) fun e w'' => ∃ ao cp, e = .returned (.slice ao P1.length cp) ∧ Sl w'' (.slice ao P1.length cp) P1 ∧ Fr (fun _ => False) wB w'' := by
    have := (unhide HC).2.2.2.2.2.2.2.2 wB.drew _ _ _ _ _ _ M V _ ((unhide HB).2.1.fr0 (Fr.refl _ _).drew) ((unhide HB).2.2.fr0 (Fr.refl _ _).drew) (unhide HQ).2.2.1 (unhide HQ).2.2.2.1 rfl
    rw [(unhide HQ).1] at this
    exact this.mono (fun e w'' ⟨ao, cp, h1, h2, h3⟩ => ⟨ao, cp, h1, h2, (Fr.refl _ _).drew.trans h3 (fun _ _ h => h)⟩)
  have HJ1 := hide hj1
  clear hj1
  have T1 : True := trivial
  have T2 : True := trivial
  go_wp2_with fail
  go_region_held3 (fun w' => w'.cell? ⟨Z, 0, none⟩ = some (.pointer (some ⟨tb, 0, none⟩)) ∧ w'.cell? ⟨Z, 1, none⟩ = some (.int .i64 f) ∧ w'.cell? ⟨Z, 2, none⟩ = some (.int .i64 K) ∧ w'.cell? ⟨Z + 1, 0, none⟩ = some (.pointer (some ⟨tb, 0, none⟩)) ∧ w'.cell? ⟨Z + 1, 1, none⟩ = some (.int .i64 F2) ∧ w'.cell? ⟨Z + 1, 2, none⟩ = some (.int .i64 N2))
    (first | assumption | exact (unhide HS) _ (Fr.refl _ _).drew | exact (unhide HS) _ ((Fr.refl _ _).drew.alloc _) | exact (unhide HS) _ fE | exact (unhide HS) _ (fD.alloc _) | exact (unhide HS) _ fD | exact (unhide HS) _ fD1 | exact (unhide HS) _ fC)
    (first
      | (go_at_call 56; clear T1; refine (unhide HJ1).mono ?_; rintro e wC ⟨co, cc, rfl, sC, fC⟩)
      | (go_at_call 75; clear T2; refine ((unhide HC).2.2.2.2.1 _ ((unhide HB).1.trans fC (fun _ _ h => h))).mono ?_; rintro e wD ⟨do', dc, rfl, sD, hD⟩; have fD1 : Fr (fun _ => False) wB wD := fC.trans hD (fun _ _ h => h))
      | (go_at_call 75; refine ((unhide HC).2.2.2.2.2.1 _ ((unhide HB).1.trans fD1 (fun _ _ h => h))).mono ?_; rintro e wE ⟨eo, ec, rfl, sE, hE⟩; have fD : Fr (fun _ => False) wB wE := fD1.trans hE (fun _ _ h => h))
      | (go_at_call 56; refine ((unhide HC).2.2.2.2.2.2.2.2 _ _ _ _ _ _ _ A B _ (sD.fr0 hE) sE (unhide HQ).2.2.2.2.1 (unhide HQ).2.2.2.2.2 rfl).mono ?_; rw [(unhide HQ).2.1]; rintro e wG ⟨go', gc, rfl, sG, hG⟩; have fE : Fr (fun _ => False) wB wG := fD.trans hG (fun _ _ h => h)))
  have kG : ∀ c j v, wB.cell? ⟨c, j, none⟩ = some v → wG.cell? ⟨c, j, none⟩ = some v := fun c j v h => (fE.cell (p := ⟨c, j, none⟩) (lt_of_cell h) (fun h => h)).trans h
  replace a0 := kG _ _ _ a0
  replace a1 := kG _ _ _ a1
  replace a2 := kG _ _ _ a2
  replace a3 := kG _ _ _ a3
  replace a4 := kG _ _ _ a4
  have HG := hide (And.intro (sC.fr0 (hD.trans (hE.trans hG (fun _ _ h => h)) (fun _ _ h => h))) (And.intro sG (And.intro ((unhide HB).1.trans fE (fun _ _ h => h)) fE)))
  clear sC sD sE sG hD hE hG fC fD1 fD fE kG x0 x1 x2 y0 y1 y2
  go_wp2_with fail
  refine (beq_sl _ _ P1 P2 wG (unhide HG).1 (unhide HG).2.1).mono ?_
  rintro e wH ⟨rfl, rfl⟩
  by_cases hEq : P1 = P2
  · rw [decide_eq_true hEq]
    have HEq := hide hEq
    clear hEq
    go_wp2_with fail
    refine ((unhide HC).2.2.1 _ (unhide HG).2.2.1).mono ?_
    rintro e wI ⟨rfl, hFI⟩
    obtain ⟨x0, x1, x2, y0, y1, y2⟩ := (unhide HS) wI ((unhide HG).2.2.2.trans hFI (fun _ _ h => h))
    have kI : ∀ c j v, wH.cell? ⟨c, j, none⟩ = some v → wI.cell? ⟨c, j, none⟩ = some v := fun c j v h => (hFI.cell (p := ⟨c, j, none⟩) (lt_of_cell h) (fun h => h)).trans h
    replace a1 := kI _ _ _ a1
    replace a2 := kI _ _ _ a2
    have HI := hide (And.intro ((unhide HG).2.2.1.trans hFI (fun _ _ h => h)) ((unhide HG).2.2.2.trans hFI (fun _ _ h => h)))
    clear hFI kI a0 a3 a4
    have m0 : b + 1 < wI.heap.size := lt_of_cell a1
    have m1 : Z < wI.heap.size := lt_of_cell x0
    have m2 : Z + 1 < wI.heap.size := lt_of_cell y0
    go_wp2_with fail
    obtain ⟨W2, hW2⟩ : ∃ W2, wI.alloc (.cells #[.int .i64 wi, .int .i64 tf, .int .i64 tn, .slice ro rn rc, .slice (some ⟨g, o, none⟩) N xc] 67) = W2 := ⟨_, rfl⟩
    try rw [hW2]
    obtain ⟨⟨c0, c1, c2, c3, c4⟩, hF2⟩ := box5 wI _ _ _ _ _ _ W2 hW2
    refine ((unhide HC).2.2.2.1 _).mono ?_
    rintro e wJ ⟨rfl, hFJ⟩
    have hF2J := hF2.trans hFJ (fun _ _ h => h)
    obtain ⟨x0, x1, x2, y0, y1, y2⟩ := (unhide HS) wJ ((unhide HI).2.trans hF2J (fun _ _ h => h))
    have kJ : ∀ c j v, W2.cell? ⟨c, j, none⟩ = some v → wJ.cell? ⟨c, j, none⟩ = some v := fun c j v h => (hFJ.cell (p := ⟨c, j, none⟩) (lt_of_cell h) (fun h => h)).trans h
    replace c0 := kJ _ _ _ c0
    replace c1 := kJ _ _ _ c1
    replace c2 := kJ _ _ _ c2
    replace c3 := kJ _ _ _ c3
    replace c4 := kJ _ _ _ c4
    have HJ := hide ((unhide HI).1.trans hF2J (fun _ _ h => h))
    clear hF2 hFJ hF2J kJ hW2 a1 a2
    generalize wI.heap.size = Y at *
    go_wp2_with fail
    refine ((unhide HC).2.2.2.2.2.2.1 (unhide HEq) _ (unhide HJ)).mono ?_
    rintro e wK ⟨⟨ao, an, ac, bo, bn, bc, z, rfl⟩, hPost, hFK⟩
    have HK := hide (And.intro hPost ((unhide HJ).trans hFK (fun _ _ h => h)))
    clear hPost hFK
    go_wp2_with fail
    go_returns
    exact ⟨fun h => absurd (unhide HEq) h, fun _ => (unhide HK).1, ⟨ao, an, ac, bo, bn, bc, z, rfl⟩, (unhide HK).2⟩
  · rw [decide_eq_false hEq]
    have HEq := hide hEq
    clear hEq
    go_wp2_with fail
    go_returns
    exact ⟨fun _ => ⟨co, cc, go', gc, rfl, (unhide HG).1, (unhide HG).2.1⟩, fun h => absurd h (unhide HEq), ⟨_, _, _, _, _, _, _, rfl⟩, (unhide HG).2.2.1⟩
end Go.Proofs.YtocdnomfpgdglabDoor

namespace Go.Proofs.YtocdnomfpgdglabDoor
open Go.RowKit

set_option maxRecDepth 100000 in
set_option maxHeartbeats 4000000 in
/-- collide, one level; the part lies in the other half. -/
theorem coll_r (tb wi tf tn f n N xc g o : Nat) (ro : Option Addr) (rn rc : Nat) (vo : Option Addr) (vn vc : Nat) (w : World) (hc : w.cell? ⟨g, o + N, none⟩ = some (.slice vo vn vc)) (hcp : N + 1 ≤ xc) (hN : N < 9223372036854775807) (h2 : 2 ≤ n) (hb : f + n < 9223372036854775808) (hl : ¬ tf < f + hf n) (M V A B : List Nat) (hv : Sl w (.slice vo vn vc) V) (hM16 : M.length ≤ 16000000) (hV16 : V.length ≤ 16000000) (hA16 : A.length ≤ 16000000) (hB16 : B.length ≤ 16000000) (Post : Ending → World → Prop)
    (ht : ∀ w', Fr (fun _ => False) w w' → Calls Tryd.prog 55 #[cv wi tf tn (.slice ro rn rc) (.slice (some ⟨g, o, none⟩) N xc), sv (f + hf n) (n - hf n)] w' fun e w'' => ∃ uo un uc, e = .returned (.slice uo un uc) ∧ Sl w'' (.slice uo un uc) M ∧ Fr (fun _ => False) w' w'')
    (hr1 : ∀ w', Fr (fun _ => False) w w' → Calls Tryd.prog 75 #[pv (.pointer (some ⟨tb, 0, none⟩)) f (hf n)] w' fun e w'' => ∃ yo yc, e = .returned (.slice yo wi yc) ∧ Sl w'' (.slice yo wi yc) A ∧ Fr (fun _ => False) w' w'')
    (hr2 : ∀ w', Fr (fun _ => False) w w' → Calls Tryd.prog 75 #[pv (.pointer (some ⟨tb, 0, none⟩)) (f + hf n) (n - hf n)] w' fun e w'' => ∃ yo yc, e = .returned (.slice yo wi yc) ∧ Sl w'' (.slice yo wi yc) B ∧ Fr (fun _ => False) w' w'')
    (ih : (1 :: (V ++ M) : List Nat) = 1 :: (A ++ B) → ∀ w', Fr (fun _ => False) w w' → Calls Tryd.prog 37 #[pv (.pointer (some ⟨tb, 0, none⟩)) (f + hf n) (n - hf n), cv wi tf tn (.slice ro rn rc) (.slice (some ⟨g, o, none⟩) N xc)] w' fun e w'' => (∃ ao an ac bo bn bc z, e = .returned (.tuple #[.slice ao an ac, .slice bo bn bc, .bool z])) ∧ Post e w'' ∧ Fr (fun _ => False) w' w'') :
    Calls Tryd.prog 37 #[pv (.pointer (some ⟨tb, 0, none⟩)) f n, cv wi tf tn (.slice ro rn rc) (.slice (some ⟨g, o, none⟩) (N + 1) xc)] w fun e w' => (¬ (1 :: (V ++ M) : List Nat) = 1 :: (A ++ B) → Two w' e (1 :: (V ++ M)) (1 :: (A ++ B))) ∧ ((1 :: (V ++ M) : List Nat) = 1 :: (A ++ B) → Post e w') ∧ (∃ ao an ac bo bn bc z, e = .returned (.tuple #[.slice ao an ac, .slice bo bn bc, .bool z])) ∧ Fr (fun _ => False) w w' := by
  have hpt := fun w => parts_any (some ⟨tb, 0, none⟩) f n w hb h2
  have hsd := fun w' (hf' : Fr (fun _ => False) w w') => sides_r wi tf tn f n N xc g o ro rn rc (.slice vo vn vc) w' ((hf'.cell (lt_of_cell hc) (fun h => h)).trans hc) hcp hN ⟨_, _, _, rfl⟩ h2 hb hl M (fun w'' hf'' => ht w'' (hf'.trans hf'' (fun _ _ h => h)))
  have hin := fun w' (hf' : Fr (fun _ => False) w w') => inner_any wi tf tn N xc g o ro rn rc (.slice vo vn vc) w' ((hf'.cell (lt_of_cell hc) (fun h => h)).trans hc) hcp hN ⟨_, _, _, rfl⟩
  have hbf := fun w => before_any tf tn (f + hf n) (n - hf n) w
  rw [decide_eq_false hl] at hbf
  have hj : ∀ w' xo xn xc' yo yn yc' (a b : List Nat) W, Sl w' (.slice xo xn xc') a → Sl w' (.slice yo yn yc') b → a.length ≤ 16000000 → b.length ≤ 16000000 → w'.alloc (.cells #[.slice xo xn xc', .slice yo yn yc'] 23) = W → Calls Tryd.prog 56 #[.int .u8 1, .slice (some ⟨w'.heap.size, 0, none⟩) 2 2] W fun e w'' => ∃ ao cp, e = .returned (.slice ao (1 :: (a ++ b)).length cp) ∧ Sl w'' (.slice ao (1 :: (a ++ b)).length cp) (1 :: (a ++ b)) ∧ Fr (fun _ => False) w' w'' := fun w' xo xn xc' yo yn yc' a b W k1 k2 k3 k4 hW => by
    have hF : Fr (fun _ => False) w' W := by rw [← hW]; exact (Fr.refl _ _).alloc _
    have := join_any 1 _ _ [a, b] W (pcs2 k1 k2 W hW) (by decide) (fun p hp => by simp at hp; rcases hp with rfl | rfl <;> assumption) (by simp)
    refine this.mono ?_
    rintro e w'' ⟨ao, cp, rfl, hO⟩
    have hs := hO.sl (cons_lt (by decide) (fun v hv => by
      simp at hv
      rcases hv with hv | hv
      · exact k1.b v hv
      · exact k2.b v hv))
    simp only [List.flatten_cons, List.flatten_nil, List.append_nil] at hs ⊢
    exact ⟨ao, cp, rfl, hs, hF.trans hO.fr (fun _ _ h => h)⟩
  clear ht hc hcp hN hb h2 hl
  generalize f + hf n = F2 at *
  generalize n - hf n = N2 at *
  generalize hf n = K at *
  generalize hP1 : (1 :: (V ++ M) : List Nat) = P1 at *
  generalize hP2 : (1 :: (A ++ B) : List Nat) = P2 at *
  have HC := hide (And.intro hpt (And.intro hsd (And.intro hin (And.intro hbf (And.intro hr1 (And.intro hr2 (And.intro ih (And.intro hv hj))))))))
  have HQ := hide (And.intro hP1 (And.intro hP2 (And.intro hM16 (And.intro hV16 (And.intro hA16 hB16)))))
  clear hpt hsd hin hbf hr1 hr2 ih hv hj hP1 hP2 hM16 hV16 hA16 hB16
  unfold sv cv pv at *
  obtain ⟨W0, hW0⟩ : ∃ W0, (w.alloc (.cells #[.pointer (some ⟨tb, 0, none⟩), .int .i64 f, .int .i64 n] 63)).alloc (.cells #[.int .i64 wi, .int .i64 tf, .int .i64 tn, .slice ro rn rc, .slice (some ⟨g, o, none⟩) (N + 1) xc] 67) = W0 := ⟨_, rfl⟩
  obtain ⟨⟨p0, p1, p2⟩, ⟨a0, a1, a2, a3, a4⟩, hF0⟩ := box35 w _ _ _ _ _ _ _ _ _ _ W0 hW0
  go_enter Tryd.func37, Tryd.ntmps37
  go_wp2_with fail
  try rw [hW0]
  refine ((unhide HC).1 _).mono ?_
  rintro e wA ⟨rfl, hFA⟩
  have kA : ∀ c j v, W0.cell? ⟨c, j, none⟩ = some v → wA.cell? ⟨c, j, none⟩ = some v := fun c j v h => (hFA.cell (p := ⟨c, j, none⟩) (lt_of_cell h) (fun h => h)).trans h
  replace p0 := kA _ _ _ p0
  replace p1 := kA _ _ _ p1
  replace p2 := kA _ _ _ p2
  replace a0 := kA _ _ _ a0
  replace a1 := kA _ _ _ a1
  replace a2 := kA _ _ _ a2
  replace a3 := kA _ _ _ a3
  replace a4 := kA _ _ _ a4
  have HF := hide (hF0.trans hFA (fun _ _ h => h))
  clear hFA hF0 hW0 kA
  generalize w.heap.size = b at *
  have l0 : b < wA.heap.size := lt_of_cell p0
  have l1 : b + 1 < wA.heap.size := lt_of_cell a0
  go_wp2_with fail
  obtain ⟨W1, hW1⟩ : ∃ W1, (wA.alloc (.cells #[.pointer (some ⟨tb, 0, none⟩), .int .i64 f, .int .i64 K] 63)).alloc (.cells #[.pointer (some ⟨tb, 0, none⟩), .int .i64 F2, .int .i64 N2] 63) = W1 := ⟨_, rfl⟩
  try rw [hW1]
  obtain ⟨x0, x1, x2, y0, y1, y2, hF1⟩ := two3 wA _ _ _ _ _ _ _ W1 hW1
  refine ((unhide HC).2.1 _ ((unhide HF).trans hF1 (fun _ _ h => h))).mono ?_
  rintro e wB ⟨uo, un, uc, rfl, hS, hFB⟩
  have hF1B := hF1.trans hFB (fun _ _ h => h)
  have kA : ∀ c j v, wA.cell? ⟨c, j, none⟩ = some v → wB.cell? ⟨c, j, none⟩ = some v := fun c j v h => (hF1B.cell (p := ⟨c, j, none⟩) (lt_of_cell h) (fun h => h)).trans h
  have kB : ∀ c j v, W1.cell? ⟨c, j, none⟩ = some v → wB.cell? ⟨c, j, none⟩ = some v := fun c j v h => (hFB.cell (p := ⟨c, j, none⟩) (lt_of_cell h) (fun h => h)).trans h
  replace x0 := kB _ _ _ x0
  replace x1 := kB _ _ _ x1
  replace x2 := kB _ _ _ x2
  replace y0 := kB _ _ _ y0
  replace y1 := kB _ _ _ y1
  replace y2 := kB _ _ _ y2
  replace a0 := kA _ _ _ a0
  replace a1 := kA _ _ _ a1
  replace a2 := kA _ _ _ a2
  replace a3 := kA _ _ _ a3
  replace a4 := kA _ _ _ a4
  have HB := hide (And.intro ((unhide HF).trans hF1B (fun _ _ h => h)) (And.intro hS ((unhide HC).2.2.2.2.2.2.2.1.fr0 ((unhide HF).trans hF1B (fun _ _ h => h)))))
  clear hF1 hFB hF1B hW1 hS kA kB HF p0 p1 p2 l0 l1
  generalize wA.heap.size = Z at *
  have hS : ∀ w', Fr (fun _ => False) wB w' → w'.cell? ⟨Z, 0, none⟩ = some (.pointer (some ⟨tb, 0, none⟩)) ∧ w'.cell? ⟨Z, 1, none⟩ = some (.int .i64 f) ∧ w'.cell? ⟨Z, 2, none⟩ = some (.int .i64 K) ∧ w'.cell? ⟨Z + 1, 0, none⟩ = some (.pointer (some ⟨tb, 0, none⟩)) ∧ w'.cell? ⟨Z + 1, 1, none⟩ = some (.int .i64 F2) ∧ w'.cell? ⟨Z + 1, 2, none⟩ = some (.int .i64 N2) := fun w' hf => by
    have k : ∀ c j v, wB.cell? ⟨c, j, none⟩ = some v → w'.cell? ⟨c, j, none⟩ = some v := fun c j v h => (hf.cell (p := ⟨c, j, none⟩) (lt_of_cell h) (fun h => h)).trans h
    exact ⟨k _ _ _ x0, k _ _ _ x1, k _ _ _ x2, k _ _ _ y0, k _ _ _ y1, k _ _ _ y2⟩
  have HS := hide hS
  clear hS
  have hj1 : Calls Tryd.prog 56 #[.int .u8 1, .slice (some ⟨wB.heap.size, 0, none⟩) 2 2] (wB.drew.alloc (.cells #[.slice vo vn vc, .slice uo un uc] 23)) fun e w'' => ∃ ao cp, e = .returned (.slice ao P1.length cp) ∧ Sl w'' (.slice ao P1.length cp) P1 ∧ Fr (fun _ => False) wB w'' := by
    have := (unhide HC).2.2.2.2.2.2.2.2 wB.drew _ _ _ _ _ _ V M _ ((unhide HB).2.2.fr0 (Fr.refl _ _).drew) ((unhide HB).2.1.fr0 (Fr.refl _ _).drew) (unhide HQ).2.2.2.1 (unhide HQ).2.2.1 rfl
    rw [(unhide HQ).1] at this
    exact this.mono (fun e w'' ⟨ao, cp, h1, h2, h3⟩ => ⟨ao, cp, h1, h2, (Fr.refl _ _).drew.trans h3 (fun _ _ h => h)⟩)
  have HJ1 := hide hj1
  clear hj1
  have T1 : True := trivial
  have T2 : True := trivial
  go_wp2_with fail
  go_region_held3 (fun w' => w'.cell? ⟨Z, 0, none⟩ = some (.pointer (some ⟨tb, 0, none⟩)) ∧ w'.cell? ⟨Z, 1, none⟩ = some (.int .i64 f) ∧ w'.cell? ⟨Z, 2, none⟩ = some (.int .i64 K) ∧ w'.cell? ⟨Z + 1, 0, none⟩ = some (.pointer (some ⟨tb, 0, none⟩)) ∧ w'.cell? ⟨Z + 1, 1, none⟩ = some (.int .i64 F2) ∧ w'.cell? ⟨Z + 1, 2, none⟩ = some (.int .i64 N2))
    (first | assumption | exact (unhide HS) _ (Fr.refl _ _).drew | exact (unhide HS) _ ((Fr.refl _ _).drew.alloc _) | exact (unhide HS) _ fE | exact (unhide HS) _ (fD.alloc _) | exact (unhide HS) _ fD | exact (unhide HS) _ fD1 | exact (unhide HS) _ fC)
    (first
      | (go_at_call 56; clear T1; refine (unhide HJ1).mono ?_; rintro e wC ⟨co, cc, rfl, sC, fC⟩)
      | (go_at_call 75; clear T2; refine ((unhide HC).2.2.2.2.1 _ ((unhide HB).1.trans fC (fun _ _ h => h))).mono ?_; rintro e wD ⟨do', dc, rfl, sD, hD⟩; have fD1 : Fr (fun _ => False) wB wD := fC.trans hD (fun _ _ h => h))
      | (go_at_call 75; refine ((unhide HC).2.2.2.2.2.1 _ ((unhide HB).1.trans fD1 (fun _ _ h => h))).mono ?_; rintro e wE ⟨eo, ec, rfl, sE, hE⟩; have fD : Fr (fun _ => False) wB wE := fD1.trans hE (fun _ _ h => h))
      | (go_at_call 56; refine ((unhide HC).2.2.2.2.2.2.2.2 _ _ _ _ _ _ _ A B _ (sD.fr0 hE) sE (unhide HQ).2.2.2.2.1 (unhide HQ).2.2.2.2.2 rfl).mono ?_; rw [(unhide HQ).2.1]; rintro e wG ⟨go', gc, rfl, sG, hG⟩; have fE : Fr (fun _ => False) wB wG := fD.trans hG (fun _ _ h => h)))
  have kG : ∀ c j v, wB.cell? ⟨c, j, none⟩ = some v → wG.cell? ⟨c, j, none⟩ = some v := fun c j v h => (fE.cell (p := ⟨c, j, none⟩) (lt_of_cell h) (fun h => h)).trans h
  replace a0 := kG _ _ _ a0
  replace a1 := kG _ _ _ a1
  replace a2 := kG _ _ _ a2
  replace a3 := kG _ _ _ a3
  replace a4 := kG _ _ _ a4
  have HG := hide (And.intro (sC.fr0 (hD.trans (hE.trans hG (fun _ _ h => h)) (fun _ _ h => h))) (And.intro sG (And.intro ((unhide HB).1.trans fE (fun _ _ h => h)) fE)))
  clear sC sD sE sG hD hE hG fC fD1 fD fE kG x0 x1 x2 y0 y1 y2
  go_wp2_with fail
  refine (beq_sl _ _ P1 P2 wG (unhide HG).1 (unhide HG).2.1).mono ?_
  rintro e wH ⟨rfl, rfl⟩
  by_cases hEq : P1 = P2
  · rw [decide_eq_true hEq]
    have HEq := hide hEq
    clear hEq
    go_wp2_with fail
    refine ((unhide HC).2.2.1 _ (unhide HG).2.2.1).mono ?_
    rintro e wI ⟨rfl, hFI⟩
    obtain ⟨x0, x1, x2, y0, y1, y2⟩ := (unhide HS) wI ((unhide HG).2.2.2.trans hFI (fun _ _ h => h))
    have kI : ∀ c j v, wH.cell? ⟨c, j, none⟩ = some v → wI.cell? ⟨c, j, none⟩ = some v := fun c j v h => (hFI.cell (p := ⟨c, j, none⟩) (lt_of_cell h) (fun h => h)).trans h
    replace a1 := kI _ _ _ a1
    replace a2 := kI _ _ _ a2
    have HI := hide (And.intro ((unhide HG).2.2.1.trans hFI (fun _ _ h => h)) ((unhide HG).2.2.2.trans hFI (fun _ _ h => h)))
    clear hFI kI a0 a3 a4
    have m0 : b + 1 < wI.heap.size := lt_of_cell a1
    have m1 : Z < wI.heap.size := lt_of_cell x0
    have m2 : Z + 1 < wI.heap.size := lt_of_cell y0
    go_wp2_with fail
    obtain ⟨W2, hW2⟩ : ∃ W2, wI.alloc (.cells #[.int .i64 wi, .int .i64 tf, .int .i64 tn, .slice ro rn rc, .slice (some ⟨g, o, none⟩) N xc] 67) = W2 := ⟨_, rfl⟩
    try rw [hW2]
    obtain ⟨⟨c0, c1, c2, c3, c4⟩, hF2⟩ := box5 wI _ _ _ _ _ _ W2 hW2
    refine ((unhide HC).2.2.2.1 _).mono ?_
    rintro e wJ ⟨rfl, hFJ⟩
    have hF2J := hF2.trans hFJ (fun _ _ h => h)
    obtain ⟨x0, x1, x2, y0, y1, y2⟩ := (unhide HS) wJ ((unhide HI).2.trans hF2J (fun _ _ h => h))
    have kJ : ∀ c j v, W2.cell? ⟨c, j, none⟩ = some v → wJ.cell? ⟨c, j, none⟩ = some v := fun c j v h => (hFJ.cell (p := ⟨c, j, none⟩) (lt_of_cell h) (fun h => h)).trans h
    replace c0 := kJ _ _ _ c0
    replace c1 := kJ _ _ _ c1
    replace c2 := kJ _ _ _ c2
    replace c3 := kJ _ _ _ c3
    replace c4 := kJ _ _ _ c4
    have HJ := hide ((unhide HI).1.trans hF2J (fun _ _ h => h))
    clear hF2 hFJ hF2J kJ hW2 a1 a2
    generalize wI.heap.size = Y at *
    go_wp2_with fail
    refine ((unhide HC).2.2.2.2.2.2.1 (unhide HEq) _ (unhide HJ)).mono ?_
    rintro e wK ⟨⟨ao, an, ac, bo, bn, bc, z, rfl⟩, hPost, hFK⟩
    have HK := hide (And.intro hPost ((unhide HJ).trans hFK (fun _ _ h => h)))
    clear hPost hFK
    go_wp2_with fail
    go_returns
    exact ⟨fun h => absurd (unhide HEq) h, fun _ => (unhide HK).1, ⟨ao, an, ac, bo, bn, bc, z, rfl⟩, (unhide HK).2⟩
  · rw [decide_eq_false hEq]
    have HEq := hide hEq
    clear hEq
    go_wp2_with fail
    go_returns
    exact ⟨fun _ => ⟨co, cc, go', gc, rfl, (unhide HG).1, (unhide HG).2.1⟩, fun h => absurd h (unhide HEq), ⟨_, _, _, _, _, _, _, rfl⟩, (unhide HG).2.2.1⟩
end Go.Proofs.YtocdnomfpgdglabDoor

namespace Go.Proofs.YtocdnomfpgdglabDoor
open Go.RowKit

/-- part.collide. -/
theorem collide_any (tb wi : Nat) (hw1 : 1 ≤ wi) (hw32 : wi ≤ 32) (L : List (List Nat)) (ro : Option Addr) (rn rc : Nat) (r : List Nat) (hrl : r.length = wi) (m : Nat) : ∀ (f n tf tn : Nat) (ps : List (List Nat)) (vs : List Value) (x : Value) (w : World) (a b : List Nat), n ≤ m → Tk w tb wi L → Al f n → f + n ≤ L.length → Rch f n tf tn → Sl w (.slice ro rn rc) r → Pcs w x vs ps → Cp x → ps.length = dep f n tf tn → (∀ p ∈ ps, p.length = wi) → cld wi L r f n tf tn ps = some (a, b) →
    Calls Tryd.prog 37 #[pv (.pointer (some ⟨tb, 0, none⟩)) f n, cv wi tf tn (.slice ro rn rc) x] w fun e w' => Two w' e a b ∧ Fr (fun _ => False) w w' := by
  induction m with
  | zero =>
    intro f n tf tn ps vs x w a b h hT hA hL hR hs hp hc hd hpw hcl
    by_cases e : f = tf ∧ n = tn
    · obtain ⟨rfl, rfl⟩ := e
      rw [cld_eq] at hcl; cases hcl
    · have := (rch_ne hR e).1; omega
  | succ m ih =>
    intro f n tf tn ps vs x w a b h hT hA hL hR hs hp hc hd hpw hcl
    by_cases e : f = tf ∧ n = tn
    · obtain ⟨rfl, rfl⟩ := e
      rw [cld_eq] at hcl; cases hcl
    · obtain ⟨h2, r1, r2⟩ := rch_ne hR e
      have hlt := hf_lt n h2
      have hpos := hf_pos n
      have hLn := hT.len
      have hroot : ∀ f' n', Al f' n' → f' + n' ≤ L.length → ∀ w', Fr (fun _ => False) w w' → Calls Tryd.prog 75 #[pv (.pointer (some ⟨tb, 0, none⟩)) f' n'] w' fun e w'' => ∃ yo yc, e = .returned (.slice yo wi yc) ∧ Sl w'' (.slice yo wi yc) (mth wi (blk L f' n')) ∧ Fr (fun _ => False) w' w'' := fun f' n' k1 k2 w' hf' => by
        have := root_any tb wi hw1 hw32 L _ f' n' w' (Nat.le_refl _) (hT.fr0 hf') k1 k2
        unfold RootSays at this
        refine this.mono ?_
        rintro e w'' ⟨yo, yc, rfl, hO⟩
        have hs := hO.sl (hT.mb f' n')
        rw [hT.mw hw1 hw32 f' n'] at hs
        exact ⟨yo, yc, rfl, hs, hO.fr⟩
      have hAw := hT.mw hw1 hw32 f (hf n)
      have hBw := hT.mw hw1 hw32 (f + hf n) (n - hf n)
      obtain ⟨D, hD⟩ : ∃ D, ps.length = D + 1 := by
        by_cases hl : tf < f + hf n
        · rw [dep_l h2 e hl] at hd; exact ⟨_, hd⟩
        · rw [dep_r h2 e hl] at hd; exact ⟨_, hd⟩
      have hdle := dep_le n f n tf tn (Nat.le_refl _)
      obtain ⟨xo, xc, rfl⟩ := hp.form
      obtain ⟨g, o, vo, vc, rfl, hcell, hsl⟩ := hp.nth (Fr.refl _ _) D (by omega)
      have hcap : ps.length ≤ xc := hc _ _ _ rfl
      have hdl : ps.dropLast = ps.take D := by rw [List.dropLast_eq_take, hD]; rfl
      have hgl : ps.getLastD [] = ps[D] := getLastD_at ps D hD
      have hVw := hpw ps[D] (List.getElem_mem _)
      have hp' := hp.take D (by omega)
      have hpw' : ∀ p ∈ ps.take D, p.length = wi := fun p h => hpw p (List.mem_of_mem_take h)
      have htl : (ps.take D).length = D := by rw [List.length_take]; omega
      have hcp' : Cp (.slice (some ⟨g, o, none⟩) D xc) := fun _ _ _ e => by cases e; omega
      rw [hVw] at hcell hsl
      rw [hD] at hp hc hcap ⊢
      by_cases hl : tf < f + hf n
      · obtain ⟨al1, al2⟩ := hA.halves h2
        have hdd : (ps.take D).length = dep f (hf n) tf tn := by rw [dep_l h2 e hl] at hd; omega
        have htw := topv_wid wi hw1 hw32 r hrl _ f (hf n) tf tn (ps.take D) (Nat.le_refl _)
        have hva' : hva wi r f n tf tn ps = 1 :: (topv wi r f (hf n) tf tn (ps.take D) ++ ps[D]) := by unfold hva sdl sdr; rw [if_pos hl, if_pos hl, hdl, hgl]
        have hgo := coll_l tb wi tf tn f n D xc g o ro rn rc vo wi vc w hcell hcap (by omega) h2 (by omega) hl (topv wi r f (hf n) tf tn (ps.take D)) ps[D] (mth wi (blk L f (hf n))) (mth wi (blk L (f + hf n) (n - hf n))) hsl (by omega) (by omega) (by omega) (by omega) (fun e w' => Two w' e a b)
          (fun w' hf' => top_any wi hw1 hw32 _ f (hf n) tf tn w' ro rn rc r _ _ _ (Nat.le_refl _) (by omega) (r1 hl) (hT.fr0 hf').gs (hs.fr0 hf') hrl (hp'.fr0 hf') hcp' hdd hpw')
          (hroot f (hf n) al1 (by omega)) (hroot (f + hf n) (n - hf n) al2 (by omega))
          (fun hE w' hf' => by
            have hv : hva wi r f n tf tn ps = hvb wi L f n := by rw [hva']; exact hE
            rw [cld_l h2 e hv hl, hdl] at hcl
            refine (ih f (hf n) tf tn (ps.take D) _ _ w' a b (by omega) (hT.fr0 hf') al1 (by omega) (r1 hl) (hs.fr0 hf') (hp'.fr0 hf') hcp' hdd hpw' hcl).mono ?_
            rintro e w'' ⟨hTw, hF⟩
            obtain ⟨ao, ac, bo, bc, rfl, k1, k2⟩ := hTw
            exact ⟨⟨_, _, _, _, _, _, _, rfl⟩, ⟨ao, ac, bo, bc, rfl, k1, k2⟩, hF⟩)
        refine hgo.mono ?_
        rintro e' w' ⟨hN, hY, -, hF⟩
        refine ⟨?_, hF⟩
        by_cases hv : hva wi r f n tf tn ps = hvb wi L f n
        · exact hY (by rw [← hva']; exact hv)
        · rw [cld_no h2 e hv] at hcl
          cases hcl
          rw [hva']
          exact hN (fun h => hv (by rw [hva']; exact h))
      · obtain ⟨al1, al2⟩ := hA.halves h2
        have hdd : (ps.take D).length = dep (f + hf n) (n - hf n) tf tn := by rw [dep_r h2 e hl] at hd; omega
        have htw := topv_wid wi hw1 hw32 r hrl _ (f + hf n) (n - hf n) tf tn (ps.take D) (Nat.le_refl _)
        have hva' : hva wi r f n tf tn ps = 1 :: (ps[D] ++ topv wi r (f + hf n) (n - hf n) tf tn (ps.take D)) := by unfold hva sdl sdr; rw [if_neg hl, if_neg hl, hdl, hgl]
        have hgo := coll_r tb wi tf tn f n D xc g o ro rn rc vo wi vc w hcell hcap (by omega) h2 (by omega) hl (topv wi r (f + hf n) (n - hf n) tf tn (ps.take D)) ps[D] (mth wi (blk L f (hf n))) (mth wi (blk L (f + hf n) (n - hf n))) hsl (by omega) (by omega) (by omega) (by omega) (fun e w' => Two w' e a b)
          (fun w' hf' => top_any wi hw1 hw32 _ (f + hf n) (n - hf n) tf tn w' ro rn rc r _ _ _ (Nat.le_refl _) (by omega) (r2 hl) (hT.fr0 hf').gs (hs.fr0 hf') hrl (hp'.fr0 hf') hcp' hdd hpw')
          (hroot f (hf n) al1 (by omega)) (hroot (f + hf n) (n - hf n) al2 (by omega))
          (fun hE w' hf' => by
            have hv : hva wi r f n tf tn ps = hvb wi L f n := by rw [hva']; exact hE
            rw [cld_r h2 e hv hl, hdl] at hcl
            refine (ih (f + hf n) (n - hf n) tf tn (ps.take D) _ _ w' a b (by omega) (hT.fr0 hf') al2 (by omega) (r2 hl) (hs.fr0 hf') (hp'.fr0 hf') hcp' hdd hpw' hcl).mono ?_
            rintro e w'' ⟨hTw, hF⟩
            obtain ⟨ao, ac, bo, bc, rfl, k1, k2⟩ := hTw
            exact ⟨⟨_, _, _, _, _, _, _, rfl⟩, ⟨ao, ac, bo, bc, rfl, k1, k2⟩, hF⟩)
        refine hgo.mono ?_
        rintro e' w' ⟨hN, hY, -, hF⟩
        refine ⟨?_, hF⟩
        by_cases hv : hva wi r f n tf tn ps = hvb wi L f n
        · exact hY (by rw [← hva']; exact hv)
        · rw [cld_no h2 e hv] at hcl
          cases hcl
          rw [hva']
          exact hN (fun h => hv (by rw [hva']; exact h))
end Go.Proofs.YtocdnomfpgdglabDoor

namespace Go.Proofs.YtocdnomfpgdglabDoor
open Go.RowKit

set_option maxRecDepth 100000 in
set_option maxHeartbeats 2000000 in
/-- CheckProof, from nothing on. -/
theorem cpr_zero (wi : Nat) (hw1 : 1 ≤ wi) (hw32 : wi ≤ 32) (N : Nat) (oo : Option Addr) (oc : Nat) (rr : Option Addr) (rc : Nat) (xo : Option Addr) (xc : Nat) (old root : List Nat) (ps : List (List Nat)) (w : World) (hg : GS w) (ho : Sl w (.slice oo old.length oc) old) (hr : Sl w (.slice rr root.length rc) root)
    (W1 : World) (hW1 : w.alloc (.cells #[.slice oo old.length oc, .slice rr root.length rc] 23) = W1) (hF1 : Fr (fun _ => False) w W1)
    (hwd1 : Calls Tryd.prog 53 #[.int .i64 wi, .slice (some ⟨w.heap.size, 0, none⟩) 2 2] W1 fun e w' => e = .returned (.bool true) ∧ w' = W1)
    (hwd2 : Calls Tryd.prog 53 #[.int .i64 wi, .slice xo ps.length xc] W1 fun e w' => e = .returned (.bool true) ∧ w' = W1) :
    Calls Tryd.prog 21 #[.int .i64 wi, .int .i64 0, .int .i64 N, .slice oo old.length oc, .slice rr root.length rc, .slice xo ps.length xc] w fun e w' => e = .returned (.bool (decide (ps = []) && (decide (old = sm wi []) && (decide (0 < (N : Int)) || decide (root = sm wi []))))) ∧ Fr (fun _ => False) w w' := by
  have hsum : ∀ w', GS w' → Calls Tryd.prog 20 #[.int .i64 wi, .slice none 0 0] w' fun e w'' => ∃ yo, e = .returned (.slice yo wi wi) ∧ Sl w'' (.slice yo wi wi) (sm wi []) ∧ Fr (fun _ => False) w' w'' := fun w' hg => by
    have := sum_O (wi : Int) [] (.slice none 0 0) w' hg (.inl ⟨rfl, rfl⟩) (fun _ h => by cases h) (by simp) (fun _ _ _ e => by cases e; exact Nat.le_refl _) (fun _ _ _ _ e => by cases e)
    have hl := sm_wid wi hw1 hw32 []
    refine this.mono ?_
    rintro e w'' ⟨yo, rfl, hO⟩
    have hs := hO.sl (sm_lt _ _)
    rw [hl] at hs ⊢
    exact ⟨yo, rfl, hs, hO.fr⟩
  have HM := hide (show 1 ≤ (wi : Int) ∧ (wi : Int) ≤ 32 by omega)
  have HC := hide (And.intro hwd1 (And.intro hwd2 (And.intro hF1 (And.intro (hg.fr0 hF1) (And.intro (ho.fr0 hF1) (And.intro (hr.fr0 hF1) hsum))))))
  have q0 : ¬ (N : Int) < 0 := by omega
  clear hwd1 hwd2 hF1 hg ho hr hsum hw1 hw32
  generalize sm (wi : Int) [] = SM at *
  by_cases hps : ps = []
  · subst hps
    simp only [List.length_nil, decide_true, Bool.true_and] at HC ⊢
    obtain ⟨B1, hB1⟩ : ∃ B1, decide (old = SM) = B1 := ⟨_, rfl⟩
    obtain ⟨B2, hB2⟩ : ∃ B2, decide (root = SM) = B2 := ⟨_, rfl⟩
    rw [hB1, hB2]
    have HB := hide (And.intro hB1 hB2)
    clear hB1 hB2
    generalize old.length = OL at *
    generalize root.length = RL at *
    cases B1 with
    | false =>
      rw [Bool.false_and]
      go_enter Tryd.func21, Tryd.ntmps21
      go_wp2_with (go_at_call 52; refine (maybe_any wi _).mono ?_; rintro e' w' ⟨rfl, hw'⟩; rw [hw', decide_eq_true (unhide HM)])
      refine (unhide HC).1.mono ?_
      rintro e' w2 ⟨rfl, rfl⟩
      go_wp2_with fail
      refine (unhide HC).2.1.mono ?_
      rintro e' w3 ⟨rfl, rfl⟩
      go_wp2_with fail
      refine ((unhide HC).2.2.2.2.2.2 _ (unhide HC).2.2.2.1).mono ?_
      rintro e' w4 ⟨zo, rfl, hS, hF⟩
      have HS := hide (And.intro hS (And.intro ((unhide HC).2.2.1.trans hF (fun _ _ h => h)) (And.intro ((unhide HC).2.2.2.2.1.fr0 hF) ((unhide HC).2.2.2.2.2.1.fr0 hF))))
      clear hS hF
      go_wp2_with fail
      refine (beq_sl _ _ _ _ _ (unhide HS).2.2.1 (unhide HS).1).mono ?_
      rintro e' w5 ⟨rfl, rfl⟩
      rw [(unhide HB).1]
      go_wp2_with fail
      go_ret
      exact ⟨rfl, (unhide HS).2.1⟩
    | true =>
      rw [Bool.true_and]
      by_cases hN : 0 < N
      · have q1 : (0 : Int) < (N : Int) := by omega
        rw [decide_eq_true q1, Bool.true_or]
        go_enter Tryd.func21, Tryd.ntmps21
        go_wp2_with (go_at_call 52; refine (maybe_any wi _).mono ?_; rintro e' w' ⟨rfl, hw'⟩; rw [hw', decide_eq_true (unhide HM)])
        refine (unhide HC).1.mono ?_
        rintro e' w2 ⟨rfl, rfl⟩
        go_wp2_with fail
        refine (unhide HC).2.1.mono ?_
        rintro e' w3 ⟨rfl, rfl⟩
        go_wp2_with fail
        refine ((unhide HC).2.2.2.2.2.2 _ (unhide HC).2.2.2.1).mono ?_
        rintro e' w4 ⟨zo, rfl, hS, hF⟩
        have HS := hide (And.intro hS (And.intro ((unhide HC).2.2.1.trans hF (fun _ _ h => h)) (And.intro ((unhide HC).2.2.2.2.1.fr0 hF) ((unhide HC).2.2.2.2.2.1.fr0 hF))))
        clear hS hF
        go_wp2_with fail
        refine (beq_sl _ _ _ _ _ (unhide HS).2.2.1 (unhide HS).1).mono ?_
        rintro e' w5 ⟨rfl, rfl⟩
        rw [(unhide HB).1]
        go_wp2_with fail
        go_ret
        exact ⟨rfl, (unhide HS).2.1⟩
      · have hN0 : N = 0 := by omega
        subst hN0
        have e0 : decide (0 < ((0 : Nat) : Int)) = false := rfl
        rw [e0, Bool.false_or]
        clear e0 q0 hN
        go_enter Tryd.func21, Tryd.ntmps21
        go_wp2_with (go_at_call 52; refine (maybe_any wi _).mono ?_; rintro e' w' ⟨rfl, hw'⟩; rw [hw', decide_eq_true (unhide HM)])
        refine (unhide HC).1.mono ?_
        rintro e' w2 ⟨rfl, rfl⟩
        go_wp2_with fail
        refine (unhide HC).2.1.mono ?_
        rintro e' w3 ⟨rfl, rfl⟩
        go_wp2_with fail
        refine ((unhide HC).2.2.2.2.2.2 _ (unhide HC).2.2.2.1).mono ?_
        rintro e' w4 ⟨zo, rfl, hS, hF⟩
        have HS := hide (And.intro hS (And.intro ((unhide HC).2.2.1.trans hF (fun _ _ h => h)) (And.intro ((unhide HC).2.2.2.2.1.fr0 hF) ((unhide HC).2.2.2.2.2.1.fr0 hF))))
        clear hS hF
        go_wp2_with fail
        refine (beq_sl _ _ _ _ _ (unhide HS).2.2.1 (unhide HS).1).mono ?_
        rintro e' w5 ⟨rfl, rfl⟩
        rw [(unhide HB).1]
        go_wp2_with fail
        refine (beq_sl _ _ _ _ _ (unhide HS).2.2.2 (unhide HS).1).mono ?_
        rintro e' w6 ⟨rfl, rfl⟩
        rw [(unhide HB).2]
        go_wp2_with fail
        go_ret
        exact ⟨rfl, (unhide HS).2.1⟩
  · rw [decide_eq_false hps, Bool.false_and]
    have hl : ¬ ps.length = 0 := fun h => hps (List.length_eq_zero_iff.1 h)
    have q1 : ((ps.length : Int) == 0) = false := beq_false_of_ne (by omega)
    generalize ps.length = PL at *
    generalize old.length = OL at *
    generalize root.length = RL at *
    go_enter Tryd.func21, Tryd.ntmps21
    go_wp2_with (go_at_call 52; refine (maybe_any wi _).mono ?_; rintro e' w' ⟨rfl, hw'⟩; rw [hw', decide_eq_true (unhide HM)])
    refine (unhide HC).1.mono ?_
    rintro e' w2 ⟨rfl, rfl⟩
    go_wp2_with fail
    refine (unhide HC).2.1.mono ?_
    rintro e' w3 ⟨rfl, rfl⟩
    go_wp2_with fail
    refine ((unhide HC).2.2.2.2.2.2 _ (unhide HC).2.2.2.1).mono ?_
    rintro e' w4 ⟨zo, rfl, hS, hF⟩
    have HS := hide ((unhide HC).2.2.1.trans hF (fun _ _ h => h))
    clear hS hF
    go_wp2_with fail
    go_ret
    exact ⟨rfl, unhide HS⟩
end Go.Proofs.YtocdnomfpgdglabDoor

namespace Go.Proofs.YtocdnomfpgdglabDoor
open Go.RowKit

set_option maxRecDepth 100000 in
set_option maxHeartbeats 4000000 in
/-- CheckProof, of a claim. -/
theorem cpr_yes (wi m N tf tn : Nat) (hw : 1 ≤ wi ∧ wi ≤ 32) (hm0 : 0 < m) (hmN : m ≤ N) (oo : Option Addr) (on oc : Nat) (rr : Option Addr) (rl rrc : Nat) (xo : Option Addr) (xn xc : Nat) (ro : Option Addr) (rn rc : Nat) (yo : Option Addr) (yn yc D : Nat) (old root OV TV : List Nat) (w W1 : World) (hW1 : w.alloc (.cells #[.slice oo on oc, .slice rr rl rrc] 23) = W1) (hF1 : Fr (fun _ => False) w W1)
    (ho : Sl w (.slice oo on oc) old) (hr : Sl w (.slice rr rl rrc) root)
    (hwd1 : Calls Tryd.prog 53 #[.int .i64 wi, .slice (some ⟨w.heap.size, 0, none⟩) 2 2] W1 fun e w' => e = .returned (.bool true) ∧ w' = W1)
    (hwd2 : Calls Tryd.prog 53 #[.int .i64 wi, .slice xo xn xc] W1 fun e w' => e = .returned (.bool true) ∧ w' = W1)
    (hop : Calls Tryd.prog 47 #[.int .i64 wi, .int .i64 m, .int .i64 N, .slice oo on oc, .slice xo xn xc] W1 fun e w'' => e = .returned (.tuple #[cv wi tf tn (.slice ro rn rc) (.slice yo yn yc), .bool true]) ∧ Fr (fun _ => False) W1 w'')
    (hft : ∀ w', Calls Tryd.prog 54 #[cv wi tf tn (.slice ro rn rc) (.slice yo yn yc), sv 0 N] w' fun e w'' => e = .returned (.bool (decide (yn = D))) ∧ Fr (fun _ => False) w' w'')
    (hod : yn = D → ∀ w', Fr (fun _ => False) w w' → Calls Tryd.prog 60 #[cv wi tf tn (.slice ro rn rc) (.slice yo yn yc), sv 0 N] w' fun e w'' => ∃ uo un uc, e = .returned (.slice uo un uc) ∧ Sl w'' (.slice uo un uc) OV ∧ Fr (fun _ => False) w' w'')
    (htp : yn = D → ∀ w', Fr (fun _ => False) w w' → Calls Tryd.prog 55 #[cv wi tf tn (.slice ro rn rc) (.slice yo yn yc), sv 0 N] w' fun e w'' => ∃ uo un uc, e = .returned (.slice uo un uc) ∧ Sl w'' (.slice uo un uc) TV ∧ Fr (fun _ => False) w' w'') :
    Calls Tryd.prog 21 #[.int .i64 wi, .int .i64 m, .int .i64 N, .slice oo on oc, .slice rr rl rrc, .slice xo xn xc] w fun e w' => e = .returned (.bool (decide (yn = D) && (decide (OV = old) && decide (TV = root)))) ∧ Fr (fun _ => False) w w' := by
  have HM := hide (show 1 ≤ (wi : Int) ∧ (wi : Int) ≤ 32 by omega)
  have q1 : ¬ (m : Int) < 0 := by omega
  have q2 : ¬ (N : Int) < (m : Int) := by omega
  have q3 : ((m : Int) == 0) = false := beq_false_of_ne (by omega)
  have q4 : ¬ N < m := by omega
  have q5 : ¬ m = 0 := by omega
  clear hw hm0 hmN
  unfold cv sv at *
  have e0 : ((0 : Nat) : Int) = 0 := rfl
  simp only [e0] at hft hod htp
  clear e0
  by_cases hD : yn = D
  · rw [decide_eq_true hD] at hft ⊢
    rw [Bool.true_and]
    have ho2 := hod hD
    have ht2 := htp hD
    obtain ⟨B1, hB1⟩ : ∃ B1, decide (OV = old) = B1 := ⟨_, rfl⟩
    obtain ⟨B2, hB2⟩ : ∃ B2, decide (TV = root) = B2 := ⟨_, rfl⟩
    rw [hB1, hB2]
    have HB0 := hide (And.intro hB1 hB2)
    have HC := hide (And.intro hwd1 (And.intro hwd2 (And.intro hop (And.intro hF1 (And.intro hft (And.intro ho2 (And.intro ht2 (And.intro ho hr))))))))
    clear hwd1 hwd2 hop hft ho2 ht2 ho hr hod htp hF1 hB1 hB2 hD
    cases B1 with
    | false =>
      rw [Bool.false_and]
      go_enter Tryd.func21, Tryd.ntmps21
      go_wp2_with (go_at_call 52; refine (maybe_any wi _).mono ?_; rintro e' w' ⟨rfl, hw'⟩; rw [hw', decide_eq_true (unhide HM)])
      refine (unhide HC).1.mono ?_
      rintro e' w2 ⟨rfl, rfl⟩
      go_wp2_with fail
      refine (unhide HC).2.1.mono ?_
      rintro e' w3 ⟨rfl, rfl⟩
      go_wp2_with fail
      refine (unhide HC).2.2.1.mono ?_
      rintro e' wA ⟨rfl, hFA⟩
      have HA := hide ((unhide HC).2.2.2.1.trans hFA (fun _ _ h => h))
      clear hFA
      go_wp2_with fail
      obtain ⟨W2, hW2⟩ : ∃ W2, (wA.alloc (.cells #[.int .i64 wi, .int .i64 tf, .int .i64 tn, .slice ro rn rc, .slice yo yn yc] 67)).alloc (.cells #[.int .i64 0, .int .i64 N] 61) = W2 := ⟨_, rfl⟩
      rw [hW2]
      obtain ⟨⟨a0, a1, a2, a3, a4⟩, b0, b1, hF2⟩ := box52 wA _ _ _ _ _ _ _ _ _ W2 hW2
      refine ((unhide HC).2.2.2.2.1 _).mono ?_
      rintro e' wB ⟨rfl, hFB⟩
      have c0 := (hFB.cell (lt_of_cell a0) (fun h => h)).trans a0
      have c1 := (hFB.cell (lt_of_cell a1) (fun h => h)).trans a1
      have c2 := (hFB.cell (lt_of_cell a2) (fun h => h)).trans a2
      have c3 := (hFB.cell (lt_of_cell a3) (fun h => h)).trans a3
      have c4 := (hFB.cell (lt_of_cell a4) (fun h => h)).trans a4
      have d0 := (hFB.cell (lt_of_cell b0) (fun h => h)).trans b0
      have d1 := (hFB.cell (lt_of_cell b1) (fun h => h)).trans b1
      have HB := hide (((unhide HA).trans hF2 (fun _ _ h => h)).trans hFB (fun _ _ h => h))
      clear hF2 hFB hW2 a0 a1 a2 a3 a4 b0 b1 HA
      generalize wA.heap.size = P at *
      go_wp2_with fail
      refine ((unhide HC).2.2.2.2.2.1 _ (unhide HB)).mono ?_
      rintro e' wC ⟨uo, un, uc, rfl, hS, hFC⟩
      have HS := hide (And.intro hS ((unhide HB).trans hFC (fun _ _ h => h)))
      clear hS hFC
      go_wp2_with fail
      refine (beq_sl _ _ _ _ _ (unhide HS).1 ((unhide HC).2.2.2.2.2.2.2.1.fr0 (unhide HS).2)).mono ?_
      rintro e' wD ⟨rfl, rfl⟩
      rw [(unhide HB0).1]
      go_wp2_with fail
      go_ret
      exact ⟨rfl, (unhide HS).2⟩
    | true =>
      rw [Bool.true_and]
      go_enter Tryd.func21, Tryd.ntmps21
      go_wp2_with (go_at_call 52; refine (maybe_any wi _).mono ?_; rintro e' w' ⟨rfl, hw'⟩; rw [hw', decide_eq_true (unhide HM)])
      refine (unhide HC).1.mono ?_
      rintro e' w2 ⟨rfl, rfl⟩
      go_wp2_with fail
      refine (unhide HC).2.1.mono ?_
      rintro e' w3 ⟨rfl, rfl⟩
      go_wp2_with fail
      refine (unhide HC).2.2.1.mono ?_
      rintro e' wA ⟨rfl, hFA⟩
      have HA := hide ((unhide HC).2.2.2.1.trans hFA (fun _ _ h => h))
      clear hFA
      go_wp2_with fail
      obtain ⟨W2, hW2⟩ : ∃ W2, (wA.alloc (.cells #[.int .i64 wi, .int .i64 tf, .int .i64 tn, .slice ro rn rc, .slice yo yn yc] 67)).alloc (.cells #[.int .i64 0, .int .i64 N] 61) = W2 := ⟨_, rfl⟩
      rw [hW2]
      obtain ⟨⟨a0, a1, a2, a3, a4⟩, b0, b1, hF2⟩ := box52 wA _ _ _ _ _ _ _ _ _ W2 hW2
      refine ((unhide HC).2.2.2.2.1 _).mono ?_
      rintro e' wB ⟨rfl, hFB⟩
      have c0 := (hFB.cell (lt_of_cell a0) (fun h => h)).trans a0
      have c1 := (hFB.cell (lt_of_cell a1) (fun h => h)).trans a1
      have c2 := (hFB.cell (lt_of_cell a2) (fun h => h)).trans a2
      have c3 := (hFB.cell (lt_of_cell a3) (fun h => h)).trans a3
      have c4 := (hFB.cell (lt_of_cell a4) (fun h => h)).trans a4
      have d0 := (hFB.cell (lt_of_cell b0) (fun h => h)).trans b0
      have d1 := (hFB.cell (lt_of_cell b1) (fun h => h)).trans b1
      have HB := hide (((unhide HA).trans hF2 (fun _ _ h => h)).trans hFB (fun _ _ h => h))
      clear hF2 hFB hW2 a0 a1 a2 a3 a4 b0 b1 HA
      generalize wA.heap.size = P at *
      go_wp2_with fail
      refine ((unhide HC).2.2.2.2.2.1 _ (unhide HB)).mono ?_
      rintro e' wC ⟨uo, un, uc, rfl, hS, hFC⟩
      have f0 := (hFC.cell (lt_of_cell c0) (fun h => h)).trans c0
      have f1 := (hFC.cell (lt_of_cell c1) (fun h => h)).trans c1
      have f2 := (hFC.cell (lt_of_cell c2) (fun h => h)).trans c2
      have f3 := (hFC.cell (lt_of_cell c3) (fun h => h)).trans c3
      have f4 := (hFC.cell (lt_of_cell c4) (fun h => h)).trans c4
      have g0 := (hFC.cell (lt_of_cell d0) (fun h => h)).trans d0
      have g1 := (hFC.cell (lt_of_cell d1) (fun h => h)).trans d1
      have HS := hide (And.intro hS ((unhide HB).trans hFC (fun _ _ h => h)))
      clear hS hFC c0 c1 c2 c3 c4 d0 d1
      go_wp2_with fail
      refine (beq_sl _ _ _ _ _ (unhide HS).1 ((unhide HC).2.2.2.2.2.2.2.1.fr0 (unhide HS).2)).mono ?_
      rintro e' wD ⟨rfl, rfl⟩
      rw [(unhide HB0).1]
      go_wp2_with fail
      refine ((unhide HC).2.2.2.2.2.2.1 _ (unhide HS).2).mono ?_
      rintro e' wE ⟨to, tl, tc, rfl, hS, hFE⟩
      have HT := hide (And.intro hS ((unhide HS).2.trans hFE (fun _ _ h => h)))
      clear hS hFE
      go_wp2_with fail
      refine (beq_sl _ _ _ _ _ (unhide HT).1 ((unhide HC).2.2.2.2.2.2.2.2.fr0 (unhide HT).2)).mono ?_
      rintro e' wF ⟨rfl, rfl⟩
      rw [(unhide HB0).2]
      go_wp2_with fail
      go_ret
      exact ⟨rfl, (unhide HT).2⟩
  · rw [decide_eq_false hD] at hft ⊢
    rw [Bool.false_and]
    have HC := hide (And.intro hwd1 (And.intro hwd2 (And.intro hop (And.intro hF1 hft))))
    clear hwd1 hwd2 hop hft ho hr hod htp hF1 hD
    go_enter Tryd.func21, Tryd.ntmps21
    go_wp2_with (go_at_call 52; refine (maybe_any wi _).mono ?_; rintro e' w' ⟨rfl, hw'⟩; rw [hw', decide_eq_true (unhide HM)])
    refine (unhide HC).1.mono ?_
    rintro e' w2 ⟨rfl, rfl⟩
    go_wp2_with fail
    refine (unhide HC).2.1.mono ?_
    rintro e' w3 ⟨rfl, rfl⟩
    go_wp2_with fail
    refine (unhide HC).2.2.1.mono ?_
    rintro e' wA ⟨rfl, hFA⟩
    have HA := hide ((unhide HC).2.2.2.1.trans hFA (fun _ _ h => h))
    clear hFA
    go_wp2_with fail
    refine ((unhide HC).2.2.2.2 _).mono ?_
    rintro e' wB ⟨rfl, hFB⟩
    have HB := hide ((unhide HA).trans ((((Fr.refl _ _).alloc _).alloc _).trans hFB (fun _ _ h => h)) (fun _ _ h => h))
    clear hFB
    go_wp2_with fail
    go_ret
    exact ⟨rfl, unhide HB⟩
end Go.Proofs.YtocdnomfpgdglabDoor

namespace Go.Proofs.YtocdnomfpgdglabDoor
open Go.RowKit

set_option maxRecDepth 100000 in
set_option maxHeartbeats 2000000 in
/-- merkle.CheckProof. -/
theorem checkProof_any (j m n : Int) (ov rv x : Value) (old root : List Nat) (vs : List Value) (ps : List (List Nat)) (w : World) (hg : GS w) (ho : Sl w ov old) (hr : Sl w rv root) (hp : Pcs w x vs ps) (hcx : Cp x) (hn : n < 9223372036854775808) (hps : ps.length < 4611686018427387904) :
    Calls Tryd.prog 21 #[.int .i64 j, .int .i64 m, .int .i64 n, ov, rv, x] w fun e w' => e = .returned (.bool (chkQ j m n old root ps)) ∧ Fr (fun _ => False) w w' := by
  obtain ⟨oo, oc, rfl⟩ := ho.form
  obtain ⟨rr, rc, rfl⟩ := hr.form
  obtain ⟨xo, xc, rfl⟩ := hp.form
  by_cases h1o : j < 1 ∨ 32 < j
  · have h1 : ¬ (1 ≤ j ∧ j ≤ 32) := by omega
    have hB : chkQ j m n old root ps = false := by rw [chkQ, decide_eq_false h1]; rfl
    rw [hB]
    have HM := hide h1
    clear hg ho hr hp hcx hn hps hB h1 h1o
    generalize old.length = LL at *
    generalize root.length = RL at *
    generalize ps.length = PL at *
    go_enter Tryd.func21, Tryd.ntmps21
    go_wp2_with (go_at_call 52; refine (maybe_any j _).mono ?_; rintro e' w' ⟨rfl, hw'⟩; rw [hw', decide_eq_false (unhide HM)])
    go_ret
    exact ⟨rfl, Fr.refl _ _⟩
  · have h1 : 1 ≤ j ∧ j ≤ 32 := by omega
    clear h1o
    have HM := hide h1
    by_cases h2' : m < 0
    · have h2 : ¬ 0 ≤ m := by omega
      have hB : chkQ j m n old root ps = false := by rw [chkQ, decide_eq_true h1, decide_eq_false h2]; rfl
      rw [hB]
      clear hg ho hr hp hcx hn hps hB h1
      generalize old.length = LL at *
      generalize root.length = RL at *
      generalize ps.length = PL at *
      go_enter Tryd.func21, Tryd.ntmps21
      go_wp2_with (go_at_call 52; refine (maybe_any j _).mono ?_; rintro e' w' ⟨rfl, hw'⟩; rw [hw', decide_eq_true (unhide HM)])
      go_ret
      exact ⟨rfl, Fr.refl _ _⟩
    · have h2 : 0 ≤ m := by omega
      by_cases h3' : n < m
      · have h3 : ¬ m ≤ n := by omega
        have hB : chkQ j m n old root ps = false := by rw [chkQ, decide_eq_true h1, decide_eq_true h2, decide_eq_false h3]; rfl
        rw [hB]
        clear hg ho hr hp hcx hn hps hB h1
        generalize old.length = LL at *
        generalize root.length = RL at *
        generalize ps.length = PL at *
        go_enter Tryd.func21, Tryd.ntmps21
        go_wp2_with (go_at_call 52; refine (maybe_any j _).mono ?_; rintro e' w' ⟨rfl, hw'⟩; rw [hw', decide_eq_true (unhide HM)])
        go_ret
        exact ⟨rfl, Fr.refl _ _⟩
      · have h3 : m ≤ n := by omega
        clear h2' h3'
        obtain ⟨wi, rfl⟩ : ∃ k : Nat, j = (k : Int) := ⟨j.toNat, by omega⟩
        obtain ⟨I, rfl⟩ : ∃ k : Nat, m = (k : Int) := ⟨m.toNat, by omega⟩
        obtain ⟨N, rfl⟩ : ∃ k : Nat, n = (k : Int) := ⟨n.toNat, by omega⟩
        have h2' : ¬ (I : Int) < 0 := by omega
        have h3' : ¬ (N : Int) < (I : Int) := by omega
        have h4' : ¬ N < I := by omega
        obtain ⟨W1, hW1⟩ : ∃ W1, w.alloc (.cells #[.slice oo old.length oc, .slice rr root.length rc] 23) = W1 := ⟨_, rfl⟩
        have hF1 : Fr (fun _ => False) w W1 := by rw [← hW1]; exact (Fr.refl _ _).alloc _
        have hwd1 := wide_any wi _ _ [old, root] W1 (pcs2 ho hr W1 hW1) (by simp)
        have hwd2 := wide_any wi _ vs ps W1 (hp.fr0 hF1) hps
        have hce : chkQ wi I N old root ps = (wdq wi [old, root] && (wdq wi ps && (if (I : Int) = 0 then decide (ps = []) && (decide (old = sm wi []) && (decide (0 < (N : Int)) || decide (root = sm wi []))) else prfQ wi N I old root ps))) := by
          rw [chkQ, decide_eq_true h1, decide_eq_true h2, decide_eq_true h3]; rfl
        rw [hce]
        clear hce
        cases hq1 : wdq wi [old, root] with
        | false =>
          rw [hq1] at hwd1
          rw [Bool.false_and]
          have HC := hide (And.intro hwd1 hF1)
          clear hg ho hr hp hcx hn hps h1 h2 h3 hwd1 hwd2 hF1 hq1
          generalize old.length = LL at *
          generalize root.length = RL at *
          generalize ps.length = PL at *
          go_enter Tryd.func21, Tryd.ntmps21
          go_wp2_with (go_at_call 52; refine (maybe_any wi _).mono ?_; rintro e' w' ⟨rfl, hw'⟩; rw [hw', decide_eq_true (unhide HM)])
          refine (unhide HC).1.mono ?_
          rintro e' w2 ⟨rfl, rfl⟩
          go_wp2_with fail
          go_ret
          exact ⟨rfl, (unhide HC).2⟩
        | true =>
          rw [hq1] at hwd1
          rw [Bool.true_and]
          cases hq2 : wdq wi ps with
          | false =>
            rw [hq2] at hwd2
            rw [Bool.false_and]
            have HC := hide (And.intro hwd1 (And.intro hwd2 hF1))
            clear hg ho hr hp hcx hn hps h1 h2 h3 hwd1 hwd2 hF1 hq1 hq2
            generalize old.length = LL at *
            generalize root.length = RL at *
            generalize ps.length = PL at *
            go_enter Tryd.func21, Tryd.ntmps21
            go_wp2_with (go_at_call 52; refine (maybe_any wi _).mono ?_; rintro e' w' ⟨rfl, hw'⟩; rw [hw', decide_eq_true (unhide HM)])
            refine (unhide HC).1.mono ?_
            rintro e' w2 ⟨rfl, rfl⟩
            go_wp2_with fail
            refine (unhide HC).2.1.mono ?_
            rintro e' w3 ⟨rfl, rfl⟩
            go_wp2_with fail
            go_ret
            exact ⟨rfl, (unhide HC).2.2⟩
          | true =>
            rw [hq2] at hwd2
            rw [Bool.true_and]
            have how : old.length = wi := by have := wdq_true hq1 old (by simp); omega
            have hpw : ∀ p ∈ ps, p.length = wi := fun p hp => by have := wdq_true hq2 p hp; omega
            by_cases hI : I = 0
            · subst hI
              rw [if_pos (show ((0 : Nat) : Int) = 0 from rfl)]
              exact cpr_zero wi (by omega) (by omega) N oo oc rr rc xo xc old root ps w hg ho hr W1 hW1 hF1 hwd1 hwd2
            · rw [if_neg (by omega)]
              obtain ⟨i1, i2, i3, i4, i5⟩ := endF_ok N 0 N I (Nat.le_refl _) (by omega) (by omega)
              by_cases hend : (endF 0 N I).1 = 0 ∨ ps ≠ []
              · obtain ⟨ro, rn, rc', yo, yc, r, us, qs, s1, s2, s3, s4, s5, s6, s7⟩ := ofProof_any wi I N (by omega) (by omega) (by omega) _ _ old root vs ps w ho hp hcx how hpw hend
                rw [s6, bodyQ]
                exact cpr_yes wi I N _ _ (by omega) (by omega) (by omega) oo _ oc rr _ rc xo _ xc ro rn rc' yo qs.length yc _ old root _ _ w W1 hW1 hF1 ho hr hwd1 hwd2 (s7 W1 hF1) (fun w' => fits_any wi 0 N _ _ ro rn rc' yo _ yc w' (by omega) i4)
                  (fun hD w' hf => older_any wi (by omega) (by omega) N 0 N _ _ w' ro rn rc' r _ us qs (Nat.le_refl _) (by omega) i4 (hg.fr0 hf) (s1.fr0 hf) s2 (s3.fr0 hf) s4 hD s5)
                  (fun hD w' hf => top_any wi (by omega) (by omega) N 0 N _ _ w' ro rn rc' r _ us qs (Nat.le_refl _) (by omega) i4 (hg.fr0 hf) (s1.fr0 hf) s2 (s3.fr0 hf) s4 hD s5)
              · have hE : ¬ (endF 0 N I).1 = 0 := fun h => hend (.inl h)
                have hps0 : ps = [] := Classical.byContradiction fun h => hend (.inr h)
                subst hps0
                have hB : prfQ wi N I old root [] = false := by unfold prfQ; rw [if_neg hE]
                rw [hB]
                have hno := ofProof_no wi I N (by omega) (by omega) (by omega) hE oo old.length oc xo xc W1
                unfold cv at hno
                have e0 : ((0 : Nat) : Int) = 0 := rfl
                simp only [e0] at hno
                simp only [List.length_nil] at hwd2 ⊢
                have q3 : ((I : Int) == 0) = false := beq_false_of_ne (by omega)
                have HC := hide (And.intro hwd1 (And.intro hwd2 (And.intro hno hF1)))
                clear hg ho hr hp hcx hn hps h1 h2 h3 hwd1 hwd2 hF1 hq1 hq2 hno e0 hB hE hend how hpw i1 i2 i3 i4 i5
                generalize old.length = LL at *
                generalize root.length = RL at *
                go_enter Tryd.func21, Tryd.ntmps21
                go_wp2_with (go_at_call 52; refine (maybe_any wi _).mono ?_; rintro e' w' ⟨rfl, hw'⟩; rw [hw', decide_eq_true (unhide HM)])
                refine (unhide HC).1.mono ?_
                rintro e' w2 ⟨rfl, rfl⟩
                go_wp2_with fail
                refine (unhide HC).2.1.mono ?_
                rintro e' w3 ⟨rfl, rfl⟩
                go_wp2_with fail
                refine (unhide HC).2.2.1.mono ?_
                rintro e' wA ⟨rfl, hFA⟩
                have HA := hide ((unhide HC).2.2.2.trans hFA (fun _ _ h => h))
                clear hFA
                go_wp2_with fail
                go_ret
                exact ⟨rfl, ((unhide HA).alloc _).alloc _⟩
end Go.Proofs.YtocdnomfpgdglabDoor

namespace Go.Proofs.YtocdnomfpgdglabDoor
open Go.RowKit

/-- The cells of steps. -/
def scells (L : List (Value × Value × Bool)) : List Value := (L.map fun p => [p.1, p.2.1, .bool p.2.2]).flatten
theorem scells_len (L : List (Value × Value × Bool)) : (scells L).length = L.length * 3 := by
  induction L with
  | nil => rfl
  | cons a r ih => simp only [scells, List.map_cons, List.flatten_cons, List.length_append, List.length_cons, List.length_nil] at ih ⊢; omega
theorem scells_cons (a : Value × Value × Bool) (r : List (Value × Value × Bool)) : scells (a :: r) = [a.1, a.2.1, .bool a.2.2] ++ scells r := rfl
theorem scells_app (a b : List (Value × Value × Bool)) : scells (a ++ b) = scells a ++ scells b := by simp [scells]
theorem scells_at (L : List (Value × Value × Bool)) : ∀ (k : Nat) (hk : k < L.length), (scells L)[k * 3]? = some L[k].1 ∧ (scells L)[k * 3 + 1]? = some L[k].2.1 ∧ (scells L)[k * 3 + 2]? = some (.bool L[k].2.2) := by
  induction L with
  | nil => intro k hk; simp at hk
  | cons a r ih =>
    intro k hk
    match k, hk with
    | 0, _ => exact ⟨rfl, rfl, rfl⟩
    | k + 1, hk =>
      obtain ⟨h1, h2, h3⟩ := ih k (by simpa using hk)
      have e : ∀ j, (scells (a :: r))[(k + 1) * 3 + j]? = (scells r)[k * 3 + j]? := fun j => by
        rw [scells_cons, List.getElem?_append_right (by simp; omega)]
        congr 1
        simp
        omega
      have e0 := e 0
      simp only [Nat.add_zero] at e0
      refine ⟨e0.trans h1, (e 1).trans h2, (e 2).trans h3⟩
theorem Tryd.infoStep : (Tryd.prog.info? 120).map (fun i => (i.zero, i.size, i.bytes)) = some (some (.agg #[.slice none 0 0, .slice none 0 0, .bool false]), 3, 56) := by kernel_rfl
/-- One more step. -/
theorem app_step (w : World) (base : Nat) (v : Value) (L : List (Value × Value × Bool)) (la : Option Addr) (ln lc : Nat) (ra : Option Addr) (rn rc : Nat) (b : Bool) (hown : w.ownsRow base 120 3 v L.length (scells L)) (hb : L.length + 1 ≤ 16777216) (hbase : base ≤ w.heap.size) :
    ∃ ao cap w', (Builtin.append_ #[70, 70] 70 #[v, .slice (some ⟨w.heap.size, 0, none⟩) 1 1]).run Tryd.prog (w.alloc (.cells #[.slice la ln lc, .slice ra rn rc, .bool b] 120)) = .ok (.slice ao (L.length + 1) cap) w' ∧
      w'.ownsRow base 120 3 (.slice ao (L.length + 1) cap) (L.length + 1) (scells (L ++ [(.slice la ln lc, .slice ra rn rc, b)])) ∧ (w.alloc (.cells #[.slice la ln lc, .slice ra rn rc, .bool b] 120)).grownBy w' v.ownBlock := by
  obtain ⟨i0, hi, hz0, hz1, hz2⟩ := info_parts Tryd.infoStep
  have h1 : (w.alloc (.cells #[.slice la ln lc, .slice ra rn rc, .bool b] 120)).ownsRow base 120 3 v L.length (scells L) := ownsRow_of_block hown (fun g hg => Below.heap_alloc _ _ _ (hown.lt g hg).2)
  obtain ⟨v', w', hr, h2, h3, _, _⟩ := run_append_own_at (P := Tryd.prog) (w.alloc (.cells #[.slice la ln lc, .slice ra rn rc, .bool b] 120)) base 70 70 120 i0 (.agg #[.slice none 0 0, .slice none 0 0, .bool false]) 3 56 Tryd.underlying70 hi hz0 hz1 hz2 rfl (by decide) v L.length _ h1 ⟨w.heap.size, 0, none⟩ 1 1 [.slice la ln lc, .slice ra rn rc, .bool b] rfl (fun j u hu => by
      match j, hu with
      | 0, hu => simp at hu; subst hu; simp [Addr.add]
      | 1, hu => simp at hu; subst hu; simp [Addr.add]
      | 2, hu => simp at hu; subst hu; simp [Addr.add]) (fun u hu => by simp at hu; rcases hu with rfl | rfl | rfl <;> rfl) (by simp only [maxLen]; omega) (by omega) (by simp; omega)
  have hf : ∃ ao cap, v' = .slice ao (L.length + 1) cap := by
    rcases h2.2 with ⟨_, e⟩ | ⟨g, cap, cur, rfl, _⟩
    · omega
    · exact ⟨_, _, rfl⟩
  obtain ⟨ao, cap, rfl⟩ := hf
  refine ⟨ao, cap, w', hr, ?_, h3⟩
  rw [scells_app]
  exact h2
/-- Steps in memory of one's own. -/
structure OT (w wr : World) (v : Value) (ss : List (Value × Value × Bool)) : Prop where
  own : wr.ownsRow w.heap.size 120 3 v ss.length (scells ss)
  fr : Fr (fun _ => False) w wr
theorem OT.nil (w : World) : OT w w (.slice none 0 0) [] := ⟨⟨rfl, .inl ⟨rfl, rfl⟩⟩, Fr.refl _ _⟩
theorem OT.fr0 {w wr wq : World} {v : Value} {ss : List (Value × Value × Bool)} (h : OT w wr v ss) (hf : Fr (fun _ => False) wr wq) : OT w wq v ss :=
  ⟨ownsRow_of_block h.own (fun g hg => hf.block g (h.own.lt g hg).2 (fun h => h)), h.fr.trans hf (fun _ _ h => h)⟩
theorem OT.base {w wA wr : World} {v : Value} {ss : List (Value × Value × Bool)} (h : OT wA wr v ss) (hf : Fr (fun _ => False) w wA) : OT w wr v ss := by
  refine ⟨⟨h.own.1, ?_⟩, hf.trans h.fr (fun _ _ h => h)⟩
  rcases h.own.2 with h0 | ⟨g, cap, cur, e1, e2, e3⟩
  · exact .inl h0
  · exact .inr ⟨g, cap, cur, e1, Nat.le_trans hf.size e2, e3⟩
theorem OT.form {w wr : World} {v : Value} {ss : List (Value × Value × Bool)} (h : OT w wr v ss) : ∃ ao cap, v = .slice ao ss.length cap := by
  rcases h.own.2 with ⟨e, e0⟩ | ⟨g, cap, cur, e, _⟩
  · exact ⟨none, 0, by rw [e, e0]⟩
  · exact ⟨_, _, e⟩
/-- The cells of one step, in a later world. -/
theorem OT.cell {w wr wq : World} {so : Option Addr} {n sc : Nat} {ss : List (Value × Value × Bool)} (h : OT w wr (.slice so n sc) ss) (hf : Fr (fun _ => False) wr wq) (k : Nat) (hk : k < ss.length) : ∃ g, so = some ⟨g, 0, none⟩ ∧ wq.cell? ⟨g, k * 3, none⟩ = some ss[k].1 ∧ wq.cell? ⟨g, k * 3 + 1, none⟩ = some ss[k].2.1 ∧ wq.cell? ⟨g, k * 3 + 2, none⟩ = some (.bool ss[k].2.2) := by
  rcases h.own.2 with ⟨_, e0⟩ | ⟨g, cap, cur, e, _⟩
  · omega
  · simp only [Value.slice.injEq] at e
    obtain ⟨rfl, rfl, rfl⟩ := e
    have hl := (h.own.lt g rfl).2
    obtain ⟨s1, s2, s3⟩ := scells_at ss k hk
    exact ⟨g, rfl, (hf.cell (p := ⟨g, k * 3, none⟩) hl (fun h => h)).trans ((h.own.cellAt (k * 3) (by omega)).trans s1), (hf.cell (p := ⟨g, k * 3 + 1, none⟩) hl (fun h => h)).trans ((h.own.cellAt (k * 3 + 1) (by omega)).trans s2), (hf.cell (p := ⟨g, k * 3 + 2, none⟩) hl (fun h => h)).trans ((h.own.cellAt (k * 3 + 2) (by omega)).trans s3)⟩
theorem OT.lit {w w1 : World} (hF0 : Fr (fun _ => False) w w1) (la : Option Addr) (ln lc : Nat) (ra : Option Addr) (rn rc : Nat) (b : Bool) (W : World) (hW : w1.alloc (.cells #[.slice la ln lc, .slice ra rn rc, .bool b] 120) = W) : OT w W (.slice (some ⟨w1.heap.size, 0, none⟩) 1 1) [(.slice la ln lc, .slice ra rn rc, b)] := by
  have hF : Fr (fun _ => False) w1 W := by rw [← hW]; exact (Fr.refl _ _).alloc _
  refine ⟨?_, hF0.trans hF (fun _ _ h => h)⟩
  have := World.ownsRow_lit (e := 120) (size := 3) w1 #[.slice la ln lc, .slice ra rn rc, .bool b] 1 (Nat.le_refl _) (by simp only [maxLen]; omega) rfl
  rw [hW] at this
  refine ⟨this.1, ?_⟩
  rcases this.2 with h0 | ⟨g, cap, cur, e1, e2, e3⟩
  · exact .inl h0
  · exact .inr ⟨g, cap, cur, e1, Nat.le_trans hF0.size e2, e3⟩
end Go.Proofs.YtocdnomfpgdglabDoor

namespace Go.Proofs.YtocdnomfpgdglabDoor
open Go.RowKit

set_option maxRecDepth 100000 in
set_option maxHeartbeats 1000000 in
/-- The document's wide. -/
theorem gwide_any (j : Int) (x : Value) (vs : List Value) (ps : List (List Nat)) (w : World) (hp : Pcs w x vs ps) (hn : ps.length < 4611686018427387904) :
    Calls Tryd.prog 81 #[.int .i64 j, x] w fun e w' => e = .returned (.bool (wdq j ps)) ∧ w' = w := by
  obtain ⟨xo, xc, rfl⟩ := hp.form
  have HG := hide (And.intro hp hn)
  clear hp hn
  generalize hN : ps.length = N at *
  go_enter Tryd.func81, Tryd.ntmps81
  go_wp2_with fail
  go_loopw [5] (fun iv wr => ∃ (k : Nat), k ≤ N ∧ iv = .int .i64 (k : Nat) ∧ wr = w ∧ wdq j (ps.take k) = true) (fun iv _ => N - (intOf iv).toNat)
  case atStart => exact ⟨0, Nat.zero_le _, rfl, rfl, by simp [wdq]⟩
  case round =>
    obtain ⟨k, hk, rfl, rfl, hw⟩ := hrel
    have hN8 := (unhide HG).2
    by_cases hlt : k < N
    · have hlt' : (k : Int) < (N : Int) := by omega
      have hke : k < ps.length := by omega
      obtain ⟨g, o, vo, vc, rfl, hcell, -⟩ := (unhide HG).1.nth (Fr.refl _ _) k hke
      by_cases he : (ps[k].length : Int) = j
      · have hw2 : wdq j (ps.take (k + 1)) = true := by rw [wdq_take j ps k hke, hw, decide_eq_true he]; rfl
        have HW := hide hw2
        clear hw2 hw
        have w1 : IntKind.i64.wrap ((k : Int) + 1) = (k : Int) + 1 := by rw [IntKind.wrap_i64]; omega
        have hee : ((ps[k].length : Int) == j) = true := by rw [he]; simp
        subst he
        generalize ps[k].length = EL at *
        go_wp2_with fail
        exact ⟨⟨k + 1, by omega, by go_num, by first | rfl | trivial, unhide HW⟩, by simp [intOf]; omega⟩
      · have hf := wdq_false j ps k hke he
        have HW := hide hf
        clear hf hw
        have hee : ((ps[k].length : Int) == j) = false := beq_false_of_ne he
        generalize ps[k].length = EL at *
        go_wp2_with fail
        go_ret
        exact ⟨by rw [unhide HW]; rfl, rfl⟩
    · have hkN : k = N := by omega
      have hlt' : ¬ (k : Int) < (N : Int) := by omega
      have htk : ps.take k = ps := List.take_of_length_le (by omega)
      rw [htk] at hw
      have HW := hide hw
      clear hw htk hkN
      go_wp2_with fail
      go_ret
      exact ⟨by rw [unhide HW]; rfl, rfl⟩
/-- The steps from the top down to an entry. -/
def stpv (wi : Nat) (leaf : List Nat) (f n i : Nat) (ps : List (List Nat)) : List (List Nat × List Nat × Bool) :=
  if _h : n < 2 then []
  else if i < f + hf n then (topv wi leaf f (hf n) i 1 ps.dropLast, ps.getLastD [], true) :: stpv wi leaf f (hf n) i ps.dropLast
  else (ps.getLastD [], topv wi leaf (f + hf n) (n - hf n) i 1 ps.dropLast, false) :: stpv wi leaf (f + hf n) (n - hf n) i ps.dropLast
termination_by n
decreasing_by
  · exact hf_lt n (by omega)
  · have := hf_pos n; omega
def StOk (w : World) (ss : List (Value × Value × Bool)) (ts : List (List Nat × List Nat × Bool)) : Prop :=
  ss.length = ts.length ∧ ∀ (j : Nat) s t, ss[j]? = some s → ts[j]? = some t → Sl w s.1 t.1 ∧ Sl w s.2.1 t.2.1 ∧ s.2.2 = t.2.2
theorem StOk.nil (w : World) : StOk w [] [] := ⟨rfl, fun j s t h => by simp at h⟩
theorem StOk.fr0 {w w' : World} {ss : List (Value × Value × Bool)} {ts : List (List Nat × List Nat × Bool)} (h : StOk w ss ts) (hf : Fr (fun _ => False) w w') : StOk w' ss ts :=
  ⟨h.1, fun j s t hs ht => ⟨(h.2 j s t hs ht).1.fr0 hf, (h.2 j s t hs ht).2.1.fr0 hf, (h.2 j s t hs ht).2.2⟩⟩
theorem StOk.cons {w : World} {s : Value × Value × Bool} {t : List Nat × List Nat × Bool} {ss : List (Value × Value × Bool)} {ts : List (List Nat × List Nat × Bool)} (h1 : Sl w s.1 t.1) (h2 : Sl w s.2.1 t.2.1) (h3 : s.2.2 = t.2.2) (h : StOk w ss ts) : StOk w (s :: ss) (t :: ts) :=
  ⟨by simp [h.1], fun j s' t' hs ht => by
    match j with
    | 0 => simp at hs ht; subst hs ht; exact ⟨h1, h2, h3⟩
    | j + 1 => simp at hs ht; exact h.2 j s' t' hs ht⟩
theorem StOk.form {w : World} {ss : List (Value × Value × Bool)} {ts : List (List Nat × List Nat × Bool)} (h : StOk w ss ts) (k : Nat) (hk : k < ss.length) : ∃ la ln lc ra rn rc, ss[k] = (.slice la ln lc, .slice ra rn rc, ss[k].2.2) := by
  obtain ⟨h1, h2, _⟩ := h.2 k ss[k] (ts[k]'(by rw [← h.1]; exact hk)) (List.getElem?_eq_getElem hk) (List.getElem?_eq_getElem _)
  obtain ⟨a, c, e1⟩ := h1.form
  obtain ⟨b, d, e2⟩ := h2.form
  exact ⟨a, _, c, b, _, d, by rw [← e1, ← e2]⟩
def ClSays (wi : Nat) (leaf : List Nat) (lv : Value) (f n i : Nat) (ps : List (List Nat)) (x : Value) (w : World) : Prop :=
  Calls Tryd.prog 42 #[.int .i64 wi, lv, .int .i64 ((i - f : Nat) : Int), .int .i64 n, x] w fun e w' =>
    (ps.length = dep f n i 1 → ∃ ho hn hc so sc ss, e = .returned (.tuple #[.slice ho hn hc, .slice so ss.length sc, .bool true]) ∧ Sl w' (.slice ho hn hc) (topv wi leaf f n i 1 ps) ∧ OT w w' (.slice so ss.length sc) ss ∧ StOk w' ss (stpv wi leaf f n i ps)) ∧
    (¬ ps.length = dep f n i 1 → ∃ ho hn hc, e = .returned (.tuple #[.slice ho hn hc, .slice none 0 0, .bool false])) ∧ Fr (fun _ => False) w w'
set_option maxRecDepth 100000 in
set_option maxHeartbeats 1000000 in
theorem climb_one (wi : Nat) (leaf : List Nat) (lv : Value) (f i : Nat) (ps : List (List Nat)) (vs : List Value) (x : Value) (w : World) (hl : Sl w lv leaf) (hp : Pcs w x vs ps) (hi : f = i) : ClSays wi leaf lv f 1 i ps x w := by
  unfold ClSays
  subst hi
  rw [dep_eq, topv_eq]
  have hst : stpv wi leaf f 1 f ps = [] := by rw [stpv, dif_pos (by decide)]
  rw [hst, Nat.sub_self]
  obtain ⟨lo, lc, rfl⟩ := hl.form
  obtain ⟨xo, xc, rfl⟩ := hp.form
  have HL := hide hl
  clear hl hp hst
  have e0 : ((0 : Nat) : Int) = 0 := rfl
  have e1 : ((1 : Nat) : Int) = 1 := rfl
  simp only [e0, e1]
  clear e0 e1
  generalize leaf.length = LN at *
  by_cases h0 : ps.length = 0
  · rw [h0]
    go_enter Tryd.func42, Tryd.ntmps42
    go_wp2_with fail
    go_returns
    exact ⟨fun _ => ⟨lo, LN, lc, none, 0, [], rfl, unhide HL, OT.nil _, StOk.nil _⟩, fun h => by first | exact absurd rfl h | exact absurd trivial h, Fr.refl _ _⟩
  · have q1 : ((ps.length : Int) == 0) = false := beq_false_of_ne (by omega)
    generalize ps.length = PN at *
    go_enter Tryd.func42, Tryd.ntmps42
    go_wp2_with fail
    go_returns
    exact ⟨fun h => absurd h h0, fun _ => ⟨lo, LN, lc, rfl⟩, Fr.refl _ _⟩
set_option maxRecDepth 100000 in
set_option maxHeartbeats 1000000 in
theorem climb_short (wi : Nat) (leaf : List Nat) (lv : Value) (f n i : Nat) (vs : List Value) (x : Value) (w : World) (hl : Sl w lv leaf) (hp : Pcs w x vs []) (h2 : 2 ≤ n) (hd : ¬ 0 = dep f n i 1) : ClSays wi leaf lv f n i [] x w := by
  unfold ClSays
  obtain ⟨lo, lc, rfl⟩ := hl.form
  obtain ⟨xo, xc, rfl⟩ := hp.form
  clear hl hp
  simp only [List.length_nil]
  have q1 : ((n : Int) == 1) = false := beq_false_of_ne (by omega)
  have q2 : ¬ n = 1 := by omega
  generalize leaf.length = LN at *
  generalize i - f = I at *
  go_enter Tryd.func42, Tryd.ntmps42
  go_wp2_with fail
  go_returns
  exact ⟨fun h => absurd h hd, fun _ => ⟨none, 0, 0, rfl⟩, Fr.refl _ _⟩
end Go.Proofs.YtocdnomfpgdglabDoor

namespace Go.Proofs.YtocdnomfpgdglabDoor
open Go.RowKit

theorem box3s (w : World) (a b c : Value) (ty : Nat) (W : World) (hW : w.alloc (.cells #[a, b, c] ty) = W) : W.cell? ⟨w.heap.size, 0, none⟩ = some a ∧ W.cell? ⟨w.heap.size, 1, none⟩ = some b ∧ W.cell? ⟨w.heap.size, 2, none⟩ = some c ∧ Fr (fun _ => False) w W := by
  subst hW
  have hc : ∀ j, (w.alloc (.cells #[a, b, c] ty)).cell? ⟨w.heap.size, j, none⟩ = (#[a, b, c] : Array Value)[j]? := fun j => World.cell?_alloc_at _ _ _ _ rfl
  exact ⟨hc 0, hc 1, hc 2, (Fr.refl _ _).alloc _⟩
theorem stpv_len (wi : Nat) (leaf : List Nat) (m : Nat) : ∀ f n i (ps : List (List Nat)), n ≤ m → (stpv wi leaf f n i ps).length = dep f n i 1 := by
  induction m with
  | zero => intro f n i ps h; rw [stpv, dif_pos (by omega), dep, dif_pos (by omega)]; rfl
  | succ m ih =>
    intro f n i ps h
    by_cases h2 : n < 2
    · rw [stpv, dif_pos h2, dep, dif_pos (by omega)]; rfl
    · have hlt := hf_lt n (by omega)
      have hpos := hf_pos n
      by_cases hi : i < f + hf n
      · rw [stpv, dif_neg h2, if_pos hi, dep_l (by omega) (by omega) hi, List.length_cons, ih _ _ _ _ (by omega)]
      · rw [stpv, dif_neg h2, if_neg hi, dep_r (by omega) (by omega) hi, List.length_cons, ih _ _ _ _ (by omega)]
set_option maxRecDepth 100000 in
set_option maxHeartbeats 4000000 in
/-- A step down to the left. -/
theorem climb_left (wi : Nat) (hw1 : 1 ≤ wi) (hw32 : wi ≤ 32) (leaf : List Nat) (lo : Option Addr) (ln lc : Nat) (f n i D : Nat) (ps : List (List Nat)) (vs : List Value) (g o xc : Nat) (w : World) (hr : GR w) (hp : Pcs w (.slice (some ⟨g, o, none⟩) (D + 1) xc) vs ps) (hcap : D + 1 ≤ xc) (hlen : ps.length = D + 1) (hD8 : D < 8000000) (h2 : 2 ≤ n) (hn : n < 9223372036854775808) (hfi : f ≤ i) (hi : i < f + hf n) (hll : leaf.length = wi) (hpw : ∀ p ∈ ps, p.length = wi)
    (ih : ∀ w', Fr (fun _ => False) w w' → ClSays wi leaf (.slice lo ln lc) f (hf n) i (ps.take D) (.slice (some ⟨g, o, none⟩) D xc) w') : ClSays wi leaf (.slice lo ln lc) f n i ps (.slice (some ⟨g, o, none⟩) (D + 1) xc) w := by
  have hlt := hf_lt n h2
  have hpos := hf_pos n
  obtain ⟨g', o', vo, vc, eg, hcell, hsl⟩ := hp.nth (Fr.refl _ _) D (by omega)
  cases eg
  have hdl : ps.dropLast = ps.take D := by rw [List.dropLast_eq_take, hlen]; rfl
  have hgl : ps.getLastD [] = ps[D] := getLastD_at ps D hlen
  have hne : ¬ (f = i ∧ n = 1) := by omega
  have hdp := dep_l h2 hne hi
  have htv := topv_l (wi := wi) (r := leaf) (p := ps) h2 hne hi
  have hst : stpv wi leaf f n i ps = (topv wi leaf f (hf n) i 1 ps.dropLast, ps.getLastD [], true) :: stpv wi leaf f (hf n) i ps.dropLast := by
    conv => lhs; rw [stpv, dif_neg (by omega), if_pos hi]
  rw [hdl, hgl] at htv hst
  have hTw := topv_wid wi hw1 hw32 leaf hll _ f (hf n) i 1 (ps.take D) (Nat.le_refl _)
  have hAw := hpw ps[D] (List.getElem_mem _)
  have htl : (ps.take D).length = D := by rw [List.length_take]; omega
  have hha := half_any n w hn h2
  have hI : i - f < hf n := by omega
  have hSL := stpv_len wi leaf _ f (hf n) i (ps.take D) (Nat.le_refl _)
  unfold ClSays at ih ⊢
  rw [hdp, htv, hst]
  rw [htl] at ih
  rw [hAw] at hcell hsl
  generalize topv wi leaf f (hf n) i 1 (ps.take D) = T at *
  generalize ps[D] = A at *
  generalize stpv wi leaf f (hf n) i (ps.take D) = SS at *
  generalize dep f (hf n) i 1 = DD at *
  rw [hlen]
  have hnd := nd_len wi hw1 hw32 T A
  have hnode : ∀ w' x y, GR w' → Sl w' x T → Sl w' y A → Calls Tryd.prog 83 #[.int .i64 wi, x, y] w' fun e w'' => ∃ yo yc, e = .returned (.slice yo wi yc) ∧ Sl w'' (.slice yo wi yc) (nd wi T A) ∧ Fr (fun _ => False) w' w'' := fun w' x y h1 h2 h3 => by
    refine (gnode_any (wi : Int) x y T A w' h1 h2.s h3.s h2.b h3.b (by omega) (by omega)).mono ?_
    rintro e w'' ⟨yo, yc, rfl, hO⟩
    have hs := hO.sl (nd_lt _ _ _)
    rw [hnd] at hs ⊢
    exact ⟨yo, yc, rfl, hs, hO.fr⟩
  have q1 : ((n : Int) == 1) = false := beq_false_of_ne (by omega)
  have q2 : ¬ n = 1 := by omega
  have q3 : (((D : Int) + 1) == 0) = false := beq_false_of_ne (by omega)
  have q4 : ¬ (D : Int) + 1 = 0 := by omega
  have q5 : IntKind.i64.wrap ((D : Int) + 1 - 1) = (D : Int) := by rw [IntKind.wrap_i64]; omega
  have q6 : (D : Int) < (D : Int) + 1 := by omega
  have q7 : (D : Int) ≤ (xc : Int) := by omega
  have q8 : ((i - f : Nat) : Int) < ((hf n : Nat) : Int) := by omega
  have HC := hide (And.intro hha (And.intro ih (And.intro hnode (And.intro hr (And.intro hsl hSL)))))
  clear hha ih hnode hr hsl hSL hp hTw hAw htl hnd hdp htv hst hdl hgl hpw hll hlen hne hi hfi hlt hpos h2 hn
  generalize i - f = I at *
  generalize hf n = K at *
  go_enter Tryd.func42, Tryd.ntmps42
  go_wp2_with fail
  refine (unhide HC).1.mono ?_
  rintro e w0 ⟨rfl, rfl⟩
  go_wp2_with fail
  refine ((unhide HC).2.1 _ (by first | exact Fr.refl _ _ | exact (Fr.refl _ _).drew)).mono ?_
  rintro e w1 ⟨hA, hB, hF⟩
  by_cases hd : D = DD
  · obtain ⟨ho, hn, hc, so, sc, ss, rfl, hS, hO, hK⟩ := hA hd
    have hsl' : ss.length = SS.length := hK.1
    have H1 := hide (And.intro hS (And.intro hO (And.intro hK (And.intro hF (And.intro hd hsl')))))
    clear hA hB hS hO hK hF hd hsl'
    go_wp2_with fail
    obtain ⟨W2, hW2⟩ : ∃ W2, w1.alloc (.cells #[.slice ho hn hc, .slice vo wi vc, .bool true] 120) = W2 := ⟨_, rfl⟩
    rw [hW2]
    obtain ⟨z0, z1, z2, hF2⟩ := box3s w1 _ _ _ _ W2 hW2
    obtain ⟨W3, hW3⟩ : ∃ W3, W2.alloc (.cells #[.slice ho hn hc, .slice vo wi vc, .bool true] 120) = W3 := ⟨_, rfl⟩
    rw [hW3]
    have hsz : w1.heap.size + 1 = W2.heap.size := by rw [← hW2]; simp
    rw [hsz]
    have hT0 := OT.lit (Fr.refl _ W2) ho hn hc vo wi vc true W3 hW3
    have HZ := hide (And.intro z0 (And.intro z1 (And.intro z2 (And.intro hF2 hT0))))
    clear z0 z1 z2 hF2 hT0 hW2 hW3 hsz
    generalize w1.heap.size = P at *
    generalize hSN : ss.length = SN at *
    go_loopw [22, 23] (fun dv iv wr => ∃ (k : Nat), k ≤ SN ∧ iv = .int .i64 (k : Nat) ∧ OT W2 wr dv ((.slice ho hn hc, .slice vo wi vc, true) :: ss.take k)) (fun _ iv _ => SN - (intOf iv).toNat)
    case atStart => exact ⟨0, Nat.zero_le _, rfl, (unhide HZ).2.2.2.2⟩
    case round =>
      obtain ⟨k, hk, rfl, hT⟩ := hrel
      have hSD : SN = D := by have h1 := (unhide H1).2.2.2.2.2; have h2 := (unhide HC).2.2.2.2.2; have h3 := (unhide H1).2.2.2.2.1; omega
      have htl : (((Value.slice ho hn hc, Value.slice vo wi vc, true) :: ss.take k) : List (Value × Value × Bool)).length = k + 1 := by rw [List.length_cons, List.length_take]; omega
      by_cases hlt : k < SN
      · have hlt' : (k : Int) < (SN : Int) := by omega
        have hks : k < ss.length := by omega
        have hF1r : Fr (fun _ => False) w1 wr := (unhide HZ).2.2.2.1.trans hT.fr (fun _ _ h => h)
        obtain ⟨g2, rfl, e0, e1, e2⟩ := (unhide H1).2.1.cell hF1r k hks
        obtain ⟨la, ln', lc', ra, rn, rc, es⟩ := (unhide H1).2.2.1.form k hks
        have htk : ss.take (k + 1) = ss.take k ++ [ss[k]] := by rw [List.take_add_one, List.getElem?_eq_getElem hks]; rfl
        generalize ss[k].2.2 = b at *
        rw [es] at e0 e1 htk
        simp only at e0 e1
        obtain ⟨ao, cap, w', hr, hown, hgrow⟩ := app_step wr W2.heap.size _ _ la ln' lc' ra rn rc b hT.own (by rw [htl]; omega) hT.fr.size
        obtain ⟨da, dc, rfl⟩ := hT.form
        rw [htl] at hr hown
        have hT2 : OT W2 w' (.slice ao (k + 1 + 1) cap) ((.slice ho hn hc, .slice vo wi vc, true) :: ss.take (k + 1)) := by
          refine ⟨?_, (hT.fr.alloc _).grown hgrow (fun g hg => .inr (hT.own.lt g hg).1)⟩
          have e : (((Value.slice ho hn hc, Value.slice vo wi vc, true) :: ss.take (k + 1)) : List (Value × Value × Bool)).length = k + 1 + 1 := by rw [List.length_cons, List.length_take]; omega
          rw [e, htk, ← List.cons_append]
          exact hown
        have w1' : IntKind.i64.wrap ((k : Int) + 1) = (k : Int) + 1 := by rw [IntKind.wrap_i64]; omega
        have HR := hide hr
        have HT := hide hT2
        have hk8 : k < 8000000 := by omega
        clear hr hown hgrow hT hT2 htk es hF1r hSD
        rw [htl]
        clear htl
        go_wp2_with (at_builtin; refine wpList_app rfl (.tmp 86) (.tmp 91) 70 70 rfl _ _ _ rfl rfl (unhide HR) ?_)
        exact ⟨⟨k + 1, by omega, by go_num, unhide HT⟩, by simp [intOf]; omega⟩
      · have hlt' : ¬ (k : Int) < (SN : Int) := by omega
        rw [List.take_of_length_le (by omega)] at hT htl
        have c0 := (hT.fr.cell (lt_of_cell (unhide HZ).1) (fun h => h)).trans (unhide HZ).1
        have c1 := (hT.fr.cell (lt_of_cell (unhide HZ).2.1) (fun h => h)).trans (unhide HZ).2.1
        obtain ⟨da, dc, rfl⟩ := hT.form
        have hFw : Fr (fun _ => False) w1 wr := (unhide HZ).2.2.2.1.trans hT.fr (fun _ _ h => h)
        have HT := hide (And.intro hT (And.intro hFw htl))
        rw [htl]
        clear hT htl hFw hSD
        go_wp2_with fail
        refine ((unhide HC).2.2.1 wr _ _ ((unhide HC).2.2.2.1.fr0 ((unhide H1).2.2.2.1.trans (unhide HT).2.1 (fun _ _ h => h))) ((unhide H1).1.fr0 (unhide HT).2.1) ((unhide HC).2.2.2.2.1.fr0 ((unhide H1).2.2.2.1.trans (unhide HT).2.1 (fun _ _ h => h)))).mono ?_
        rintro e w5 ⟨yo, yc, rfl, hS5, hF5⟩
        have H5 := hide (And.intro hS5 hF5)
        clear hS5 hF5
        go_wp2_with fail
        go_returns
        have hF15 := (unhide HT).2.1.trans (unhide H5).2 (fun _ _ h => h)
        have hF05 := (unhide H1).2.2.2.1.trans hF15 (fun _ _ h => h)
        refine ⟨fun _ => ⟨yo, wi, yc, da, dc, (.slice ho hn hc, .slice vo wi vc, true) :: ss, by rw [(unhide HT).2.2]; rfl, (unhide H5).1, ?_, ?_⟩, fun h => absurd (by have := (unhide H1).2.2.2.2.1; omega) h, hF05⟩
        · exact ((unhide HT).1.fr0 (unhide H5).2).base ((unhide H1).2.2.2.1.trans (unhide HZ).2.2.2.1 (fun _ _ h => h))
        · exact StOk.cons ((unhide H1).1.fr0 hF15) ((unhide HC).2.2.2.2.1.fr0 hF05) rfl ((unhide H1).2.2.1.fr0 hF15)
  · obtain ⟨ho, hn, hc, rfl⟩ := hB hd
    have H1 := hide (And.intro hF hd)
    clear hA hB hF hd
    go_wp2_with fail
    go_returns
    exact ⟨fun h => absurd (by omega) (unhide H1).2, fun _ => ⟨none, 0, 0, rfl⟩, (unhide H1).1⟩
end Go.Proofs.YtocdnomfpgdglabDoor

namespace Go.Proofs.YtocdnomfpgdglabDoor
open Go.RowKit

set_option maxRecDepth 100000 in
set_option maxHeartbeats 4000000 in
/-- A step down to the right. -/
theorem climb_right (wi : Nat) (hw1 : 1 ≤ wi) (hw32 : wi ≤ 32) (leaf : List Nat) (lo : Option Addr) (ln lc : Nat) (f n i D : Nat) (ps : List (List Nat)) (vs : List Value) (g o xc : Nat) (w : World) (hr : GR w) (hp : Pcs w (.slice (some ⟨g, o, none⟩) (D + 1) xc) vs ps) (hcap : D + 1 ≤ xc) (hlen : ps.length = D + 1) (hD8 : D < 8000000) (h2 : 2 ≤ n) (hn : n < 9223372036854775808) (hin : i < f + n) (hi : ¬ i < f + hf n) (hll : leaf.length = wi) (hpw : ∀ p ∈ ps, p.length = wi)
    (ih : ∀ w', Fr (fun _ => False) w w' → ClSays wi leaf (.slice lo ln lc) (f + hf n) (n - hf n) i (ps.take D) (.slice (some ⟨g, o, none⟩) D xc) w') : ClSays wi leaf (.slice lo ln lc) f n i ps (.slice (some ⟨g, o, none⟩) (D + 1) xc) w := by
  have hlt := hf_lt n h2
  have hpos := hf_pos n
  obtain ⟨g', o', vo, vc, eg, hcell, hsl⟩ := hp.nth (Fr.refl _ _) D (by omega)
  cases eg
  have hdl : ps.dropLast = ps.take D := by rw [List.dropLast_eq_take, hlen]; rfl
  have hgl : ps.getLastD [] = ps[D] := getLastD_at ps D hlen
  have hne : ¬ (f = i ∧ n = 1) := by omega
  have hdp := dep_r h2 hne hi
  have htv := topv_r (wi := wi) (r := leaf) (p := ps) h2 hne hi
  have hst : stpv wi leaf f n i ps = (ps.getLastD [], topv wi leaf (f + hf n) (n - hf n) i 1 ps.dropLast, false) :: stpv wi leaf (f + hf n) (n - hf n) i ps.dropLast := by
    conv => lhs; rw [stpv, dif_neg (by omega), if_neg hi]
  rw [hdl, hgl] at htv hst
  have hTw := topv_wid wi hw1 hw32 leaf hll _ (f + hf n) (n - hf n) i 1 (ps.take D) (Nat.le_refl _)
  have hAw := hpw ps[D] (List.getElem_mem _)
  have htl : (ps.take D).length = D := by rw [List.length_take]; omega
  have hha := half_any n w hn h2
  have hI : i - (f + hf n) = (i - f) - hf n := by omega
  have hI2 : hf n ≤ i - f := by omega
  have hI3 : i - f < n := by omega
  have hSL := stpv_len wi leaf _ (f + hf n) (n - hf n) i (ps.take D) (Nat.le_refl _)
  unfold ClSays at ih ⊢
  rw [hdp, htv, hst]
  rw [htl, hI] at ih
  rw [hAw] at hcell hsl
  generalize topv wi leaf (f + hf n) (n - hf n) i 1 (ps.take D) = T at *
  generalize ps[D] = A at *
  generalize stpv wi leaf (f + hf n) (n - hf n) i (ps.take D) = SS at *
  generalize dep (f + hf n) (n - hf n) i 1 = DD at *
  rw [hlen]
  have hnd := nd_len wi hw1 hw32 A T
  have hnode : ∀ w' x y, GR w' → Sl w' x A → Sl w' y T → Calls Tryd.prog 83 #[.int .i64 wi, x, y] w' fun e w'' => ∃ yo yc, e = .returned (.slice yo wi yc) ∧ Sl w'' (.slice yo wi yc) (nd wi A T) ∧ Fr (fun _ => False) w' w'' := fun w' x y h1 h2 h3 => by
    refine (gnode_any (wi : Int) x y A T w' h1 h2.s h3.s h2.b h3.b (by omega) (by omega)).mono ?_
    rintro e w'' ⟨yo, yc, rfl, hO⟩
    have hs := hO.sl (nd_lt _ _ _)
    rw [hnd] at hs ⊢
    exact ⟨yo, yc, rfl, hs, hO.fr⟩
  have q1 : ((n : Int) == 1) = false := beq_false_of_ne (by omega)
  have q2 : ¬ n = 1 := by omega
  have q3 : (((D : Int) + 1) == 0) = false := beq_false_of_ne (by omega)
  have q4 : ¬ (D : Int) + 1 = 0 := by omega
  have q5 : IntKind.i64.wrap ((D : Int) + 1 - 1) = (D : Int) := by rw [IntKind.wrap_i64]; omega
  have q6 : (D : Int) < (D : Int) + 1 := by omega
  have q7 : (D : Int) ≤ (xc : Int) := by omega
  have q8 : ¬ ((i - f : Nat) : Int) < ((hf n : Nat) : Int) := by omega
  have q9 : ¬ i - f < hf n := by omega
  have q10 : IntKind.i64.wrap (((i - f : Nat) : Int) - ((hf n : Nat) : Int)) = (((i - f) - hf n : Nat) : Int) := by rw [IntKind.wrap_i64]; omega
  have q11 : IntKind.i64.wrap ((n : Int) - ((hf n : Nat) : Int)) = ((n - hf n : Nat) : Int) := by rw [IntKind.wrap_i64]; omega
  have HC := hide (And.intro hha (And.intro ih (And.intro hnode (And.intro hr (And.intro hsl hSL)))))
  clear hha ih hnode hr hsl hSL hp hTw hAw htl hnd hdp htv hst hdl hgl hpw hll hlen hne hi hin hlt hpos h2 hn hI hI2 hI3
  generalize (i - f) - hf n = IK at *
  generalize n - hf n = NK at *
  generalize i - f = I at *
  generalize hf n = K at *
  go_enter Tryd.func42, Tryd.ntmps42
  go_wp2_with fail
  refine (unhide HC).1.mono ?_
  rintro e w0 ⟨rfl, rfl⟩
  go_wp2_with fail
  refine ((unhide HC).2.1 _ (by first | exact Fr.refl _ _ | exact (Fr.refl _ _).drew)).mono ?_
  rintro e w1 ⟨hA, hB, hF⟩
  by_cases hd : D = DD
  · obtain ⟨ho, hn, hc, so, sc, ss, rfl, hS, hO, hK⟩ := hA hd
    have hsl' : ss.length = SS.length := hK.1
    have H1 := hide (And.intro hS (And.intro hO (And.intro hK (And.intro hF (And.intro hd hsl')))))
    clear hA hB hS hO hK hF hd hsl'
    go_wp2_with fail
    obtain ⟨W2, hW2⟩ : ∃ W2, w1.alloc (.cells #[.slice vo wi vc, .slice ho hn hc, .bool false] 120) = W2 := ⟨_, rfl⟩
    rw [hW2]
    obtain ⟨z0, z1, z2, hF2⟩ := box3s w1 _ _ _ _ W2 hW2
    obtain ⟨W3, hW3⟩ : ∃ W3, W2.alloc (.cells #[.slice vo wi vc, .slice ho hn hc, .bool false] 120) = W3 := ⟨_, rfl⟩
    rw [hW3]
    have hsz : w1.heap.size + 1 = W2.heap.size := by rw [← hW2]; simp
    rw [hsz]
    have hT0 := OT.lit (Fr.refl _ W2) vo wi vc ho hn hc false W3 hW3
    have HZ := hide (And.intro z0 (And.intro z1 (And.intro z2 (And.intro hF2 hT0))))
    clear z0 z1 z2 hF2 hT0 hW2 hW3 hsz
    generalize w1.heap.size = P at *
    generalize hSN : ss.length = SN at *
    go_loopw [22, 23] (fun dv iv wr => ∃ (k : Nat), k ≤ SN ∧ iv = .int .i64 (k : Nat) ∧ OT W2 wr dv ((.slice vo wi vc, .slice ho hn hc, false) :: ss.take k)) (fun _ iv _ => SN - (intOf iv).toNat)
    case atStart => exact ⟨0, Nat.zero_le _, rfl, (unhide HZ).2.2.2.2⟩
    case round =>
      obtain ⟨k, hk, rfl, hT⟩ := hrel
      have hSD : SN = D := by have h1 := (unhide H1).2.2.2.2.2; have h2 := (unhide HC).2.2.2.2.2; have h3 := (unhide H1).2.2.2.2.1; omega
      have htl : (((Value.slice vo wi vc, Value.slice ho hn hc, false) :: ss.take k) : List (Value × Value × Bool)).length = k + 1 := by rw [List.length_cons, List.length_take]; omega
      by_cases hlt : k < SN
      · have hlt' : (k : Int) < (SN : Int) := by omega
        have hks : k < ss.length := by omega
        have hF1r : Fr (fun _ => False) w1 wr := (unhide HZ).2.2.2.1.trans hT.fr (fun _ _ h => h)
        obtain ⟨g2, rfl, e0, e1, e2⟩ := (unhide H1).2.1.cell hF1r k hks
        obtain ⟨la, ln', lc', ra, rn, rc, es⟩ := (unhide H1).2.2.1.form k hks
        have htk : ss.take (k + 1) = ss.take k ++ [ss[k]] := by rw [List.take_add_one, List.getElem?_eq_getElem hks]; rfl
        generalize ss[k].2.2 = b at *
        rw [es] at e0 e1 htk
        simp only at e0 e1
        obtain ⟨ao, cap, w', hr, hown, hgrow⟩ := app_step wr W2.heap.size _ _ la ln' lc' ra rn rc b hT.own (by rw [htl]; omega) hT.fr.size
        obtain ⟨da, dc, rfl⟩ := hT.form
        rw [htl] at hr hown
        have hT2 : OT W2 w' (.slice ao (k + 1 + 1) cap) ((.slice vo wi vc, .slice ho hn hc, false) :: ss.take (k + 1)) := by
          refine ⟨?_, (hT.fr.alloc _).grown hgrow (fun g hg => .inr (hT.own.lt g hg).1)⟩
          have e : (((Value.slice vo wi vc, Value.slice ho hn hc, false) :: ss.take (k + 1)) : List (Value × Value × Bool)).length = k + 1 + 1 := by rw [List.length_cons, List.length_take]; omega
          rw [e, htk, ← List.cons_append]
          exact hown
        have w1' : IntKind.i64.wrap ((k : Int) + 1) = (k : Int) + 1 := by rw [IntKind.wrap_i64]; omega
        have HR := hide hr
        have HT := hide hT2
        have hk8 : k < 8000000 := by omega
        clear hr hown hgrow hT hT2 htk es hF1r hSD
        rw [htl]
        clear htl
        go_wp2_with (at_builtin; refine wpList_app rfl (.tmp 86) (.tmp 91) 70 70 rfl _ _ _ rfl rfl (unhide HR) ?_)
        exact ⟨⟨k + 1, by omega, by go_num, unhide HT⟩, by simp [intOf]; omega⟩
      · have hlt' : ¬ (k : Int) < (SN : Int) := by omega
        rw [List.take_of_length_le (by omega)] at hT htl
        have c0 := (hT.fr.cell (lt_of_cell (unhide HZ).1) (fun h => h)).trans (unhide HZ).1
        have c1 := (hT.fr.cell (lt_of_cell (unhide HZ).2.1) (fun h => h)).trans (unhide HZ).2.1
        obtain ⟨da, dc, rfl⟩ := hT.form
        have hFw : Fr (fun _ => False) w1 wr := (unhide HZ).2.2.2.1.trans hT.fr (fun _ _ h => h)
        have HT := hide (And.intro hT (And.intro hFw htl))
        rw [htl]
        clear hT htl hFw hSD
        go_wp2_with fail
        refine ((unhide HC).2.2.1 wr _ _ ((unhide HC).2.2.2.1.fr0 ((unhide H1).2.2.2.1.trans (unhide HT).2.1 (fun _ _ h => h))) ((unhide HC).2.2.2.2.1.fr0 ((unhide H1).2.2.2.1.trans (unhide HT).2.1 (fun _ _ h => h))) ((unhide H1).1.fr0 (unhide HT).2.1)).mono ?_
        rintro e w5 ⟨yo, yc, rfl, hS5, hF5⟩
        have H5 := hide (And.intro hS5 hF5)
        clear hS5 hF5
        go_wp2_with fail
        go_returns
        have hF15 := (unhide HT).2.1.trans (unhide H5).2 (fun _ _ h => h)
        have hF05 := (unhide H1).2.2.2.1.trans hF15 (fun _ _ h => h)
        refine ⟨fun _ => ⟨yo, wi, yc, da, dc, (.slice vo wi vc, .slice ho hn hc, false) :: ss, by rw [(unhide HT).2.2]; rfl, (unhide H5).1, ?_, ?_⟩, fun h => absurd (by have := (unhide H1).2.2.2.2.1; omega) h, hF05⟩
        · exact ((unhide HT).1.fr0 (unhide H5).2).base ((unhide H1).2.2.2.1.trans (unhide HZ).2.2.2.1 (fun _ _ h => h))
        · exact StOk.cons ((unhide HC).2.2.2.2.1.fr0 hF05) ((unhide H1).1.fr0 hF15) rfl ((unhide H1).2.2.1.fr0 hF15)
  · obtain ⟨ho, hn, hc, rfl⟩ := hB hd
    have H1 := hide (And.intro hF hd)
    clear hA hB hF hd
    go_wp2_with fail
    go_returns
    exact ⟨fun h => absurd (by omega) (unhide H1).2, fun _ => ⟨none, 0, 0, rfl⟩, (unhide H1).1⟩
/-- The document's climb. -/
theorem climb_any (wi : Nat) (hw1 : 1 ≤ wi) (hw32 : wi ≤ 32) (leaf : List Nat) (hll : leaf.length = wi) (lo : Option Addr) (ln lc : Nat) (m : Nat) : ∀ (f n i : Nat) (ps : List (List Nat)) (vs : List Value) (x : Value) (w : World), n ≤ m → 1 ≤ n → n < 9223372036854775808 → f ≤ i → i < f + n → GR w → Sl w (.slice lo ln lc) leaf → Pcs w x vs ps → Cp x → ps.length ≤ 8000000 → (∀ p ∈ ps, p.length = wi) → ClSays wi leaf (.slice lo ln lc) f n i ps x w := by
  induction m with
  | zero => intro f n i ps vs x w h h1; omega
  | succ m ih =>
    intro f n i ps vs x w h h1 hn hfi hin hr hl hp hcx hps hpw
    by_cases h2 : n = 1
    · subst h2
      exact climb_one wi leaf _ f i ps vs x w hl hp (by omega)
    · have hlt := hf_lt n (by omega)
      have hpos := hf_pos n
      by_cases h0 : ps = []
      · subst h0
        refine climb_short wi leaf _ f n i vs x w hl hp (by omega) ?_
        by_cases hi : i < f + hf n
        · rw [dep_l (by omega) (by omega) hi]; omega
        · rw [dep_r (by omega) (by omega) hi]; omega
      · obtain ⟨D, hD⟩ : ∃ D, ps.length = D + 1 := ⟨ps.length - 1, by have := List.length_pos_iff.2 h0; omega⟩
        obtain ⟨xo, xc, rfl⟩ := hp.form
        obtain ⟨g, o, v, rfl, -⟩ := hp.cell (Fr.refl _ _) 0 (by omega)
        have hcap : ps.length ≤ xc := hcx _ _ _ rfl
        rw [hD] at hp hcx hcap ⊢
        have hp' := hp.take D (by omega)
        have hcx' : Cp (.slice (some ⟨g, o, none⟩) D xc) := fun _ _ _ e => by cases e; omega
        have htl : (ps.take D).length ≤ 8000000 := by rw [List.length_take]; omega
        have hpw' : ∀ p ∈ ps.take D, p.length = wi := fun p h => hpw p (List.mem_of_mem_take h)
        by_cases hi : i < f + hf n
        · exact climb_left wi hw1 hw32 leaf lo ln lc f n i D ps vs g o xc w hr hp hcap hD (by omega) (by omega) hn hfi hi hll hpw (fun w' hf' => ih f (hf n) i _ _ _ w' (by omega) (by omega) (by omega) hfi hi (hr.fr0 hf') (hl.fr0 hf') (hp'.fr0 hf') hcx' htl hpw')
        · exact climb_right wi hw1 hw32 leaf lo ln lc f n i D ps vs g o xc w hr hp hcap hD (by omega) (by omega) hn hin hi hll hpw (fun w' hf' => ih (f + hf n) (n - hf n) i _ _ _ w' (by omega) (by omega) (by omega) (by omega) (by omega) (hr.fr0 hf') (hl.fr0 hf') (hp'.fr0 hf') hcx' htl hpw')
end Go.Proofs.YtocdnomfpgdglabDoor

namespace Go.Proofs.YtocdnomfpgdglabDoor
open Go.RowKit

theorem norm_id {a : List Nat} (h : ∀ v ∈ a, v < 256) : norm a = a := by
  rw [norm]
  conv => rhs; rw [← List.map_id a]
  exact List.map_congr_left (fun v hv => Nat.mod_eq_of_lt (h v hv))
theorem gsame_D {w : World} {x y : Value} {a b : List Nat} (hx : Sl w x a) (hy : Sl w y b) (ha : a.length ≤ 140737488355328) : Calls Tryd.prog 11 #[x, y] w fun e w' => e = .returned (.bool (decide (a = b))) ∧ Fr (fun _ => False) w w' := by
  refine (same_any x y a b w hx.s hy.s ha).mono ?_
  rintro e w' ⟨rfl, hn⟩
  refine ⟨?_, Fr.of_drewN hn⟩
  rw [sameB, norm_id hx.b, norm_id hy.b]
set_option maxRecDepth 100000 in
set_option maxHeartbeats 2000000 in
/-- The document's CheckPath. -/
theorem gcheckPath_any (j i n : Int) (lv rv x : Value) (leaf root : List Nat) (vs : List Value) (ps : List (List Nat)) (w : World) (hg_ : GR w) (hl : Sl w lv leaf) (hr : Sl w rv root) (hp : Pcs w x vs ps) (hcx : Cp x) (hn : n < 9223372036854775808) (hps : ps.length ≤ 8000000) :
    Calls Tryd.prog 40 #[.int .i64 j, lv, .int .i64 i, .int .i64 n, x, rv] w fun e w' => e = .returned (.bool (chkP j leaf i n ps root)) ∧ Fr (fun _ => False) w w' := by
  obtain ⟨lo, lc, rfl⟩ := hl.form
  obtain ⟨rr, rc, rfl⟩ := hr.form
  obtain ⟨xo, xc, rfl⟩ := hp.form
  by_cases h1o : j < 1 ∨ 32 < j
  · have h1 : ¬ (1 ≤ j ∧ j ≤ 32) := by omega
    have hB : chkP j leaf i n ps root = false := by rw [chkP, decide_eq_false h1]; rfl
    rw [hB]
    have HM := hide h1o
    clear hg_ hl hr hp hcx hn hps hB h1 h1o
    generalize leaf.length = LL at *
    generalize root.length = RL at *
    generalize ps.length = PL at *
    go_enter Tryd.func40, Tryd.ntmps40
    go_wp2_with fail
    refine (may_no j _ (unhide HM)).mono ?_
    rintro e' w0 ⟨rfl, rfl⟩
    go_wp2_with fail
    go_ret
    exact ⟨rfl, Fr.refl _ _⟩
  · have h1 : 1 ≤ j ∧ j ≤ 32 := by omega
    clear h1o
    have HM := hide h1
    by_cases h2' : i < 0
    · have h2 : ¬ 0 ≤ i := by omega
      have hB : chkP j leaf i n ps root = false := by rw [chkP, decide_eq_true h1, decide_eq_false h2]; rfl
      rw [hB]
      clear hg_ hl hr hp hcx hn hps hB h1
      generalize leaf.length = LL at *
      generalize root.length = RL at *
      generalize ps.length = PL at *
      go_enter Tryd.func40, Tryd.ntmps40
      go_wp2_with fail
      refine (may_yes j _ (unhide HM).1 (unhide HM).2).mono ?_
      rintro e' w0 ⟨rfl, rfl⟩
      go_wp2_with fail
      go_ret
      exact ⟨rfl, Fr.refl _ _⟩
    · have h2 : 0 ≤ i := by omega
      by_cases h3' : n ≤ i
      · have h3 : ¬ i < n := by omega
        have hB : chkP j leaf i n ps root = false := by rw [chkP, decide_eq_true h1, decide_eq_true h2, decide_eq_false h3]; rfl
        rw [hB]
        clear hg_ hl hr hp hcx hn hps hB h1
        generalize leaf.length = LL at *
        generalize root.length = RL at *
        generalize ps.length = PL at *
        go_enter Tryd.func40, Tryd.ntmps40
        go_wp2_with fail
        refine (may_yes j _ (unhide HM).1 (unhide HM).2).mono ?_
        rintro e' w0 ⟨rfl, rfl⟩
        go_wp2_with fail
        go_ret
        exact ⟨rfl, Fr.refl _ _⟩
      · have h3 : i < n := by omega
        have hce : chkP j leaf i n ps root = (wdq j [leaf, root] && (wdq j ps && (decide (ps.length = dep 0 n.toNat i.toNat 1) && decide (topv j.toNat leaf 0 n.toNat i.toNat 1 ps = root)))) := by
          rw [chkP, decide_eq_true h1, decide_eq_true h2, decide_eq_true h3]; rfl
        by_cases h4 : (leaf.length : Int) = j
        · by_cases h5 : (root.length : Int) = j
          · have hq1 : wdq j [leaf, root] = true := by simp [wdq, h4, h5]
            clear hce
            have hwd := gwide_any j _ vs ps w hp (by omega)
            obtain ⟨wi, rfl⟩ : ∃ k : Nat, j = (k : Int) := ⟨j.toNat, by omega⟩
            obtain ⟨I, rfl⟩ : ∃ k : Nat, i = (k : Int) := ⟨i.toNat, by omega⟩
            obtain ⟨N, rfl⟩ : ∃ k : Nat, n = (k : Int) := ⟨n.toNat, by omega⟩
            have hce : chkP wi leaf I N ps root = (wdq wi [leaf, root] && (wdq wi ps && (decide (ps.length = dep 0 N I 1) && decide (topv wi leaf 0 N I 1 ps = root)))) := by
              rw [chkP, decide_eq_true h1, decide_eq_true h2, decide_eq_true h3]; rfl
            rw [hce, hq1, Bool.true_and]
            clear hce hq1
            have h2'' : ¬ (I : Int) < 0 := by omega
            have h3'' : ¬ (N : Int) ≤ (I : Int) := by omega
            have h6 : ¬ N ≤ I := by omega
            have hlw : leaf.length = wi := by omega
            have hrw : root.length = wi := by omega
            rw [hlw] at hl ⊢
            rw [hrw] at hr ⊢
            cases hq2 : wdq wi ps with
            | false =>
              rw [hq2] at hwd
              rw [Bool.false_and]
              have HC := hide hwd
              clear hg_ hl hr hp hcx hn hps h1 h2 h3 hwd hq2 h4 h5 h2' h3' hlw hrw
              generalize ps.length = PL at *
              go_enter Tryd.func40, Tryd.ntmps40
              go_wp2_with fail
              refine (may_yes wi _ (unhide HM).1 (unhide HM).2).mono ?_
              rintro e' w0 ⟨rfl, rfl⟩
              go_wp2_with fail
              refine (unhide HC).mono ?_
              rintro e' w1 ⟨rfl, rfl⟩
              go_wp2_with fail
              go_ret
              exact ⟨rfl, Fr.refl _ _⟩
            | true =>
              rw [hq2] at hwd
              rw [Bool.true_and]
              have hpw : ∀ p ∈ ps, p.length = wi := fun p hp => by have := wdq_true hq2 p hp; omega
              have hcl := climb_any wi (by omega) (by omega) leaf hlw lo wi lc N 0 N I ps vs _ w (Nat.le_refl _) (by omega) (by omega) (by omega) (by omega) hg_ hl hp hcx hps hpw
              unfold ClSays at hcl
              rw [Nat.sub_zero] at hcl
              have hTw := topv_wid wi (by omega) (by omega) leaf hlw _ 0 N I 1 ps (Nat.le_refl _)
              generalize topv wi leaf 0 N I 1 ps = T at *
              generalize stpv wi leaf 0 N I ps = SS at *
              by_cases hd : ps.length = dep 0 N I 1
              · rw [decide_eq_true hd, Bool.true_and]
                obtain ⟨BB, hBB⟩ : ∃ BB, decide (T = root) = BB := ⟨_, rfl⟩
                rw [hBB]
                have HC := hide (And.intro hwd (And.intro hcl (And.intro hd (And.intro hr (And.intro hBB hTw)))))
                clear hg_ hl hr hp hcx hn hps h1 h2 h3 hwd hq2 h4 h5 h2' h3' hlw hrw hpw hcl hTw hBB hd
                generalize ps.length = PL at *
                go_enter Tryd.func40, Tryd.ntmps40
                go_wp2_with fail
                refine (may_yes wi _ (unhide HM).1 (unhide HM).2).mono ?_
                rintro e' w0 ⟨rfl, rfl⟩
                go_wp2_with fail
                refine (unhide HC).1.mono ?_
                rintro e' w1 ⟨rfl, rfl⟩
                go_wp2_with fail
                refine (unhide HC).2.1.mono ?_
                rintro e' w2 ⟨hA, -, hF⟩
                obtain ⟨ho, hn, hc, so, sc, ss, rfl, hS, -, -⟩ := hA (unhide HC).2.2.1
                have H1 := hide (And.intro hS hF)
                clear hA hS hF
                generalize ss.length = SN at *
                go_wp2_with fail
                refine (gsame_D (unhide H1).1 ((unhide HC).2.2.2.1.fr0 (unhide H1).2) (by have h1 := (unhide HC).2.2.2.2.2; have h2 := (unhide HM).2; omega)).mono ?_
                rintro e' w3 ⟨rfl, hF⟩
                rw [(unhide HC).2.2.2.2.1]
                have H2 := hide ((unhide H1).2.trans hF (fun _ _ h => h))
                clear hF
                go_wp2_with fail
                go_ret
                exact ⟨rfl, unhide H2⟩
              · rw [decide_eq_false hd, Bool.false_and]
                have HC := hide (And.intro hwd (And.intro hcl hd))
                clear hg_ hl hr hp hcx hn hps h1 h2 h3 hwd hq2 h4 h5 h2' h3' hlw hrw hpw hcl hTw hd
                generalize ps.length = PL at *
                go_enter Tryd.func40, Tryd.ntmps40
                go_wp2_with fail
                refine (may_yes wi _ (unhide HM).1 (unhide HM).2).mono ?_
                rintro e' w0 ⟨rfl, rfl⟩
                go_wp2_with fail
                refine (unhide HC).1.mono ?_
                rintro e' w1 ⟨rfl, rfl⟩
                go_wp2_with fail
                refine (unhide HC).2.1.mono ?_
                rintro e' w2 ⟨-, hB, hF⟩
                obtain ⟨ho, hn, hc, rfl⟩ := hB (unhide HC).2.2
                have H1 := hide hF
                clear hB hF
                go_wp2_with fail
                go_ret
                exact ⟨rfl, unhide H1⟩
          · have hB : chkP j leaf i n ps root = false := by
              rw [hce, wdq_false j [leaf, root] 1 (by simp) (by simpa using h5)]; rfl
            rw [hB]
            have q5 : ((root.length : Int) == j) = false := beq_false_of_ne h5
            have q4 : ((leaf.length : Int) == j) = true := by rw [h4]; simp
            clear hce
            clear hg_ hl hr hp hcx hn hps hB h1
            generalize leaf.length = LL at *
            generalize root.length = RL at *
            generalize ps.length = PL at *
            go_enter Tryd.func40, Tryd.ntmps40
            go_wp2_with fail
            refine (may_yes j _ (unhide HM).1 (unhide HM).2).mono ?_
            rintro e' w0 ⟨rfl, rfl⟩
            go_wp2_with fail
            go_ret
            exact ⟨rfl, Fr.refl _ _⟩
        · have hB : chkP j leaf i n ps root = false := by
            rw [hce, wdq_false j [leaf, root] 0 (by simp) (by simpa using h4)]; rfl
          rw [hB]
          have q4 : ((leaf.length : Int) == j) = false := beq_false_of_ne h4
          clear hce
          clear hg_ hl hr hp hcx hn hps hB h1
          generalize leaf.length = LL at *
          generalize root.length = RL at *
          generalize ps.length = PL at *
          go_enter Tryd.func40, Tryd.ntmps40
          go_wp2_with fail
          refine (may_yes j _ (unhide HM).1 (unhide HM).2).mono ?_
          rintro e' w0 ⟨rfl, rfl⟩
          go_wp2_with fail
          go_ret
          exact ⟨rfl, Fr.refl _ _⟩
end Go.Proofs.YtocdnomfpgdglabDoor

namespace Go.Proofs.YtocdnomfpgdglabDoor
open Go.RowKit

set_option maxRecDepth 100000 in
set_option maxHeartbeats 2000000 in
/-- The document's ahead: a step ahead of others. -/
theorem ahead_any (ho : Option Addr) (hn hc : Nat) (vo : Option Addr) (vn vc : Nat) (b0 : Bool) (so : Option Addr) (sc : Nat) (ss : List (Value × Value × Bool)) (ts : List (List Nat × List Nat × Bool)) (wb w : World) (hO : OT wb w (.slice so ss.length sc) ss) (hK : StOk w ss ts) (hl : ss.length ≤ 8000000) :
    Calls Tryd.prog 89 #[.agg #[.slice ho hn hc, .slice vo vn vc, .bool b0], .slice so ss.length sc] w fun e w' => ∃ da dc, e = .returned (.slice da (ss.length + 1) dc) ∧ OT w w' (.slice da (ss.length + 1) dc) ((.slice ho hn hc, .slice vo vn vc, b0) :: ss) := by
  have H1 := hide (And.intro hO (And.intro hK hl))
  clear hO hK hl
  generalize hSN : ss.length = SN at *
  go_enter Tryd.func89, Tryd.ntmps89
  go_wp2_with fail
  obtain ⟨W2, hW2⟩ : ∃ W2, w.alloc (.cells #[.slice ho hn hc, .slice vo vn vc, .bool b0] 120) = W2 := ⟨_, rfl⟩
  rw [hW2]
  obtain ⟨-, -, -, hF2⟩ := box3s w _ _ _ _ W2 hW2
  obtain ⟨W3, hW3⟩ : ∃ W3, W2.alloc (.cells #[.slice ho hn hc, .slice vo vn vc, .bool b0] 120) = W3 := ⟨_, rfl⟩
  rw [hW3]
  have hsz : w.heap.size + 1 = W2.heap.size := by rw [← hW2]; simp
  rw [hsz]
  have hT0 := OT.lit (Fr.refl _ W2) ho hn hc vo vn vc b0 W3 hW3
  have HZ := hide (And.intro hF2 hT0)
  clear hF2 hT0 hW2 hW3 hsz
  generalize w.heap.size = P at *
  go_loopw [5, 6] (fun dv iv wr => ∃ (k : Nat), k ≤ SN ∧ iv = .int .i64 (k : Nat) ∧ OT W2 wr dv ((.slice ho hn hc, .slice vo vn vc, b0) :: ss.take k)) (fun _ iv _ => SN - (intOf iv).toNat)
  case atStart => exact ⟨0, Nat.zero_le _, rfl, (unhide HZ).2⟩
  case round =>
    obtain ⟨k, hk, rfl, hT⟩ := hrel
    have hSD := (unhide H1).2.2
    have htl : (((Value.slice ho hn hc, Value.slice vo vn vc, b0) :: ss.take k) : List (Value × Value × Bool)).length = k + 1 := by rw [List.length_cons, List.length_take]; omega
    by_cases hlt : k < SN
    · have hlt' : (k : Int) < (SN : Int) := by omega
      have hks : k < ss.length := by omega
      have hF1r : Fr (fun _ => False) w wr := (unhide HZ).1.trans hT.fr (fun _ _ h => h)
      obtain ⟨g2, rfl, e0, e1, e2⟩ := (unhide H1).1.cell hF1r k hks
      obtain ⟨la, ln', lc', ra, rn, rc, es⟩ := (unhide H1).2.1.form k hks
      have htk : ss.take (k + 1) = ss.take k ++ [ss[k]] := by rw [List.take_add_one, List.getElem?_eq_getElem hks]; rfl
      generalize ss[k].2.2 = b at *
      rw [es] at e0 e1 htk
      simp only at e0 e1
      obtain ⟨ao, cap, w', hr, hown, hgrow⟩ := app_step wr W2.heap.size _ _ la ln' lc' ra rn rc b hT.own (by rw [htl]; omega) hT.fr.size
      obtain ⟨da, dc, rfl⟩ := hT.form
      rw [htl] at hr hown
      have hT2 : OT W2 w' (.slice ao (k + 1 + 1) cap) ((.slice ho hn hc, .slice vo vn vc, b0) :: ss.take (k + 1)) := by
        refine ⟨?_, (hT.fr.alloc _).grown hgrow (fun g hg => .inr (hT.own.lt g hg).1)⟩
        have e : (((Value.slice ho hn hc, Value.slice vo vn vc, b0) :: ss.take (k + 1)) : List (Value × Value × Bool)).length = k + 1 + 1 := by rw [List.length_cons, List.length_take]; omega
        rw [e, htk, ← List.cons_append]
        exact hown
      have w1' : IntKind.i64.wrap ((k : Int) + 1) = (k : Int) + 1 := by rw [IntKind.wrap_i64]; omega
      have HR := hide hr
      have HT := hide hT2
      clear hr hown hgrow hT hT2 htk es hF1r
      rw [htl]
      clear htl
      go_wp2_with (at_builtin; refine wpList_app rfl (.tmp 15) (.tmp 20) 70 70 rfl _ _ _ rfl rfl (unhide HR) ?_)
      exact ⟨⟨k + 1, by omega, by go_num, unhide HT⟩, by simp [intOf]; omega⟩
    · have hlt' : ¬ (k : Int) < (SN : Int) := by omega
      have hkN : k = SN := by omega
      rw [List.take_of_length_le (by omega)] at hT htl
      obtain ⟨da, dc, rfl⟩ := hT.form
      have HT := hide (And.intro hT (And.intro htl hkN))
      rw [htl]
      clear hT htl hkN hSD
      go_wp2_with fail
      go_ret
      have h1 := (unhide HT).2.1
      have h2 := (unhide HT).2.2
      have h3 := (unhide HT).1
      rw [h1] at h3
      subst h2
      exact ⟨da, dc, rfl, h3.base (unhide HZ).1⟩
end Go.Proofs.YtocdnomfpgdglabDoor

namespace Go.Proofs.YtocdnomfpgdglabDoor
open Go.RowKit

/-- The steps from a part down to another. -/
def stq (wi : Nat) (r : List Nat) (f n tf tn : Nat) (ps : List (List Nat)) : List (List Nat × List Nat × Bool) :=
  if _h : (f = tf ∧ n = tn) ∨ n < 2 then []
  else if tf < f + hf n then (topv wi r f (hf n) tf tn ps.dropLast, ps.getLastD [], true) :: stq wi r f (hf n) tf tn ps.dropLast
  else (ps.getLastD [], topv wi r (f + hf n) (n - hf n) tf tn ps.dropLast, false) :: stq wi r (f + hf n) (n - hf n) tf tn ps.dropLast
termination_by n
decreasing_by
  · exact hf_lt n (by omega)
  · have := hf_pos n; omega
theorem stq_eq (wi : Nat) (r : List Nat) (f n : Nat) (p : List (List Nat)) : stq wi r f n f n p = [] := by rw [stq, dif_pos (.inl ⟨rfl, rfl⟩)]
theorem stq_l {wi : Nat} {r : List Nat} {f n tf tn : Nat} {p : List (List Nat)} (h2 : 2 ≤ n) (hne : ¬ (f = tf ∧ n = tn)) (hlt : tf < f + hf n) : stq wi r f n tf tn p = (topv wi r f (hf n) tf tn p.dropLast, p.getLastD [], true) :: stq wi r f (hf n) tf tn p.dropLast := by
  conv => lhs; rw [stq, dif_neg (by omega), if_pos hlt]
theorem stq_r {wi : Nat} {r : List Nat} {f n tf tn : Nat} {p : List (List Nat)} (h2 : 2 ≤ n) (hne : ¬ (f = tf ∧ n = tn)) (hlt : ¬ tf < f + hf n) : stq wi r f n tf tn p = (p.getLastD [], topv wi r (f + hf n) (n - hf n) tf tn p.dropLast, false) :: stq wi r (f + hf n) (n - hf n) tf tn p.dropLast := by
  conv => lhs; rw [stq, dif_neg (by omega), if_neg hlt]
/-- Where SUB never went to the right, the old root is taken; else the first hash. -/
def useO (wh : Bool) (f n M : Nat) : Bool := wh && decide ((endF f n M).1 = f)
def rR (wh : Bool) (old : List Nat) (f n M : Nat) (ps : List (List Nat)) : List Nat := if useO wh f n M = true then old else ps.headD []
def rQ (wh : Bool) (f n M : Nat) (ps : List (List Nat)) : List (List Nat) := if useO wh f n M = true then ps else ps.tail
def rOk (wh : Bool) (f n M : Nat) (ps : List (List Nat)) : Prop := (useO wh f n M = true ∨ ps ≠ []) ∧ (rQ wh f n M ps).length = dep f n (endF f n M).1 (endF f n M).2
def RiSays (wi : Nat) (old : List Nat) (ov : Value) (wh : Bool) (f n M : Nat) (ps : List (List Nat)) (x : Value) (w : World) : Prop :=
  Calls Tryd.prog 49 #[.int .i64 wi, .int .i64 ((M - f : Nat) : Int), .int .i64 n, .bool wh, ov, x] w fun e w' =>
    (rOk wh f n M ps → ∃ ao an ac bo bn bc so sc ss, e = .returned (.tuple #[.slice ao an ac, .slice bo bn bc, .slice so ss.length sc, .bool true]) ∧ Sl w' (.slice ao an ac) (olderv wi (rR wh old f n M ps) f n (endF f n M).1 (endF f n M).2 (rQ wh f n M ps)) ∧ Sl w' (.slice bo bn bc) (topv wi (rR wh old f n M ps) f n (endF f n M).1 (endF f n M).2 (rQ wh f n M ps)) ∧ OT w w' (.slice so ss.length sc) ss ∧ StOk w' ss (stq wi (rR wh old f n M ps) f n (endF f n M).1 (endF f n M).2 (rQ wh f n M ps)) ∧ ss.length = dep f n (endF f n M).1 (endF f n M).2) ∧
    (¬ rOk wh f n M ps → ∃ ao an ac bo bn bc, e = .returned (.tuple #[.slice ao an ac, .slice bo bn bc, .slice none 0 0, .bool false])) ∧ Fr (fun _ => False) w w'
set_option maxRecDepth 100000 in
set_option maxHeartbeats 1000000 in
/-- rise: the whole part is the old one. -/
theorem rise_whole (wi : Nat) (old : List Nat) (ov : Value) (f n : Nat) (ps : List (List Nat)) (vs : List Value) (x : Value) (w : World) (ho : Sl w ov old) (hp : Pcs w x vs ps) : RiSays wi old ov true f n (f + n) ps x w := by
  have he : endF f n (f + n) = (f, n) := endF_eq rfl
  have hu : useO true f n (f + n) = true := by rw [useO, he]; simp
  have hR : rR true old f n (f + n) ps = old := by rw [rR, if_pos hu]
  have hQ : rQ true f n (f + n) ps = ps := by rw [rQ, if_pos hu]
  have hk : rOk true f n (f + n) ps ↔ ps.length = 0 := by
    rw [rOk, hQ, he]
    show (_ ∧ ps.length = dep f n f n) ↔ _
    rw [dep_eq]
    exact ⟨fun h => h.2, fun h => ⟨.inl hu, h⟩⟩
  unfold RiSays
  rw [hk, hR, hQ, he]
  simp only [olderv_eq, topv_eq, dep_eq, stq_eq]
  rw [show f + n - f = n by omega]
  obtain ⟨oo, oc, rfl⟩ := ho.form
  obtain ⟨xo, xc, rfl⟩ := hp.form
  have HO := hide ho
  clear ho hp hk hR hQ hu he
  generalize old.length = LN at *
  have q0 : ((n : Int) == (n : Int)) = true := by simp
  by_cases h0 : ps.length = 0
  · rw [h0]
    go_enter Tryd.func49, Tryd.ntmps49
    go_wp2_with fail
    go_returns
    exact ⟨fun _ => ⟨oo, LN, oc, oo, LN, oc, none, 0, [], rfl, unhide HO, unhide HO, OT.nil _, StOk.nil _, rfl⟩, fun h => by first | exact absurd rfl h | exact absurd trivial h, Fr.refl _ _⟩
  · have q1 : ((ps.length : Int) == 0) = false := beq_false_of_ne (by omega)
    generalize ps.length = PN at *
    go_enter Tryd.func49, Tryd.ntmps49
    go_wp2_with fail
    go_returns
    exact ⟨fun h => absurd h h0, fun _ => ⟨oo, LN, oc, oo, LN, oc, rfl⟩, Fr.refl _ _⟩
end Go.Proofs.YtocdnomfpgdglabDoor

namespace Go.Proofs.YtocdnomfpgdglabDoor
open Go.RowKit

/-- The bytes that the root of hashes is made of. -/
def hvl (wi : Nat) (l : List (List Nat)) : List Nat := 1 :: (mth wi (l.take (hf l.length)) ++ mth wi (l.drop (hf l.length)))
/-- The first step whose bytes are not those of the tree. -/
def unl (wi : Nat) : List (List Nat × List Nat × Bool) → List (List Nat) → Option (List Nat × List Nat)
  | [], _ => none
  | (a, b, z) :: r, l => if (1 :: (a ++ b) : List Nat) = hvl wi l then unl wi r (if z = true then l.take (hf l.length) else l.drop (hf l.length)) else some (1 :: (a ++ b), hvl wi l)
theorem hvl_blk (wi : Nat) (L : List (List Nat)) (f n : Nat) (h2 : 2 ≤ n) (hL : f + n ≤ L.length) : hvl wi (blk L f n) = hvb wi L f n := by
  have hlt := hf_lt n h2
  unfold hvl hvb
  rw [blk_len L f n hL, blk_take L f n (hf n) (by omega), blk_drop]
/-- Every step has a list of at least two leaves. -/
def Steps2 : List (List Nat × List Nat × Bool) → List (List Nat) → Prop
  | [], _ => True
  | (_, _, z) :: r, l => 2 ≤ l.length ∧ Steps2 r (if z = true then l.take (hf l.length) else l.drop (hf l.length))
theorem unl_stq (wi : Nat) (L : List (List Nat)) (r : List Nat) (m : Nat) : ∀ f n tf tn (ps : List (List Nat)), n ≤ m → f + n ≤ L.length → Rch f n tf tn → unl wi (stq wi r f n tf tn ps) (blk L f n) = cld wi L r f n tf tn ps ∧ Steps2 (stq wi r f n tf tn ps) (blk L f n) := by
  induction m with
  | zero =>
    intro f n tf tn ps h hL hR
    by_cases e : f = tf ∧ n = tn
    · obtain ⟨rfl, rfl⟩ := e
      rw [stq_eq, cld_eq]; exact ⟨rfl, trivial⟩
    · have := (rch_ne hR e).1; omega
  | succ m ih =>
    intro f n tf tn ps h hL hR
    by_cases e : f = tf ∧ n = tn
    · obtain ⟨rfl, rfl⟩ := e
      rw [stq_eq, cld_eq]; exact ⟨rfl, trivial⟩
    · obtain ⟨h2, r1, r2⟩ := rch_ne hR e
      have hlt := hf_lt n h2
      have hp := hf_pos n
      have hlen := blk_len L f n hL
      by_cases hl : tf < f + hf n
      · obtain ⟨i1, i2⟩ := ih f (hf n) tf tn ps.dropLast (by omega) (by omega) (r1 hl)
        rw [stq_l h2 e hl]
        have hva' : hva wi r f n tf tn ps = 1 :: (topv wi r f (hf n) tf tn ps.dropLast ++ ps.getLastD []) := by unfold hva sdl sdr; rw [if_pos hl, if_pos hl]
        refine ⟨?_, by rw [hlen]; exact h2, ?_⟩
        · rw [unl, hvl_blk wi L f n h2 hL, ← hva', if_pos rfl, hlen, blk_take L f n (hf n) (by omega), i1]
          by_cases hv : hva wi r f n tf tn ps = hvb wi L f n
          · rw [if_pos hv, cld_l h2 e hv hl]
          · rw [if_neg hv, cld_no h2 e hv]
        · rw [if_pos rfl, hlen, blk_take L f n (hf n) (by omega)]; exact i2
      · obtain ⟨i1, i2⟩ := ih (f + hf n) (n - hf n) tf tn ps.dropLast (by omega) (by omega) (r2 hl)
        rw [stq_r h2 e hl]
        have hva' : hva wi r f n tf tn ps = 1 :: (ps.getLastD [] ++ topv wi r (f + hf n) (n - hf n) tf tn ps.dropLast) := by unfold hva sdl sdr; rw [if_neg hl, if_neg hl]
        refine ⟨?_, by rw [hlen]; exact h2, ?_⟩
        · rw [unl, hvl_blk wi L f n h2 hL, ← hva', if_neg (show ¬ (false = true) by decide), hlen, blk_drop, i1]
          by_cases hv : hva wi r f n tf tn ps = hvb wi L f n
          · rw [if_pos hv, cld_r h2 e hv hl]
          · rw [if_neg hv, cld_no h2 e hv]
        · rw [if_neg (show ¬ (false = true) by decide), hlen, blk_drop]; exact i2
theorem stpv_stq (wi : Nat) (leaf : List Nat) (m : Nat) : ∀ f n i (ps : List (List Nat)), n ≤ m → f ≤ i → i < f + n → stpv wi leaf f n i ps = stq wi leaf f n i 1 ps := by
  induction m with
  | zero => intro f n i ps h h1 h2; omega
  | succ m ih =>
    intro f n i ps h h1 h2
    by_cases e : n < 2
    · have e1 : n = 1 := by omega
      subst e1
      have e2 : f = i := by omega
      subst e2
      rw [stq_eq, stpv, dif_pos (by decide)]
    · have hlt := hf_lt n (by omega)
      have hp := hf_pos n
      by_cases hl : i < f + hf n
      · rw [stq_l (by omega) (by omega) hl, stpv, dif_neg e, if_pos hl, ih f (hf n) i _ (by omega) h1 hl]
      · rw [stq_r (by omega) (by omega) hl, stpv, dif_neg e, if_neg hl, ih (f + hf n) (n - hf n) i _ (by omega) (by omega) (by omega)]
/-- Steps are as wide as the hashes. -/
theorem stq_wid (wi : Nat) (hw1 : 1 ≤ wi) (hw32 : wi ≤ 32) (r : List Nat) (hr : r.length = wi) (m : Nat) : ∀ f n tf tn (ps : List (List Nat)), n ≤ m → (∀ p ∈ ps, p.length = wi) → ∀ t ∈ stq wi r f n tf tn ps, t.1.length ≤ wi ∧ t.2.1.length ≤ wi := by
  induction m with
  | zero =>
    intro f n tf tn ps h hpw t ht
    rw [stq, dif_pos (.inr (by omega))] at ht
    cases ht
  | succ m ih =>
    intro f n tf tn ps h hpw t ht
    by_cases e : (f = tf ∧ n = tn) ∨ n < 2
    · rw [stq, dif_pos e] at ht
      cases ht
    · have h2 : 2 ≤ n := by omega
      have hne : ¬ (f = tf ∧ n = tn) := fun h => e (.inl h)
      have hlt := hf_lt n h2
      have hp := hf_pos n
      have hg : (ps.getLastD []).length ≤ wi := by
        by_cases h0 : ps = []
        · rw [h0]; exact Nat.zero_le _
        · rw [List.getLastD_eq_getLast?, List.getLast?_eq_some_getLast h0]
          exact Nat.le_of_eq (hpw _ (List.getLast_mem h0))
      have hpd : ∀ p ∈ ps.dropLast, p.length = wi := fun p hp => hpw p ((List.dropLast_sublist ps).subset hp)
      by_cases hl : tf < f + hf n
      · rw [stq_l h2 hne hl] at ht
        rcases List.mem_cons.1 ht with rfl | ht
        · exact ⟨Nat.le_of_eq (topv_wid wi hw1 hw32 r hr _ _ _ _ _ _ (Nat.le_refl _)), hg⟩
        · exact ih _ _ _ _ _ (by omega) hpd t ht
      · rw [stq_r h2 hne hl] at ht
        rcases List.mem_cons.1 ht with rfl | ht
        · exact ⟨hg, Nat.le_of_eq (topv_wid wi hw1 hw32 r hr _ _ _ _ _ _ (Nat.le_refl _))⟩
        · exact ih _ _ _ _ _ (by omega) hpd t ht
set_option maxRecDepth 100000 in
set_option maxHeartbeats 2000000 in
/-- The document's halves. -/
theorem ghalves_any (wi : Nat) (g o : Nat) (lc : Nat) (vs : List Value) (l : List (List Nat)) (w : World) (hr : GR w) (hp : Pcs w (.slice (some ⟨g, o, none⟩) l.length lc) vs l) (hlc : l.length ≤ lc) (h2 : 2 ≤ l.length) (hn : l.length ≤ 4000000) (hB : ∀ p ∈ l, p.length ≤ 2000000) :
    Calls Tryd.prog 85 #[.int .i64 wi, .slice (some ⟨g, o, none⟩) l.length lc] w fun e w' => ∃ yo yc, e = .returned (.slice yo (hvl wi l).length yc) ∧ Sl w' (.slice yo (hvl wi l).length yc) (hvl wi l) ∧ Fr (fun _ => False) w w' := by
  have hlt := hf_lt l.length h2
  have hpos := hf_pos l.length
  have hha := half_any l.length w (by omega) h2
  have hB4 : ∀ p ∈ l, p.length ≤ 4000000 := fun p hp => by have := hB p hp; omega
  have h1 := fun w' (hf' : Fr (fun _ => False) w w') => of_any (wi : Int) l.length (l.take (hf l.length)) _ _ w' (by rw [List.length_take]; omega) (by rw [List.length_take]; omega) (hr.fr0 hf') ((hp.fr0 hf').take (hf l.length) (by omega)) (fun _ _ _ e => by cases e; omega) (fun p hp => hB4 p (List.mem_of_mem_take hp))
  have h2' := fun w' (hf' : Fr (fun _ => False) w w') => of_any (wi : Int) l.length (l.drop (hf l.length)) _ _ w' (by rw [List.length_drop]; omega) (by rw [List.length_drop]; omega) (hr.fr0 hf') ((hp.fr0 hf').drop (hf l.length) (by omega)) (fun _ _ _ e => by cases e; omega) (fun p hp => hB4 p (List.mem_of_mem_drop hp))
  have hl1 := mth_len (wi : Int) 2000000 (by decide) (l.take (hf l.length)) (fun p hp => hB p (List.mem_of_mem_take hp))
  have hl2 := mth_len (wi : Int) 2000000 (by decide) (l.drop (hf l.length)) (fun p hp => hB p (List.mem_of_mem_drop hp))
  unfold OfSays at h1 h2'
  unfold hvl
  generalize mth wi (l.take (hf l.length)) = A at *
  generalize mth wi (l.drop (hf l.length)) = B at *
  have hj : ∀ w' x y, Sl w' x A → Sl w' y B → Calls Tryd.prog 84 #[.int .u8 1, x, y] w' fun e w'' => ∃ ao cp, e = .returned (.slice ao (1 :: (A ++ B)).length cp) ∧ Sl w'' (.slice ao (1 :: (A ++ B)).length cp) (1 :: (A ++ B)) ∧ Fr (fun _ => False) w' w'' := fun w' x y k1 k2 => by
    refine (joined_any 1 x y A B w' k1.s k2.s (by decide) (by omega) (by omega)).mono ?_
    rintro e w'' ⟨ao, cp, rfl, hO⟩
    exact ⟨ao, cp, rfl, hO.sl (cons_lt (by decide) (app_lt k1.b k2.b)), hO.fr⟩
  generalize hf l.length = K at *
  have HC := hide (And.intro hha (And.intro h1 (And.intro h2' hj)))
  clear hha h1 h2' hj hp hr hB hB4 hl1 hl2
  generalize (1 :: (A ++ B) : List Nat).length = RL at *
  generalize l.length = LN at *
  have q1 : (K : Int) ≤ (LN : Int) := by omega
  have q2 : (K : Int) ≤ (lc : Int) := by omega
  have q3 : ¬ lc = K := by omega
  have q4 : ¬ K = lc := by omega
  go_enter Tryd.func85, Tryd.ntmps85
  go_wp2_with fail
  refine (unhide HC).1.mono ?_
  rintro e w0 ⟨rfl, rfl⟩
  go_wp2_with fail
  have T1 : True := trivial
  go_region_held3 (fun _ => True) (trivial) (first
    | (go_at_call 41; clear T1; refine ((unhide HC).2.1 _ ((Fr.refl _ _).drew)).mono ?_; rintro e wA ⟨yA, cA, rfl, sA, fA⟩)
    | (go_at_call 41; refine ((unhide HC).2.2.1 _ (((Fr.refl _ _).drew).trans fA (fun _ _ h => h))).mono ?_; rintro e wB ⟨yB, cB, rfl, sB, fB⟩)
    | (go_at_call 84; refine ((unhide HC).2.2.2 _ _ _ (sA.fr0 fB) sB).mono ?_; rintro e wC ⟨zo, zc, rfl, sC, fC⟩))
  have hFC : Fr (fun _ => False) w0 wC := ((((Fr.refl (fun _ => False) w0).drew).trans fA (fun _ _ h => h)).trans fB (fun _ _ h => h)).trans fC (fun _ _ h => h)
  have HE := hide (And.intro sC hFC)
  clear hFC sA sB sC fA fB fC
  go_wp2_with fail
  go_ret
  exact ⟨zo, zc, rfl, (unhide HE).1, (unhide HE).2⟩
end Go.Proofs.YtocdnomfpgdglabDoor

namespace Go.Proofs.YtocdnomfpgdglabDoor
open Go.RowKit

/-- What is told where there may be none. -/
def Told (w' : World) (e : Ending) (r : Option (List Nat × List Nat)) : Prop :=
  (∀ a b, r = some (a, b) → ∃ ao ac bo bc, e = .returned (.tuple #[.slice ao a.length ac, .slice bo b.length bc, .bool true]) ∧ Sl w' (.slice ao a.length ac) a ∧ Sl w' (.slice bo b.length bc) b) ∧
  (r = none → e = .returned (.tuple #[.slice none 0 0, .slice none 0 0, .bool false]))
theorem hvl_len (wi : Nat) (hw1 : 1 ≤ wi) (hw32 : wi ≤ 32) (l : List (List Nat)) (hB : ∀ p ∈ l, p.length = wi) : (hvl wi l).length ≤ 100 := by
  unfold hvl
  have h1 := mth_wid wi hw1 hw32 (l.take (hf l.length)) (fun p hp => hB p (List.mem_of_mem_take hp))
  have h2 := mth_wid wi hw1 hw32 (l.drop (hf l.length)) (fun p hp => hB p (List.mem_of_mem_drop hp))
  rw [List.length_cons, List.length_append]
  omega
set_option maxRecDepth 100000 in
set_option maxHeartbeats 4000000 in
/-- The document's unlike. -/
theorem unlike_any (wi : Nat) (hw1 : 1 ≤ wi) (hw32 : wi ≤ 32) (x : Value) (vs : List Value) (l : List (List Nat)) (so : Option Addr) (sc : Nat) (ss : List (Value × Value × Bool)) (ts : List (List Nat × List Nat × Bool)) (wb w : World) (hr : GR w) (hp : Pcs w x vs l) (hc : Cp x) (hn : l.length ≤ 4000000) (hB : ∀ p ∈ l, p.length = wi) (hT : OT wb w (.slice so ss.length sc) ss) (hS : StOk w ss ts) (h2 : Steps2 ts l) (hw : ∀ t ∈ ts, t.1.length ≤ 2000000 ∧ t.2.1.length ≤ 2000000) (hsl : ss.length ≤ 8000000) :
    Calls Tryd.prog 43 #[.int .i64 wi, x, .slice so ss.length sc] w fun e w' => Told w' e (unl wi ts l) ∧ Fr (fun _ => False) w w' := by
  obtain ⟨xo, xc, rfl⟩ := hp.form
  have hhv := fun w' g o lc vs l (hf' : Fr (fun _ => False) w w') (h1 : Pcs w' (.slice (some ⟨g, o, none⟩) l.length lc) vs l) (h3 : l.length ≤ lc) (h4 : 2 ≤ l.length) (h5 : l.length ≤ 4000000) (h6 : ∀ p ∈ l, p.length = wi) => ghalves_any wi g o lc vs l w' (hr.fr0 hf') h1 h3 h4 h5 (fun p hp => by have := h6 p hp; omega)
  have hj : ∀ w' x y A B, Sl w' x A → Sl w' y B → A.length ≤ 2000000 → B.length ≤ 2000000 → Calls Tryd.prog 84 #[.int .u8 1, x, y] w' fun e w'' => ∃ ao cp, e = .returned (.slice ao (1 :: (A ++ B)).length cp) ∧ Sl w'' (.slice ao (1 :: (A ++ B)).length cp) (1 :: (A ++ B)) ∧ Fr (fun _ => False) w' w'' := fun w' x y A B k1 k2 k3 k4 => by
    refine (joined_any 1 x y A B w' k1.s k2.s (by decide) (by omega) (by omega)).mono ?_
    rintro e w'' ⟨ao, cp, rfl, hO⟩
    exact ⟨ao, cp, rfl, hO.sl (cons_lt (by decide) (app_lt k1.b k2.b)), hO.fr⟩
  have hl0 := hS.1
  have HC := hide (And.intro hhv (And.intro hj (And.intro hT (And.intro hS (And.intro hw (And.intro hsl (And.intro hw1 hw32)))))))
  have HP := hide (And.intro hp (And.intro hc (And.intro hB (And.intro hn h2))))
  obtain ⟨U, hU⟩ : ∃ U, unl wi ts l = U := ⟨_, rfl⟩
  rw [hU]
  have HU := hide hU
  clear hhv hj hT hS hw hsl hp hc hB hn h2 hr hU hw1 hw32
  generalize hSN : ss.length = SN at *
  go_enter Tryd.func43, Tryd.ntmps43
  go_wp2_with fail
  go_loopw [1, 9] (fun xv iv wr => ∃ (k : Nat) (vs' : List Value) (l' : List (List Nat)), k ≤ SN ∧ iv = .int .i64 (k : Nat) ∧ Pcs wr xv vs' l' ∧ Cp xv ∧ (∀ p ∈ l', p.length = wi) ∧ l'.length ≤ 4000000 ∧ Steps2 (ts.drop k) l' ∧ unl wi (ts.drop k) l' = U ∧ Fr (fun _ => False) w wr) (fun _ iv _ => SN - (intOf iv).toNat)
  case atStart => exact ⟨0, vs, l, Nat.zero_le _, rfl, (unhide HP).1, (unhide HP).2.1, (unhide HP).2.2.1, (unhide HP).2.2.2.1, (unhide HP).2.2.2.2, unhide HU, Fr.refl _ _⟩
  case round =>
    obtain ⟨k, vs', l', hk, rfl, hp, hc, hB, hn, h2, hI, hF⟩ := hrel
    have hN8 := (unhide HC).2.2.2.2.2.1
    by_cases hlt : k < SN
    · have hlt' : (k : Int) < (SN : Int) := by omega
      have hks : k < ss.length := by omega
      have hkt : k < ts.length := by omega
      obtain ⟨g2, rfl, e0, e1, e2⟩ := (unhide HC).2.2.1.cell hF k hks
      obtain ⟨la, ln, lc, ra, rn, rc, es⟩ := (unhide HC).2.2.2.1.form k hks
      obtain ⟨s1, s2, s3⟩ := (unhide HC).2.2.2.1.2 k ss[k] ts[k] (List.getElem?_eq_getElem hks) (List.getElem?_eq_getElem hkt)
      obtain ⟨hw1', hw2'⟩ := (unhide HC).2.2.2.2.1 ts[k] (List.getElem_mem hkt)
      rw [List.drop_eq_getElem_cons hkt] at hI h2
      obtain ⟨⟨TA, TB, TZ⟩, hts⟩ : ∃ t, ts[k] = t := ⟨_, rfl⟩
      rw [hts] at hI h2 s1 s2 s3 hw1' hw2'
      simp only at s1 s2 s3 hw1' hw2'
      rw [s3] at e2 es
      rw [es] at e0 e1 s1 s2
      simp only at e0 e1 s1 s2
      obtain ⟨h2a, h2b⟩ := h2
      rw [unl] at hI
      obtain ⟨xo', xc', rfl⟩ := hp.form
      obtain ⟨lg, lo, v0, rfl, -⟩ := hp.cell (Fr.refl _ _) 0 (by omega)
      have hcap : l'.length ≤ xc' := hc _ _ _ rfl
      have hlh := hf_lt l'.length h2a
      have hph := hf_pos l'.length
      have hvlen := hvl_len wi (unhide HC).2.2.2.2.2.2.1 (unhide HC).2.2.2.2.2.2.2 l' hB
      have hha := fun w => half_any l'.length w (by omega) h2a
      have hpt := hp.take (hf l'.length) (by omega)
      have hpd := hp.drop (hf l'.length) (by omega)
      have HL := hide (And.intro hF (And.intro hp (And.intro hcap (And.intro h2a (And.intro hn (And.intro hB (And.intro (s1.fr0 hF) (And.intro (s2.fr0 hF) (And.intro hw1' (And.intro hw2' (And.intro hha (And.intro hpt (And.intro hpd (And.intro h2b (And.intro hI hvlen)))))))))))))))
      clear hF hp h2a hn hB s1 s2 s3 hw1' hw2' hha hpt hpd h2b hI hts es hc hvlen
      generalize hJ : (1 :: (TA ++ TB) : List Nat) = JA at *
      generalize hH : hvl wi l' = HV at *
      generalize hLN : l'.length = LN at *
      generalize hf LN = K at *
      have hS2 : ∀ w', Fr (fun _ => False) wr w' → w'.cell? ⟨g2, k * 3, none⟩ = some (.slice la ln lc) ∧ w'.cell? ⟨g2, k * 3 + 1, none⟩ = some (.slice ra rn rc) ∧ w'.cell? ⟨g2, k * 3 + 2, none⟩ = some (.bool TZ) := fun w' hf => by
        have k : ∀ c j v, wr.cell? ⟨c, j, none⟩ = some v → w'.cell? ⟨c, j, none⟩ = some v := fun c j v h => (hf.cell (p := ⟨c, j, none⟩) (lt_of_cell h) (fun h => h)).trans h
        exact ⟨k _ _ _ e0, k _ _ _ e1, k _ _ _ e2⟩
      have HS2 := hide hS2
      clear hS2
      have T1 : True := trivial
      go_wp2_with fail
      go_region_held3 (fun w' => w'.cell? ⟨g2, k * 3, none⟩ = some (.slice la ln lc) ∧ w'.cell? ⟨g2, k * 3 + 1, none⟩ = some (.slice ra rn rc) ∧ w'.cell? ⟨g2, k * 3 + 2, none⟩ = some (.bool TZ)) (first | assumption | exact (unhide HS2) _ (Fr.refl _ _).drew | exact (unhide HS2) _ fA)
        (first
          | (go_at_call 84; clear T1; refine ((unhide HC).2.1 _ _ _ TA TB ((unhide HL).2.2.2.2.2.2.1.fr0 (Fr.refl _ _).drew) ((unhide HL).2.2.2.2.2.2.2.1.fr0 (Fr.refl _ _).drew) (unhide HL).2.2.2.2.2.2.2.2.1 (unhide HL).2.2.2.2.2.2.2.2.2.1).mono ?_; rw [hJ]; rintro e wA ⟨ja, jc, rfl, sA, hA⟩; have fA : Fr (fun _ => False) wr wA := (Fr.refl _ _).drew.trans hA (fun _ _ h => h)))
      have HA := hide (And.intro sA (And.intro fA ((unhide HL).1.trans fA (fun _ _ h => h))))
      clear sA fA hA e0 e1 e2
      go_wp2_with fail
      have hgh := (unhide HC).1 wA lg lo xc' vs' l' (unhide HA).2.2 (by rw [hLN]; exact (unhide HL).2.1.fr0 (unhide HA).2.1) (by rw [hLN]; exact (unhide HL).2.2.1) (by rw [hLN]; exact (unhide HL).2.2.2.1) (by rw [hLN]; exact (unhide HL).2.2.2.2.1) (unhide HL).2.2.2.2.2.1
      rw [hLN, hH] at hgh
      refine hgh.mono ?_
      clear hgh
      rintro e wB ⟨ho, hc', rfl, sB, fB⟩
      have HB := hide (And.intro sB (And.intro ((unhide HA).1.fr0 fB) (And.intro ((unhide HA).2.1.trans fB (fun _ _ h => h)) ((unhide HA).2.2.trans fB (fun _ _ h => h)))))
      clear sB fB
      go_wp2_with fail
      refine (gsame_D (unhide HB).2.1 (unhide HB).1 (by rw [← hJ, List.length_cons, List.length_append]; have h1 := (unhide HL).2.2.2.2.2.2.2.2.1; have h2 := (unhide HL).2.2.2.2.2.2.2.2.2.1; omega)).mono ?_
      rintro e wC ⟨rfl, fC⟩
      have HCC := hide (And.intro ((unhide HB).2.2.1.trans fC (fun _ _ h => h)) (And.intro ((unhide HB).2.2.2.trans fC (fun _ _ h => h)) fC))
      clear fC
      by_cases hE : JA = HV
      · rw [decide_eq_true hE]
        have hI := (unhide HL).2.2.2.2.2.2.2.2.2.2.2.2.2.2.1
        rw [if_pos hE] at hI
        have h2b := (unhide HL).2.2.2.2.2.2.2.2.2.2.2.2.2.1
        obtain ⟨-, -, e2⟩ := (unhide HS2) wC (unhide HCC).1
        have HI := hide (And.intro hI h2b)
        clear hI h2b hE
        have w1 : IntKind.i64.wrap ((k : Int) + 1) = (k : Int) + 1 := by rw [IntKind.wrap_i64]; omega
        have q1 : (K : Int) ≤ (LN : Int) := by omega
        have q2 : (K : Int) ≤ (xc' : Int) := by omega
        have q3 : ¬ xc' = K := by omega
        have q4 : ¬ K = xc' := by omega
        go_wp2_with fail
        refine ((unhide HL).2.2.2.2.2.2.2.2.2.2.1 _).mono ?_
        rintro e w0 ⟨rfl, rfl⟩
        cases TZ with
        | true =>
          go_wp2_with fail
          refine ⟨⟨k + 1, _, l'.take K, by omega, by go_num, (unhide HL).2.2.2.2.2.2.2.2.2.2.2.1.fr0 (unhide HCC).1, (fun _ _ _ e => by cases e; omega), (fun p hp => (unhide HL).2.2.2.2.2.1 p (List.mem_of_mem_take hp)), by rw [List.length_take]; have := (unhide HL).2.2.2.2.1; omega, (unhide HI).2, (unhide HI).1, (unhide HCC).2.1⟩, by simp [intOf]; omega⟩
        | false =>
          go_wp2_with fail
          refine ⟨⟨k + 1, _, l'.drop K, by omega, by go_num, (unhide HL).2.2.2.2.2.2.2.2.2.2.2.2.1.fr0 (unhide HCC).1, (fun _ _ _ e => by cases e; omega), (fun p hp => (unhide HL).2.2.2.2.2.1 p (List.mem_of_mem_drop hp)), by rw [List.length_drop]; have := (unhide HL).2.2.2.2.1; omega, (unhide HI).2, (unhide HI).1, (unhide HCC).2.1⟩, by simp [intOf]; omega⟩
      · rw [decide_eq_false hE]
        have hI := (unhide HL).2.2.2.2.2.2.2.2.2.2.2.2.2.2.1
        rw [if_neg hE] at hI
        have HI := hide hI
        clear hI hE
        generalize hJN : JA.length = JN at *
        generalize hHN : HV.length = HN at *
        go_wp2_with fail
        go_returns
        refine ⟨⟨(fun a b h => ?_), (fun h => ?_)⟩, (unhide HCC).2.1⟩
        · rw [← unhide HI] at h
          cases h
          rw [hJN, hHN]
          exact ⟨ja, jc, ho, hc', rfl, (unhide HB).2.1.fr0 (unhide HCC).2.2, (unhide HB).1.fr0 (unhide HCC).2.2⟩
        · rw [← unhide HI] at h
          cases h
    · have hkN : k = SN := by omega
      have hlt' : ¬ (k : Int) < (SN : Int) := by omega
      have hd : ts.drop k = [] := List.drop_eq_nil_of_le (by omega)
      rw [hd] at hI
      obtain ⟨xo', xc', rfl⟩ := hp.form
      have HE := hide (And.intro hI hF)
      clear hI hF hp hc hB hn h2 hd
      go_wp2_with fail
      go_returns
      have hI : (none : Option (List Nat × List Nat)) = U := (unhide HE).1
      exact ⟨⟨(fun a b h => by rw [← hI] at h; cases h), (fun _ => rfl)⟩, (unhide HE).2⟩
end Go.Proofs.YtocdnomfpgdglabDoor

namespace Go.Proofs.YtocdnomfpgdglabDoor
open Go.RowKit

theorem OL.stepH {w wr w1 : World} {ao : Option Addr} {cp : Nat} {vs : List Value} {ps : List (List Nat)} (h : OL w wr ao cp vs ps) (l : List Nat) (yo : Option Addr) (yc : Nat) (hO : OB wr w1 yo yc l) (hb : ∀ v ∈ l, v < 256) (hn : vs.length < 16000000) :
    ∃ ao' cp' w2, (Builtin.append_ #[22, 22] 22 #[.slice ao vs.length cp, .slice (some ⟨w1.heap.size, 0, none⟩) 1 1]).run Tryd.prog (w1.alloc (.cells #[.slice yo l.length yc] 23)) = .ok (.slice ao' (vs.length + 1) cp') w2 ∧ OL w w2 ao' cp' (vs ++ [.slice yo l.length yc]) (ps ++ [l]) ∧
      (w1.alloc (.cells #[.slice yo l.length yc] 23)).grownBy w2 (Value.slice ao vs.length cp).ownBlock ∧ ((Value.slice ao' (vs.length + 1) cp').ownBlock = (Value.slice ao vs.length cp).ownBlock ∨ (Value.slice ao' (vs.length + 1) cp').ownBlock = some (w1.heap.size + 1)) := by
  obtain ⟨ao', cp', w2, hr, hOL⟩ := h.step l yo yc hO hb hn
  have hown : (w1.alloc (.cells #[.slice yo l.length yc] 23)).ownsRow w.heap.size 23 1 (.slice ao vs.length cp) vs.length vs := (h.fr0 (hO.fr.alloc _)).own.own
  obtain ⟨a2, c2, w3, hr2, _, hg, hat⟩ := run_app_ss (w1.alloc (.cells #[.slice yo l.length yc] 23)) w.heap.size vs.length _ (.slice (some ⟨w1.heap.size, 0, none⟩) 1 1) vs [.slice yo l.length yc] hown ⟨.inr (.inr ⟨w1.heap.size, 0, 1, rfl, fun j u hu => by
    rw [World.cell?_alloc_at _ _ _ _ (by simp)]
    match j with
    | 0 => simpa using hu
    | j + 1 => simp at hu⟩), fun u hu => by simp at hu; subst hu; exact ⟨_, _, _, rfl⟩⟩ (by simp; omega) (by have := h.own.fr.size; have := hO.fr.size; simp; omega)
  rw [hr] at hr2
  injection hr2 with e1 e2
  subst e2
  injection e1 with e1 _ e3
  subst e1 e3
  refine ⟨ao', cp', w2, hr, hOL, hg, ?_⟩
  simpa using hat
/-- What guarded has made so far. -/
structure GI (w wr : World) (es qs : List (List Nat)) (so : Option Addr) (sc : Nat) (svs : List Value) (ao : Option Addr) (ac : Nat) (avs : List Value) : Prop where
  all : OL w wr ao ac avs qs
  sho : wr.ownsRow w.heap.size 23 1 (.slice so svs.length sc) svs.length svs
  sln : svs.length = avs.length
  ne : ∀ g, (Value.slice so svs.length sc).ownBlock = some g → (Value.slice ao avs.length ac).ownBlock = some g → False
  sls : ∀ u ∈ svs, ∃ a n c, u = .slice a n c
  pre : ∀ (j : Nat) v v' e, svs[j]? = some v → avs[j]? = some v' → es[j]? = some e → ∃ g c, v = .slice (some ⟨g, 0, none⟩) e.length c ∧ v' = .slice (some ⟨g, 0, none⟩) (e.length + 9) c
theorem GI.nil (w : World) (es : List (List Nat)) : GI w w es [] none 0 [] none 0 [] :=
  ⟨OL.nil w, ⟨rfl, .inl ⟨rfl, rfl⟩⟩, rfl, (fun g h => by cases h), (fun u h => by cases h), (fun j v v' e h => by simp at h)⟩
theorem GI.fr0 {w wr wq : World} {es qs : List (List Nat)} {so : Option Addr} {sc : Nat} {svs : List Value} {ao : Option Addr} {ac : Nat} {avs : List Value} (h : GI w wr es qs so sc svs ao ac avs) (hf : Fr (fun _ => False) wr wq) : GI w wq es qs so sc svs ao ac avs :=
  ⟨h.all.fr0 hf, ownsRow_of_block h.sho (fun g hg => hf.block g (h.sho.lt g hg).2 (fun h => h)), h.sln, h.ne, h.sls, h.pre⟩
/-- One list more. -/
theorem GI.step {w wr w1 : World} {es qs : List (List Nat)} {so : Option Addr} {sc : Nat} {svs : List Value} {ao : Option Addr} {ac : Nat} {avs : List Value} (h : GI w wr es qs so sc svs ao ac avs) (l : List Nat) (g lc n : Nat) (hO : OB wr w1 (some ⟨g, 0, none⟩) lc l) (hb : ∀ v ∈ l, v < 256) (hn : avs.length < 16000000)
    (hpre : ∀ e, es[svs.length]? = some e → n = e.length ∧ l.length = e.length + 9) (L : Nat) (hL : l.length = L) :
    ∃ ao' ac' w2, (Builtin.append_ #[22, 22] 22 #[.slice ao avs.length ac, .slice (some ⟨w1.heap.size, 0, none⟩) 1 1]).run Tryd.prog (w1.alloc (.cells #[.slice (some ⟨g, 0, none⟩) L lc] 23)) = .ok (.slice ao' (avs.length + 1) ac') w2 ∧ Fr (fun _ => False) w w2 ∧
      w2.cell? ⟨match ao' with | some a => a.block | none => 0, avs.length, none⟩ = some (.slice (some ⟨g, 0, none⟩) L lc) ∧ (∃ q, ao' = some ⟨q, 0, none⟩) ∧
      ∃ so' sc' w3, (Builtin.append_ #[22, 22] 22 #[.slice so svs.length sc, .slice (some ⟨w2.heap.size, 0, none⟩) 1 1]).run Tryd.prog (w2.alloc (.cells #[.slice (some ⟨g, 0, none⟩) n lc] 23)) = .ok (.slice so' (svs.length + 1) sc') w3 ∧
      GI w w3 es (qs ++ [l]) so' sc' (svs ++ [.slice (some ⟨g, 0, none⟩) n lc]) ao' ac' (avs ++ [.slice (some ⟨g, 0, none⟩) L lc]) := by
  subst hL
  obtain ⟨ao', ac', w2, hr, hOL, hg, hat⟩ := h.all.stepH l (some ⟨g, 0, none⟩) lc hO hb hn
  have hs1 := (h.fr0 (hO.fr.alloc (.cells #[.slice (some ⟨g, 0, none⟩) l.length lc] 23))).sho
  have hslt := h.sho.lt
  have hsz := hO.fr.size
  have hs2 : w2.ownsRow w.heap.size 23 1 (.slice so svs.length sc) svs.length svs := ownsRow_of_block hs1 (fun q hq => hg.block q (hs1.lt q hq).2 (fun e => h.ne q hq e.symm))
  have hs3 : (w2.alloc (.cells #[.slice (some ⟨g, 0, none⟩) n lc] 23)).ownsRow w.heap.size 23 1 (.slice so svs.length sc) svs.length svs := hs2.alloc _
  obtain ⟨so', sc', w3, hr3, hown3, hg3, hat3⟩ := run_app_ss _ w.heap.size svs.length _ (.slice (some ⟨w2.heap.size, 0, none⟩) 1 1) svs [.slice (some ⟨g, 0, none⟩) n lc] hs3 ⟨.inr (.inr ⟨w2.heap.size, 0, 1, rfl, fun j u hu => by
    rw [World.cell?_alloc_at _ _ _ _ (by simp)]
    match j with
    | 0 => simpa using hu
    | j + 1 => simp at hu⟩), fun u hu => by simp at hu; subst hu; exact ⟨_, _, _, rfl⟩⟩ (by have := h.sln; simp; omega) (by have := hOL.own.fr.size; simp; omega)
  have hlen1 : (avs ++ [Value.slice (some ⟨g, 0, none⟩) l.length lc]).length = avs.length + 1 := by simp
  have hne2 : ∀ q, (Value.slice so svs.length sc).ownBlock = some q → (Value.slice ao' (avs.length + 1) ac').ownBlock = some q → False := fun q h1 h2 => by
    rcases hat with e | e
    · rw [e] at h2; exact h.ne q h1 h2
    · rw [e] at h2
      have := (hslt q h1).2
      simp at h2
      omega
  have hF3 : Fr (fun k => (Value.slice so svs.length sc).ownBlock = some k) w2 w3 := ((Fr.refl _ _).alloc _).grown hg3 (fun q hq => .inl hq)
  have hOL3 : OL w w3 ao' ac' (avs ++ [.slice (some ⟨g, 0, none⟩) l.length lc]) (qs ++ [l]) := by
    refine ⟨⟨ownsRow_of_block hOL.own.own (fun q hq => hF3.block q (hOL.own.own.lt q hq).2 (fun e => hne2 q e (by rw [hlen1] at hq; exact hq))), ?_⟩, hOL.len, fun j v p hv hp => ?_, hOL.apart, hOL.byt⟩
    · exact hOL.own.fr.trans hF3 (fun k hk hk2 => by have := (hslt k hk2).1; omega)
    · obtain ⟨bo, c, e, hOw⟩ := hOL.row j v p hv hp
      exact ⟨bo, c, e, ownsRow_of_block hOw (fun q hq => hF3.block q (World.ownsRow.lt hOw q hq).2 (fun e => own_ne hs2 hOw q e hq))⟩
  obtain ⟨q, rfl⟩ : ∃ q, ao' = some ⟨q, 0, none⟩ := by
    rcases hOL.own.own.2 with ⟨_, e⟩ | ⟨q, cap, cur, e, _⟩
    · rw [hlen1] at e; omega
    · simp only [Value.slice.injEq] at e
      exact ⟨q, e.1⟩
  refine ⟨_, ac', w2, hr, hOL.own.fr, ?_, ⟨q, rfl⟩, so', sc', w3, by simpa using hr3, hOL3, by rw [List.length_append]; exact hown3, by rw [List.length_append, List.length_append, h.sln]; rfl, fun q' h1 h2 => ?_, fun u hu => ?_, fun j v v' e hv hv' he => ?_⟩
  · have := hOL.own.own.cellAt avs.length (by rw [hlen1]; omega)
    rw [this, List.getElem?_append_right (Nat.le_refl _), Nat.sub_self]
    rfl
  · rw [hlen1] at h2
    rw [List.length_append] at h1
    rcases hat3 with e | e
    · rw [show svs.length + [Value.slice (some ⟨g, 0, none⟩) n lc].length = svs.length + [Value.slice (some ⟨g, 0, none⟩) n lc].length from rfl, e] at h1
      exact hne2 q' h1 h2
    · rw [e] at h1
      have := (hOL.own.own.lt q' (by rw [hlen1]; exact h2)).2
      simp at h1
      omega
  · rcases List.mem_append.1 hu with hu | hu
    · exact h.sls u hu
    · simp at hu; subst hu; exact ⟨_, _, _, rfl⟩
  · by_cases hj : j < svs.length
    · rw [List.getElem?_append_left hj] at hv
      rw [List.getElem?_append_left (by rw [← h.sln]; exact hj)] at hv'
      exact h.pre j v v' e hv hv' he
    · have hje : j = svs.length := by
        have := (List.getElem?_eq_some_iff.1 hv).1
        rw [List.length_append, List.length_singleton] at this
        omega
      subst hje
      rw [List.getElem?_append_right (Nat.le_refl _), Nat.sub_self] at hv
      rw [List.getElem?_append_right (by rw [h.sln]; exact Nat.le_refl _), h.sln, Nat.sub_self] at hv'
      simp only [List.getElem?_cons_zero, Option.some.injEq] at hv hv'
      subst hv hv'
      obtain ⟨e1, e2⟩ := hpre e he
      exact ⟨g, lc, by rw [e1], by rw [e2]⟩
end Go.Proofs.YtocdnomfpgdglabDoor

namespace Go.Proofs.YtocdnomfpgdglabDoor
open Go.RowKit

/-- Bytes and k guards. -/
def gdj (e : List Nat) (k : Nat) : List Nat := e ++ List.replicate k 77
theorem gdj_len (e : List Nat) (k : Nat) : (gdj e k).length = e.length + k := by simp [gdj]
theorem gdj_succ (e : List Nat) (k : Nat) : gdj e k ++ [77] = gdj e (k + 1) := by simp [gdj, List.replicate_succ']
theorem gdj_lt {e : List Nat} (h : ∀ v ∈ e, v < 256) (k : Nat) : ∀ v ∈ gdj e k, v < 256 := fun v hv => by
  simp only [gdj, List.mem_append, List.mem_replicate] at hv
  rcases hv with h1 | h1
  · exact h v h1
  · omega
/-- What guarded makes: the lists with guards behind each, then guards. -/
def gls (es : List (List Nat)) : List (List Nat) := es.map (fun e => gdj e 9) ++ List.replicate 9 [7]
def glk (es : List (List Nat)) (t : Nat) : List (List Nat) := es.map (fun e => gdj e 9) ++ List.replicate t [7]
theorem glk_succ (es : List (List Nat)) (t : Nat) : glk es t ++ [[7]] = glk es (t + 1) := by simp [glk, List.replicate_succ']
set_option maxRecDepth 100000 in
set_option maxHeartbeats 1000000 in
theorem mguarded_any (x : Value) (vs : List Value) (es : List (List Nat)) (w : World) (hp : Pcs w x vs es) (hB : ∀ e ∈ es, e.length ≤ 4000000) (hn : es.length ≤ 8000000) :
    Calls Tryd.prog 8 #[x] w fun e w' => ∃ so sc svs ao ac avs, e = .returned (.tuple #[.slice so es.length sc, .slice ao (es.length + 9) ac]) ∧ svs.length = es.length + 9 ∧ GI w w' es (gls es) so sc svs ao ac avs := by
  obtain ⟨xo, xc, rfl⟩ := hp.form
  have HG := hide (And.intro hp (And.intro hB hn))
  clear hp hB hn
  generalize hN : es.length = N at *
  go_enter Tryd.func8, Tryd.ntmps8
  go_wp2_with fail
  go_loopw [4, 5, 6] (fun sv av iv wr => ∃ (k : Nat) (so : Option Addr) (sc : Nat) (svs : List Value) (ao : Option Addr) (ac : Nat) (avs : List Value), k ≤ N ∧ iv = .int .i64 (k : Nat) ∧ sv = .slice so k sc ∧ av = .slice ao k ac ∧ svs.length = k ∧ GI w wr es ((es.take k).map fun e => gdj e 9) so sc svs ao ac avs) (fun _ _ iv _ => N - (intOf iv).toNat)
  case atStart => exact ⟨0, none, 0, [], none, 0, [], Nat.zero_le _, rfl, rfl, rfl, rfl, GI.nil w es⟩
  case round =>
    obtain ⟨k, so, sc, svs, ao, ac, avs, hk, rfl, rfl, rfl, hsl, hI⟩ := hrel
    have hN8 := (unhide HG).2.2
    by_cases hlt : k < N
    · have hlt' : (k : Int) < (N : Int) := by omega
      have hke : k < es.length := by omega
      have hF := hI.all.own.fr
      obtain ⟨g, o, vo, vc, rfl, hcw, hSw⟩ := (unhide HG).1.nth (Fr.refl _ _) k hke
      have hcell := (hF.cell (p := ⟨g, o + k, none⟩) (lt_of_cell hcw) (fun h => h)).trans hcw
      have hS := hSw.fr0 hF
      have hgl : g < wr.heap.size := lt_of_cell hcell
      have hel := (unhide HG).2.1 es[k] (List.getElem_mem hke)
      have htk : (es.take (k + 1)).map (fun e => gdj e 9) = (es.take k).map (fun e => gdj e 9) ++ [gdj es[k] 9] := by
        rw [List.take_add_one, List.getElem?_eq_getElem hke, Option.toList_some, List.map_append]; rfl
      have hek : es[k]? = some es[k] := List.getElem?_eq_getElem hke
      generalize es[k] = e at *
      generalize hE : e.length = E at *
      obtain ⟨w1, hr1, ho1, hF1⟩ := make0 (E + 9) wr (by omega)
      have hO1 : OB wr w1 (some ⟨wr.heap.size, 0, none⟩) (E + 9) [] := ⟨ho1, hF1⟩
      have c1 := (hF1.cell (p := ⟨g, o + k, none⟩) hgl (fun h => h)).trans hcell
      obtain ⟨a2, c2, w2, hr2, hO2⟩ := hO1.app _ e (hS.s.fr0 hF1) (by rw [hE]; simp; omega)
      have hO2' : OB wr w2 a2 c2 (gdj e 0) := by simpa [gdj] using hO2
      have e2 : (([] : List Nat) ++ e).length = E := hE
      rw [e2] at hr2
      have HR1 := hide (show (Instr.makeSlice 23 (.int .i64 0) (.int .i64 ((E : Int) + 9))).run Tryd.prog wr = .ok (.slice (some ⟨wr.heap.size, 0, none⟩) 0 (E + 9)) w1 from hr1)
      have HR2 := hide hr2
      have HI := hide (And.intro hI (And.intro hO2' (And.intro htk (And.intro hek (And.intro hS (And.intro hcw hgl))))))
      clear hcw hSw hI hO2' htk hek hS hr1 hr2 ho1 hF1 hO1 hO2 e2 hF
      have r0 : IntKind.i64.wrap ((E : Int) + 9) = (E : Int) + 9 := by rw [IntKind.wrap_i64]; omega
      have hr1 := unhide HR1
      go_wp2_with (first | (at_builtin; refine wpList_app rfl (.tmp 23) (.tmp 27) 23 23 rfl _ _ _ rfl rfl (unhide HR2) ?_))
      clear hr1 c1 hcell
      go_loopw [7, 8] (fun lv jv wq => ∃ (t : Nat) (lo : Option Addr) (lc : Nat), t ≤ 9 ∧ jv = .int .i64 (t : Nat) ∧ lv = .slice lo (E + t) lc ∧ OB wr wq lo lc (gdj e t)) (fun _ jv _ => 9 - (intOf jv).toNat)
      case atStart => exact ⟨0, a2, c2, Nat.zero_le _, rfl, rfl, (unhide HI).2.1⟩
      case round =>
        obtain ⟨t, lo, lc, ht, rfl, rfl, hO⟩ := hrel
        rename World => wq
        by_cases hl9 : t < 9
        · have hl9' : (t : Int) < 9 := by omega
          have hlp : (gdj e t).length = E + t := by rw [gdj_len, hE]
          obtain ⟨a4, c4, w4, hr4, hO4⟩ := hO.app1 77 (by decide) (by rw [hlp]; omega)
          rw [List.length_append, hlp] at hr4
          rw [gdj_succ] at hO4
          have HR4 := hide hr4
          have HO4 := hide hO4
          clear hr4 hO4 hlp hO
          go_wp2_with (at_builtin; refine wpList_app rfl (.tmp 33) (.tmp 34) 23 23 rfl _ _ _ rfl rfl (unhide HR4) ?_)
          exact ⟨⟨t + 1, _, _, by omega, by go_num, rfl, unhide HO4⟩, by simp [intOf]; omega⟩
        · have hte : t = 9 := by omega
          subst hte
          have hl9' : ¬ (9 : Int) < 9 := by decide
          obtain ⟨hI, _, htk, hek, hS, hcell, hgl2⟩ := unhide HI
          obtain ⟨gg, rfl, hg1, hg2, hcap, _⟩ := hO.at_ (by rw [gdj_len]; omega)
          have hlp : (gdj e 9).length = E + 9 := by rw [gdj_len, hE]
          rw [hlp] at hcap
          have hal : avs.length = k := by rw [← hI.sln]; exact hsl
          obtain ⟨ao', ac', w5, hr5, hF5, hc5, ⟨qb, rfl⟩, so', sc', w6, hr6, hI6⟩ := hI.step (gdj e 9) gg lc E hO (gdj_lt hS.b 9) (by omega) (fun e' he' => by
            rw [hsl, hek] at he'
            cases he'
            exact ⟨hE.symm, by rw [hlp, hE]⟩) (E + 9) hlp
          rw [hal] at hr5
          rw [hsl] at hr6
          rw [← htk] at hI6
          have c5 : w5.cell? ⟨g, o + k, none⟩ = some (.slice vo E vc) := (hF5.cell (p := ⟨g, o + k, none⟩) (lt_of_cell hcell) (fun h => h)).trans hcell
          have HR5 := hide hr5
          have HR6 := hide hr6
          have H6 := hide (And.intro hI6 hsl)
          clear hr5 hr6 hI6 hI htk hek hS hcell hO hF5 hc5 hlp hal
          have hE9 : (E : Int) ≤ (lc : Int) := by omega
          go_wp2_with (first | (at_builtin; refine wpList_app rfl (.tmp 36) (.tmp 38) 22 22 rfl _ _ _ rfl rfl (unhide HR5) ?_) | (at_builtin; refine wpList_app rfl (.tmp 40) (.tmp 48) 22 22 rfl _ _ _ rfl rfl (unhide HR6) ?_))
          exact ⟨⟨k + 1, so', sc', _, _, ac', _, by omega, by go_num, rfl, rfl, by rw [List.length_append, (unhide H6).2]; rfl, (unhide H6).1⟩, by simp [intOf]; omega⟩
    · have hkN : k = N := by omega
      have hlt' : ¬ (k : Int) < (N : Int) := by omega
      have htk : es.take k = es := List.take_of_length_le (by omega)
      rw [htk] at hI
      have hI0 : GI w wr es (glk es 0) so sc svs ao ac avs := by simpa [glk] using hI
      have HI := hide (And.intro hI0 (And.intro hsl hkN))
      clear hI hI0 htk hkN hsl
      go_wp2_with fail
      go_loopw [4, 5, 9] (fun sv av jv wq => ∃ (t : Nat) (so : Option Addr) (sc : Nat) (svs : List Value) (ao : Option Addr) (ac : Nat) (avs : List Value), t ≤ 9 ∧ jv = .int .i64 (t : Nat) ∧ sv = .slice so (k + t) sc ∧ av = .slice ao (k + t) ac ∧ svs.length = k + t ∧ GI w wq es (glk es t) so sc svs ao ac avs) (fun _ _ jv _ => 9 - (intOf jv).toNat)
      case atStart => exact ⟨0, so, sc, svs, ao, ac, avs, Nat.zero_le _, rfl, rfl, rfl, (unhide HI).2.1, (unhide HI).1⟩
      case round =>
        obtain ⟨t, so, sc, svs, ao, ac, avs, ht, rfl, rfl, rfl, hsl, hI⟩ := hrel
        rename World => wq
        have hkN := (unhide HI).2.2
        by_cases hl9 : t < 9
        · have hl9' : (t : Int) < 9 := by omega
          have hal : avs.length = k + t := by rw [← hI.sln]; exact hsl
          obtain ⟨ao', ac', w5, hr5, hF5, hc5, ⟨qb, rfl⟩, so', sc', w6, hr6, hI6⟩ := hI.step [7] wq.heap.size 1 1 (ob_lit1 wq 7 (by decide)) (by decide) (by omega) (fun e' he' => by
            have := (List.getElem?_eq_some_iff.1 he').1
            omega) 1 rfl
          rw [hal] at hr5 hc5
          rw [hsl] at hr6
          rw [glk_succ] at hI6
          have e7 : ((7 : Nat) : Int) = 7 := rfl
          have hz : (wq.alloc (.cells #[.int .u8 7] 5)).heap.size = wq.heap.size + 1 := by simp
          simp only [e7, hz] at hr5
          clear e7 hz
          have HR5 := hide hr5
          have HR6 := hide hr6
          have H6 := hide (And.intro hI6 hsl)
          clear hr5 hr6 hI6 hI hF5 hal hsl hkN
          have r1 : IntKind.i64.wrap ((k : Int) + (t : Int) + 1 - 1) = (k : Int) + (t : Int) := by rw [IntKind.wrap_i64]; omega
          simp only at hc5
          go_wp2_with (first | (at_builtin; refine wpList_app rfl (.tmp 54) (.tmp 56) 22 22 rfl _ _ _ rfl rfl (unhide HR5) ?_) | (at_builtin; refine wpList_app rfl (.tmp 58) (.tmp 65) 22 22 rfl _ _ _ rfl rfl (unhide HR6) ?_))
          exact ⟨⟨t + 1, so', sc', _, _, ac', _, by omega, by go_num, rfl, rfl, by rw [List.length_append, (unhide H6).2]; rfl, (unhide H6).1⟩, by simp [intOf]; omega⟩
        · have hte : t = 9 := by omega
          subst hte
          have hl9' : ¬ (9 : Int) < 9 := by decide
          have hcp : k ≤ sc := by
            rcases hI.sho.2 with ⟨e, e2⟩ | ⟨g, cap, cur, e, _, _, h3, _⟩
            · omega
            · simp only [Value.slice.injEq, true_and] at e
              rw [e.2]; omega
          have hI' : GI w wq es (gls es) so sc svs ao ac avs := hI
          have H6 := hide (And.intro hI' (And.intro hsl hkN))
          clear hI hI' hsl hkN
          have hcp' : (k : Int) ≤ (sc : Int) := by omega
          go_wp2_with fail
          go_returns
          obtain ⟨h1, h2, h3⟩ := unhide H6
          subst h3
          exact ⟨so, sc, svs, ao, ac, rfl, h2, avs, h1⟩
end Go.Proofs.YtocdnomfpgdglabDoor

namespace Go.Proofs.YtocdnomfpgdglabDoor
open Go.RowKit

theorem gls_len (es : List (List Nat)) : (gls es).length = es.length + 9 := by simp [gls]
theorem gls_lo (es : List (List Nat)) (i : Nat) (h : i < es.length) : (gls es)[i]'(by rw [gls_len]; omega) = gdj es[i] 9 := by
  simp only [gls]
  rw [List.getElem_append_left (by simpa using h)]
  simp
theorem gls_hi (es : List (List Nat)) (i : Nat) (h : es.length ≤ i) (h2 : i < es.length + 9) : (gls es)[i]'(by rw [gls_len]; omega) = [7] := by
  simp only [gls]
  rw [List.getElem_append_right (by simpa using h), List.getElem_replicate]
theorem gdj_at (m : List Nat) (k j : Nat) (hj : j < m.length + k) : (gdj m k).getD j 0 = if j < m.length then m.getD j 0 else 77 := by
  rw [gdj, List.getD, List.getD]
  by_cases h : j < m.length
  · rw [if_pos h, List.getElem?_append_left h]
  · rw [if_neg h, List.getElem?_append_right (by omega), List.getElem?_replicate, if_pos (by omega)]; rfl
set_option maxRecDepth 100000 in
set_option maxHeartbeats 1000000 in
theorem mleft_any (x y z : Value) (vs us ts : List Value) (es : List (List Nat)) (w : World) (hx : Pcs w x vs es) (hy : Pcs w y us es) (hz : Pcs w z ts (gls es)) (hB : ∀ e ∈ es, e.length ≤ 4000000) (hn : es.length ≤ 8000000) :
    Calls Tryd.prog 12 #[x, y, z] w fun e w' => e = .returned (.bool true) ∧ Fr (fun _ => False) w w' := by
  obtain ⟨xo, xc, rfl⟩ := hx.form
  obtain ⟨yo, yc, rfl⟩ := hy.form
  obtain ⟨zo, zc, rfl⟩ := hz.form
  rw [gls_len] at hz ⊢
  have HG := hide (And.intro hx (And.intro hy (And.intro hz (And.intro hB hn))))
  clear hx hy hz hB hn
  generalize hN : es.length = N at *
  go_enter Tryd.func12, Tryd.ntmps12
  go_wp2_with fail
  go_loopw [7] (fun iv wr => ∃ (i q : Nat), i ≤ N + 9 ∧ iv = .int .i64 (i : Nat) ∧ wr = w.drewN q) (fun iv _ => N + 9 - (intOf iv).toNat)
  case atStart => exact ⟨0, 0, Nat.zero_le _, rfl, rfl⟩
  case round =>
    obtain ⟨i, q, hi, rfl, rfl⟩ := hrel
    have hN8 := (unhide HG).2.2.2.2
    by_cases hlt : i < N + 9
    · have hlt' : (i : Int) < (N : Int) + 9 := by omega
      obtain ⟨gz, oz, ao, ac, rfl, cz, sz⟩ := (unhide HG).2.2.1.nth (Fr.refl _ _) i (by rw [gls_len, hN]; exact hlt)
      by_cases hiN : i < N
      · have hiN' : ¬ (N : Int) ≤ (i : Int) := by omega
        have hiN2 : ¬ N ≤ i := by omega
        have hie : i < es.length := by omega
        obtain ⟨gx, ox, bo, bc, rfl, cx, sx⟩ := (unhide HG).1.nth (Fr.refl _ _) i hie
        obtain ⟨gy, oy, so, sc, rfl, cy, -⟩ := (unhide HG).2.1.nth (Fr.refl _ _) i hie
        rw [gls_lo es i hie] at cz sz
        rw [gdj_len] at cz sz
        have hel := (unhide HG).2.2.2.1 es[i] (List.getElem_mem hie)
        generalize es[i] = e at *
        have HS := hide (And.intro sz sx)
        clear sz sx
        generalize hE : e.length = E at *
        have hiN3 : (i : Int) < (N : Int) := by omega
        go_wp2_with fail
        go_quiet (fail)
        go_wp2_with fail
        go_loopw [8] (fun jv wq => ∃ (j p : Nat), j ≤ E + 9 ∧ jv = .int .i64 (j : Nat) ∧ wq = w.drewN p) (fun jv _ => E + 9 - (intOf jv).toNat)
        case atStart => exact ⟨0, q + nq, Nat.zero_le _, rfl, by rw [World.drewN_drewN]⟩
        case round =>
          obtain ⟨j, p, hj, rfl, rfl⟩ := hrel
          by_cases hjl : j < E + 9
          · have hjl' : (j : Int) < (E : Int) + 9 := by omega
            obtain ⟨g1, o1, rfl, b1⟩ := src_cell (unhide HS).1.s j (by rw [gdj_len, hE]; exact hjl) (unhide HS).1.b
            rw [gdj_at e 9 j (by rw [hE]; exact hjl), hE] at b1
            by_cases hjE : j < E
            · rw [if_pos hjE] at b1
              obtain ⟨g2, o2, rfl, b2⟩ := src_cell (unhide HS).2.s j (by rw [hE]; exact hjE) (unhide HS).2.b
              have hjE' : (j : Int) < (E : Int) := by omega
              have hjE2 : ¬ (E : Int) ≤ (j : Int) := by omega
              have hjE3 : ¬ E ≤ j := by omega
              generalize e.getD j 0 = v at *
              go_wp2_with fail
              go_quiet (fail)
              go_wp2_with fail
              exact ⟨⟨j + 1, p + nq, by omega, by go_num, rfl⟩, by simp [intOf]; omega⟩
            · rw [if_neg hjE] at b1
              have hjE' : ¬ (j : Int) < (E : Int) := by omega
              have hjE2 : (E : Int) ≤ (j : Int) := by omega
              go_wp2_with fail
              go_quiet (fail)
              go_wp2_with fail
              exact ⟨⟨j + 1, p + nq, by omega, by go_num, rfl⟩, by simp [intOf]; omega⟩
          · have hjl' : ¬ (j : Int) < (E : Int) + 9 := by omega
            go_wp2_with fail
            exact ⟨⟨i + 1, p, by omega, by go_num, rfl⟩, by simp [intOf]; omega⟩
      · have hiN' : (N : Int) ≤ (i : Int) := by omega
        rw [gls_hi es i (by omega) (by omega)] at cz sz
        obtain ⟨g1, o1, rfl, b1⟩ := src_cell sz.s 0 (by decide) sz.b
        have b2 : w.cell? ⟨g1, o1, none⟩ = some (.int .u8 7) := b1
        clear b1 sz
        simp only [List.length_singleton] at cz
        go_wp2_with fail
        exact ⟨⟨i + 1, q, by omega, by go_num, rfl⟩, by simp [intOf]; omega⟩
    · have hlt' : ¬ (i : Int) < (N : Int) + 9 := by omega
      go_wp2_with fail
      go_ret
      exact ⟨rfl, (Fr.refl _ _).drewN q⟩
end Go.Proofs.YtocdnomfpgdglabDoor

namespace Go.Proofs.YtocdnomfpgdglabDoor
open Go.RowKit

theorem GI.pcsA {w wr : World} {es qs : List (List Nat)} {so : Option Addr} {sc : Nat} {svs : List Value} {ao : Option Addr} {ac : Nat} {avs : List Value} (h : GI w wr es qs so sc svs ao ac avs) : Pcs wr (.slice ao avs.length ac) avs qs := h.all.pcs
theorem GI.pcsS {w wr : World} {es : List (List Nat)} {so : Option Addr} {sc : Nat} {svs : List Value} {ao : Option Addr} {ac : Nat} {avs : List Value} (h : GI w wr es (gls es) so sc svs ao ac avs) (hl : svs.length = es.length + 9) (hb : ∀ e ∈ es, ∀ v ∈ e, v < 256) : Pcs wr (.slice so es.length sc) (svs.take es.length) es ∧ Cp (.slice so es.length sc) := by
  have hal : avs.length = es.length + 9 := by rw [← h.sln]; exact hl
  obtain ⟨gs, rfl⟩ : ∃ g, so = some ⟨g, 0, none⟩ := by
    rcases h.sho.2 with ⟨_, e⟩ | ⟨g, cap, cur, e, _⟩
    · omega
    · simp only [Value.slice.injEq] at e
      exact ⟨g, e.1⟩
  have hsc : svs.length ≤ sc := by
    rcases h.sho.2 with ⟨e, _⟩ | ⟨g, cap, cur, e, _, _, h3, _⟩
    · simp at e
    · simp only [Value.slice.injEq, true_and] at e
      rw [e.2]; exact h3
  have hlt := (h.sho.lt gs rfl).2
  have htl : (svs.take es.length).length = es.length := by rw [List.length_take]; omega
  refine ⟨⟨htl, .inr (.inr ⟨gs, 0, sc, by rw [htl], hlt, fun j v hv => ?_⟩), fun j v p hv hp => ?_, hb⟩, fun _ _ _ e => by cases e; omega⟩
  · rw [List.getElem?_take] at hv
    split at hv
    · rename_i hj
      rw [Nat.zero_add, h.sho.cellAt j (by omega)]; exact hv
    · cases hv
  · rw [List.getElem?_take] at hv
    split at hv
    · rename_i hj
      have hpe : es[j] = p := by
        rw [List.getElem?_eq_getElem hj] at hp
        exact Option.some.inj hp
      have hv' : avs[j]? = some (avs[j]'(by omega)) := List.getElem?_eq_getElem _
      obtain ⟨g, c, e1, e2⟩ := h.pre j v _ p hv hv' hp
      obtain ⟨bo, c', e3, hO⟩ := h.all.row j _ _ hv' (List.getElem?_eq_getElem (l := gls es) (by rw [gls_len]; omega))
      rw [gls_lo es j hj, hpe] at e3 hO
      rw [e2] at e3
      simp only [Value.slice.injEq] at e3
      obtain ⟨rfl, _, rfl⟩ := e3
      have hbp : ∀ v ∈ gdj p 9, v < 256 := gdj_lt (hb p (List.mem_of_getElem? hp)) 9
      have hs := hO.part 0 p.length (by rw [gdj_len]; omega) hbp
      have ee : ((gdj p 9).drop 0).take p.length = p := by rw [List.drop_zero, gdj, List.take_left]
      rw [ee, Nat.sub_zero] at hs
      rw [e1]
      exact ⟨hs.s, hs.cap, hs.lt⟩
    · cases hv
/-- The root, whatever the width. -/
def mr (j : Int) (es : List (List Nat)) : List Nat := if 1 ≤ j ∧ j ≤ 32 then mth j (es.map (lf j)) else []
theorem mr_lt (j : Int) (es : List (List Nat)) : ∀ v ∈ mr j es, v < 256 := by
  unfold mr
  split
  · exact mth_lt _ _ _ (Nat.le_refl _) (fun p hp => by
      obtain ⟨e, _, rfl⟩ := List.mem_map.1 hp
      exact lf_lt _ _)
  · intro v h; cases h
theorem mr_len (j : Int) (es : List (List Nat)) : (mr j es).length ≤ 32 := by
  unfold mr
  split
  · rename_i h
    obtain ⟨wi, rfl⟩ : ∃ k : Nat, j = (k : Int) := ⟨j.toNat, by omega⟩
    rw [mth_wid wi (by omega) (by omega) _ (map_lf_len wi (by omega) (by omega) es)]; omega
  · exact Nat.zero_le _
theorem mrootU (j : Int) (x : Value) (us : List Value) (es : List (List Nat)) (w : World) (hg : GS w) (ht : GT w) (hp : Pcs w x us es) (hB : ∀ e ∈ es, e.length ≤ 16000000) (hn : es.length ≤ 8000000) :
    Calls Tryd.prog 17 #[.int .i64 j, x] w fun e w' => ∃ yo yc, e = .returned (.slice yo (mr j es).length yc) ∧ OB w w' yo yc (mr j es) := by
  by_cases h : 1 ≤ j ∧ j ≤ 32
  · obtain ⟨wi, rfl⟩ : ∃ k : Nat, j = (k : Int) := ⟨j.toNat, by omega⟩
    have := mroot_in wi (by omega) (by omega) x us es w hg ht hp hB hn
    have hm := mth_wid wi (by omega) (by omega) _ (map_lf_len wi (by omega) (by omega) es)
    rw [mr, if_pos h, hm]
    exact this
  · refine (mroot_out j (by omega) x us es w hp hn).mono ?_
    rintro e w' ⟨rfl, hF⟩
    rw [mr, if_neg h]
    exact ⟨none, 0, rfl, own_nil _ _, hF⟩
set_option maxRecDepth 100000 in
theorem groot_out (i : Int) (x : Value) (w : World) (h : i < 1 ∨ 32 < i) : Calls Tryd.prog 68 #[.int .i64 i, x] w fun e w' => e = .returned (.slice none 0 0) ∧ w' = w := by
  go_enter Tryd.func68, Tryd.ntmps68
  go_wp2_with fail
  refine (may_no i w h).mono ?_
  rintro e w0 ⟨rfl, rfl⟩
  go_wp2_with fail
  go_ret
  exact ⟨rfl, rfl⟩
theorem grootU (j : Int) (x : Value) (vs : List Value) (es : List (List Nat)) (w : World) (hr : GR w) (hp : Pcs w x vs es) (hB : ∀ e ∈ es, e.length ≤ 4000000) (hn : es.length ≤ 8000000) :
    Calls Tryd.prog 68 #[.int .i64 j, x] w fun e w' => ∃ yo yc, e = .returned (.slice yo (mr j es).length yc) ∧ Sl w' (.slice yo (mr j es).length yc) (mr j es) ∧ Fr (fun _ => False) w w' := by
  by_cases h : 1 ≤ j ∧ j ≤ 32
  · rw [mr, if_pos h]
    exact groot_any j x vs es w hr hp hB hn h.1 h.2
  · refine (groot_out j x w (by omega)).mono ?_
    rintro e w' ⟨rfl, rfl⟩
    rw [mr, if_neg h]
    exact ⟨none, 0, rfl, sl_nil _, Fr.refl _ _⟩
theorem OB.ptr {w wr : World} {xo : Option Addr} {cp : Nat} {l : List Nat} (h : OB w wr xo cp l) : l = [] ∨ ∃ g, xo = some ⟨g, 0, none⟩ ∧ w.heap.size ≤ g ∧ g < wr.heap.size := by
  rcases h.own.2 with ⟨e, e2⟩ | ⟨g, cap, cur, e, _⟩
  · exact .inl (List.length_eq_zero_iff.1 e2)
  · simp only [Value.slice.injEq] at e
    obtain ⟨rfl, _⟩ := e
    exact .inr ⟨g, rfl, h.own.lt g rfl⟩
end Go.Proofs.YtocdnomfpgdglabDoor

namespace Go.Proofs.YtocdnomfpgdglabDoor
open Go.RowKit

theorem grown_T (wi : Nat) (hw1 : 1 ≤ wi) (hw32 : wi ≤ 32) (x : Value) (us : List Value) (es : List (List Nat)) (w : World) (hg : GS w) (ht : GT w) (hp : Pcs w x us es) (hB : ∀ e ∈ es, e.length ≤ 16000000) (hn : es.length ≤ 8000000) :
    Calls Tryd.prog 34 #[.int .i64 wi, x] w fun e w' => ∃ tb, e = .returned (.pointer (some ⟨tb, 0, none⟩)) ∧ Tk w' tb wi (es.map (lf wi)) ∧ Fr (fun _ => False) w w' := by
  refine (grown_in wi hw1 hw32 x us es w hg hp hB hn).mono ?_
  rintro e w' ⟨rfl, xo, cp, vs, rs, hT, hR, hF⟩
  exact ⟨_, rfl, tk_of hw1 hw32 hT hR hg ht hF hn, hF⟩
theorem troot_S (tb wi : Nat) (hw1 : 1 ≤ wi) (hw32 : wi ≤ 32) (L : List (List Nat)) (n : Nat) (w : World) (hT : Tk w tb wi L) (hn : n ≤ L.length) :
    Calls Tryd.prog 32 #[.pointer (some ⟨tb, 0, none⟩), .int .i64 n] w fun e w' => ∃ yo yc, e = .returned (.tuple #[.slice yo wi yc, .int .i64 0]) ∧ Sl w' (.slice yo wi yc) (mth wi (blk L 0 n)) ∧ Fr (fun _ => False) w w' := by
  refine (troot_in tb wi hw1 hw32 L n w hT hn).mono ?_
  rintro e w' ⟨yo, yc, rfl, hO⟩
  have hs := hO.sl (hT.mb 0 n)
  rw [hT.mw hw1 hw32 0 n] at hs
  exact ⟨yo, yc, rfl, hs, hO.fr⟩
/-- What CollidePath tells. -/
def cpR (j : Int) (es : List (List Nat)) (i : Int) (leaf : List Nat) (ps : List (List Nat)) : Option (List Nat × List Nat) :=
  if chkP j leaf i es.length ps (mr j es) = true ∧ ¬ leaf = (es.map (lf j)).getD i.toNat [] then cld j.toNat (es.map (lf j)) leaf 0 es.length i.toNat 1 ps else none
/-- What a taken path says. -/
theorem chkP_says {j i n : Int} {leaf root : List Nat} {ps : List (List Nat)} (h : chkP j leaf i n ps root = true) : (1 ≤ j ∧ j ≤ 32) ∧ 0 ≤ i ∧ i < n ∧ (leaf.length : Int) = j ∧ (root.length : Int) = j ∧ (∀ p ∈ ps, (p.length : Int) = j) ∧ ps.length = dep 0 n.toNat i.toNat 1 ∧ topv j.toNat leaf 0 n.toNat i.toNat 1 ps = root := by
  unfold chkP at h
  simp only [Bool.and_eq_true, decide_eq_true_eq] at h
  obtain ⟨h1, h2, h3, h4, h5, h6, h7⟩ := h
  exact ⟨h1, h2, h3, wdq_true h4 leaf (by simp), wdq_true h4 root (by simp), wdq_true h5, h6, h7⟩
/-- Where a path is taken for another leaf, two texts come out. -/
theorem cpR_some (wi I : Nat) (es : List (List Nat)) (leaf : List Nat) (ps : List (List Nat)) (h : chkP wi leaf I es.length ps (mth wi (es.map (lf wi))) = true) (hne : ¬ leaf = (es.map (lf wi)).getD I []) : ∃ a b, cld wi (es.map (lf wi)) leaf 0 es.length I 1 ps = some (a, b) ∧ a ≠ b ∧ sm wi a = sm wi b := by
  obtain ⟨h1, h2, h3, h4, h5, h6, h7, h8⟩ := chkP_says h
  simp only [Int.toNat_natCast] at h7 h8
  have hll : (es.map (lf (wi : Int))).length = es.length := List.length_map _
  have hb : blk (es.map (lf (wi : Int))) 0 es.length = es.map (lf wi) := by rw [← hll]; exact blk_all _
  have hI : I < es.length := by omega
  rcases cld_ok wi (by omega) (by omega) (es.map (lf wi)) (map_lf_len wi (by omega) (by omega) es) leaf (by omega) es.length 0 es.length I 1 ps (Nat.le_refl _) (by omega) (rch_one _ 0 es.length I (Nat.le_refl _) (by omega) (by omega)) h7 (fun p hp => by have := h6 p hp; omega) (by rw [hb]; exact h8) with ⟨-, q2, -⟩ | q
  · exfalso
    apply hne
    rw [q2, blk, List.drop_eq_getElem_cons (by omega), List.take_succ_cons, List.take_zero, mth_one, List.getD, List.getElem?_eq_getElem (by omega)]
    rfl
  · exact q
set_option maxRecDepth 100000 in
set_option maxHeartbeats 2000000 in
/-- merkle.CollidePath: no width. -/
theorem mcpath_out (j i : Int) (hj : j < 1 ∨ 32 < j) (x : Value) (us : List Value) (es : List (List Nat)) (lv : Value) (leaf : List Nat) (pv' : Value) (vs : List Value) (ps : List (List Nat)) (w : World) (hg : GS w) (hp : Pcs w x us es) (hn : es.length ≤ 8000000) (hl : Sl w lv leaf) (hP : Pcs w pv' vs ps) (hC : Cp pv') (hps : ps.length ≤ 8000000) :
    Calls Tryd.prog 9 #[.int .i64 j, x, .int .i64 i, lv, pv'] w fun e w' => e = .returned (.tuple #[.slice none 0 0, .slice none 0 0, .bool false]) ∧ Fr (fun _ => False) w w' := by
  have hgr := grown_out j hj x us es w hp hn
  have htr : ∀ (w' : World) (tb base : Nat) xo cp vs rs, TrAt w' base tb j es.length xo cp vs rs → Calls Tryd.prog 32 #[.pointer (some ⟨tb, 0, none⟩), .int .i64 es.length] w' fun e w'' => e = .returned (.tuple #[.slice none 0 0, .int .i64 1]) ∧ w'' = w' := fun w' tb base xo cp vs rs hT =>
    troot_no tb es.length j es.length w' hT.cells.1 hT.cells.2.1 (by omega)
  have hck := fun w' (hf' : Fr (fun _ => False) w w') => checkPath_any j i es.length lv (.slice none 0 0) pv' leaf [] vs ps w' (hg.fr0 hf') (hl.fr0 hf') (sl_nil _) (hP.fr0 hf') hC (by omega) (by omega)
  have hB : chkP j leaf i es.length ps [] = false := by rw [chkP, decide_eq_false (by omega)]; rfl
  rw [hB] at hck
  obtain ⟨xo, xc, rfl⟩ := hp.form
  obtain ⟨lo, lc, rfl⟩ := hl.form
  obtain ⟨po, pc, rfl⟩ := hP.form
  have HG := hide (And.intro hgr (And.intro htr hck))
  clear hgr htr hck hp hl hP hC hg
  generalize es.length = N at *
  generalize leaf.length = LN at *
  generalize ps.length = PN at *
  go_enter Tryd.func9, Tryd.ntmps9
  go_wp2_with fail
  refine (unhide HG).1.mono ?_
  rintro e w1 ⟨rfl, hT, hF⟩
  have H1 := hide (And.intro hT hF)
  clear hF hT
  generalize w.heap.size = TB at *
  go_wp2_with fail
  refine ((unhide HG).2.1 w1 TB _ _ _ _ _ (unhide H1).1).mono ?_
  rintro e w2 ⟨rfl, rfl⟩
  go_wp2_with fail
  refine ((unhide HG).2.2 _ (unhide H1).2).mono ?_
  rintro e w3 ⟨rfl, hF3⟩
  have H3 := hide ((unhide H1).2.trans hF3 (fun _ _ h => h))
  clear hF3
  go_wp2_with fail
  go_returns
  exact ⟨rfl, unhide H3⟩
set_option maxRecDepth 100000 in
set_option maxHeartbeats 2000000 in
/-- merkle.CollidePath. -/
theorem mcpath_in (wi : Nat) (hw1 : 1 ≤ wi) (hw32 : wi ≤ 32) (i : Int) (x : Value) (us : List Value) (es : List (List Nat)) (lv : Value) (leaf : List Nat) (pv' : Value) (vs : List Value) (ps : List (List Nat)) (w : World) (hg : GS w) (ht : GT w) (hp : Pcs w x us es) (hB : ∀ e ∈ es, e.length ≤ 16000000) (hn : es.length ≤ 8000000) (hl : Sl w lv leaf) (hP : Pcs w pv' vs ps) (hC : Cp pv') (hps : ps.length ≤ 8000000) :
    Calls Tryd.prog 9 #[.int .i64 wi, x, .int .i64 i, lv, pv'] w fun e w' => Told w' e (cpR wi es i leaf ps) ∧ Fr (fun _ => False) w w' := by
  have hll : (es.map (lf (wi : Int))).length = es.length := List.length_map _
  have hbk : blk (es.map (lf (wi : Int))) 0 es.length = es.map (lf wi) := by rw [← hll]; exact blk_all _
  have hgr := grown_T wi hw1 hw32 x us es w hg ht hp hB hn
  have htr := fun tb w' (hT : Tk w' tb wi (es.map (lf wi))) => troot_S tb wi hw1 hw32 (es.map (lf wi)) es.length w' hT (by rw [hll]; exact Nat.le_refl _)
  rw [hbk] at htr
  have hck := fun w' rv (hf' : Fr (fun _ => False) w w') (hr : Sl w' rv (mth wi (es.map (lf wi)))) => checkPath_any wi i es.length lv rv pv' leaf _ vs ps w' (hg.fr0 hf') (hl.fr0 hf') hr (hP.fr0 hf') hC (by omega) (by omega)
  have hmr : mr wi es = mth wi (es.map (lf wi)) := by unfold mr; rw [if_pos (by omega)]
  cases hq : chkP wi leaf i es.length ps (mth wi (es.map (lf wi))) with
  | false =>
    have hU : cpR wi es i leaf ps = none := by unfold cpR; rw [hmr, hq, if_neg (by simp)]
    rw [hU]
    clear hU
    rw [hq] at hck
    obtain ⟨xo, xc, rfl⟩ := hp.form
    obtain ⟨lo, lc, rfl⟩ := hl.form
    obtain ⟨po, pc, rfl⟩ := hP.form
    have HG := hide (And.intro hgr (And.intro htr hck))
    clear hgr htr hck hp hl hP hC hg ht hB hq hmr hbk hll
    generalize es.length = N at *
    generalize leaf.length = LN at *
    generalize ps.length = PN at *
    go_enter Tryd.func9, Tryd.ntmps9
    go_wp2_with fail
    refine (unhide HG).1.mono ?_
    rintro e w1 ⟨tb, rfl, hT, hF⟩
    have H1 := hide (And.intro hT hF)
    clear hF hT
    go_wp2_with fail
    refine ((unhide HG).2.1 tb w1 (unhide H1).1).mono ?_
    rintro e w2 ⟨ro, rc, rfl, hs2, hF2⟩
    have H2 := hide (And.intro hs2 ((unhide H1).2.trans hF2 (fun _ _ h => h)))
    clear hs2 hF2
    go_wp2_with fail
    refine ((unhide HG).2.2 _ _ (unhide H2).2 (unhide H2).1).mono ?_
    rintro e w3 ⟨rfl, hF3⟩
    have H3 := hide ((unhide H2).2.trans hF3 (fun _ _ h => h))
    clear hF3
    go_wp2_with fail
    go_returns
    exact ⟨⟨(fun a b h => by cases h), (fun _ => rfl)⟩, unhide H3⟩
  | true =>
    rw [hq] at hck
    obtain ⟨h1, h2, h3, h4, h5, h6, h7, h8⟩ := chkP_says hq
    obtain ⟨I, rfl⟩ : ∃ k : Nat, i = (k : Int) := ⟨i.toNat, by omega⟩
    have hI : I < es.length := by omega
    simp only [Int.toNat_natCast] at h7 h8
    have hgd : (es.map (lf (wi : Int))).getD I [] = lf wi es[I] := by rw [List.getD, List.getElem?_eq_getElem (by omega), Option.getD_some, List.getElem_map]
    obtain ⟨xo, xc, rfl⟩ := hp.form
    obtain ⟨g, o, vo, vc, rfl, hcell, hsl⟩ := hp.nth (Fr.refl _ w) I hI
    have hlf := fun w' (hf' : Fr (fun _ => False) w w') => leaf_any (wi : Int) _ es[I] w' (hg.fr0 hf') (hsl.fr0 hf') (hB _ (List.getElem_mem _))
    have hlw := lf_len wi hw1 hw32 es[I]
    have hlb := lf_lt (wi : Int) es[I]
    have hcol : ∀ a b, cld wi (es.map (lf wi)) leaf 0 es.length I 1 ps = some (a, b) → ∀ tb w' lo ln lc, lv = .slice lo ln lc → Fr (fun _ => False) w w' → Tk w' tb wi (es.map (lf wi)) → Calls Tryd.prog 37 #[pv (.pointer (some ⟨tb, 0, none⟩)) 0 es.length, cv wi I 1 (.slice lo ln lc) pv'] w' fun e w'' => Two w'' e a b ∧ Fr (fun _ => False) w' w'' := fun a b hab tb w' lo ln lc hlv hf' hT =>
      collide_any tb wi hw1 hw32 (es.map (lf wi)) lo ln lc leaf (by omega) es.length 0 es.length I 1 ps vs pv' w' a b (Nat.le_refl _) hT (al_zero _) (by omega) (rch_one _ 0 es.length I (Nat.le_refl _) (by omega) (by omega)) (by rw [← hlv]; exact hl.fr0 hf') (hP.fr0 hf') hC h7 (fun p hp => by have := h6 p hp; omega) hab
    have hU0 : leaf = lf (wi : Int) es[I] → cpR wi es I leaf ps = none := fun h => by
      unfold cpR
      rw [Int.toNat_natCast, hgd, if_neg (fun k => k.2 h)]
    have hU1 : ¬ leaf = lf (wi : Int) es[I] → cpR wi es I leaf ps = cld wi (es.map (lf (wi : Int))) leaf 0 es.length I 1 ps := fun h => by
      unfold cpR
      rw [hmr, Int.toNat_natCast, hgd, if_pos ⟨hq, h⟩]; rfl
    generalize cpR wi es I leaf ps = U at *
    have hcs := cpR_some wi I es leaf ps hq
    rw [hgd] at hcs
    obtain ⟨lo, lc, rfl⟩ := hl.form
    obtain ⟨po, pc, rfl⟩ := hP.form
    rw [hlw] at hlf
    generalize lf (wi : Int) es[I] = LF at *
    have HG := hide (And.intro hgr (And.intro htr (And.intro hck (And.intro hlf (And.intro hlb (And.intro hcol (And.intro hl (And.intro hcs hlw))))))))
    have HUU := hide (And.intro hU0 hU1)
    clear hU0 hU1
    have HC2 := hide hcell
    clear hgr htr hck hlf hlb hcol hl hcs hlw hp hP hC hg ht hB hq hmr hbk hll hsl h1 h2 h3 h4 h5 h6 h7 h8 hgd hcell
    generalize es[I].length = EL at *
    generalize hNN : es.length = N at *
    generalize leaf.length = LN at *
    generalize ps.length = PN at *
    have q1 : (0 : Int) ≤ (I : Int) := by omega
    have q2 : (I : Int) < (N : Int) := by omega
    go_enter Tryd.func9, Tryd.ntmps9
    go_wp2_with fail
    refine (unhide HG).1.mono ?_
    rintro e w1 ⟨tb, rfl, hT, hF⟩
    have H1 := hide (And.intro hT hF)
    clear hF hT
    go_wp2_with fail
    refine ((unhide HG).2.1 tb w1 (unhide H1).1).mono ?_
    rintro e w2 ⟨ro, rc, rfl, hs2, hF2⟩
    have H2 := hide (And.intro hs2 (And.intro ((unhide H1).2.trans hF2 (fun _ _ h => h)) hF2))
    clear hs2 hF2
    go_wp2_with fail
    refine ((unhide HG).2.2.1 _ _ (unhide H2).2.1 (unhide H2).1).mono ?_
    rintro e w3 ⟨rfl, hF3⟩
    have hc3 := ((((unhide H2).2.1.trans hF3 (fun _ _ h => h)) : Fr (fun _ => False) w w3).cell (lt_of_cell (unhide HC2)) (fun h => h)).trans (unhide HC2)
    have H3 := hide (And.intro ((unhide H2).2.1.trans hF3 (fun _ _ h => h)) ((unhide H2).2.2.trans hF3 (fun _ _ h => h)))
    clear hF3
    go_wp2_with fail
    refine ((unhide HG).2.2.2.1 _ (unhide H3).1).mono ?_
    rintro e w4 ⟨yo, rfl, hO⟩
    have hs4 := hO.sl (unhide HG).2.2.2.2.1
    rw [(unhide HG).2.2.2.2.2.2.2.2] at hs4
    have H4 := hide (And.intro hs4 (And.intro ((unhide H3).1.trans hO.fr (fun _ _ h => h)) ((unhide H3).2.trans hO.fr (fun _ _ h => h))))
    clear hs4 hO hc3
    go_wp2_with fail
    refine (beq_sl _ _ leaf LF w4 ((unhide HG).2.2.2.2.2.2.1.fr0 (unhide H4).2.1) (unhide H4).1).mono ?_
    rintro e w5 ⟨rfl, rfl⟩
    by_cases hE : leaf = LF
    · rw [decide_eq_true hE]
      have HE := hide hE
      clear hE
      go_wp2_with fail
      go_returns
      refine ⟨⟨(fun a b h => ?_), (fun _ => rfl)⟩, (unhide H4).2.1⟩
      rw [(unhide HUU).1 (unhide HE)] at h
      cases h
    · rw [decide_eq_false hE]
      obtain ⟨a, b, hab, -, -⟩ := (unhide HG).2.2.2.2.2.2.2.1 hE
      have HE := hide (And.intro hE hab)
      clear hE hab
      go_wp2_with fail
      refine (first_any (some ⟨tb, 0, none⟩) N _).mono ?_
      rintro e w6 ⟨rfl, hF6⟩
      have H6 := hide (And.intro ((unhide H4).2.1.trans hF6 (fun _ _ h => h)) ((unhide H4).2.2.trans hF6 (fun _ _ h => h)))
      clear hF6
      go_wp2_with fail
      refine (ofEntry_any wi I lo LN lc po PN pc _).mono ?_
      rintro e w7 ⟨rfl, hF7⟩
      have H7 := hide (And.intro ((unhide H6).1.trans hF7 (fun _ _ h => h)) ((unhide H1).1.fr0 ((unhide H6).2.trans hF7 (fun _ _ h => h))))
      clear hF7
      go_wp2_with fail
      refine ((unhide HG).2.2.2.2.2.1 a b (unhide HE).2 tb _ _ _ _ rfl (unhide H7).1 (unhide H7).2).mono ?_
      rintro e w8 ⟨⟨ao, ac, bo, bc, rfl, k1, k2⟩, hF8⟩
      have H8 := hide (And.intro k1 (And.intro k2 ((unhide H7).1.trans hF8 (fun _ _ h => h))))
      clear k1 k2 hF8
      generalize hAL : a.length = AL at *
      generalize hBL : b.length = BL at *
      go_wp2_with fail
      go_returns
      refine ⟨⟨(fun a' b' h => ?_), (fun h => ?_)⟩, (unhide H8).2.2⟩
      · rw [(unhide HUU).2 (unhide HE).1, (unhide HE).2] at h
        cases h
        rw [hAL, hBL]
        exact ⟨ao, ac, bo, bc, rfl, (unhide H8).1, (unhide H8).2.1⟩
      · rw [(unhide HUU).2 (unhide HE).1, (unhide HE).2] at h
        cases h
end Go.Proofs.YtocdnomfpgdglabDoor

