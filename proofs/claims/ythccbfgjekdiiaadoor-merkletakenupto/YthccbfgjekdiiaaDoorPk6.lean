import Derived.Test.YthccbfgjekdiiaaDoorPk5
import Derived.Test.YthccbfgjekdiiaaDoorPk2
import Derived.Test.YthccbfgjekdiiaaDoorPk4
namespace Go.Proofs.YthccbfgjekdiiaaDoor
open Go.RowKit

set_option maxRecDepth 100000 in
set_option maxHeartbeats 1000000 in
/-- same, of lists that are the same. -/
theorem msame_T (x y : Value) (vs us : List Value) (ps : List (List Nat)) (w : World) (hx : Pcs w x vs ps) (hy : Pcs w y us ps) (hB : ∀ p ∈ ps, p.length ≤ 1000000) (hn : ps.length ≤ 16000000) :
    Calls Tryd.prog 70 #[x, y] w fun e w' => e = .returned (.bool true) ∧ Fr (fun _ => False) w w' := by
  obtain ⟨xo, xc, rfl⟩ := hx.form
  obtain ⟨yo, yc, rfl⟩ := hy.form
  have HG := hide (And.intro hx (And.intro hy (And.intro hB hn)))
  clear hx hy hB hn
  generalize hN : ps.length = N at *
  go_enter Tryd.func70, Tryd.ntmps70
  go_wp2_with fail
  go_loopw [5] (fun iv wr => ∃ (k : Nat), k ≤ N ∧ iv = .int .i64 (k : Nat) ∧ Fr (fun _ => False) w wr) (fun iv _ => N - (intOf iv).toNat)
  case atStart => exact ⟨0, Nat.zero_le _, rfl, Fr.refl _ _⟩
  case round =>
    obtain ⟨k, hk, rfl, hF⟩ := hrel
    have hN8 := (unhide HG).2.2.2
    by_cases hlt : k < N
    · have hlt' : (k : Int) < (N : Int) := by omega
      have hke : k < ps.length := by omega
      obtain ⟨g, o, vo, vc, rfl, c1, s1⟩ := (unhide HG).1.nth hF k hke
      obtain ⟨g2, o2, uo, uc, rfl, c2, s2⟩ := (unhide HG).2.1.nth hF k hke
      have hpb := (unhide HG).2.2.1 ps[k] (List.getElem_mem hke)
      have hsm : sameB ps[k] ps[k] = true := sameB_refl _
      have hsame := fun (w' : World) (hf : Fr (fun _ => False) wr w') => same_T (s1.s.fr0 hf) (s2.s.fr0 hf) (by omega) hsm
      generalize ps[k].length = PL at *
      have HS := hide (And.intro hsame hF)
      clear hsame hF s1 s2 hsm
      have w5 : IntKind.i64.wrap ((k : Int) + 1) = (k : Int) + 1 := by rw [IntKind.wrap_i64]; omega
      have hS : ∀ w', Fr (fun _ => False) wr w' → w'.cell? ⟨g, o + k, none⟩ = some (.slice vo PL vc) ∧ w'.cell? ⟨g2, o2 + k, none⟩ = some (.slice uo PL uc) := fun w' hf => ⟨(hf.cell (lt_of_cell c1) (fun h => h)).trans c1, (hf.cell (lt_of_cell c2) (fun h => h)).trans c2⟩
      have HSS := hide hS
      clear hS
      go_wp2_with fail
      go_region_held3 (fun w' => w'.cell? ⟨g, o + k, none⟩ = some (.slice vo PL vc) ∧ w'.cell? ⟨g2, o2 + k, none⟩ = some (.slice uo PL uc))
        (first | assumption | exact (unhide HSS) _ (Fr.refl _ _).drew | exact (unhide HSS) _ fC)
        (first | (go_at_call 23; refine ((unhide HS).1 _ (by exact (Fr.refl _ _).drew)).mono ?_; rintro e wC ⟨rfl, hC⟩; have fC : Fr (fun _ => False) wr wC := (Fr.refl _ _).drew.trans hC (fun _ _ h => h)))
      have HE := hide ((unhide HS).2.trans fC (fun _ _ h => h))
      clear fC hC
      go_wp2_with fail
      exact ⟨⟨k + 1, by omega, by go_num, unhide HE⟩, by simp [intOf]; omega⟩
    · have hlt' : ¬ (k : Int) < (N : Int) := by omega
      have HE := hide hF
      clear hF
      go_wp2_with fail
      go_ret
      exact ⟨rfl, unhide HE⟩
set_option maxRecDepth 100000 in
set_option maxHeartbeats 1000000 in
/-- apart, of hashes that bear their marks. -/
theorem apart_T (x : Value) (vs : List Value) (qs : List (List Nat)) (w : World) (hx : Pcs w x vs qs) (hm : Mkd qs qs.length) (hB : ∀ p ∈ qs, p.length ≤ 1000000) (hn : qs.length ≤ 16000000) :
    Calls Tryd.prog 72 #[x] w fun e w' => e = .returned (.bool true) ∧ w' = w := by
  obtain ⟨xo, xc, rfl⟩ := hx.form
  have HG := hide (And.intro hx (And.intro hm (And.intro hB hn)))
  clear hx hm hB hn
  generalize hN : qs.length = N at *
  go_enter Tryd.func72, Tryd.ntmps72
  go_wp2_with fail
  go_loopw [3] (fun iv wr => ∃ (k : Nat), k ≤ N ∧ iv = .int .i64 (k : Nat) ∧ wr = w) (fun iv _ => N - (intOf iv).toNat)
  case atStart => exact ⟨0, Nat.zero_le _, rfl, rfl⟩
  case round =>
    obtain ⟨k, hk, rfl, rfl⟩ := hrel
    have hN8 := (unhide HG).2.2.2
    by_cases hlt : k < N
    · have hlt' : (k : Int) < (N : Int) := by omega
      have hke : k < qs.length := by omega
      obtain ⟨g, o, vo, vc, rfl, c1, s1⟩ := (unhide HG).1.nth (Fr.refl _ _) k hke
      have hpb := (unhide HG).2.2.1 qs[k] (List.getElem_mem hke)
      have hmk := (unhide HG).2.1 k qs[k] hlt (List.getElem?_eq_getElem hke)
      generalize qs[k] = q at *
      have HS := hide (And.intro s1 hmk)
      clear s1 hmk
      generalize hL : q.length = L at *
      obtain ⟨V, hV⟩ : ∃ V, (99 + k) % 256 = V := ⟨_, rfl⟩
      have r1 : IntKind.i64.wrap (99 + (k : Int)) = 99 + (k : Int) := by rw [IntKind.wrap_i64]; omega
      have r2 : IntKind.u8.wrap (99 + (k : Int)) = (V : Int) := by rw [IntKind.wrap_u8]; omega
      have w3 : IntKind.i64.wrap ((k : Int) + 1) = (k : Int) + 1 := by rw [IntKind.wrap_i64]; omega
      have HV := hide hV
      clear hV
      go_wp2_with fail
      go_loopw [4] (fun jv wz => ∃ (j : Nat), j ≤ L ∧ jv = .int .i64 (j : Nat) ∧ wz = wr) (fun jv _ => L - (intOf jv).toNat)
      case atStart => exact ⟨0, Nat.zero_le _, rfl, rfl⟩
      case round =>
        obtain ⟨j, hj, rfl, rfl⟩ := hrel
        by_cases hjl : j < L
        · have hjl' : (j : Int) < (L : Int) := by omega
          obtain ⟨g1, o1, rfl, b1⟩ := src_cell (unhide HS).1.s j (by omega) (unhide HS).1.b
          have hu : q.getD j 0 = V := by
            rw [List.getD, List.getElem?_eq_getElem (by omega), Option.getD_some, ← unhide HV]
            exact (unhide HS).2 _ (List.getElem_mem _)
          rw [hu] at b1
          have w4 : IntKind.i64.wrap ((j : Int) + 1) = (j : Int) + 1 := by rw [IntKind.wrap_i64]; omega
          clear hu
          go_wp2_with fail
          exact ⟨⟨j + 1, by omega, by go_num, by first | rfl | trivial⟩, by simp [intOf]; omega⟩
        · have hjl' : ¬ (j : Int) < (L : Int) := by omega
          go_wp2_with fail
          exact ⟨⟨k + 1, by omega, by go_num, by first | rfl | trivial⟩, by simp [intOf]; omega⟩
    · have hlt' : ¬ (k : Int) < (N : Int) := by omega
      go_wp2_with fail
      go_ret
      exact ⟨rfl, by first | rfl | trivial⟩
/-- Hashes made later stay where what was made before them is written. -/
theorem OL.pcs_ge {w wr wq : World} {ao : Option Addr} {cp : Nat} {vs : List Value} {ps : List (List Nat)} (h : OL w wr ao cp vs ps) (hf : Fr (fun k => k < w.heap.size) wr wq) : Pcs wq (.slice ao vs.length cp) vs ps := by
  have hp := h.pcs
  refine ⟨hp.len, ?_, fun j v p hv hpp => ?_, hp.byt⟩
  · rcases h.own.own.2 with ⟨e, e0⟩ | ⟨g, cap, cur, e, h1, _⟩
    · simp only [Value.slice.injEq] at e
      obtain ⟨rfl, _, rfl⟩ := e
      exact .inl ⟨by rw [e0], List.length_eq_zero_iff.1 e0⟩
    · simp only [Value.slice.injEq, true_and] at e
      obtain ⟨rfl, rfl⟩ := e
      have hg := h.own.own.lt g rfl
      refine .inr (.inr ⟨g, 0, cp, rfl, Nat.lt_of_lt_of_le hg.2 hf.size, fun j v hv => ?_⟩)
      have hj : j < vs.length := (List.getElem?_eq_some_iff.1 hv).1
      rw [Nat.zero_add, hf.cell (p := ⟨g, j, none⟩) hg.2 (by simp only; omega), h.own.own.cellAt j (by omega), hv]
  · obtain ⟨bo, c, rfl, hO⟩ := h.row j v p hv hpp
    have hO2 : Ow wq w.heap.size bo c p := hO.fr hf (fun k hk h => by omega)
    have := hO2.sl (h.byt p (List.mem_of_getElem? hpp))
    exact ⟨this.s, this.cap, this.lt⟩
theorem OL.inner_lt' {w wr : World} {ao : Option Addr} {cp : Nat} {vs : List Value} {ps : List (List Nat)} (h : OL w wr ao cp vs ps) : (∀ v ∈ vs, ∀ g, v.ownBlock = some g → g < wr.heap.size) ∧ ∀ g, (Value.slice ao vs.length cp).ownBlock = some g → g < wr.heap.size :=
  ⟨fun v hv g hg => (h.inner_lt v hv g hg).2, fun g hg => (h.own.own.lt g hg).2⟩
set_option maxRecDepth 100000 in
set_option maxHeartbeats 1000000 in
theorem held_T {w2 w3 w4 : World} {ao bo : Option Addr} {cp bc : Nat} {vs us ts : List Value} {ps : List (List Nat)} {z : Value} (ha : OL w2 w3 ao cp vs ps) (hb : OL w3 w4 bo bc us ps) (hz : Pcs w2 z ts ps) (c : Int) (hB : ∀ p ∈ ps, p.length ≤ 1000) (hn : ps.length ≤ 8000000) :
    Calls Tryd.prog 42 #[.slice ao vs.length cp, .int .i64 c, .slice bo us.length bc, .int .i64 c, z, .int .i64 c] w4 fun e w' => e = .returned (.bool true) ∧ Fr (fun _ => False) w2 w' := by
  have hB2 : ∀ p ∈ ps, p.length ≤ 1000000 := fun p hp => by have := hB p hp; omega
  have ha4 := ha.fr0 hb.own.fr
  have h1 := fun w' (hf : Fr (fun _ => False) w4 w') => msame_T _ _ vs ts ps w' (ha4.fr0 hf).pcs (((hz.fr0 ha.own.fr).fr0 hb.own.fr).fr0 hf) hB2 (by omega)
  have h2 := fun w' (hf : Fr (fun _ => False) w4 w') => msame_T _ _ us ts ps w' (hb.fr0 hf).pcs (((hz.fr0 ha.own.fr).fr0 hb.own.fr).fr0 hf) hB2 (by omega)
  have hl := ha.inner_lt'
  have hsp := fun w' (hf : Fr (fun _ => False) w4 w') => spoil_any (ha4.fr0 hf) w3.heap.size hB (by rw [ha.len]; exact hn) hl.1 hl.2
  have hap : ∀ w' qs, OL w2 w' ao cp vs qs → Mkd qs vs.length → Calls Tryd.prog 72 #[.slice ao vs.length cp] w' fun e w'' => e = .returned (.bool true) ∧ w'' = w' := fun w' qs hq hm => by
    refine apart_T _ vs qs w' hq.pcs (by rw [← hq.len]; exact hm) (fun q hqm => ?_) (by rw [← hq.len, ha.len]; omega)
    obtain ⟨j, hj, rfl⟩ := List.getElem_of_mem hqm
    have hjv : j < vs.length := by rw [hq.len]; exact hj
    have hjp : j < ps.length := by rw [← ha.len]; exact hjv
    obtain ⟨b1, c1, e1, _⟩ := hq.row j vs[j] qs[j] (List.getElem?_eq_getElem hjv) (List.getElem?_eq_getElem hj)
    obtain ⟨b2, c2, e2, _⟩ := ha.row j vs[j] ps[j] (List.getElem?_eq_getElem hjv) (List.getElem?_eq_getElem hjp)
    rw [e1] at e2
    simp only [Value.slice.injEq] at e2
    rw [e2.2.1]
    exact hB2 _ (List.getElem_mem _)
  have h3 := fun w' w'' (hf : Fr (fun _ => False) w4 w') (hf2 : Fr (fun k => k < w3.heap.size) w' w'') (hf3 : Fr (fun _ => False) w2 w'') => msame_T _ _ us ts ps w'' ((hb.fr0 hf).pcs_ge hf2) (hz.fr0 hf3) hB2 (by omega)
  have HC := hide (And.intro h1 (And.intro h2 (And.intro hsp (And.intro hap h3))))
  obtain ⟨zo, zc, rfl⟩ := hz.form
  clear h1 h2 hsp hap h3 hl ha4 hB2 hB hn ha hb hz
  generalize vs.length = VL at *
  generalize us.length = UL at *
  generalize ps.length = PL at *
  go_enter Tryd.func42, Tryd.ntmps42
  go_wp2_with fail
  refine ((unhide HC).1 w4 (Fr.refl _ _)).mono ?_
  rintro e w5 ⟨rfl, hF⟩
  have H5 := hide hF
  clear hF
  go_wp2_with fail
  refine ((unhide HC).2.1 w5 (unhide H5)).mono ?_
  rintro e w6 ⟨rfl, hF⟩
  have H6 := hide ((unhide H5).trans hF (fun _ _ h => h))
  clear hF
  go_wp2_with fail
  refine ((unhide HC).2.2.1 w6 (unhide H6)).mono ?_
  rintro e w7 ⟨rfl, qs, hq, hm, hF⟩
  have H7 := hide (And.intro hq (And.intro hm hF))
  clear hq hm hF
  go_wp2_with fail
  refine ((unhide HC).2.2.2.1 w7 qs (unhide H7).1 (unhide H7).2.1).mono ?_
  rintro e w8 ⟨rfl, rfl⟩
  go_wp2_with fail
  refine ((unhide HC).2.2.2.2 w6 w8 (unhide H6) (unhide H7).2.2 (unhide H7).1.own.fr).mono ?_
  rintro e w9 ⟨rfl, hF⟩
  have H9 := hide ((unhide H7).1.own.fr.trans hF (fun _ _ h => h))
  clear hF
  go_wp2_with fail
  go_ret
  exact ⟨rfl, unhide H9⟩
end Go.Proofs.YthccbfgjekdiiaaDoor

namespace Go.Proofs.YthccbfgjekdiiaaDoor
open Go.RowKit

set_option maxRecDepth 100000 in
set_option maxHeartbeats 1000000 in
/-- The ref's with. -/
theorem with_any (x y : Value) (vs : List Value) (ps : List (List Nat)) (h : List Nat) (w : World) (hx : Pcs w x vs ps) (hy : Sl w y h) (hn : ps.length ≤ 8000000) :
    Calls Tryd.prog 93 #[x, y] w fun e w' => ∃ ao cp, e = .returned (.slice ao (ps.length + 1) cp) ∧ Pcs w' (.slice ao (ps.length + 1) cp) (vs ++ [y]) (ps ++ [h]) ∧ Fr (fun _ => False) w w' := by
  obtain ⟨xo, xc, rfl⟩ := hx.form
  obtain ⟨yo, yc, rfl⟩ := hy.form
  have hvl : vs.length = ps.length := hx.len
  have HG := hide (And.intro hx (And.intro hy (And.intro hn hvl)))
  clear hx hy hn hvl
  generalize hN : ps.length = N at *
  generalize hH : h.length = HL at *
  go_enter Tryd.func93, Tryd.ntmps93
  go_wp2_with fail
  go_loopw [5, 6] (fun ov iv wr => ∃ (k : Nat) (ao : Option Addr) (cp : Nat), k ≤ N ∧ iv = .int .i64 (k : Nat) ∧ ov = .slice ao k cp ∧ OS w wr ao cp (vs.take k)) (fun _ iv _ => N - (intOf iv).toNat)
  case atStart => exact ⟨0, none, 0, Nat.zero_le _, rfl, rfl, OS.nil w⟩
  case round =>
    obtain ⟨k, ao, cp, hk, rfl, rfl, hO⟩ := hrel
    have hN8 := (unhide HG).2.2.1
    have hvl := (unhide HG).2.2.2
    have htl : (vs.take k).length = k := by rw [List.length_take]; omega
    by_cases hlt : k < N
    · have hlt' : (k : Int) < (N : Int) := by omega
      have hke : k < ps.length := by omega
      obtain ⟨g, o, v, rfl, hcell, hsrc, -⟩ := (unhide HG).1.cell hO.fr k hke
      have hvk : vs[k]? = some v := by
        have hkv : k < vs.length := by omega
        rcases (unhide HG).1.at_ with ⟨e', _⟩ | ⟨_, _, e', _⟩ | ⟨g', o', c', e', hg', hc'⟩
        · simp at e'
        · simp only [Value.slice.injEq] at e'; omega
        · simp only [Value.slice.injEq, Option.some.injEq, Addr.mk.injEq, and_true] at e'
          obtain ⟨⟨rfl, rfl⟩, _⟩ := e'
          have h1 := (hO.fr.cell (p := ⟨g, o + k, none⟩) hg' (fun h => h)).trans (hc' k _ (List.getElem?_eq_getElem hkv))
          rw [h1] at hcell
          rw [List.getElem?_eq_getElem hkv, Option.some.inj hcell]
      obtain ⟨vo, vc, rfl⟩ := hsrc.form
      obtain ⟨a2, c2, w2, hr2, hO2, -, -⟩ := hO.app1 vo ps[k].length vc (by omega)
      have htk : vs.take k ++ [.slice vo ps[k].length vc] = vs.take (k + 1) := by
        rw [List.take_add_one, hvk]; rfl
      rw [htk] at hO2
      rw [htl] at hr2
      have HR2 := hide hr2
      have HO2 := hide hO2
      clear hr2 hO2 hO hsrc htk hvk htl
      generalize ps[k].length = PL at *
      go_wp2_with (at_builtin; refine wpList_app rfl (.tmp 13) (.tmp 18) 22 22 rfl _ _ _ rfl rfl (unhide HR2) ?_)
      exact ⟨⟨k + 1, a2, c2, by omega, by go_num, rfl, unhide HO2⟩, by simp [intOf]; omega⟩
    · have hkN : k = N := by omega
      have hlt' : ¬ (k : Int) < (N : Int) := by omega
      have htk : vs.take k = vs := List.take_of_length_le (by omega)
      rw [htk] at hO htl
      obtain ⟨a2, c2, w2, hr2, hO2, -, -⟩ := hO.app1 yo HL yc (by omega)
      rw [htl] at hr2
      have hpc : Pcs w2 (.slice a2 (vs ++ [Value.slice yo HL yc]).length c2) (vs ++ [.slice yo HL yc]) (ps ++ [h]) := hO2.pcs (by rw [List.length_append, List.length_append, hvl, hN]; rfl) (fun j v p hv hp => by
        by_cases hj : j < vs.length
        · rw [List.getElem?_append_left hj] at hv
          rw [List.getElem?_append_left (by omega)] at hp
          exact ((unhide HG).1.sl j v p hv hp).fr0 hO2.fr
        · have hje : j = vs.length := by
            have := (List.getElem?_eq_some_iff.1 hv).1
            rw [List.length_append, List.length_singleton] at this
            omega
          subst hje
          rw [List.getElem?_append_right (Nat.le_refl _), Nat.sub_self] at hv
          rw [List.getElem?_append_right (by omega), show vs.length - ps.length = 0 by omega] at hp
          simp only [List.getElem?_cons_zero, Option.some.injEq] at hv hp
          subst hv hp
          exact (unhide HG).2.1.fr0 hO2.fr)
      rw [List.length_append, htl] at hpc
      have HR2 := hide hr2
      have HO2 := hide (And.intro hpc (And.intro hO2.fr hkN))
      clear hr2 hO2 hO hpc htk htl hkN
      go_wp2_with (at_builtin; refine wpList_app rfl (.tmp 20) (.tmp 22) 22 22 rfl _ _ _ rfl rfl (unhide HR2) ?_)
      go_ret
      obtain ⟨h1, h2, h3⟩ := unhide HO2
      subst h3
      exact ⟨a2, c2, rfl, h1, h2⟩
theorem pth_le (wi : Nat) (m : Nat) : ∀ (ls : List (List Nat)) (i : Nat), ls.length ≤ m → (pth wi ls i).length ≤ ls.length := by
  induction m with
  | zero => intro ls i h; rw [pth_short _ _ _ (by omega)]; exact Nat.zero_le _
  | succ m ih =>
    intro ls i h
    by_cases h2 : ls.length < 2
    · rw [pth_short _ _ _ h2]; exact Nat.zero_le _
    · have h3 := hf_lt ls.length (by omega)
      have h4 := hf_pos ls.length
      by_cases hi : i < hf ls.length
      · rw [pth_l (by omega) hi, List.length_append]
        have := ih (ls.take (hf ls.length)) i (by rw [List.length_take]; omega)
        rw [List.length_take] at this
        simp; omega
      · rw [pth_r (by omega) hi, List.length_append]
        have := ih (ls.drop (hf ls.length)) (i - hf ls.length) (by rw [List.length_drop]; omega)
        rw [List.length_drop] at this
        simp; omega
def PathSays (wi : Nat) (ls : List (List Nat)) (I : Nat) (x : Value) (w : World) : Prop :=
  Calls Tryd.prog 74 #[.int .i64 wi, x, .int .i64 I] w fun e w' => ∃ yo yc us, e = .returned (.slice yo (pth wi ls I).length yc) ∧ Pcs w' (.slice yo (pth wi ls I).length yc) us (pth wi ls I) ∧ Fr (fun _ => False) w w'
set_option maxRecDepth 100000 in
theorem gpath_short (wi : Nat) (ps : List (List Nat)) (I : Nat) (x : Value) (vs : List Value) (w : World) (hp : Pcs w x vs ps) (h : ps.length < 2) : PathSays wi ps I x w := by
  unfold PathSays
  rw [pth_short _ _ _ h]
  obtain ⟨xo, xc, rfl⟩ := hp.form
  have q1 : (ps.length : Int) < 2 := by omega
  clear hp
  generalize ps.length = N at *
  go_enter Tryd.func74, Tryd.ntmps74
  go_wp2_with fail
  go_ret
  exact ⟨none, 0, [], rfl, ⟨rfl, .inl ⟨rfl, rfl⟩, (fun j v p h => by simp at h), (fun p h => by cases h)⟩, Fr.refl _ _⟩
set_option maxRecDepth 100000 in
set_option maxHeartbeats 1000000 in
/-- The ref's PathOf. -/
theorem gpath_any (wi : Nat) (n : Nat) : ∀ (ps : List (List Nat)) (I : Nat) (x : Value) (vs : List Value) (w : World), ps.length ≤ n → ps.length ≤ 8000000 → I < ps.length → GR w → Pcs w x vs ps → Cp x → (∀ p ∈ ps, p.length ≤ 4000000) → PathSays wi ps I x w := by
  induction n with
  | zero => intro ps I x vs w hl _ hI; omega
  | succ n ih =>
    intro ps I x vs w hl hl8 hIl hr hp hcx hB
    by_cases h2 : ps.length < 2
    · exact gpath_short wi ps I x vs w hp h2
    · obtain ⟨xo, xc, rfl⟩ := hp.form
      obtain ⟨g, o, v, rfl, -⟩ := hp.cell (Fr.refl _ _) 0 (by omega)
      have hk1 := hf_lt ps.length (by omega)
      have hk2 := hf_pos ps.length
      have hle : vs.length = ps.length := hp.len
      have hcapx : ps.length ≤ xc := hcx _ _ _ rfl
      have cp1 : Cp (.slice (some ⟨g, o, none⟩) (hf ps.length) xc) := fun _ _ _ e => by cases e; omega
      have cp2 : Cp (.slice (some ⟨g, o + hf ps.length, none⟩) (ps.length - hf ps.length) (xc - hf ps.length)) := fun _ _ _ e => by cases e; omega
      have hP1 := hp.take (hf ps.length) (by omega)
      have hP2 := hp.drop (hf ps.length) hk1
      have hB1 : ∀ p ∈ ps.take (hf ps.length), p.length ≤ 4000000 := fun p h => hB p (List.mem_of_mem_take h)
      have hB2 : ∀ p ∈ ps.drop (hf ps.length), p.length ≤ 4000000 := fun p h => hB p (List.mem_of_mem_drop h)
      have hl1 : (ps.take (hf ps.length)).length = hf ps.length := by rw [List.length_take]; omega
      have hl2 : (ps.drop (hf ps.length)).length = ps.length - hf ps.length := by rw [List.length_drop]
      have hha := half_any ps.length w (by omega) (by omega)
      by_cases hI : I < hf ps.length
      · have hmt := pth_l (wi := wi) (ls := ps) (i := I) (by omega) hI
        have c1 : ∀ w', Fr (fun _ => False) w w' → PathSays wi (ps.take (hf ps.length)) I (.slice (some ⟨g, o, none⟩) (hf ps.length) xc) w' := fun w' hfr => ih _ _ _ _ w' (by omega) (by omega) (by omega) (hr.fr0 hfr) (hP1.fr0 hfr) cp1 hB1
        have c2 : ∀ w', Fr (fun _ => False) w w' → OfSays wi (ps.drop (hf ps.length)) (.slice (some ⟨g, o + hf ps.length, none⟩) (ps.length - hf ps.length) (xc - hf ps.length)) w' := fun w' hfr => of_any wi _ _ _ _ w' (Nat.le_refl _) (by omega) (hr.fr0 hfr) (hP2.fr0 hfr) cp2 hB2
        have hplen : (pth wi (ps.take (hf ps.length)) I).length ≤ 8000000 := Nat.le_trans (pth_le wi _ _ _ (Nat.le_refl _)) (by omega)
        unfold PathSays at c1 ⊢
        unfold OfSays at c2
        rw [hmt]
        generalize pth wi (ps.take (hf ps.length)) I = P1 at *
        generalize mth wi (ps.drop (hf ps.length)) = M2 at *
        have hwith : ∀ (x y : Value) us w', Pcs w' x us P1 → Sl w' y M2 → _ := fun x y us w' h1 h2 => with_any x y us P1 M2 w' h1 h2 hplen
        have HG := hide (And.intro c1 (And.intro c2 (And.intro hwith hha)))
        clear hr hP1 hP2 c1 c2 hha hmt hB hB1 hB2 hp hl1 hl2 ih cp1 cp2 hcx hwith hplen
        generalize hK : hf ps.length = K at *
        have q1 : (K : Int) ≤ (ps.length : Int) := by omega
        have q2 : (K : Int) ≤ (xc : Int) := by omega
        have q3 : ¬ (ps.length : Int) < 2 := by omega
        have q4 : ¬ ps.length < 2 := by omega
        have q7 : (I : Int) < (K : Int) := by omega
        have q8 : IntKind.i64.wrap ((I : Int) - (K : Int)) = ((I - K : Nat) : Int) ∨ True := .inr trivial
        clear q8 hK
        generalize ps.length = N at *
        go_enter Tryd.func74, Tryd.ntmps74
        go_wp2_with fail
        refine (unhide HG).2.2.2.mono ?_
        rintro e w0 ⟨rfl, rfl⟩
        go_wp2_with fail
        have q5 : ¬ xc = K := by omega
        have q6 : ¬ K = xc := by omega
        go_region_held3 (fun _ => True) (trivial) (first
          | (go_at_call 74; refine ((unhide HG).1 _ ((Fr.refl _ _).drew)).mono ?_; rintro e wA ⟨yA, cA, uA, rfl, sA, fA⟩)
          | (go_at_call 68; refine ((unhide HG).2.1 _ (((Fr.refl _ _).drew).trans fA (fun _ _ h => h))).mono ?_; rintro e wB ⟨yB, cB, rfl, sB, fB⟩)
          | (go_at_call 93; refine ((unhide HG).2.2.1 _ _ _ wB (sA.fr0 fB) sB).mono ?_; rintro e wC ⟨zo, zc, rfl, oC, fC⟩))
        have hFC : Fr (fun _ => False) w0 wC := ((((Fr.refl (fun _ => False) w0).drew).trans fA (fun _ _ h => h)).trans fB (fun _ _ h => h)).trans fC (fun _ _ h => h)
        have HE := hide (And.intro oC hFC)
        clear hFC oC
        go_wp2_with fail
        go_ret
        exact ⟨zo, zc, _, by rw [List.length_append]; rfl, by rw [List.length_append]; exact (unhide HE).1, (unhide HE).2⟩
      · have hmt := pth_r (wi := wi) (ls := ps) (i := I) (by omega) hI
        have c1 : ∀ w', Fr (fun _ => False) w w' → PathSays wi (ps.drop (hf ps.length)) (I - hf ps.length) (.slice (some ⟨g, o + hf ps.length, none⟩) (ps.length - hf ps.length) (xc - hf ps.length)) w' := fun w' hfr => ih _ _ _ _ w' (by omega) (by omega) (by omega) (hr.fr0 hfr) (hP2.fr0 hfr) cp2 hB2
        have c2 : ∀ w', Fr (fun _ => False) w w' → OfSays wi (ps.take (hf ps.length)) (.slice (some ⟨g, o, none⟩) (hf ps.length) xc) w' := fun w' hfr => of_any wi _ _ _ _ w' (Nat.le_refl _) (by omega) (hr.fr0 hfr) (hP1.fr0 hfr) cp1 hB1
        have hplen : (pth wi (ps.drop (hf ps.length)) (I - hf ps.length)).length ≤ 8000000 := Nat.le_trans (pth_le wi _ _ _ (Nat.le_refl _)) (by omega)
        unfold PathSays at c1 ⊢
        unfold OfSays at c2
        rw [hmt]
        generalize pth wi (ps.drop (hf ps.length)) (I - hf ps.length) = P1 at *
        generalize mth wi (ps.take (hf ps.length)) = M2 at *
        have hwith : ∀ (x y : Value) us w', Pcs w' x us P1 → Sl w' y M2 → _ := fun x y us w' h1 h2 => with_any x y us P1 M2 w' h1 h2 hplen
        have HG := hide (And.intro c1 (And.intro c2 (And.intro hwith hha)))
        clear hr hP1 hP2 c1 c2 hha hmt hB hB1 hB2 hp hl1 hl2 ih cp1 cp2 hcx hwith hplen
        generalize hK : hf ps.length = K at *
        have q1 : (K : Int) ≤ (ps.length : Int) := by omega
        have q2 : (K : Int) ≤ (xc : Int) := by omega
        have q3 : ¬ (ps.length : Int) < 2 := by omega
        have q4 : ¬ ps.length < 2 := by omega
        have q7 : ¬ (I : Int) < (K : Int) := by omega
        have q8 : IntKind.i64.wrap ((I : Int) - (K : Int)) = ((I - K : Nat) : Int) ∨ True := .inr trivial
        have q9 : IntKind.i64.wrap ((I : Int) - (K : Int)) = (I : Int) - (K : Int) := by rw [IntKind.wrap_i64]; omega
        have q10 : ((I - K : Nat) : Int) = (I : Int) - (K : Int) := by omega
        rw [q10] at HG
        clear q8 hK q10
        generalize ps.length = N at *
        go_enter Tryd.func74, Tryd.ntmps74
        go_wp2_with fail
        refine (unhide HG).2.2.2.mono ?_
        rintro e w0 ⟨rfl, rfl⟩
        go_wp2_with fail
        have q5 : ¬ xc = K := by omega
        have q6 : ¬ K = xc := by omega
        go_region_held3 (fun _ => True) (trivial) (first
          | (go_at_call 74; refine ((unhide HG).1 _ ((Fr.refl _ _).drew)).mono ?_; rintro e wA ⟨yA, cA, uA, rfl, sA, fA⟩)
          | (go_at_call 68; refine ((unhide HG).2.1 _ (((Fr.refl _ _).drew).trans fA (fun _ _ h => h))).mono ?_; rintro e wB ⟨yB, cB, rfl, sB, fB⟩)
          | (go_at_call 93; refine ((unhide HG).2.2.1 _ _ _ wB (sA.fr0 fB) sB).mono ?_; rintro e wC ⟨zo, zc, rfl, oC, fC⟩))
        have hFC : Fr (fun _ => False) w0 wC := ((((Fr.refl (fun _ => False) w0).drew).trans fA (fun _ _ h => h)).trans fB (fun _ _ h => h)).trans fC (fun _ _ h => h)
        have HE := hide (And.intro oC hFC)
        clear hFC oC
        go_wp2_with fail
        go_ret
        exact ⟨zo, zc, _, by rw [List.length_append]; rfl, by rw [List.length_append]; exact (unhide HE).1, (unhide HE).2⟩
end Go.Proofs.YthccbfgjekdiiaaDoor

namespace Go.Proofs.YthccbfgjekdiiaaDoor
open Go.RowKit

set_option maxRecDepth 100000 in
set_option maxHeartbeats 2000000 in
/-- The document's Parted. -/
theorem parted_any (x : Value) (zs : List Int) (K : Int) (w : World) (hx : Ints w x zs) (hl : zs.length ≤ 8000000) (hK : 0 ≤ K ∧ K < 9223372036854775808) (hb : ∀ z ∈ zs, 0 ≤ z ∧ z < 9223372036854775808) :
    Calls Tryd.prog 95 #[x, .int .i64 K] w fun e w' => ∃ a b, e = .returned (.tuple #[a, b]) ∧ Ints w' a (pa K zs) ∧ Ints w' b (pb K zs) ∧ Fr (fun _ => False) w w' := by
  obtain ⟨xo, xc, rfl⟩ := hx.form
  have HG := hide (And.intro hx (And.intro hl (And.intro hb hK)))
  clear hx hl hb hK
  generalize hN : zs.length = N at *
  go_enter Tryd.func95, Tryd.ntmps95
  go_wp2_with fail
  go_loopw [6, 7, 8] (fun av bv iv wr => ∃ k : Nat, k ≤ N ∧ iv = .int .i64 (k : Nat) ∧ OI w wr av (pa K (zs.take k)) ∧ OI w wr bv (pb K (zs.take k)) ∧ ∀ g, av.ownBlock = some g → bv.ownBlock = some g → False) (fun _ _ iv _ => N - (intOf iv).toNat)
  case atStart => exact ⟨0, Nat.zero_le _, rfl, OI.nil w, OI.nil w, fun g h => by cases h⟩
  case round =>
    rename_i av' bv'
    obtain ⟨k, hk, rfl, hA, hB, hap⟩ := hrel
    have hN8 := (unhide HG).2.1
    obtain ⟨hK0, hK1⟩ := (unhide HG).2.2.2
    have hla := pa_le K (zs.take k)
    have hlb := pb_le K (zs.take k)
    have htl : (zs.take k).length = k := by rw [List.length_take]; omega
    by_cases hlt : k < N
    · have hlt' : (k : Int) < (N : Int) := by omega
      have hkz : k < zs.length := by omega
      obtain ⟨g, o, rfl, hcell⟩ := ((unhide HG).1.fr0 hA.fr).cell k hkz
      obtain ⟨hz0, hz1⟩ := (unhide HG).2.2.1 zs[k] (List.getElem_mem hkz)
      have htk : zs.take (k + 1) = zs.take k ++ [zs[k]] := by rw [List.take_add_one, List.getElem?_eq_getElem hkz]; rfl
      have w1 : IntKind.i64.wrap ((k : Int) + 1) = (k : Int) + 1 := by rw [IntKind.wrap_i64]; omega
      generalize zs[k] = z at *
      have hgl := lt_of_cell hcell
      by_cases h1 : z < K
      · have e1 : pa K (zs.take (k + 1)) = pa K (zs.take k) ++ [z] := by rw [htk, pa_app]; simp [pa, h1]
        have e2 : pb K (zs.take (k + 1)) = pb K (zs.take k) := by rw [htk, pb_app]; simp [pb, h1]
        obtain ⟨ao, cp, w', hr, hA2, hB2, hap2⟩ := hA.two hB hap z (by omega)
        rw [← e1] at hA2
        rw [← e2] at hB2
        obtain ⟨a0, ac, rfl⟩ := hA.form
        obtain ⟨b0, bc, rfl⟩ := hB.form
        have HR := hide hr
        have HA := hide (And.intro hA2 (And.intro hB2 hap2))
        clear hr hA2 hB2 hap2 hA hB hap htk e1 e2 hla hlb htl
        generalize (pa K (zs.take k)).length = PA at *
        generalize (pb K (zs.take k)).length = PB at *
        go_wp2_with (at_builtin; refine wpList_app rfl (.tmp 21) (.tmp 26) 23 23 rfl _ _ _ rfl rfl (unhide HR) ?_)
        exact ⟨⟨k + 1, by omega, by go_num, (unhide HA).1, (unhide HA).2.1, (unhide HA).2.2⟩, by simp [intOf]; omega⟩
      · have w2 : IntKind.i64.wrap (z - K) = z - K := by rw [IntKind.wrap_i64]; omega
        have e1 : pb K (zs.take (k + 1)) = pb K (zs.take k) ++ [z - K] := by rw [htk, pb_app]; simp [pb, h1]
        have e2 : pa K (zs.take (k + 1)) = pa K (zs.take k) := by rw [htk, pa_app]; simp [pa, h1]
        obtain ⟨ao, cp, w', hr, hB2, hA2, hap2⟩ := hB.two hA (fun g h1 h2 => hap g h2 h1) (z - K) (by omega)
        rw [← e1] at hB2
        rw [← e2] at hA2
        obtain ⟨a0, ac, rfl⟩ := hA.form
        obtain ⟨b0, bc, rfl⟩ := hB.form
        have HR := hide hr
        have HA := hide (And.intro hA2 (And.intro hB2 hap2))
        clear hr hA2 hB2 hap2 hA hB hap htk e1 e2 hla hlb htl
        generalize (pa K (zs.take k)).length = PA at *
        generalize (pb K (zs.take k)).length = PB at *
        go_wp2_with (at_builtin; refine wpList_app rfl (.tmp 28) (.tmp 35) 23 23 rfl _ _ _ rfl rfl (unhide HR) ?_)
        exact ⟨⟨k + 1, by omega, by go_num, (unhide HA).1, (unhide HA).2.1, fun g h1 h2 => (unhide HA).2.2 g h2 h1⟩, by simp [intOf]; omega⟩
    · have hkN : k = N := by omega
      have hlt' : ¬ (k : Int) < (N : Int) := by omega
      rw [List.take_of_length_le (by omega)] at hA hB
      have HA := hide (And.intro hA.ints (And.intro hB.ints hA.fr))
      obtain ⟨a0, ac, rfl⟩ := hA.form
      obtain ⟨b0, bc, rfl⟩ := hB.form
      clear hkN hA hB hap hla hlb htl
      generalize (pa K zs).length = PA at *
      generalize (pb K zs).length = PB at *
      go_wp2_with fail
      go_returns
      exact ⟨_, _, rfl, (unhide HA).1, (unhide HA).2.1, (unhide HA).2.2⟩
end Go.Proofs.YthccbfgjekdiiaaDoor

namespace Go.Proofs.YthccbfgjekdiiaaDoor
open Go.RowKit

/-- The block of a slice. -/
def Bk (v : Value) (P : Nat → Prop) : Prop := ∀ g o n c, v = .slice (some ⟨g, o, none⟩) n c → P g
def OfQ (N0 : Nat) (i : Int) (ps : List (List Nat)) (x : Value) (w : World) : Prop :=
  Calls Tryd.prog 68 #[.int .i64 i, x] w fun e w' => ∃ yo yc, e = .returned (.slice yo (mth i ps).length yc) ∧ Sl w' (.slice yo (mth i ps).length yc) (mth i ps) ∧ Fr (fun _ => False) w w' ∧ Bk (.slice yo (mth i ps).length yc) (fun g => g < N0 ∨ w.heap.size ≤ g)
set_option maxRecDepth 100000 in
theorem ofQ_nil (N0 : Nat) (i : Int) (x : Value) (vs : List Value) (w : World) (hr : GR w) (hp : Pcs w x vs []) : OfQ N0 i [] x w := by
  unfold OfQ
  obtain ⟨xo, xc, rfl⟩ := hp.form
  obtain ⟨R, hR⟩ : ∃ R, mth i [] = R := ⟨_, rfl⟩
  have hsum : ∀ w, GR w → Calls Tryd.prog 89 #[.int .i64 i, .slice none 0 0] w fun e w' => ∃ zo zc, e = .returned (.slice zo R.length zc) ∧ OB w w' zo zc R := fun w h => by
    rw [← hR, mth_nil]
    exact gsum_T i _ [] w h (.inl ⟨rfl, rfl⟩) (fun _ h => by cases h) (by simp)
  have hb : ∀ v ∈ R, v < 256 := by rw [← hR, mth_nil]; exact sm_lt i _
  rw [hR]
  have HG := hide (And.intro hsum (And.intro hr hb))
  clear hsum hr hb hR hp
  simp only [List.length_nil]
  go_enter Tryd.func68, Tryd.ntmps68
  go_wp2_with fail
  refine ((unhide HG).1 w (unhide HG).2.1).mono ?_
  rintro e w1 ⟨zo, zc, rfl, hO⟩
  have hbk : Bk (.slice zo R.length zc) (fun g => g < N0 ∨ w.heap.size ≤ g) := fun g o n c e => by
    simp only [Value.slice.injEq] at e
    obtain ⟨rfl, _⟩ := e
    exact .inr (World.ownsRow.lt hO.own g rfl).1
  have H1 := hide (And.intro (hO.sl (unhide HG).2.2) (And.intro hO.fr hbk))
  clear hbk
  clear hO
  go_wp2_with fail
  go_ret
  exact ⟨zo, zc, rfl, (unhide H1).1, (unhide H1).2.1, (unhide H1).2.2⟩
set_option maxRecDepth 100000 in
theorem ofQ_one (N0 : Nat) (i : Int) (p : List Nat) (x : Value) (vs : List Value) (w : World) (hp : Pcs w x vs [p]) (hq : ∀ u ∈ vs, Bk u (fun g => g < N0)) : OfQ N0 i [p] x w := by
  unfold OfQ
  obtain ⟨xo, xc, rfl⟩ := hp.form
  obtain ⟨g, o, v, rfl, hcell, _⟩ := hp.cell (Fr.refl _ _) 0 (by simp)
  have hvl : 0 < vs.length := by rw [hp.len]; simp
  have hsl : Sl w v p ∧ v ∈ vs := by
    have h0 := hp.at_
    rcases h0 with ⟨e, rfl⟩ | ⟨a, c, e, rfl⟩ | ⟨g', o', c, e, _, hc⟩
    · simp at hvl
    · simp at hvl
    · simp only [Value.slice.injEq, Option.some.injEq, Addr.mk.injEq, and_true] at e
      obtain ⟨⟨rfl, rfl⟩, _⟩ := e
      have h1 := hc 0 _ (List.getElem?_eq_getElem hvl)
      rw [h1] at hcell
      have h2 := Option.some.inj hcell
      exact ⟨hp.sl 0 v p (by rw [List.getElem?_eq_getElem hvl, h2]) rfl, by rw [← h2]; exact List.getElem_mem hvl⟩
  rw [mth_one]
  have hbq := hq v hsl.2
  replace hsl := hsl.1
  obtain ⟨vo, vc, rfl⟩ := hsl.form
  rw [Nat.add_zero] at hcell
  have H := hide (And.intro hsl hbq)
  clear hsl hp hvl hbq hq
  simp only [List.length_singleton]
  generalize p.length = P at *
  go_enter Tryd.func68, Tryd.ntmps68
  go_wp2_with fail
  go_ret
  exact ⟨vo, vc, rfl, (unhide H).1, Fr.refl _ _, fun g o n c e => .inl ((unhide H).2 g o n c e)⟩
set_option maxRecDepth 100000 in
set_option maxHeartbeats 1000000 in
theorem ofQ_any (N0 : Nat) (i : Int) (ps : List (List Nat)) (x : Value) (vs : List Value) (w : World) (hl8 : ps.length ≤ 8000000) (hr : GR w) (hp : Pcs w x vs ps) (hcx : Cp x) (hB : ∀ p ∈ ps, p.length ≤ 4000000) (hq : ∀ u ∈ vs, Bk u (fun g => g < N0)) : OfQ N0 i ps x w := by
  by_cases h2 : ps.length < 2
  · match ps, h2 with
    | [], _ => exact ofQ_nil N0 i x vs w hr hp
    | [p], _ => exact ofQ_one N0 i p x vs w hp hq
  · clear hq
    obtain ⟨xo, xc, rfl⟩ := hp.form
    obtain ⟨g, o, v, rfl, -⟩ := hp.cell (Fr.refl _ _) 0 (by omega)
    have hk1 := hf_lt ps.length (by omega)
    have hk2 := hf_pos ps.length
    have hle : vs.length = ps.length := hp.len
    have hcapx : ps.length ≤ xc := hcx _ _ _ rfl
    have cp1 : Cp (.slice (some ⟨g, o, none⟩) (hf ps.length) xc) := fun _ _ _ e => by cases e; omega
    have cp2 : Cp (.slice (some ⟨g, o + hf ps.length, none⟩) (ps.length - hf ps.length) (xc - hf ps.length)) := fun _ _ _ e => by cases e; omega
    have hmt := mth_two i ps (by omega)
    have hP1 := hp.take (hf ps.length) (by omega)
    have hP2 := hp.drop (hf ps.length) hk1
    have hB1 : ∀ p ∈ ps.take (hf ps.length), p.length ≤ 4000000 := fun p h => hB p (List.mem_of_mem_take h)
    have hB2 : ∀ p ∈ ps.drop (hf ps.length), p.length ≤ 4000000 := fun p h => hB p (List.mem_of_mem_drop h)
    have hl1 : (ps.take (hf ps.length)).length = hf ps.length := by rw [List.length_take]; omega
    have hl2 : (ps.drop (hf ps.length)).length = ps.length - hf ps.length := by rw [List.length_drop]
    have c1 : ∀ w', Fr (fun _ => False) w w' → OfSays i (ps.take (hf ps.length)) (.slice (some ⟨g, o, none⟩) (hf ps.length) xc) w' := fun w' hfr => of_any i _ _ _ _ w' (Nat.le_refl _) (by omega) (hr.fr0 hfr) (hP1.fr0 hfr) cp1 hB1
    have c2 : ∀ w', Fr (fun _ => False) w w' → OfSays i (ps.drop (hf ps.length)) (.slice (some ⟨g, o + hf ps.length, none⟩) (ps.length - hf ps.length) (xc - hf ps.length)) w' := fun w' hfr => of_any i _ _ _ _ w' (Nat.le_refl _) (by omega) (hr.fr0 hfr) (hP2.fr0 hfr) cp2 hB2
    have m1 := mth_lt i _ (ps.take (hf ps.length)) (Nat.le_refl _) hP1.byt
    have m2 := mth_lt i _ (ps.drop (hf ps.length)) (Nat.le_refl _) hP2.byt
    have n1 := mth_len i 4000000 (by decide) _ hB1
    have n2 := mth_len i 4000000 (by decide) _ hB2
    have hha := half_any ps.length w (by omega) (by omega)
    unfold OfSays at c1 c2
    unfold OfQ
    rw [hmt]
    generalize mth i (ps.take (hf ps.length)) = M1 at *
    generalize mth i (ps.drop (hf ps.length)) = M2 at *
    obtain ⟨R, hR⟩ : ∃ R, nd i M1 M2 = R := ⟨_, rfl⟩
    rw [hR]
    have hbR : ∀ v ∈ R, v < 256 := by rw [← hR]; exact nd_lt i _ _
    have hnode : ∀ x y w', GR w' → Src w' x M1 → Src w' y M2 → Calls Tryd.prog 91 #[.int .i64 i, x, y] w' fun e w'' => ∃ yo yc, e = .returned (.slice yo R.length yc) ∧ OB w' w'' yo yc R := fun x y w' h1 h3 h4 => by
      rw [← hR]; exact gnode_any i x y M1 M2 w' h1 h3 h4 m1 m2 n1 n2
    have HG := hide (And.intro hr (And.intro hP1 (And.intro hP2 (And.intro c1 (And.intro c2 (And.intro hnode (And.intro hbR hha)))))))
    clear hr hP1 hP2 c1 c2 hnode hbR hha m1 m2 n1 n2 hmt hR hB hB1 hB2 hp hl1 hl2 cp1 cp2 hcx
    generalize hf ps.length = K at *
    have q1 : (K : Int) ≤ (ps.length : Int) := by omega
    have q2 : (K : Int) ≤ (xc : Int) := by omega
    have q3 : ((ps.length : Int) == 0) = false := beq_false_of_ne (by omega)
    have q4 : ((ps.length : Int) == 1) = false := beq_false_of_ne (by omega)
    generalize ps.length = N at *
    go_enter Tryd.func68, Tryd.ntmps68
    go_wp2_with fail
    refine (unhide HG).2.2.2.2.2.2.2.mono ?_
    rintro e w0 ⟨rfl, rfl⟩
    go_wp2_with fail
    have T1 : True := trivial
    have q5 : ¬ xc = K := by omega
    have q6 : ¬ K = xc := by omega
    go_region_held3 (fun _ => True) (trivial) (first
      | (go_at_call 68; clear T1; refine ((unhide HG).2.2.2.1 _ ((Fr.refl _ _).drew)).mono ?_; rintro e wA ⟨yA, cA, rfl, sA, fA⟩)
      | (go_at_call 68; refine ((unhide HG).2.2.2.2.1 _ (((Fr.refl _ _).drew).trans fA (fun _ _ h => h))).mono ?_; rintro e wB ⟨yB, cB, rfl, sB, fB⟩)
      | (go_at_call 91; refine ((unhide HG).2.2.2.2.2.1 _ _ wB (((unhide HG).1.fr0 (((Fr.refl _ _).drew).trans fA (fun _ _ h => h))).fr0 fB) (sA.s.fr0 fB) sB.s).mono ?_; rintro e wC ⟨zo, zc, rfl, oC⟩))
    have hFC : Fr (fun _ => False) w0 wC := ((((Fr.refl (fun _ => False) w0).drew).trans fA (fun _ _ h => h)).trans fB (fun _ _ h => h)).trans oC.fr (fun _ _ h => h)
    have hbk : Bk (.slice zo R.length zc) (fun g => g < N0 ∨ w0.heap.size ≤ g) := fun g o n c e => by
      simp only [Value.slice.injEq] at e
      obtain ⟨rfl, _⟩ := e
      have h1 := (World.ownsRow.lt oC.own g rfl).1
      have h2 : w0.heap.size ≤ wB.heap.size := ((((Fr.refl (fun _ => False) w0).drew).trans fA (fun _ _ h => h)).trans fB (fun _ _ h => h)).size
      exact .inr (by omega)
    have HE := hide (And.intro (oC.sl (unhide HG).2.2.2.2.2.2.1) (And.intro hFC hbk))
    clear hFC hbk
    go_wp2_with fail
    go_ret
    exact ⟨zo, zc, rfl, (unhide HE).1, (unhide HE).2.1, (unhide HE).2.2⟩
end Go.Proofs.YthccbfgjekdiiaaDoor

namespace Go.Proofs.YthccbfgjekdiiaaDoor
open Go.RowKit

theorem OS.base {w wA wr : World} {xo : Option Addr} {cp : Nat} {vs : List Value} (h : OS wA wr xo cp vs) (hf : Fr (fun _ => False) w wA) : OS w wr xo cp vs := by
  refine ⟨⟨h.own.1, ?_⟩, hf.trans h.fr (fun _ _ h => h)⟩
  rcases h.own.2 with h0 | ⟨g, cap, cur, e1, e2, e3⟩
  · exact .inl h0
  · exact .inr ⟨g, cap, cur, e1, Nat.le_trans hf.size e2, e3⟩
theorem LV.base {w wA wr : World} {ao : Option Addr} {cp : Nat} {us : List Value} {ls : List (List Nat)} (h : LV wA wr ao cp us ls) (hf : Fr (fun _ => False) w wA) : LV w wr ao cp us ls := ⟨h.own.base hf, h.len, h.sl⟩
theorem LV.fr0 {w wr wq : World} {ao : Option Addr} {cp : Nat} {us : List Value} {ls : List (List Nat)} (h : LV w wr ao cp us ls) (hf : Fr (fun _ => False) wr wq) : LV w wq ao cp us ls :=
  ⟨h.own.fr0 hf, h.len, fun j u l hu hl => ⟨(h.sl j u l hu hl).1.fr0 hf, (h.sl j u l hu hl).2.imp id (fun hh g o n c e => ⟨Nat.lt_of_lt_of_le (hh g o n c e).1 hf.size, (hh g o n c e).2⟩)⟩⟩
theorem LV.lit {w w1 : World} (hF0 : Fr (fun _ => False) w w1) {yo : Option Addr} {yc : Nat} {l : List Nat} (hs : Sl w1 (.slice yo l.length yc) l) (W : World) (hW : w1.alloc (.cells #[.slice yo l.length yc] 25) = W) : LV w W (some ⟨w1.heap.size, 0, none⟩) 1 [.slice yo l.length yc] [l] := by
  have hF : Fr (fun _ => False) w1 W := by rw [← hW]; exact (Fr.refl _ _).alloc _
  refine ⟨⟨?_, hF0.trans hF (fun _ _ h => h)⟩, rfl, fun j v p hv hp => ?_⟩
  · have := World.ownsRow_lit (e := 25) (size := 1) w1 #[.slice yo l.length yc] 1 (Nat.le_refl _) (by simp only [maxLen]; omega) rfl
    rw [hW] at this
    refine ⟨this.1, ?_⟩
    rcases this.2 with h0 | ⟨g, cap, cur, e1, e2, e3⟩
    · exact .inl h0
    · exact .inr ⟨g, cap, cur, e1, Nat.le_trans hF0.size e2, e3⟩
  · match j with
    | 0 =>
      simp at hv hp
      subst hv hp
      refine ⟨hs.fr0 hF, hs.lt.imp id (fun hh g o n c e => ⟨Nat.lt_of_lt_of_le (hh g o n c e) hF.size, fun g' hg' e2 => ?_⟩)⟩
      have h1 := hh g o n c e
      simp only [Value.ownBlock, Option.some.injEq] at hg'
      omega
    | j + 1 => simp at hv
/-- One more hash, that lay there. -/
theorem LV.stepS {w wr : World} {ao : Option Addr} {cp : Nat} {us : List Value} {ls : List (List Nat)} (h : LV w wr ao cp us ls) (l : List Nat) (yo : Option Addr) (yc : Nat) (hs : Sl wr (.slice yo l.length yc) l) (hq : l = [] ∨ Bk (.slice yo l.length yc) (fun g => ∀ g', (Value.slice ao us.length cp).ownBlock = some g' → ¬ g = g')) (hn : us.length < 16000000) :
    ∃ ao' cp' w2, (Builtin.append_ #[22, 22] 22 #[.slice ao us.length cp, .slice (some ⟨wr.heap.size, 0, none⟩) 1 1]).run Tryd.prog (wr.alloc (.cells #[.slice yo l.length yc] 25)) = .ok (.slice ao' (us.length + 1) cp') w2 ∧ LV w w2 ao' cp' (us ++ [.slice yo l.length yc]) (ls ++ [l]) ∧ Fr (fun k => (Value.slice ao us.length cp).ownBlock = some k) wr w2 ∧ ∀ g', (Value.slice ao' (us.length + 1) cp').ownBlock = some g' → (Value.slice ao us.length cp).ownBlock = some g' ∨ wr.heap.size ≤ g' := by
  obtain ⟨ao', cp', w2, hr, hOS, hgrow, hat⟩ := h.own.app1 yo l.length yc hn
  have hF : Fr (fun k => (Value.slice ao us.length cp).ownBlock = some k) wr w2 := ((Fr.refl _ _).alloc _).grown hgrow (fun g hg => .inl hg)
  have hsz2 : wr.heap.size ≤ w2.heap.size := hF.size
  have hnew0 : ∀ g', (Value.slice ao' (us.length + 1) cp').ownBlock = some g' → (Value.slice ao us.length cp).ownBlock = some g' ∨ wr.heap.size < g' := fun g' hg => by
    rcases hat with h1 | h1
    · rw [h1] at hg; exact .inl hg
    · rw [h1] at hg
      simp only [Option.some.injEq] at hg
      simp at hg
      exact .inr (by omega)
  have hnew : ∀ g', (Value.slice ao' (us ++ [Value.slice yo l.length yc]).length cp').ownBlock = some g' → (Value.slice ao us.length cp).ownBlock = some g' ∨ wr.heap.size < g' := fun g' hg => hnew0 g' (by rw [List.length_append] at hg; exact hg)
  refine ⟨ao', cp', w2, hr, ⟨hOS, by rw [List.length_append, List.length_append, h.len]; rfl, fun j u p hu hp => ?_⟩, hF, fun g' hg => (hnew0 g' hg).imp id Nat.le_of_lt⟩
  by_cases hj : j < us.length
  · rw [List.getElem?_append_left hj] at hu
    rw [List.getElem?_append_left (by rw [← h.len]; exact hj)] at hp
    obtain ⟨h1, h2⟩ := h.sl j u p hu hp
    refine ⟨h1.frD hF (h2.imp id (fun hh g o n c e hg => (hh g o n c e).2 g hg rfl)), h2.imp id (fun hh g o n c e => ⟨by have := (hh g o n c e).1; omega, fun g' hg' e2 => ?_⟩)⟩
    rcases hnew g' hg' with h3 | h3
    · exact (hh g o n c e).2 g' h3 e2
    · have := (hh g o n c e).1; omega
  · have hje : j = us.length := by
      have := (List.getElem?_eq_some_iff.1 hu).1
      rw [List.length_append, List.length_singleton] at this
      omega
    subst hje
    rw [List.getElem?_append_right (Nat.le_refl _), Nat.sub_self] at hu
    rw [List.getElem?_append_right (by rw [h.len]; exact Nat.le_refl _), h.len, Nat.sub_self] at hp
    simp only [List.getElem?_cons_zero, Option.some.injEq] at hu hp
    subst hu hp
    refine ⟨hs.frD hF (hq.imp id (fun hq g o n c e hg => hq g o n c e g hg rfl)), ?_⟩
    rcases hq with hq | hq
    · exact .inl hq
    · refine hs.lt.imp id (fun hh g o n c e => ⟨Nat.lt_of_lt_of_le (hh g o n c e) hsz2, fun g' hg' e2 => ?_⟩)
      rcases hnew g' hg' with h3 | h3
      · exact hq g o n c e g' h3 e2
      · have := hh g o n c e; omega
/-- A hash of a list, while another list grew. -/
theorem LV.nthD {wA wB wr : World} {bo : Option Addr} {bc : Nat} {us : List Value} {ls : List (List Nat)} {S : Nat → Prop} (h : LV wA wB bo bc us ls) (hF : Fr S wB wr) (hS : ∀ g, S g → g < wA.heap.size) (hSe : ∀ u ∈ us, Bk u (fun g => ¬ S g)) (k : Nat) (hk : k < ls.length) :
    ∃ g yo yc, bo = some ⟨g, 0, none⟩ ∧ wr.cell? ⟨g, k, none⟩ = some (.slice yo ls[k].length yc) ∧ .slice yo ls[k].length yc ∈ us ∧ Sl wr (.slice yo ls[k].length yc) ls[k] ∧ (ls[k] = [] ∨ Bk (.slice yo ls[k].length yc) (fun g => g < wB.heap.size)) := by
  have hku : k < us.length := by rw [h.len]; exact hk
  have hsl := (h.sl k us[k] ls[k] (List.getElem?_eq_getElem hku) (List.getElem?_eq_getElem hk)).1
  obtain ⟨yo, yc, e⟩ := hsl.form
  have hlt := hsl.lt
  have hmem : us[k] ∈ us := List.getElem_mem hku
  have hsl2 := hsl.frD hF (.inr (fun g o m c e' => hSe us[k] hmem g o m c e'))
  rcases h.own.own.2 with ⟨_, e0⟩ | ⟨g, cap, cur, eo, _⟩
  · omega
  · simp only [Value.slice.injEq] at eo
    obtain ⟨rfl, -, rfl⟩ := eo
    obtain ⟨hb, hl⟩ := h.own.own.lt g rfl
    have hc := h.own.own.cellAt k (by omega)
    rw [List.getElem?_eq_getElem hku, e] at hc
    rw [e] at hmem hsl2 hlt
    exact ⟨g, yo, yc, rfl, (hF.cell (p := ⟨g, k, none⟩) hl (fun hs => by have := hS g hs; omega)).trans hc, hmem, hsl2, hlt⟩
/-- The hashes for places, as the document gathers them. -/
def mnyG (i : Int) (ps : List (List Nat)) (zs : List Int) : List (List Nat) :=
  if zs = [] then [mth i ps]
  else if _h : ps.length < 2 then []
  else mnyG i (ps.take (hf ps.length)) (pa ((hf ps.length : Nat) : Int) zs) ++ mnyG i (ps.drop (hf ps.length)) (pb ((hf ps.length : Nat) : Int) zs)
termination_by ps.length
decreasing_by
  · rw [List.length_take]; have := hf_lt ps.length (by omega); omega
  · rw [List.length_drop]; have := hf_pos ps.length; omega
theorem mnyG_nil (i : Int) (ps : List (List Nat)) : mnyG i ps [] = [mth i ps] := by rw [mnyG, if_pos rfl]
theorem mnyG_one {i : Int} {ps : List (List Nat)} {zs : List Int} (hz : zs ≠ []) (h : ps.length < 2) : mnyG i ps zs = [] := by rw [mnyG, if_neg hz, dif_pos h]
theorem mnyG_two {i : Int} {ps : List (List Nat)} {zs : List Int} (hz : zs ≠ []) (h : 2 ≤ ps.length) : mnyG i ps zs = mnyG i (ps.take (hf ps.length)) (pa ((hf ps.length : Nat) : Int) zs) ++ mnyG i (ps.drop (hf ps.length)) (pb ((hf ps.length : Nat) : Int) zs) := by
  conv => lhs; rw [mnyG, if_neg hz, dif_neg (by omega)]
theorem mnyG_lt (i : Int) (k : Nat) : ∀ (ps : List (List Nat)) (zs : List Int), ps.length ≤ k → 1 ≤ ps.length → (mnyG i ps zs).length ≤ ps.length := by
  induction k with
  | zero => intro ps zs h h1; omega
  | succ k ih =>
    intro ps zs h h1
    by_cases hz : zs = []
    · rw [hz, mnyG_nil]; simpa using h1
    · by_cases h2 : ps.length < 2
      · rw [mnyG_one hz h2]; simp
      · have h3 := hf_lt ps.length (by omega)
        have h4 := hf_pos ps.length
        have l1 : (ps.take (hf ps.length)).length = hf ps.length := by rw [List.length_take]; omega
        have l2 : (ps.drop (hf ps.length)).length = ps.length - hf ps.length := by rw [List.length_drop]
        rw [mnyG_two hz (by omega), List.length_append]
        have i1 := ih (ps.take (hf ps.length)) (pa ((hf ps.length : Nat) : Int) zs) (by omega) (by omega)
        have i2 := ih (ps.drop (hf ps.length)) (pb ((hf ps.length : Nat) : Int) zs) (by omega) (by omega)
        omega
theorem mnyG_le (i : Int) (ps : List (List Nat)) (zs : List Int) : (mnyG i ps zs).length ≤ ps.length + 1 := by
  by_cases h : 1 ≤ ps.length
  · have := mnyG_lt i _ ps zs (Nat.le_refl _) h; omega
  · by_cases hz : zs = []
    · rw [hz, mnyG_nil]; simp
    · rw [mnyG_one hz (by omega)]; simp
end Go.Proofs.YthccbfgjekdiiaaDoor

namespace Go.Proofs.YthccbfgjekdiiaaDoor
open Go.RowKit

def ManyQ (N0 : Nat) (wi : Int) (ps : List (List Nat)) (zs : List Int) (x y : Value) (w : World) : Prop :=
  Calls Tryd.prog 77 #[.int .i64 wi, x, y] w fun e w' => ∃ ao cp us, e = .returned (.slice ao us.length cp) ∧ LV w w' ao cp us (mnyG wi ps zs) ∧ ∀ u ∈ us, Bk u (fun g => g < N0 ∨ w.heap.size ≤ g)
set_option maxRecDepth 100000 in
set_option maxHeartbeats 1000000 in
theorem manyQ_nil (N0 : Nat) (wi : Int) (ps : List (List Nat)) (x y : Value) (vs : List Value) (w : World) (hl8 : ps.length ≤ 8000000) (hr : GR w) (hp : Pcs w x vs ps) (hcx : Cp x) (hB : ∀ p ∈ ps, p.length ≤ 4000000) (hq : ∀ u ∈ vs, Bk u (fun g => g < N0)) (hy : Ints w y []) : ManyQ N0 wi ps [] x y w := by
  have hof := ofQ_any N0 wi ps x vs w hl8 hr hp hcx hB hq
  unfold ManyQ
  unfold OfQ at hof
  rw [mnyG_nil]
  obtain ⟨xo, xc, rfl⟩ := hp.form
  obtain ⟨yo, yc, rfl⟩ := hy.form
  generalize mth wi ps = M at *
  have HG := hide hof
  clear hof hr hp hB hq hy hcx hl8
  generalize ps.length = N at *
  simp only [List.length_nil]
  go_enter Tryd.func77, Tryd.ntmps77
  go_wp2_with fail
  refine (unhide HG).mono ?_
  rintro e w1 ⟨zo, zc, rfl, hS, hF, hK⟩
  obtain ⟨W, hW⟩ : ∃ W, w1.alloc (.cells #[.slice zo M.length zc] 25) = W := ⟨_, rfl⟩
  have H1 := hide (And.intro (LV.lit hF hS W hW) (And.intro hK hW))
  clear hS hF hK hW
  go_wp2_with fail
  go_ret
  have hW := (unhide H1).2.2
  rw [hW]
  exact ⟨_, _, _, rfl, (unhide H1).1, fun u hu => by simp at hu; subst hu; exact (unhide H1).2.1⟩
set_option maxRecDepth 100000 in
set_option maxHeartbeats 1000000 in
theorem manyQ_one (N0 : Nat) (wi : Int) (ps : List (List Nat)) (zs : List Int) (x y : Value) (vs : List Value) (w : World) (hp : Pcs w x vs ps) (hy : Ints w y zs) (hz : zs ≠ []) (h1 : ps.length = 1) : ManyQ N0 wi ps zs x y w := by
  unfold ManyQ
  rw [mnyG_one hz (by omega)]
  obtain ⟨xo, xc, rfl⟩ := hp.form
  obtain ⟨yo, yc, rfl⟩ := hy.form
  have h0 : 0 < zs.length := List.length_pos_iff.2 hz
  have q0 : ((zs.length : Int) == 0) = false := beq_false_of_ne (by omega)
  have q1 : ¬ zs.length = 0 := by omega
  have q2 : ¬ zs = [] := hz
  clear hp hy
  rw [h1]
  clear h1
  generalize zs.length = Z at *
  go_enter Tryd.func77, Tryd.ntmps77
  go_wp2_with fail
  go_ret
  exact ⟨none, 0, [], rfl, LV.nil _, fun u hu => by cases hu⟩
set_option maxRecDepth 100000 in
set_option maxHeartbeats 4000000 in
/-- The document's ManyOf. -/
theorem manyQ_any (N0 : Nat) (wi : Int) (n : Nat) : ∀ (ps : List (List Nat)) (zs : List Int) (x y : Value) (vs : List Value) (w : World), ps.length ≤ n → ps.length ≤ 8000000 - 1 → GR w → Pcs w x vs ps → Cp x → (∀ p ∈ ps, p.length ≤ 4000000) → Ints w y zs → zs.length ≤ 8000000 → (∀ z ∈ zs, 0 ≤ z ∧ z ≤ 16000000) → (zs ≠ [] → 1 ≤ ps.length) → N0 ≤ w.heap.size → (∀ u ∈ vs, Bk u (fun g => g < N0)) → ManyQ N0 wi ps zs x y w := by
  induction n with
  | zero =>
    intro ps zs x y vs w hl hl8 hr hp hcx hB hy hzl hzb hz1 hN0 hq
    have e : zs = [] := Classical.byContradiction fun h => by have := hz1 h; omega
    subst e
    exact manyQ_nil N0 wi ps x y vs w (by omega) hr hp hcx hB hq hy
  | succ n ih =>
    intro ps zs x y vs w hl hl8 hr hp hcx hB hy hzl hzb hz1 hN0 hq
    by_cases hz : zs = []
    · subst hz
      exact manyQ_nil N0 wi ps x y vs w (by omega) hr hp hcx hB hq hy
    · have hp1 := hz1 hz
      by_cases h1 : ps.length = 1
      · exact manyQ_one N0 wi ps zs x y vs w hp hy hz h1
      · obtain ⟨xo, xc, rfl⟩ := hp.form
        obtain ⟨yo, yc, rfl⟩ := hy.form
        obtain ⟨g, o, v, rfl, -⟩ := hp.cell (Fr.refl _ _) 0 (by omega)
        have hk1 := hf_lt ps.length (by omega)
        have hk2 := hf_pos ps.length
        have hle : vs.length = ps.length := hp.len
        have hcapx : ps.length ≤ xc := hcx _ _ _ rfl
        have cp1 : Cp (.slice (some ⟨g, o, none⟩) (hf ps.length) xc) := fun _ _ _ e => by cases e; omega
        have cp2 : Cp (.slice (some ⟨g, o + hf ps.length, none⟩) (ps.length - hf ps.length) (xc - hf ps.length)) := fun _ _ _ e => by cases e; omega
        have hP1 := hp.take (hf ps.length) (by omega)
        have hP2 := hp.drop (hf ps.length) hk1
        have hB1 : ∀ p ∈ ps.take (hf ps.length), p.length ≤ 4000000 := fun p h => hB p (List.mem_of_mem_take h)
        have hB2 : ∀ p ∈ ps.drop (hf ps.length), p.length ≤ 4000000 := fun p h => hB p (List.mem_of_mem_drop h)
        have hl1 : (ps.take (hf ps.length)).length = hf ps.length := by rw [List.length_take]; omega
        have hl2 : (ps.drop (hf ps.length)).length = ps.length - hf ps.length := by rw [List.length_drop]
        have hla := pa_le ((hf ps.length : Nat) : Int) zs
        have hlb := pb_le ((hf ps.length : Nat) : Int) zs
        have hza : ∀ z ∈ pa ((hf ps.length : Nat) : Int) zs, 0 ≤ z ∧ z ≤ 16000000 := fun z h => hzb z (List.mem_filter.1 h).1
        have hzc : ∀ z ∈ pb ((hf ps.length : Nat) : Int) zs, 0 ≤ z ∧ z ≤ 16000000 := fun z h => by
          obtain ⟨z', h', rfl⟩ := List.mem_map.1 h
          have h2 := hzb z' (List.mem_filter.1 h').1
          have h3 := (List.mem_filter.1 h').2
          simp at h3
          omega
        have hha := half_any ps.length w (by omega) (by omega)
        have hpt := parted_any _ zs ((hf ps.length : Nat) : Int) w hy (by omega) (by omega) (fun z hz => by have := hzb z hz; omega)
        have c1 : ∀ w' a, Fr (fun _ => False) w w' → Ints w' a (pa ((hf ps.length : Nat) : Int) zs) → ManyQ N0 wi (ps.take (hf ps.length)) (pa ((hf ps.length : Nat) : Int) zs) (.slice (some ⟨g, o, none⟩) (hf ps.length) xc) a w' := fun w' a hfr ha => ih _ _ _ _ _ w' (by omega) (by omega) (hr.fr0 hfr) (hP1.fr0 hfr) cp1 hB1 ha (by omega) hza (fun _ => by omega) (Nat.le_trans hN0 hfr.size) (fun u hu => hq u (List.mem_of_mem_take hu))
        have c2 : ∀ w' b, Fr (fun _ => False) w w' → Ints w' b (pb ((hf ps.length : Nat) : Int) zs) → ManyQ N0 wi (ps.drop (hf ps.length)) (pb ((hf ps.length : Nat) : Int) zs) (.slice (some ⟨g, o + hf ps.length, none⟩) (ps.length - hf ps.length) (xc - hf ps.length)) b w' := fun w' b hfr hb => ih _ _ _ _ _ w' (by omega) (by omega) (hr.fr0 hfr) (hP2.fr0 hfr) cp2 hB2 hb (by omega) hzc (fun _ => by omega) (Nat.le_trans hN0 hfr.size) (fun u hu => hq u (List.mem_of_mem_drop hu))
        have m1 := mnyG_le wi (ps.take (hf ps.length)) (pa ((hf ps.length : Nat) : Int) zs)
        have m2 := mnyG_le wi (ps.drop (hf ps.length)) (pb ((hf ps.length : Nat) : Int) zs)
        have fa : ∀ w' a, Ints w' a (pa ((hf ps.length : Nat) : Int) zs) → ∃ ao ac, a = .slice ao (pa ((hf ps.length : Nat) : Int) zs).length ac := fun w' a h => h.form
        have fb : ∀ w' a, Ints w' a (pb ((hf ps.length : Nat) : Int) zs) → ∃ ao ac, a = .slice ao (pb ((hf ps.length : Nat) : Int) zs).length ac := fun w' a h => h.form
        unfold ManyQ at c1 c2 ⊢
        rw [mnyG_two hz (by omega)]
        generalize mnyG wi (ps.take (hf ps.length)) (pa ((hf ps.length : Nat) : Int) zs) = A1 at *
        generalize mnyG wi (ps.drop (hf ps.length)) (pb ((hf ps.length : Nat) : Int) zs) = A2 at *
        have m3 : A1.length ≤ 8000000 ∧ A2.length ≤ 8000000 := by omega
        have h0 : 0 < zs.length := List.length_pos_iff.2 hz
        have q0 : ((zs.length : Int) == 0) = false := beq_false_of_ne (by omega)
        have q1 : ¬ zs.length = 0 := by omega
        have q2 : ¬ zs = [] := hz
        have HG := hide (And.intro hha (And.intro hpt (And.intro c1 (And.intro c2 (And.intro m3 (And.intro hN0 (And.intro fa fb)))))))
        clear hr hP1 hP2 c1 c2 hha hpt hB hB1 hB2 hp hl1 hl2 ih cp1 cp2 hcx m1 m2 m3 hla hlb hza hzc hzb hz1 hq hy hle fa fb
        generalize (pa ((hf ps.length : Nat) : Int) zs).length = LA at *
        generalize (pb ((hf ps.length : Nat) : Int) zs).length = LB at *
        generalize hK : hf ps.length = K at *
        have q3 : (K : Int) ≤ (ps.length : Int) := by omega
        have q4 : (K : Int) ≤ (xc : Int) := by omega
        have q5 : ¬ xc = K := by omega
        have q6 : ¬ K = xc := by omega
        have q7 : ((ps.length : Int) == 1) = false := beq_false_of_ne (by omega)
        have q8 : ¬ ps.length = 1 := by omega
        clear hK
        generalize ps.length = N at *
        generalize zs.length = Z at *
        go_enter Tryd.func77, Tryd.ntmps77
        go_wp2_with fail
        refine (unhide HG).1.mono ?_
        rintro e w0 ⟨rfl, rfl⟩
        go_wp2_with fail
        refine (unhide HG).2.1.mono ?_
        rintro e w1 ⟨a, b, rfl, hIa, hIb, hF⟩
        obtain ⟨a0, ac, rfl⟩ := (unhide HG).2.2.2.2.2.2.1 _ _ hIa
        obtain ⟨b0, bc, rfl⟩ := (unhide HG).2.2.2.2.2.2.2 _ _ hIb
        have H1 := hide (And.intro hIa (And.intro hIb hF))
        clear hIa hIb hF
        go_wp2_with fail
        refine ((unhide HG).2.2.1 w1 _ (unhide H1).2.2 (unhide H1).1).mono ?_
        rintro e w2 ⟨ao, cp, us, rfl, hV, hQ⟩
        have H2 := hide (And.intro (hV.base (unhide H1).2.2) (And.intro hV.own.fr (And.intro hQ hV.len)))
        clear hV hQ
        go_wp2_with fail
        refine ((unhide HG).2.2.2.1 w2 _ ((unhide H1).2.2.trans (unhide H2).2.1 (fun _ _ h => h)) ((unhide H1).2.1.fr0 (unhide H2).2.1)).mono ?_
        rintro e w3 ⟨bo, bcp, ts, rfl, hV, hQ⟩
        have htl : ts.length = A2.length := hV.len
        rw [htl]
        have H3 := hide (And.intro hV (And.intro hQ htl))
        clear hV hQ htl
        go_wp2_with fail
        go_loopw [10, 12] (fun ov iv wr => ∃ (k : Nat) (ro : Option Addr) (rc : Nat) (rs : List Value), k ≤ A2.length ∧ iv = .int .i64 (k : Nat) ∧ ov = .slice ro rs.length rc ∧ LV w0 wr ro rc rs (A1 ++ A2.take k) ∧ Fr (fun j => (Value.slice ao us.length cp).ownBlock = some j) w3 wr ∧ (∀ g', (Value.slice ro rs.length rc).ownBlock = some g' → (Value.slice ao us.length cp).ownBlock = some g' ∨ w3.heap.size ≤ g') ∧ ∀ u ∈ rs, Bk u (fun g => g < N0 ∨ w0.heap.size ≤ g)) (fun _ iv _ => A2.length - (intOf iv).toNat)
        case atStart => exact ⟨0, ao, cp, us, Nat.zero_le _, rfl, rfl, by simpa using (unhide H2).1.fr0 (unhide H3).1.own.fr, Fr.refl _ _, fun g h => .inl h, fun u hu g o n c e => ((unhide H2).2.2.1 u hu g o n c e).imp id (fun h => Nat.le_trans (unhide H1).2.2.size h)⟩
        case round =>
          obtain ⟨k, ro, rc, rs, hk, rfl, rfl, hV, hF, hO, hQ⟩ := hrel
          have hm := (unhide HG).2.2.2.2.1
          have hrl : rs.length = A1.length + k := by rw [hV.len, List.length_append, List.length_take]; omega
          by_cases hlt : k < A2.length
          · have hlt' : (k : Int) < (A2.length : Int) := by omega
            have hown : ∀ g', (Value.slice ao us.length cp).ownBlock = some g' → w0.heap.size ≤ g' ∧ g' < w2.heap.size := fun g' hg => (unhide H2).1.own.own.lt g' hg
            have hN0 := (unhide HG).2.2.2.2.2.1
            have h02 : w0.heap.size ≤ w2.heap.size := (unhide H2).1.own.fr.size
            obtain ⟨g2, yo2, yc2, rfl, hcell, hmem, hsl, hl3⟩ := (unhide H3).1.nthD hF (fun g hg => (hown g hg).2) (fun u hu g o n c e hS => by
              have h1 := hown g hS
              rcases (unhide H3).2.1 u hu g o n c e with h2 | h2 <;> omega) k hlt
            have hbk := (unhide H3).2.1 _ hmem
            have hqq : A2[k] = [] ∨ Bk (.slice yo2 A2[k].length yc2) (fun g => ∀ g', (Value.slice ro rs.length rc).ownBlock = some g' → ¬ g = g') := hl3.imp id (fun h g o n c e g' hg' eg => by
              rcases hO g' hg' with h1 | h1
              · have h3 := hown g' h1
                rcases hbk g o n c e with h2 | h2 <;> omega
              · have := h g o n c e; omega)
            obtain ⟨ro', rc', w5, hr, hV5, hF5, hO5⟩ := hV.stepS A2[k] yo2 yc2 hsl hqq (by omega)
            have e1 : A1 ++ A2.take k ++ [A2[k]] = A1 ++ A2.take (k + 1) := by
              rw [List.append_assoc, List.take_add_one, List.getElem?_eq_getElem hlt]; rfl
            rw [e1] at hV5
            have h3r : w3.heap.size ≤ wr.heap.size := hF.size
            have hF6 : Fr (fun j => (Value.slice ao us.length cp).ownBlock = some j) w3 w5 := hF.trans hF5 (fun j hj hT => (hO j hT).resolve_right (by omega))
            have hO6 : ∀ g', (Value.slice ro' (rs ++ [Value.slice yo2 A2[k].length yc2]).length rc').ownBlock = some g' → (Value.slice ao us.length cp).ownBlock = some g' ∨ w3.heap.size ≤ g' := fun g' hg' => by
              rw [List.length_append] at hg'
              rcases hO5 g' hg' with h | h
              · exact hO g' h
              · exact .inr (by omega)
            have hQ6 : ∀ u ∈ rs ++ [Value.slice yo2 A2[k].length yc2], Bk u (fun g => g < N0 ∨ w0.heap.size ≤ g) := fun u hu => by
              rcases List.mem_append.1 hu with hu | hu
              · exact hQ u hu
              · simp at hu
                subst hu
                exact fun g o n c e => (hbk g o n c e).imp id (fun h => by omega)
            have hcell2 : wr.cell? ⟨g2, 0 + k, none⟩ = some (.slice yo2 A2[k].length yc2) := by rw [Nat.zero_add]; exact hcell
            have HR := hide hr
            have HV := hide (And.intro hV5 (And.intro hF6 (And.intro hO6 hQ6)))
            clear hr hV5 hF5 hO5 hF6 hO6 hQ6 hV hF hO hQ hqq hbk hl3 hsl hmem e1 hown
            have w1' : IntKind.i64.wrap ((k : Int) + 1) = (k : Int) + 1 := by rw [IntKind.wrap_i64]; omega
            generalize A2[k].length = EL at *
            generalize A2.length = NB at *
            go_wp2_with (at_builtin; refine wpList_app rfl (.tmp 50) (.tmp 55) 22 22 rfl _ _ _ rfl rfl (unhide HR) ?_)
            exact ⟨⟨k + 1, ro', rc', _, by omega, by go_num, by first | (rw [List.length_append]; rfl) | (rw [List.length_append, hrl]; rfl), (unhide HV).1, (unhide HV).2.1, (unhide HV).2.2.1, (unhide HV).2.2.2⟩, by simp [intOf]; omega⟩
          · have hkN : k = A2.length := by omega
            have hlt' : ¬ (k : Int) < (A2.length : Int) := by omega
            rw [List.take_of_length_le (by omega)] at hV
            have HV := hide (And.intro hV hQ)
            clear hV hQ hkN hO hF hrl
            generalize A2.length = NB at *
            go_wp2_with fail
            go_ret
            exact ⟨ro, rc, rs, rfl, (unhide HV).1, (unhide HV).2⟩
end Go.Proofs.YthccbfgjekdiiaaDoor

namespace Go.Proofs.YthccbfgjekdiiaaDoor
open Go.RowKit

theorem pcs2 {w : World} {x y : Value} {a b : List Nat} (hx : Sl w x a) (hy : Sl w y b) (W : World) (hW : w.alloc (.cells #[x, y] 25) = W) : Pcs W (.slice (some ⟨w.heap.size, 0, none⟩) 2 2) [x, y] [a, b] := by
  have hF1 : Fr (fun _ => False) w W := by rw [← hW]; exact (Fr.refl _ _).alloc _
  have hx1 := hx.fr0 hF1
  have hy1 := hy.fr0 hF1
  have hc : ∀ j, j < 2 → W.cell? ⟨w.heap.size, 0 + j, none⟩ = (#[x, y] : Array Value)[j]? := fun j hj => by rw [Nat.zero_add, ← hW, World.cell?_alloc_at _ _ _ _ rfl]
  have hc0 := hc 0 (by decide)
  have hl : w.heap.size < W.heap.size := lt_of_cell (v := x) hc0
  refine ⟨rfl, .inr (.inr ⟨w.heap.size, 0, 2, rfl, hl, fun j v hv => ?_⟩), fun j v p hv hp => ?_, fun p hp => ?_⟩
  · match j with
    | 0 => rw [hc 0 (by decide)]; simpa using hv
    | 1 => rw [hc 1 (by decide)]; simpa using hv
    | j + 2 => simp at hv
  · match j with
    | 0 => simp at hv hp; subst hv hp; exact ⟨hx1.s, hx1.cap, hx1.lt⟩
    | 1 => simp at hv hp; subst hv hp; exact ⟨hy1.s, hy1.cap, hy1.lt⟩
    | j + 2 => simp at hv
  · simp at hp
    rcases hp with rfl | rfl
    · exact hx1.b
    · exact hy1.b
/-- What CheckPath answers. -/
def chkP (j : Int) (leaf : List Nat) (i n : Int) (ps : List (List Nat)) (root : List Nat) : Bool :=
  decide (1 ≤ j ∧ j ≤ 32) && (decide (0 ≤ i) && (decide (i < n) && (wdq j [leaf, root] && (wdq j ps && (decide (ps.length = dep 0 n.toNat i.toNat 1) && decide (topv j.toNat leaf 0 n.toNat i.toNat 1 ps = root))))))
set_option maxRecDepth 100000 in
set_option maxHeartbeats 2000000 in
theorem checkPath_any (j i n : Int) (lv rv x : Value) (leaf root : List Nat) (vs : List Value) (ps : List (List Nat)) (w : World) (hg : GS w) (hl : Sl w lv leaf) (hr : Sl w rv root) (hp : Pcs w x vs ps) (hcx : Cp x) (hn : n < 9223372036854775808) (hps : ps.length < 4611686018427387904) :
    Calls Tryd.prog 12 #[.int .i64 j, lv, .int .i64 i, .int .i64 n, x, rv] w fun e w' => e = .returned (.bool (chkP j leaf i n ps root)) ∧ Fr (fun _ => False) w w' := by
  obtain ⟨lo, lc, rfl⟩ := hl.form
  obtain ⟨rr, rc, rfl⟩ := hr.form
  obtain ⟨xo, xc, rfl⟩ := hp.form
  by_cases h1o : j < 1 ∨ 32 < j
  · have h1 : ¬ (1 ≤ j ∧ j ≤ 32) := by omega
    have hB : chkP j leaf i n ps root = false := by rw [chkP, decide_eq_false h1]; rfl
    rw [hB]
    have HM := hide h1
    clear hg hl hr hp hcx hn hps hB h1 h1o
    generalize leaf.length = LL at *
    generalize root.length = RL at *
    generalize ps.length = PL at *
    go_enter Tryd.func12, Tryd.ntmps12
    go_wp2_with (go_at_call 26; refine (maybe_any j _).mono ?_; rintro e' w' ⟨rfl, hw'⟩; rw [hw', decide_eq_false (unhide HM)])
    go_ret
    exact ⟨rfl, Fr.refl _ _⟩
  · have h1 : 1 ≤ j ∧ j ≤ 32 := by omega
    clear h1o
    have HM := hide h1
    by_cases h2' : i < 0
    · have h2 : ¬ 0 ≤ i := by omega
      have hB : chkP j leaf i n ps root = false := by rw [chkP, decide_eq_true h1, decide_eq_false h2]; rfl
      rw [hB]
      clear hg hl hr hp hcx hn hps hB h1
      generalize leaf.length = LL at *
      generalize root.length = RL at *
      generalize ps.length = PL at *
      go_enter Tryd.func12, Tryd.ntmps12
      go_wp2_with (go_at_call 26; refine (maybe_any j _).mono ?_; rintro e' w' ⟨rfl, hw'⟩; rw [hw', decide_eq_true (unhide HM)])
      go_ret
      exact ⟨rfl, Fr.refl _ _⟩
    · have h2 : 0 ≤ i := by omega
      by_cases h3' : n ≤ i
      · have h3 : ¬ i < n := by omega
        have hB : chkP j leaf i n ps root = false := by rw [chkP, decide_eq_true h1, decide_eq_true h2, decide_eq_false h3]; rfl
        rw [hB]
        clear hg hl hr hp hcx hn hps hB h1
        generalize leaf.length = LL at *
        generalize root.length = RL at *
        generalize ps.length = PL at *
        go_enter Tryd.func12, Tryd.ntmps12
        go_wp2_with (go_at_call 26; refine (maybe_any j _).mono ?_; rintro e' w' ⟨rfl, hw'⟩; rw [hw', decide_eq_true (unhide HM)])
        go_ret
        exact ⟨rfl, Fr.refl _ _⟩
      · have h3 : i < n := by omega
        clear h2' h3'
        obtain ⟨wi, rfl⟩ : ∃ k : Nat, j = (k : Int) := ⟨j.toNat, by omega⟩
        obtain ⟨I, rfl⟩ : ∃ k : Nat, i = (k : Int) := ⟨i.toNat, by omega⟩
        obtain ⟨N, rfl⟩ : ∃ k : Nat, n = (k : Int) := ⟨n.toNat, by omega⟩
        have h2' : ¬ (I : Int) < 0 := by omega
        have h3' : ¬ (N : Int) ≤ (I : Int) := by omega
        have hIN : I < N := by omega
        have hrch := rch_one N 0 N I (Nat.le_refl _) (by omega) (by omega)
        obtain ⟨W1, hW1⟩ : ∃ W1, w.alloc (.cells #[.slice lo leaf.length lc, .slice rr root.length rc] 25) = W1 := ⟨_, rfl⟩
        have hF1 : Fr (fun _ => False) w W1 := by rw [← hW1]; exact (Fr.refl _ _).alloc _
        have hwd1 := wide_any wi _ _ [leaf, root] W1 (pcs2 hl hr W1 hW1) (by simp)
        have hwd2 := wide_any wi _ vs ps W1 (hp.fr0 hF1) hps
        have hce : chkP wi leaf I N ps root = (wdq wi [leaf, root] && (wdq wi ps && (decide (ps.length = dep 0 N I 1) && decide (topv wi leaf 0 N I 1 ps = root)))) := by
          rw [chkP, decide_eq_true h1, decide_eq_true h2, decide_eq_true h3]; rfl
        rw [hce]
        clear hce
        cases hq1 : wdq wi [leaf, root] with
        | false =>
          rw [hq1] at hwd1
          rw [Bool.false_and]
          have HC := hide (And.intro hwd1 hF1)
          clear hg hl hr hp hcx hn hps h1 h2 h3 hwd1 hwd2 hF1 hrch hIN hq1
          generalize leaf.length = LL at *
          generalize root.length = RL at *
          generalize ps.length = PL at *
          go_enter Tryd.func12, Tryd.ntmps12
          go_wp2_with (go_at_call 26; refine (maybe_any wi _).mono ?_; rintro e' w' ⟨rfl, hw'⟩; rw [hw', decide_eq_true (unhide HM)])
          refine (unhide HC).1.mono ?_
          rintro e' w2 ⟨rfl, rfl⟩
          go_wp2_with fail
          go_ret
          exact ⟨rfl, (unhide HC).2⟩
        | true =>
          rw [hq1] at hwd1
          rw [Bool.true_and]
          cases hq2 : wdq wi ps with
          | false =>
            rw [hq2] at hwd2
            rw [Bool.false_and]
            have HC := hide (And.intro hwd1 (And.intro hwd2 hF1))
            clear hg hl hr hp hcx hn hps h1 h2 h3 hwd1 hwd2 hF1 hrch hIN hq1 hq2
            generalize leaf.length = LL at *
            generalize root.length = RL at *
            generalize ps.length = PL at *
            go_enter Tryd.func12, Tryd.ntmps12
            go_wp2_with (go_at_call 26; refine (maybe_any wi _).mono ?_; rintro e' w' ⟨rfl, hw'⟩; rw [hw', decide_eq_true (unhide HM)])
            refine (unhide HC).1.mono ?_
            rintro e' w2 ⟨rfl, rfl⟩
            go_wp2_with fail
            refine (unhide HC).2.1.mono ?_
            rintro e' w3 ⟨rfl, rfl⟩
            go_wp2_with fail
            go_ret
            exact ⟨rfl, (unhide HC).2.2⟩
          | true =>
            rw [hq2] at hwd2
            rw [Bool.true_and]
            have hlw : leaf.length = wi := by have := wdq_true hq1 leaf (by simp); omega
            have hpw : ∀ p ∈ ps, p.length = wi := fun p hp => by have := wdq_true hq2 p hp; omega
            have hoe := fun w' => ofEntry_any wi I lo leaf.length lc xo ps.length xc w'
            have hft := fun w' => fits_any wi 0 N I 1 lo leaf.length lc xo ps.length xc w' (by omega) hrch
            by_cases hD : ps.length = dep 0 N I 1
            · have htop := fun w' (hf : Fr (fun _ => False) w w') => top_any wi (by omega) (by omega) N 0 N I 1 w' lo leaf.length lc leaf _ vs ps (Nat.le_refl _) (by omega) hrch (hg.fr0 hf) (hl.fr0 hf) hlw (hp.fr0 hf) hcx hD hpw
              rw [decide_eq_true hD] at hft ⊢
              rw [Bool.true_and]
              have HC := hide (And.intro hwd1 (And.intro hwd2 (And.intro hoe (And.intro hft (And.intro htop (And.intro hr hF1))))))
              clear hg hl hp hcx hn hps h1 h2 h3 hwd1 hwd2 hF1 hrch hIN hq1 hq2 hoe hft htop hD hpw hlw hr
              generalize topv wi leaf 0 N I 1 ps = TV at *
              obtain ⟨BB, hBB⟩ : ∃ BB, decide (TV = root) = BB := ⟨_, rfl⟩
              rw [hBB]
              have HBB := hide hBB
              clear hBB
              generalize leaf.length = LL at *
              generalize root.length = RL at *
              generalize ps.length = PL at *
              unfold sv cv at HC
              have e1 : ((1 : Nat) : Int) = 1 := rfl
              have e0 : ((0 : Nat) : Int) = 0 := rfl
              simp only [e1, e0] at HC
              clear e1 e0
              go_enter Tryd.func12, Tryd.ntmps12
              go_wp2_with (go_at_call 26; refine (maybe_any wi _).mono ?_; rintro e' w' ⟨rfl, hw'⟩; rw [hw', decide_eq_true (unhide HM)])
              refine (unhide HC).1.mono ?_
              rintro e' w2 ⟨rfl, rfl⟩
              go_wp2_with fail
              refine (unhide HC).2.1.mono ?_
              rintro e' w3 ⟨rfl, rfl⟩
              go_wp2_with fail
              refine ((unhide HC).2.2.1 _).mono ?_
              rintro e' wA ⟨rfl, hFA⟩
              have HA := hide ((unhide HC).2.2.2.2.2.2.trans hFA (fun _ _ h => h))
              clear hFA
              go_wp2_with fail
              obtain ⟨W2, hW2⟩ : ∃ W2, (wA.alloc (.cells #[.int .i64 wi, .int .i64 I, .int .i64 1, .slice lo LL lc, .slice xo PL xc] 59)).alloc (.cells #[.int .i64 0, .int .i64 N] 57) = W2 := ⟨_, rfl⟩
              rw [hW2]
              obtain ⟨⟨a0, a1, a2, a3, a4⟩, b0, b1, hF2⟩ := box52 wA _ _ _ _ _ _ _ _ _ W2 hW2
              refine ((unhide HC).2.2.2.1 _).mono ?_
              rintro e' wB ⟨rfl, hFB⟩
              have c0 := (hFB.cell (lt_of_cell a0) (fun h => h)).trans a0
              have c1 := (hFB.cell (lt_of_cell a1) (fun h => h)).trans a1
              have c2 := (hFB.cell (lt_of_cell a2) (fun h => h)).trans a2
              have c3 := (hFB.cell (lt_of_cell a3) (fun h => h)).trans a3
              have c4 := (hFB.cell (lt_of_cell a4) (fun h => h)).trans a4
              have d0 := (hFB.cell (lt_of_cell b0) (fun h => h)).trans b0
              have d1 := (hFB.cell (lt_of_cell b1) (fun h => h)).trans b1
              have HB := hide (((unhide HA).trans hF2 (fun _ _ h => h)).trans hFB (fun _ _ h => h))
              clear hF2 hFB hW2 a0 a1 a2 a3 a4 b0 b1 HA
              generalize wA.heap.size = P at *
              go_wp2_with fail
              refine ((unhide HC).2.2.2.2.1 _ (unhide HB)).mono ?_
              rintro e' wC ⟨uo, un, uc, rfl, hS, hFC⟩
              have HS := hide (And.intro hS ((unhide HB).trans hFC (fun _ _ h => h)))
              clear hS hFC
              go_wp2_with fail
              refine (beq_sl _ _ _ _ _ (unhide HS).1 ((unhide HC).2.2.2.2.2.1.fr0 (unhide HS).2)).mono ?_
              rintro e' wD ⟨rfl, rfl⟩
              rw [unhide HBB]
              go_wp2_with fail
              go_ret
              exact ⟨rfl, (unhide HS).2⟩
            · rw [decide_eq_false hD] at hft ⊢
              rw [Bool.false_and]
              have HC := hide (And.intro hwd1 (And.intro hwd2 (And.intro hoe (And.intro hft hF1))))
              clear hg hl hp hcx hn hps h1 h2 h3 hwd1 hwd2 hF1 hrch hIN hq1 hq2 hoe hft hD hpw hlw hr
              generalize leaf.length = LL at *
              generalize root.length = RL at *
              generalize ps.length = PL at *
              unfold sv cv at HC
              have e1 : ((1 : Nat) : Int) = 1 := rfl
              have e0 : ((0 : Nat) : Int) = 0 := rfl
              simp only [e1, e0] at HC
              clear e1 e0
              go_enter Tryd.func12, Tryd.ntmps12
              go_wp2_with (go_at_call 26; refine (maybe_any wi _).mono ?_; rintro e' w' ⟨rfl, hw'⟩; rw [hw', decide_eq_true (unhide HM)])
              refine (unhide HC).1.mono ?_
              rintro e' w2 ⟨rfl, rfl⟩
              go_wp2_with fail
              refine (unhide HC).2.1.mono ?_
              rintro e' w3 ⟨rfl, rfl⟩
              go_wp2_with fail
              refine ((unhide HC).2.2.1 _).mono ?_
              rintro e' wA ⟨rfl, hFA⟩
              have HA := hide ((unhide HC).2.2.2.2.trans hFA (fun _ _ h => h))
              clear hFA
              go_wp2_with fail
              refine ((unhide HC).2.2.2.1 _).mono ?_
              rintro e' wB ⟨rfl, hFB⟩
              have HB := hide ((unhide HA).trans ((((Fr.refl _ _).alloc _).alloc _).trans hFB (fun _ _ h => h)) (fun _ _ h => h))
              clear hFB
              go_wp2_with fail
              go_ret
              exact ⟨rfl, unhide HB⟩
end Go.Proofs.YthccbfgjekdiiaaDoor

namespace Go.Proofs.YthccbfgjekdiiaaDoor
open Go.RowKit

set_option maxRecDepth 100000 in
set_option maxHeartbeats 1000000 in
theorem hex_O (s : ByteArray) (w : World) (hs : s.size < 1048576) : Calls Tryd.prog 24 #[.string s] w fun e w' => ∃ yo yc, e = .returned (.slice yo (hxl (bytesOf s)).length yc) ∧ OB w w' yo yc (hxl (bytesOf s)) := by
  go_enter Tryd.func24, Tryd.ntmps24
  go_wp2_with fail
  go_loopw [3, 4] (fun x i wr => ∃ k j : Nat, j = 2 * k ∧ j ≤ s.size ∧ i = .int .i64 j ∧ wr.ownsRow w.heap.size 5 1 x k (cellsOf (hxk (bytesOf s) k)) ∧ Fr (fun _ => False) w wr) (fun _ i _ => s.size - (intOf i).toNat)
  case atStart => exact ⟨0, 0, rfl, Nat.zero_le _, rfl, own_nil w _, Fr.refl _ _⟩
  case round =>
    obtain ⟨k, j, hj, hjs, rfl, ho, hF⟩ := hrel
    rename World => wr
    rename_i x'
    by_cases hlt : j + 1 < s.size
    · have hlt1 : j < s.size := by omega
      have hlt2 : j < s.data.size := hlt1
      have hlt3 : j + 1 < s.data.size := hlt
      have a0 : s[j].toNat < 256 := s[j].toNat_lt
      have a1 : s[j + 1].toNat < 256 := s[j + 1].toNat_lt
      have e0 : (bytesOf s).getD (2 * k) 0 = s[j].toNat := by
        rw [← hj, List.getD, List.getElem?_eq_getElem (by rw [bytesOf_length]; exact hlt1)]; simp [bytesOf]; rfl
      have e1 : (bytesOf s).getD (2 * k + 1) 0 = s[j + 1].toNat := by
        rw [← hj, List.getD, List.getElem?_eq_getElem (by rw [bytesOf_length]; exact hlt)]; simp [bytesOf]; rfl
      have hv : hbl (bytesOf s) k = (dg s[j].toNat * 16 % 256) ||| dg s[j + 1].toNat := by rw [hbl, e0, e1]
      have hj2 : j + 2 ≤ s.size := by omega
      obtain ⟨xo, xcap, rfl⟩ := own_form ho
      have x0 : ∀ w0 : World, (Instr.index 9 (.string s) (.int .i64 (j : Int))).run Tryd.prog w0 = .ok (.int .u8 (s[j].toNat : Int)) w0 := fun w0 => by
        rw [run_index_string _ _ _ _ _ Tryd.underlying9, dif_pos ⟨by omega, by omega⟩]
        simp only [Int.toNat_natCast]
      have x1 : ∀ w0 : World, (Instr.index 9 (.string s) (.int .i64 ((j : Int) + 1))).run Tryd.prog w0 = .ok (.int .u8 (s[j + 1].toNat : Int)) w0 := fun w0 => by
        have e : (j : Int) + 1 = ((j + 1 : Nat) : Int) := by omega
        rw [e, run_index_string _ _ _ _ _ Tryd.underlying9, dif_pos ⟨by omega, by omega⟩]
        simp only [Int.toNat_natCast]
      generalize s[j].toNat = A at *
      generalize s[j + 1].toNat = B1 at *
      have i1 : (j : Int) + 1 < (s.size : Int) := by omega
      have r0 : IntKind.i64.wrap ((j : Int) + 1) = (j : Int) + 1 := by rw [IntKind.wrap_i64]; omega
      have j0 : (0 : Int) ≤ (j : Int) + 1 := by omega
      have d0 := dg_lt A a0
      have d1 := dg_lt B1 a1
      have hd0 := fun w0 => digit_any A w0 a0
      have hd1 := fun w0 => digit_any B1 w0 a1
      generalize dg A = DA at *
      generalize dg B1 = DB at *
      have p1 : IntKind.u8.wrap ((DA : Int) * 16) = ((DA * 16 % 256 : Nat) : Int) := by rw [IntKind.wrap_u8]; omega
      have p1' : (DA : Int) * 16 % 256 = ((DA * 16 % 256 : Nat) : Int) := by omega
      have p2 := u8_or_nat (DA * 16 % 256) DB (Nat.mod_lt _ (by decide)) d1
      have vlt : (DA * 16 % 256) ||| DB < 256 := Nat.or_lt_two_pow (n := 8) (Nat.mod_lt _ (by decide)) d1
      generalize DA * 16 % 256 = P at *
      generalize P ||| DB = V at *
      have ho2 : (wr.alloc (.cells #[.int .u8 (V : Int)] 5)).drew.ownsRow w.heap.size 5 1 (.slice xo k xcap) k (cellsOf (hxk (bytesOf s) k)) := ownsRow_of_block (w' := (wr.alloc (.cells #[.int .u8 (V : Int)] 5)).drew) ho (fun g hg => Below.heap_alloc _ _ _ (ho.lt g hg).2)
      have hsr : Src (wr.alloc (.cells #[.int .u8 (V : Int)] 5)).drew (.slice (some ⟨wr.heap.size, 0, none⟩) 1 1) [V] := (lit_src wr [V] #[.int .u8 (V : Int)] 1 1 rfl (by simp [cellsOf, B, Nat.mod_eq_of_lt vlt])).fr0 (Fr.refl _ _).drew
      obtain ⟨ao, c', w2, hr, hown, hgrow, hat⟩ := run_app_sl _ 25 w.heap.size k _ _ _ [V] ho2 hsr (by simp; omega) (by have := hF.size; simp; omega)
      have hF2 : Fr (fun _ => False) w w2 := ((hF.alloc _).drew).grown hgrow (fun g hg => .inr (ho.lt g hg).1)
      have hnew : w2.ownsRow w.heap.size 5 1 (.slice ao (k + 1) c') (k + 1) (cellsOf (hxk (bytesOf s) (k + 1))) := by
        rw [hxk_succ, hv, cellsOf_append]; exact hown
      have hj' : j + 2 = 2 * (k + 1) := by omega
      have HR := hide hr
      have HV := hide (And.intro hnew (And.intro hF2 hj'))
      clear hv hj ho hF e0 e1 hlt1 hlt2 hlt3 ho2 hsr hr hown hgrow hat hF2 hnew hj'
      go_wp2_with fail
      go_region_held3 (fun _ => True) (trivial) (first
        | (go_at_call 52; refine (hd0 _).mono ?_; rintro e w' ⟨rfl, rfl⟩; clear hd0)
        | (go_at_call 52; refine (hd1 _).mono ?_; rintro e w' ⟨rfl, rfl⟩)
        | (refine step_app rfl (.tmp 12) (.tmp 24) 25 25 rfl (.slice xo k xcap) (.slice (some ⟨wr.heap.size, 0, none⟩) 1 1) _ (by simp [Act.eval]) (by simp [Act.eval]) (unhide HR) ?_))
      all_goals
        go_wp2_with fail
        exact ⟨⟨k + 1, j + 2, (unhide HV).2.2, hj2, by go_num, (unhide HV).1, (unhide HV).2.1⟩, by simp [intOf]; omega⟩
    · have hlt' : ¬ (j : Int) + 1 < (s.size : Int) := by omega
      have e : hxl (bytesOf s) = hxk (bytesOf s) k := by rw [hxl, bytesOf_length]; congr 1; omega
      obtain ⟨xo, xcap, rfl⟩ := own_form ho
      have hO : OB w wr xo xcap (hxk (bytesOf s) k) := ⟨by rw [hxk_len]; exact ho, hF⟩
      have hl := hxk_len (bytesOf s) k
      rw [← e] at hO hl
      have HV := hide (And.intro hO hl)
      clear hO hF ho e hj hl
      go_wp2_with fail
      go_ret
      exact ⟨xo, xcap, by rw [(unhide HV).2]; rfl, (unhide HV).1⟩
/-- A literal of slices of bytes. -/
theorem pcs_lit {w : World} {vs : List Value} {ps : List (List Nat)} (hl : vs.length = ps.length) (hs : ∀ (j : Nat) v p, vs[j]? = some v → ps[j]? = some p → Sl w v p) (W : World) (hW : w.alloc (.cells vs.toArray 25) = W) (n : Nat) (hn : vs.length = n) : Pcs W (.slice (some ⟨w.heap.size, 0, none⟩) n n) vs ps ∧ Fr (fun _ => False) w W := by
  have hF1 : Fr (fun _ => False) w W := by rw [← hW]; exact (Fr.refl _ _).alloc _
  have hc : ∀ j, W.cell? ⟨w.heap.size, 0 + j, none⟩ = vs.toArray[j]? := fun j => by rw [Nat.zero_add, ← hW, World.cell?_alloc_at _ _ _ _ rfl]
  have hlt : w.heap.size < W.heap.size := by rw [← hW]; simp
  refine ⟨⟨hl, .inr (.inr ⟨w.heap.size, 0, n, by rw [hn], hlt, fun j v hv => ?_⟩), fun j v p hv hp => ?_, fun p hp => ?_⟩, hF1⟩
  · rw [hc j]; simpa using hv
  · have := (hs j v p hv hp).fr0 hF1
    exact ⟨this.s, this.cap, this.lt⟩
  · obtain ⟨j, hj, rfl⟩ := List.getElem_of_mem hp
    exact (hs j (vs[j]'(by omega)) ps[j] (List.getElem?_eq_getElem _) (List.getElem?_eq_getElem hj)).b
/-- The entries of the document's examples. -/
def tes : List (List Nat) := [[], [0], [16], [32, 33], [48, 49], [64, 65, 66, 67], [80, 81, 82, 83, 84, 85, 86, 87], [96, 97, 98, 99, 100, 101, 102, 103, 104, 105, 106, 107, 108, 109, 110, 111]]
theorem hex_lit (s : ByteArray) (l : List Nat) (w : World) (hs : s.size < 1048576) (hl : hxl (bytesOf s) = l) (n : Nat) (hn : l.length = n) (hb : ∀ v ∈ l, v < 256) : Calls Tryd.prog 24 #[.string s] w fun e w' => ∃ yo yc, e = .returned (.slice yo n yc) ∧ Sl w' (.slice yo n yc) l ∧ Fr (fun _ => False) w w' := by
  refine (hex_O s w hs).mono ?_
  rintro e w' ⟨yo, yc, rfl, hO⟩
  rw [hl] at hO ⊢
  have := hO.sl hb
  rw [hn] at this ⊢
  exact ⟨yo, yc, rfl, this, hO.fr⟩
theorem sl_nil (w : World) : Sl w (.slice none 0 0) [] := ⟨.inl ⟨rfl, rfl⟩, fun _ _ _ e => by cases e; exact Nat.le_refl _, .inl rfl, fun _ h => by cases h⟩
set_option maxRecDepth 100000 in
set_option maxHeartbeats 4000000 in
theorem tests_any (w : World) : Calls Tryd.prog 21 #[] w fun e w' => ∃ g vs, e = .returned (.slice (some ⟨g, 0, none⟩) 8 8) ∧ Pcs w' (.slice (some ⟨g, 0, none⟩) 8 8) vs tes ∧ Fr (fun _ => False) w w' := by
  go_enter Tryd.func21, Tryd.ntmps21
  go_wp2_with fail
  refine (hex_lit ⟨#[48, 48]⟩ [0] _ (by decide) (by decide) 1 rfl (by decide)).mono ?_
  rintro e w1 ⟨a1, c1, rfl, hS, hF⟩
  have S1 := hide hS
  have F1 := hide hF
  clear hS hF
  go_wp2_with fail
  refine (hex_lit ⟨#[49, 48]⟩ [16] _ (by decide) (by decide) 1 rfl (by decide)).mono ?_
  rintro e w2 ⟨a2, c2, rfl, hS, hF⟩
  have S1 := hide ((unhide S1).fr0 hF)
  have S2 := hide hS
  have F2 := hide ((unhide F1).trans hF (fun _ _ h => h))
  clear hS hF
  go_wp2_with fail
  refine (hex_lit ⟨#[50, 48, 50, 49]⟩ [32, 33] _ (by decide) (by decide) 2 rfl (by decide)).mono ?_
  rintro e w3 ⟨a3, c3, rfl, hS, hF⟩
  have S1 := hide ((unhide S1).fr0 hF)
  have S2 := hide ((unhide S2).fr0 hF)
  have S3 := hide hS
  have F3 := hide ((unhide F2).trans hF (fun _ _ h => h))
  clear hS hF
  go_wp2_with fail
  refine (hex_lit ⟨#[51, 48, 51, 49]⟩ [48, 49] _ (by decide) (by decide) 2 rfl (by decide)).mono ?_
  rintro e w4 ⟨a4, c4, rfl, hS, hF⟩
  have S1 := hide ((unhide S1).fr0 hF)
  have S2 := hide ((unhide S2).fr0 hF)
  have S3 := hide ((unhide S3).fr0 hF)
  have S4 := hide hS
  have F4 := hide ((unhide F3).trans hF (fun _ _ h => h))
  clear hS hF
  go_wp2_with fail
  refine (hex_lit ⟨#[52, 48, 52, 49, 52, 50, 52, 51]⟩ [64, 65, 66, 67] _ (by decide) (by decide) 4 rfl (by decide)).mono ?_
  rintro e w5 ⟨a5, c5, rfl, hS, hF⟩
  have S1 := hide ((unhide S1).fr0 hF)
  have S2 := hide ((unhide S2).fr0 hF)
  have S3 := hide ((unhide S3).fr0 hF)
  have S4 := hide ((unhide S4).fr0 hF)
  have S5 := hide hS
  have F5 := hide ((unhide F4).trans hF (fun _ _ h => h))
  clear hS hF
  go_wp2_with fail
  refine (hex_lit ⟨#[53, 48, 53, 49, 53, 50, 53, 51, 53, 52, 53, 53, 53, 54, 53, 55]⟩ [80, 81, 82, 83, 84, 85, 86, 87] _ (by decide) (by decide) 8 rfl (by decide)).mono ?_
  rintro e w6 ⟨a6, c6, rfl, hS, hF⟩
  have S1 := hide ((unhide S1).fr0 hF)
  have S2 := hide ((unhide S2).fr0 hF)
  have S3 := hide ((unhide S3).fr0 hF)
  have S4 := hide ((unhide S4).fr0 hF)
  have S5 := hide ((unhide S5).fr0 hF)
  have S6 := hide hS
  have F6 := hide ((unhide F5).trans hF (fun _ _ h => h))
  clear hS hF
  go_wp2_with fail
  refine (hex_lit ⟨#[54, 48, 54, 49, 54, 50, 54, 51, 54, 52, 54, 53, 54, 54, 54, 55, 54, 56, 54, 57, 54, 97, 54, 98, 54, 99, 54, 100, 54, 101, 54, 102]⟩ [96, 97, 98, 99, 100, 101, 102, 103, 104, 105, 106, 107, 108, 109, 110, 111] _ (by decide) (by decide) 16 rfl (by decide)).mono ?_
  rintro e w7 ⟨a7, c7, rfl, hS, hF⟩
  have S1 := hide ((unhide S1).fr0 hF)
  have S2 := hide ((unhide S2).fr0 hF)
  have S3 := hide ((unhide S3).fr0 hF)
  have S4 := hide ((unhide S4).fr0 hF)
  have S5 := hide ((unhide S5).fr0 hF)
  have S6 := hide ((unhide S6).fr0 hF)
  have S7 := hide hS
  have F7 := hide ((unhide F6).trans hF (fun _ _ h => h))
  clear hS hF
  go_wp2_with fail
  go_ret
  obtain ⟨hP, hF⟩ := pcs_lit (w := w7) (vs := [.slice none 0 0, .slice a1 1 c1, .slice a2 1 c2, .slice a3 2 c3, .slice a4 2 c4, .slice a5 4 c5, .slice a6 8 c6, .slice a7 16 c7]) (ps := tes) rfl (fun j v p hv hp => by
    match j with
    | 0 => simp [tes] at hv hp; subst hv hp; exact sl_nil _
    | 1 => simp [tes] at hv hp; subst hv hp; exact unhide S1
    | 2 => simp [tes] at hv hp; subst hv hp; exact unhide S2
    | 3 => simp [tes] at hv hp; subst hv hp; exact unhide S3
    | 4 => simp [tes] at hv hp; subst hv hp; exact unhide S4
    | 5 => simp [tes] at hv hp; subst hv hp; exact unhide S5
    | 6 => simp [tes] at hv hp; subst hv hp; exact unhide S6
    | 7 => simp [tes] at hv hp; subst hv hp; exact unhide S7
    | j + 8 => simp at hv) _ rfl 8 rfl
  exact ⟨_, _, rfl, hP, (unhide F7).trans hF (fun _ _ h => h)⟩
end Go.Proofs.YthccbfgjekdiiaaDoor

