import Derived.Test.YtkpaoebpjcdglaaDoorPk2
import Derived.BigQuiet
import Derived.Test.YtkpaoebpjcdglaaDoorOap
import Derived.Test.YtkpaoebpjcdglaaDoorCards
import Derived.Test.YtkpaoebpjcdglaaDoorTie
import Derived.WalkKit
import Derived.ProofKit
import Derived.OpenShut
import Derived.LaidLaws
import Derived.Deep.DeepHandedRow
import Derived.Deep.DeepWitnessRowRef
namespace Go.Proofs.YtkpaoebpjcdglaaDoor
open Go.RowKit Go.Shelf

set_option maxHeartbeats 4000000 in
set_option maxRecDepth 100000 in
/-- Answers. -/
theorem answers_any (x y : Value) (S : List P3) (l : List (RQ × List F5)) (w : World) (hx : Stf w x S) (hz : ∀ n c, x = .slice none n c → c = 0) (hS : S.length ≤ 1000000) (hq : Rqs w y l) (hl : l.length ≤ 1000000000) (hp : ∀ p ∈ l, PGood p) (hg : GU w) :
    Calls Tryd.prog 5 #[x, y] w fun e w' => ∃ ov T al0, e = .returned ov ∧ AnsL w' w.heap.size T l (runM ⟨S, []⟩ 0 l) ov al0 ∧ Fr (fun _ => False) w w' := by
  obtain ⟨xo, xc, rfl⟩ := hx.form
  obtain ⟨yo, yc, rfl⟩ := hq.form
  have HNew := hide (new_B _ S w hx hz hS)
  have HQ := hide (And.intro hq (And.intro hg hp))
  have HOk : Hid (RM.Ok ⟨S, []⟩) := ⟨by show S.length ≤ _; omega, by show 0 ≤ 256; omega, fun c hc => by cases hc⟩
  clear hx hz hq hg hp
  go_enter Tryd.func5, Tryd.ntmps5
  go_wp2_with fail
  refine (unhide HNew).mono ?_
  rintro e w1 ⟨b, rfl, hb, hf1⟩
  have HI0 : Hid (AI w w1 b (.slice yo l.length yc) l ⟨S, []⟩ 0 (.slice none 0 0) (fun k => w.heap.size ≤ k ∧ k < w1.heap.size) []) := ⟨hb, fun k hk => hk, (unhide HQ).1.fr hf1, fun k hk => (unhide HQ).1.lt hk, (unhide HQ).2.1.fr hf1, lt_of_cell ((unhide HQ).2.1 0 (by omega)), ⟨World.ownsRow_nil _ _ _ _, fun g hg => (by cases hg), rfl, fun i a ha => (by simp at ha)⟩, hf1⟩
  clear hb hf1 HNew
  go_wp2_with fail
  go_loopw [13, 6] (fun kv ov wr => ∃ j : Nat, j ≤ l.length ∧ kv = .int .i64 (j : Nat) ∧ ∃ T al0, AI w wr b (.slice yo l.length yc) l ⟨S, []⟩ j ov T al0) (fun kv _ _ => l.length - (intOf kv).toNat)
  case atStart => exact ⟨0, Nat.zero_le _, rfl, _, _, unhide HI0⟩
  case round =>
    obtain ⟨j, hj, rfl, T, al0, hi⟩ := hrel
    by_cases hlt : j < l.length
    · obtain ⟨p, hpe⟩ : ∃ p, l[j] = p := ⟨_, rfl⟩
      have hpe2 : l[j]? = some p := by rw [List.getElem?_eq_getElem hlt, hpe]
      obtain ⟨g, o, rfl, c⟩ := hi.q.at_ j hlt
      rw [hpe] at c
      have hpm : p ∈ l := List.mem_of_getElem? hpe2
      obtain ⟨pg1, pg2, pg3⟩ := (unhide HQ).2.2 p hpm
      have hfd := hi.q.d p hpm
      obtain ⟨oo, oc, rfl⟩ := own_formX hi.al.o
      have hok := endM_ok (l.take j) ⟨S, []⟩ 0 (unhide HOk) (fun p' hp' => (unhide HQ).2.2 p' (List.mem_of_mem_take hp'))
      obtain ⟨⟨cl, nu, ac, op, rc, ve, wa, ow, fv, rs⟩, F⟩ := p
      obtain ⟨xo2, xc2, rfl⟩ : ∃ xo2 xc2, fv = .slice xo2 F.length xc2 := hfd.f.form
      obtain ⟨c0, c1, c2, c3, c4, c5, c6, c7, c8, c9⟩ := c
      simp only at c0 c1 c2 c3 c4 c5 c6 c7 c8 c9
      obtain ⟨X, hX⟩ : ∃ X, (endM ⟨S, []⟩ 0 (l.take j)).step ⟨cl, nu, ac, op, rc, ve, wa, ow, .slice xo2 F.length xc2, rs⟩ F j = X := ⟨_, rfl⟩
      obtain ⟨W8, hW8⟩ : ∃ W8, W8 = wr.alloc (.cells #[.int .u32 (cl : Nat), .int .u32 (nu : Nat), .int .u32 (ac : Nat), .int .u8 (op : Nat), .int .u32 (rc : Nat), .int .u32 (ve : Nat), .int .u32 (wa : Nat), .int .u32 (ow : Nat), .slice xo2 F.length xc2, .string rs] 49) := ⟨_, rfl⟩
      have hi8 : AI w W8 b (.slice (some ⟨g, o, none⟩) l.length yc) l ⟨S, []⟩ j (.slice oo al0.length oc) T al0 := by rw [hW8]; exact hi.step (box1 wr _)
      have HI8 := hide hi8
      have HX := hide (And.intro hpe2 hX)
      have HA : Hid (Calls Tryd.prog 12 #[.pointer (some ⟨b, 0, none⟩), .agg #[.int .u32 (cl : Nat), .int .u32 (nu : Nat), .int .u32 (ac : Nat), .int .u8 (op : Nat), .int .u32 (rc : Nat), .int .u32 (ve : Nat), .int .u32 (wa : Nat), .int .u32 (ow : Nat), .slice xo2 F.length xc2, .string rs], .int .u32 (j : Nat)] W8 fun e w' => ∃ fo fn fc ho hn hc, e = .returned (.agg #[.int .u32 (cl : Nat), .int .u32 (nu : Nat), .int .u8 (X.2.co : Nat), .int .u32 (X.2.rc : Nat), .int .u32 (X.2.ve : Nat), .slice fo fn fc, .slice ho hn hc]) ∧ ∃ ao cap w7, (Builtin.append_ #[23, 23] 23 #[.slice oo al0.length oc, .slice (some ⟨w'.heap.size, 0, none⟩) 1 1]).run Tryd.prog (w'.alloc (.cells #[.int .u32 (cl : Nat), .int .u32 (nu : Nat), .int .u8 (X.2.co : Nat), .int .u32 (X.2.rc : Nat), .int .u32 (X.2.ve : Nat), .slice fo fn fc, .slice ho hn hc] 36)) = .ok (.slice ao (al0.length + 1) cap) w7 ∧ ∃ T' al1, AI w w7 b (.slice (some ⟨g, o, none⟩) l.length yc) l ⟨S, []⟩ (j + 1) (.slice ao (al0.length + 1) cap) T' al1) := by
        refine (apply_C b T (endM ⟨S, []⟩ 0 (l.take j)) ⟨cl, nu, ac, op, rc, ve, wa, ow, .slice xo2 F.length xc2, rs⟩ F j W8 hi8.r (fun k hk => (hi8.t k hk).2) hok (hi8.q.d _ hpm) pg2 pg3 hi8.u X hX).mono ?_
        rintro e w3 ⟨fo, fn, fc, ho, hn, hc, he, o1, o2, hf, T', k1, k2, k3, k4, k5⟩
        obtain ⟨ao, cap, w7, hr7, hi7⟩ := hi8.next hpe2 hX hf k1 k2 k3 o1 o2 k4 k5 rfl rfl hl
        exact ⟨fo, fn, fc, ho, hn, hc, he, ao, cap, w7, hr7, T', _, hi7⟩
      have hkl : (j : Int) < (l.length : Int) := by omega
      have hwr : IntKind.u32.wrap (j : Int) = (j : Int) := by rw [IntKind.wrap_u32]; omega
      clear hi hi8 hpe hpe2 hpm pg1 pg2 pg3 hfd hok hX HX HI8 HI0
      go_wp2_with fail
      rw [← hW8]
      clear hW8
      refine (unhide HA).mono ?_
      rintro e w3 ⟨fo, fn, fc, ho, hn, hc, rfl, ao, cap, w7, hr7, T', al1, hi7⟩
      have HR7 := hide hr7
      have HI7 := hide hi7
      clear hr7 hi7 HA
      go_wp2_with (at_builtin; refine wpList_app rfl _ _ 23 23 rfl _ _ _ rfl rfl (unhide HR7) ?_; clear HR7)
      go_roundw
      case rel => exact ⟨j + 1, hlt, by go_num, T', al1, unhide HI7⟩
      case measure => simp [intOf]; omega
    · obtain rfl : j = l.length := by omega
      have HI := hide hi
      clear hi HI0
      go_wp2_with fail
      go_ret
      have h := (unhide HI).al
      rw [List.take_length] at h
      exact ⟨_, T, al0, rfl, h, (unhide HI).f⟩
end Go.Proofs.YtkpaoebpjcdglaaDoor

namespace Go.Proofs.YtkpaoebpjcdglaaDoor
open Go.RowKit Go.Shelf

def ada : F5 := fT ⟨#[65, 100, 97]⟩
def S1 : RM := ⟨kn, [⟨7, 6, false, [], [⟨1, 0, [ada], false⟩]⟩]⟩
def S2 : RM := ⟨kn, [⟨7, 6, false, [], [⟨1, 0, [ada], false⟩, ⟨2, 1, [ada, fQ 1108606976], false⟩]⟩]⟩
theorem st0 (v : Value) : RM.step ⟨kn, []⟩ ⟨0, 0, 1, 1, 0, 0, 7, 6, v, ⟨#[]⟩⟩ [ada] 0 = (S1, ⟨0, 1, 1, [], []⟩) := by kernel_rfl
theorem st1 (v : Value) : S1.step ⟨0, 0, 2, 2, 1, 1, 0, 0, v, ⟨#[]⟩⟩ [fQ 1108606976] 1 = (S2, ⟨0, 1, 2, [], []⟩) := by kernel_rfl
theorem st2 (v : Value) : S2.step ⟨0, 0, 1, 2, 1, 2, 0, 0, v, ⟨#[]⟩⟩ [fQ 1108869120] 2 = (S2, ⟨5, 0, 0, [], []⟩) := by kernel_rfl
theorem ok0 : RM.Ok ⟨kn, []⟩ := ⟨by decide, by decide, fun c hc => by cases hc⟩
theorem okF {f : F5} (h : f.v < 4294967296 ∧ f.u < 256) : ∀ x ∈ [f], x.v < 4294967296 ∧ x.u < 256 := fun x hx => by rw [List.mem_singleton] at hx; subst hx; exact h
theorem ok1 : S1.Ok := by
  have h := ok0.step ⟨0, 0, 1, 1, 0, 0, 7, 6, .slice none 0 0, ⟨#[]⟩⟩ [ada] 0 (okF (by decide)) (by decide)
  rw [st0] at h
  exact h
theorem ok2 : S2.Ok := by
  have h := ok1.step ⟨0, 0, 2, 2, 1, 1, 0, 0, .slice none 0 0, ⟨#[]⟩⟩ [fQ 1108606976] 1 (okF (by decide)) (by decide)
  rw [st1] at h
  exact h
end Go.Proofs.YtkpaoebpjcdglaaDoor

namespace Go.Proofs.YtkpaoebpjcdglaaDoor
open Go.RowKit Go.Shelf

theorem Fr.union {S T : Nat → Prop} {a b : World} (h : Fr S a b) (hS : ∀ k, S k → T k) : Fr T a b := h.mono (fun k _ hk => hS k hk)
/-- What awake carries from Apply to Apply. -/
structure AW (w W : World) (b g z0 z1 z2 z3 z4 z5 N0 N1 : Nat) (T : Nat → Prop) (s : RM) : Prop where
  r : RsB W b T s
  q : Rqs W (.slice (some ⟨g, 0, none⟩) 20 20) (stL z0 z1 z2 z3 z4 z5)
  u : GU W
  f : Fr (fun _ => False) w W
  t : ∀ k, T k → w.heap.size ≤ k ∧ k < W.heap.size ∧ (k < N0 ∨ N1 ≤ k)
  l : ∀ k, Rqb (.slice (some ⟨g, 0, none⟩) 20 20) (stL z0 z1 z2 z3 z4 z5) k → N0 ≤ k ∧ k < N1
  n : N1 ≤ W.heap.size
  v : 0 < w.heap.size
theorem AW.fr {w W W' : World} {b g z0 z1 z2 z3 z4 z5 N0 N1 : Nat} {T : Nat → Prop} {s : RM} (h : AW w W b g z0 z1 z2 z3 z4 z5 N0 N1 T s) (hf : Fr (fun _ => False) W W') : AW w W' b g z0 z1 z2 z3 z4 z5 N0 N1 T s :=
  ⟨h.r.fr hf, h.q.fr hf, h.u.fr hf, h.f.trans hf (fun _ _ h => h), fun k hk => ⟨(h.t k hk).1, Nat.lt_of_lt_of_le (h.t k hk).2.1 hf.size, (h.t k hk).2.2⟩, h.l, Nat.le_trans h.n hf.size, h.v⟩
theorem AW.go {w W W' : World} {b g z0 z1 z2 z3 z4 z5 N0 N1 : Nat} {T : Nat → Prop} {s s' : RM} (h : AW w W b g z0 z1 z2 z3 z4 z5 N0 N1 T s) (hr : RsB W' b (fun k => T k ∨ (W.heap.size ≤ k ∧ k < W'.heap.size)) s') (hf : Fr T W W') : AW w W' b g z0 z1 z2 z3 z4 z5 N0 N1 (fun k => T k ∨ (W.heap.size ≤ k ∧ k < W'.heap.size)) s' :=
  ⟨hr, h.q.frS hf (fun k hk hT => by have := h.l k hk; have := (h.t k hT).2.2; omega), h.u.frT hf (fun hT => by have := (h.t _ hT).1; have := h.v; omega), h.f.absorb hf (fun k hk => (h.t k hk).1), fun k hk => by
    have hn := h.n
    have hs := h.f.size
    have hs2 := hf.size
    rcases hk with hk | hk
    · have := h.t k hk; omega
    · omega, h.l, Nat.le_trans h.n hf.size, h.v⟩
/-- The 0-th request's cells, and Apply of it. -/
theorem AW.at0 {w W : World} {b g z0 z1 z2 z3 z4 z5 N0 N1 : Nat} {T : Nat → Prop} (h : AW w W b g z0 z1 z2 z3 z4 z5 N0 N1 T ⟨kn, []⟩) :
    (W.cell? ⟨g, 0, none⟩ = some (.int .u32 0) ∧ W.cell? ⟨g, 1, none⟩ = some (.int .u32 0) ∧ W.cell? ⟨g, 2, none⟩ = some (.int .u32 1) ∧ W.cell? ⟨g, 3, none⟩ = some (.int .u8 1) ∧ W.cell? ⟨g, 4, none⟩ = some (.int .u32 0) ∧ W.cell? ⟨g, 5, none⟩ = some (.int .u32 0) ∧ W.cell? ⟨g, 6, none⟩ = some (.int .u32 7) ∧ W.cell? ⟨g, 7, none⟩ = some (.int .u32 6) ∧ W.cell? ⟨g, 8, none⟩ = some (.slice (some ⟨z0, 0, none⟩) 1 1) ∧ W.cell? ⟨g, 9, none⟩ = some (.string ⟨#[]⟩)) ∧ Calls Tryd.prog 12 #[.pointer (some ⟨b, 0, none⟩), .agg #[.int .u32 0, .int .u32 0, .int .u32 1, .int .u8 1, .int .u32 0, .int .u32 0, .int .u32 7, .int .u32 6, .slice (some ⟨z0, 0, none⟩) 1 1, .string ⟨#[]⟩], .int .u32 0] W fun e w' => ∃ fo fn fc ho hn hc, e = .returned (.agg #[.int .u32 0, .int .u32 0, .int .u8 0, .int .u32 1, .int .u32 1, .slice fo fn fc, .slice ho hn hc]) ∧ Fr T W w' ∧ AW w w' b g z0 z1 z2 z3 z4 z5 N0 N1 (fun k => T k ∨ (W.heap.size ≤ k ∧ k < w'.heap.size)) S1 := by
  refine ⟨?_, ?_⟩
  · obtain ⟨g', o', e, c⟩ := h.q.at_ 0 (by show _ < 20; omega)
    cases e
    exact c
  · refine (apply_B b T ⟨kn, []⟩ ⟨0, 0, 1, 1, 0, 0, 7, 6, .slice (some ⟨z0, 0, none⟩) 1 1, ⟨#[]⟩⟩ [ada] 0 W h.r ok0 (h.q.d (⟨0, 0, 1, 1, 0, 0, 7, 6, .slice (some ⟨z0, 0, none⟩) 1 1, ⟨#[]⟩⟩, [ada]) (by simp [stL, ada])) (by decide) (okF (by decide)) h.u _ (st0 _)).mono ?_
    rintro e w' ⟨fo, fn, fc, ho, hn, hc, he, hr, _, _, hf⟩
    exact ⟨fo, fn, fc, ho, hn, hc, he, hf, h.go hr hf⟩
/-- The 1-th request's cells, and Apply of it. -/
theorem AW.at1 {w W : World} {b g z0 z1 z2 z3 z4 z5 N0 N1 : Nat} {T : Nat → Prop} (h : AW w W b g z0 z1 z2 z3 z4 z5 N0 N1 T S1) :
    (W.cell? ⟨g, 10, none⟩ = some (.int .u32 0) ∧ W.cell? ⟨g, 11, none⟩ = some (.int .u32 0) ∧ W.cell? ⟨g, 12, none⟩ = some (.int .u32 2) ∧ W.cell? ⟨g, 13, none⟩ = some (.int .u8 2) ∧ W.cell? ⟨g, 14, none⟩ = some (.int .u32 1) ∧ W.cell? ⟨g, 15, none⟩ = some (.int .u32 1) ∧ W.cell? ⟨g, 16, none⟩ = some (.int .u32 0) ∧ W.cell? ⟨g, 17, none⟩ = some (.int .u32 0) ∧ W.cell? ⟨g, 18, none⟩ = some (.slice (some ⟨z1, 0, none⟩) 1 1) ∧ W.cell? ⟨g, 19, none⟩ = some (.string ⟨#[]⟩)) ∧ Calls Tryd.prog 12 #[.pointer (some ⟨b, 0, none⟩), .agg #[.int .u32 0, .int .u32 0, .int .u32 2, .int .u8 2, .int .u32 1, .int .u32 1, .int .u32 0, .int .u32 0, .slice (some ⟨z1, 0, none⟩) 1 1, .string ⟨#[]⟩], .int .u32 1] W fun e w' => ∃ fo fn fc ho hn hc, e = .returned (.agg #[.int .u32 0, .int .u32 0, .int .u8 0, .int .u32 1, .int .u32 2, .slice fo fn fc, .slice ho hn hc]) ∧ Fr T W w' ∧ AW w w' b g z0 z1 z2 z3 z4 z5 N0 N1 (fun k => T k ∨ (W.heap.size ≤ k ∧ k < w'.heap.size)) S2 := by
  refine ⟨?_, ?_⟩
  · obtain ⟨g', o', e, c⟩ := h.q.at_ 1 (by show _ < 20; omega)
    cases e
    exact c
  · refine (apply_B b T S1 ⟨0, 0, 2, 2, 1, 1, 0, 0, .slice (some ⟨z1, 0, none⟩) 1 1, ⟨#[]⟩⟩ [fQ 1108606976] 1 W h.r ok1 (h.q.d (⟨0, 0, 2, 2, 1, 1, 0, 0, .slice (some ⟨z1, 0, none⟩) 1 1, ⟨#[]⟩⟩, [fQ 1108606976]) (by simp [stL])) (by decide) (okF (by decide)) h.u _ (st1 _)).mono ?_
    rintro e w' ⟨fo, fn, fc, ho, hn, hc, he, hr, _, _, hf⟩
    exact ⟨fo, fn, fc, ho, hn, hc, he, hf, h.go hr hf⟩
/-- The 2-th request's cells, and Apply of it. -/
theorem AW.at2 {w W : World} {b g z0 z1 z2 z3 z4 z5 N0 N1 : Nat} {T : Nat → Prop} (h : AW w W b g z0 z1 z2 z3 z4 z5 N0 N1 T S2) :
    (W.cell? ⟨g, 20, none⟩ = some (.int .u32 0) ∧ W.cell? ⟨g, 21, none⟩ = some (.int .u32 0) ∧ W.cell? ⟨g, 22, none⟩ = some (.int .u32 1) ∧ W.cell? ⟨g, 23, none⟩ = some (.int .u8 2) ∧ W.cell? ⟨g, 24, none⟩ = some (.int .u32 1) ∧ W.cell? ⟨g, 25, none⟩ = some (.int .u32 2) ∧ W.cell? ⟨g, 26, none⟩ = some (.int .u32 0) ∧ W.cell? ⟨g, 27, none⟩ = some (.int .u32 0) ∧ W.cell? ⟨g, 28, none⟩ = some (.slice (some ⟨z2, 0, none⟩) 1 1) ∧ W.cell? ⟨g, 29, none⟩ = some (.string ⟨#[]⟩)) ∧ Calls Tryd.prog 12 #[.pointer (some ⟨b, 0, none⟩), .agg #[.int .u32 0, .int .u32 0, .int .u32 1, .int .u8 2, .int .u32 1, .int .u32 2, .int .u32 0, .int .u32 0, .slice (some ⟨z2, 0, none⟩) 1 1, .string ⟨#[]⟩], .int .u32 2] W fun e w' => ∃ fo fn fc ho hn hc, e = .returned (.agg #[.int .u32 0, .int .u32 0, .int .u8 5, .int .u32 0, .int .u32 0, .slice fo fn fc, .slice ho hn hc]) ∧ Fr T W w' ∧ AW w w' b g z0 z1 z2 z3 z4 z5 N0 N1 (fun k => T k ∨ (W.heap.size ≤ k ∧ k < w'.heap.size)) S2 := by
  refine ⟨?_, ?_⟩
  · obtain ⟨g', o', e, c⟩ := h.q.at_ 2 (by show _ < 20; omega)
    cases e
    exact c
  · refine (apply_B b T S2 ⟨0, 0, 1, 2, 1, 2, 0, 0, .slice (some ⟨z2, 0, none⟩) 1 1, ⟨#[]⟩⟩ [fQ 1108869120] 2 W h.r ok2 (h.q.d (⟨0, 0, 1, 2, 1, 2, 0, 0, .slice (some ⟨z2, 0, none⟩) 1 1, ⟨#[]⟩⟩, [fQ 1108869120]) (by simp [stL])) (by decide) (okF (by decide)) h.u _ (st2 _)).mono ?_
    rintro e w' ⟨fo, fn, fc, ho, hn, hc, he, hr, _, _, hf⟩
    exact ⟨fo, fn, fc, ho, hn, hc, he, hf, h.go hr hf⟩
set_option maxHeartbeats 4000000 in
set_option maxRecDepth 100000 in
/-- awake. -/
theorem awake11 (w : World) (hg : GU w) : Calls Tryd.prog 4 #[] w fun e w' => e = .returned (.bool true) ∧ Fr (fun _ => False) w w' := by
  have HG := hide hg
  clear hg
  go_enter Tryd.func4, Tryd.ntmps4
  go_wp2_with fail
  refine (known_any _).mono ?_
  rintro e w1 ⟨ao, rfl, hs1, hf1⟩
  have H1 := hide (And.intro hs1 hf1)
  clear hs1 hf1
  go_wp2_with fail
  refine (new_B _ kn w1 (unhide H1).1 (fun n c e => (by cases e)) (by decide)).mono ?_
  rintro e w2 ⟨b, rfl, hb2, hf2⟩
  have H2 := hide hb2
  have F2 := hide hf2
  clear hb2 hf2
  go_wp2_with fail
  refine (records_B b _ _ _ (unhide H2)).mono ?_
  rintro e w' ⟨rfl, hw⟩
  obtain rfl := hw.symm
  clear hw
  go_wp2_with fail
  refine (story_any _).mono ?_
  rintro e w3 ⟨g, z0, z1, z2, z3, z4, z5, rfl, hq, hlow, hf3⟩
  have A0 : Hid (AW w w3 b g z0 z1 z2 z3 z4 z5 w2.heap.size w3.heap.size (fun k => w1.heap.size ≤ k ∧ k < w2.heap.size) ⟨kn, []⟩) := by
    have f1 := (unhide H1).2
    have f2 := unhide F2
    have f13 := (f1.trans f2 (fun _ _ h => h)).trans hf3 (fun _ _ h => h)
    have hs1 := f1.size
    have hs3 := hf3.size
    exact ⟨(unhide H2).fr hf3, hq, (unhide HG).fr f13, f13, fun k hk => ⟨by omega, by omega, .inl hk.2⟩, fun k hk => ⟨hlow k hk, hq.lt hk⟩, Nat.le_refl _, lt_of_cell ((unhide HG) 0 (by omega))⟩
  clear hq hlow hf3 H1 H2 F2 HG
  obtain ⟨⟨c0, c1, c2, c3, c4, c5, c6, c7, c8, c9⟩, hap⟩ := (unhide A0).at0
  have HAP := hide hap
  clear hap
  go_wp2_with fail
  refine (unhide HAP).mono ?_
  rintro e v0 ⟨fo0, fn0, fc0, ho0, hn0, hc0, rfl, hf, ha⟩
  have G0 := hide hf
  have B0 := hide ha
  clear HAP hf ha c0 c1 c2 c3 c4 c5 c6 c7 c8 c9
  have A1 := hide ((unhide B0).fr (box1 v0 (.cells #[.int .u32 0, .int .u32 0, .int .u8 0, .int .u32 1, .int .u32 1, .slice fo0 fn0 fc0, .slice ho0 hn0 hc0] 36)))
  obtain ⟨c0, c1, c2, c3, c4, c5, c6, c7, c8, c9⟩ := (unhide B0).at1.1
  have HAP := hide (unhide A1).at1.2
  have hgl : g < v0.heap.size := lt_of_cell c0
  go_wp2_with fail
  refine (unhide HAP).mono ?_
  rintro e v1 ⟨fo1, fn1, fc1, ho1, hn1, hc1, rfl, hf, ha⟩
  have G1 := hide hf
  have B1 := hide ha
  clear HAP hf ha c0 c1 c2 c3 c4 c5 c6 c7 c8 c9 hgl
  have A2 := hide ((unhide B1).fr (box1 v1 (.cells #[.int .u32 0, .int .u32 0, .int .u8 0, .int .u32 1, .int .u32 2, .slice fo1 fn1 fc1, .slice ho1 hn1 hc1] 36)))
  obtain ⟨c0, c1, c2, c3, c4, c5, c6, c7, c8, c9⟩ := (unhide B1).at2.1
  have HAP := hide (unhide A2).at2.2
  have hgl : g < v1.heap.size := lt_of_cell c0
  go_wp2_with fail
  refine (unhide HAP).mono ?_
  rintro e v2 ⟨fo2, fn2, fc2, ho2, hn2, hc2, rfl, hf, ha⟩
  have G2 := hide hf
  have B2 := hide ha
  clear HAP hf ha c0 c1 c2 c3 c4 c5 c6 c7 c8 c9 hgl
  have t0 := fun k => ((unhide B0).t k)
  have t1 := fun k => ((unhide B1).t k)
  have p01 : v1.heap[v0.heap.size]? = some (.cells #[.int .u32 0, .int .u32 0, .int .u8 0, .int .u32 1, .int .u32 1, .slice fo0 fn0 fc0, .slice ho0 hn0 hc0] 36) := ((unhide G1).block v0.heap.size (by simp) (fun hT => by have := (t0 _ hT).2.1; omega)).trans Array.getElem?_push_size
  have p0 : v2.heap[v0.heap.size]? = some (.cells #[.int .u32 0, .int .u32 0, .int .u8 0, .int .u32 1, .int .u32 1, .slice fo0 fn0 fc0, .slice ho0 hn0 hc0] 36) := ((unhide G2).block v0.heap.size (by have := lt_of_block p01; simp; omega) (fun hT => by
    have h1 := lt_of_block p01
    rcases hT with hT | hT
    · have := (t0 _ hT).2.1; omega
    · simp at hT; omega)).trans (((box1 v1 (.cells #[.int .u32 0, .int .u32 0, .int .u8 0, .int .u32 1, .int .u32 2, .slice fo1 fn1 fc1, .slice ho1 hn1 hc1] 36)).block _ (lt_of_block p01) (fun h => h)).trans p01)
  have p1 : v2.heap[v1.heap.size]? = some (.cells #[.int .u32 0, .int .u32 0, .int .u8 0, .int .u32 1, .int .u32 2, .slice fo1 fn1 fc1, .slice ho1 hn1 hc1] 36) := ((unhide G2).block v1.heap.size (by simp) (fun hT => by have := (t1 _ hT).2.1; omega)).trans Array.getElem?_push_size
  obtain ⟨_, _, a2, a3, a4, _, _⟩ := blk7 p0
  obtain ⟨_, _, b2, b3, b4, _, _⟩ := blk7 p1
  have hl0 := lt_of_block p0
  have hl1 := lt_of_block p1
  have HRc := hide (records_B b _ _ _ ((unhide B2).fr (box1 v2 (.cells #[.int .u32 0, .int .u32 0, .int .u8 5, .int .u32 0, .int .u32 0, .slice fo2 fn2 fc2, .slice ho2 hn2 hc2] 36))).r)
  have HF := hide ((unhide B2).f)
  clear t0 t1 p01 p0 p1 A0 A1 A2 B0 B1 B2 G0 G1 G2
  go_wp2_with fail
  refine (unhide HRc).mono ?_
  rintro e w' ⟨rfl, rfl⟩
  go_wp2_with fail
  go_ret
  exact ⟨rfl, (unhide HF).trans (box1 v2 _) (fun _ _ h => h)⟩
end Go.Proofs.YtkpaoebpjcdglaaDoor

namespace Go.Proofs.YtkpaoebpjcdglaaDoor
open Go.RowKit Go.Shelf

/-- What the examples are answered. -/
def knR : List RA := [⟨0, 1, 1, [], []⟩, ⟨0, 1, 2, [], []⟩, ⟨5, 0, 0, [], []⟩, ⟨7, 0, 0, [], []⟩, ⟨0, 1, 3, [], []⟩, ⟨0, 1, 3, [fQ 1109131264], []⟩, ⟨0, 1, 2, [ada, fQ 1108606976], []⟩, ⟨4, 0, 0, [], []⟩, ⟨0, 1, 0, [], []⟩, ⟨6, 0, 0, [], []⟩, ⟨0, 1, 0, [], []⟩, ⟨0, 1, 1, [ada], []⟩, ⟨0, 1, 0, [], []⟩, ⟨5, 0, 0, [], []⟩, ⟨0, 1, 1, [], []⟩, ⟨8, 0, 0, [], []⟩, ⟨0, 1, 3, [], [⟨1, 0, 0, true⟩, ⟨2, 1, 2, false⟩, ⟨3, 4, 1, false⟩]⟩, ⟨10, 0, 0, [], []⟩, ⟨1, 0, 0, [], []⟩, ⟨3, 0, 0, [], []⟩]
def knC : List Nat := [0, 0, 5, 7, 0, 0, 0, 4, 0, 6, 0, 0, 0, 5, 0, 8, 0, 10, 1, 3]
theorem knR_eq (z0 z1 z2 z3 z4 z5 : Nat) : runM ⟨kn, []⟩ 0 (stL z0 z1 z2 z3 z4 z5) = knR := by kernel_rfl
theorem stL_good (z0 z1 z2 z3 z4 z5 : Nat) : ∀ p ∈ stL z0 z1 z2 z3 z4 z5, PGood p := by
  have h : ∀ x ∈ (stL 0 0 0 0 0 0).map (fun p => (p.1.ac, p.2)), x.1 < 4294967296 ∧ x.2.length ≤ 140737488355328 ∧ ∀ f ∈ x.2, f.v < 4294967296 ∧ f.u < 256 := by decide
  intro p hp
  exact h (p.1.ac, p.2) (show (p.1.ac, p.2) ∈ (stL z0 z1 z2 z3 z4 z5).map (fun p => (p.1.ac, p.2)) from List.mem_map.2 ⟨p, hp, rfl⟩)
/-- The cells of an answer. -/
theorem AnsL.cell {w : World} {base : Nat} {T : Nat → Prop} {l : List (RQ × List F5)} {xs : List RA} {ov : Value} {al0 : List AN} {g c : Nat} (h : AnsL w base T l xs ov al0) (hov : ov = .slice (some ⟨g, 0, none⟩) al0.length c) (i : Nat) (x : RA) (hx : xs[i]? = some x) :
    ∃ fv hv, (w.cell? ⟨g, i * 7 + 2, none⟩ = some (.int .u8 (x.co : Nat)) ∧ w.cell? ⟨g, i * 7 + 3, none⟩ = some (.int .u32 (x.rc : Nat)) ∧ w.cell? ⟨g, i * 7 + 4, none⟩ = some (.int .u32 (x.ve : Nat)) ∧ w.cell? ⟨g, i * 7 + 5, none⟩ = some fv ∧ w.cell? ⟨g, i * 7 + 6, none⟩ = some hv) ∧ OwF w base fv x.F ∧ OwS w base hv x.H := by
  have hi : i < al0.length := by rw [h.n]; exact (List.getElem?_eq_some_iff.1 hx).1
  obtain ⟨p, x', h1, h2, h3⟩ := h.a i al0[i] (List.getElem?_eq_getElem hi)
  rw [hx] at h2
  cases h2
  have ho := h.o
  rw [hov] at ho
  have hc : ∀ k, k < 7 → w.cell? ⟨g, i * 7 + k, none⟩ = al0[i].cs[k]? := fun k hk => by rw [ho.cellAt _ (by omega), acells_at al0 i hi k hk]
  obtain ⟨e1, e2, e3, e4, e5⟩ := h3.e
  refine ⟨al0[i].fv, al0[i].hv, ⟨?_, ?_, ?_, hc 5 (by omega), hc 6 (by omega)⟩, h3.f, h3.h⟩
  · rw [← e3]; exact hc 2 (by omega)
  · rw [← e4]; exact hc 3 (by omega)
  · rw [← e5]; exact hc 4 (by omega)
theorem OwF.cell {w : World} {base g c : Nat} {v : Value} {l : List F5} (h : OwF w base v l) (hv : v = .slice (some ⟨g, 0, none⟩) l.length c) (i : Nat) (hi : i < l.length) : w.cell? ⟨g, i * 5, none⟩ = some (.string l[i].n) ∧ w.cell? ⟨g, i * 5 + 1, none⟩ = some (.int .u8 (l[i].k : Nat)) ∧ w.cell? ⟨g, i * 5 + 2, none⟩ = some (.string l[i].t) ∧ w.cell? ⟨g, i * 5 + 3, none⟩ = some (.float .f32 l[i].v) ∧ w.cell? ⟨g, i * 5 + 4, none⟩ = some (.int .u8 (l[i].u : Nat)) := by
  have ho : w.ownsRow base 39 5 v l.length (fcells l) := h
  rw [hv] at ho
  obtain ⟨a0, a1, a2, a3, a4⟩ := fcells_at l i hi
  exact ⟨(ho.cellAt _ (by omega)).trans a0, (ho.cellAt _ (by omega)).trans a1, (ho.cellAt _ (by omega)).trans a2, (ho.cellAt _ (by omega)).trans a3, (ho.cellAt _ (by omega)).trans a4⟩
theorem OwS.cell {w : World} {base g c : Nat} {v : Value} {l : List SM} (h : OwS w base v l) (hv : v = .slice (some ⟨g, 0, none⟩) l.length c) (i k : Nat) (hi : i * 4 + k < l.length * 4) : w.cell? ⟨g, i * 4 + k, none⟩ = (scells l)[i * 4 + k]? := by
  have ho : w.ownsRow base 43 4 v l.length (scells l) := h
  rw [hv] at ho
  exact ho.cellAt _ (by omega)
/-- All that RecordKnown looks at. -/
structure KW (w : World) (g c f5 c5 f6 c6 c11 h16 d16 : Nat) (f11 : Option Addr) : Prop where
  co : ∀ i, i < 20 → w.cell? ⟨g, i * 7 + 2, none⟩ = some (.int .u8 ((knC.getD i 0 : Nat) : Int))
  v4 : w.cell? ⟨g, 32, none⟩ = some (.int .u32 3)
  v5 : w.cell? ⟨g, 39, none⟩ = some (.int .u32 3)
  a5 : w.cell? ⟨g, 40, none⟩ = some (.slice (some ⟨f5, 0, none⟩) 1 c5)
  b5 : w.cell? ⟨f5, 0, none⟩ = some (.string ⟨#[116, 101, 109, 112]⟩) ∧ w.cell? ⟨f5, 1, none⟩ = some (.int .u8 2) ∧ w.cell? ⟨f5, 2, none⟩ = some (.string ⟨#[]⟩) ∧ w.cell? ⟨f5, 3, none⟩ = some (.float .f32 1109131264) ∧ w.cell? ⟨f5, 4, none⟩ = some (.int .u8 11)
  a6 : w.cell? ⟨g, 47, none⟩ = some (.slice (some ⟨f6, 0, none⟩) 2 c6)
  b6 : w.cell? ⟨f6, 0, none⟩ = some (.string ⟨#[110, 97, 109, 101]⟩) ∧ w.cell? ⟨f6, 1, none⟩ = some (.int .u8 1) ∧ w.cell? ⟨f6, 2, none⟩ = some (.string ⟨#[65, 100, 97]⟩) ∧ w.cell? ⟨f6, 3, none⟩ = some (.float .f32 0) ∧ w.cell? ⟨f6, 4, none⟩ = some (.int .u8 0)
  a11 : w.cell? ⟨g, 82, none⟩ = some (.slice f11 1 c11)
  a16 : w.cell? ⟨g, 118, none⟩ = some (.slice (some ⟨h16, 0, none⟩) 3 d16)
  b16 : w.cell? ⟨h16, 0, none⟩ = some (.int .u32 1) ∧ w.cell? ⟨h16, 1, none⟩ = some (.int .u32 0) ∧ w.cell? ⟨h16, 2, none⟩ = some (.int .u32 0) ∧ w.cell? ⟨h16, 3, none⟩ = some (.bool true) ∧ w.cell? ⟨h16, 4, none⟩ = some (.int .u32 2) ∧ w.cell? ⟨h16, 5, none⟩ = some (.int .u32 1) ∧ w.cell? ⟨h16, 6, none⟩ = some (.int .u32 2) ∧ w.cell? ⟨h16, 7, none⟩ = some (.bool false) ∧ w.cell? ⟨h16, 8, none⟩ = some (.int .u32 3) ∧ w.cell? ⟨h16, 9, none⟩ = some (.int .u32 4) ∧ w.cell? ⟨h16, 10, none⟩ = some (.int .u32 1) ∧ w.cell? ⟨h16, 11, none⟩ = some (.bool false)
theorem AnsL.known {w : World} {base : Nat} {T : Nat → Prop} {l : List (RQ × List F5)} {ov : Value} {al0 : List AN} (h : AnsL w base T l knR ov al0) : ∃ g c f5 c5 f6 c6 c11 h16 d16 f11, ov = .slice (some ⟨g, 0, none⟩) 20 c ∧ KW w g c f5 c5 f6 c6 c11 h16 d16 f11 := by
  have hn : al0.length = 20 := h.n
  obtain ⟨g, c, hov, _, _⟩ := h.o.form (by omega)
  obtain ⟨_, _, ⟨_, _, v4, _, _⟩, _, _⟩ := h.cell hov 4 _ rfl
  obtain ⟨x5, _, ⟨_, _, v5, a5, _⟩, o5, _⟩ := h.cell hov 5 _ rfl
  obtain ⟨x6, _, ⟨_, _, _, a6, _⟩, o6, _⟩ := h.cell hov 6 _ rfl
  obtain ⟨x11, _, ⟨_, _, _, a11, _⟩, o11, _⟩ := h.cell hov 11 _ rfl
  obtain ⟨_, y16, ⟨_, _, _, _, a16⟩, _, o16⟩ := h.cell hov 16 _ rfl
  obtain ⟨f5, c5, e5, _, _⟩ := World.ownsRow.form o5 (by show 0 < 1; omega)
  obtain ⟨f6, c6, e6, _, _⟩ := World.ownsRow.form o6 (by show 0 < 2; omega)
  obtain ⟨f11, c11, e11⟩ := own_formX o11
  obtain ⟨h16, d16, e16, _, _⟩ := World.ownsRow.form o16 (by show 0 < 3; omega)
  rw [e5] at a5
  rw [e6] at a6
  rw [e11] at a11
  rw [e16] at a16
  refine ⟨g, c, f5, c5, f6, c6, c11, h16, d16, f11, by rw [hov, hn], ⟨fun i hi => ?_, v4, v5, a5, o5.cell e5 0 (by show 0 < 1; omega), a6, o6.cell e6 0 (by show 0 < 2; omega), a11, a16, ⟨o16.cell e16 0 0 (by decide), o16.cell e16 0 1 (by decide), o16.cell e16 0 2 (by decide), o16.cell e16 0 3 (by decide), o16.cell e16 1 0 (by decide), o16.cell e16 1 1 (by decide), o16.cell e16 1 2 (by decide), o16.cell e16 1 3 (by decide), o16.cell e16 2 0 (by decide), o16.cell e16 2 1 (by decide), o16.cell e16 2 2 (by decide), o16.cell e16 2 3 (by decide)⟩⟩⟩
  have hc : knR[i]?.map RA.co = some (knC.getD i 0) := by
    have h2 : ∀ j : Fin 20, knR[j.val]?.map RA.co = some (knC.getD j.val 0) := by decide +kernel
    exact h2 ⟨i, hi⟩
  obtain ⟨x, hx, hx2⟩ := Option.map_eq_some_iff.1 hc
  obtain ⟨_, _, ⟨c2, _⟩, _⟩ := h.cell hov i x hx
  rw [← hx2]
  exact c2
end Go.Proofs.YtkpaoebpjcdglaaDoor

namespace Go.Proofs.YtkpaoebpjcdglaaDoor
open Go.RowKit Go.Shelf

theorem KW.fr {w w' : World} {g c f5 c5 f6 c6 c11 h16 d16 : Nat} {f11 : Option Addr} (h : KW w g c f5 c5 f6 c6 c11 h16 d16 f11) (hf : Fr (fun _ => False) w w') : KW w' g c f5 c5 f6 c6 c11 h16 d16 f11 := by
  have k : ∀ {a o : Nat} {v : Value}, w.cell? ⟨a, o, none⟩ = some v → w'.cell? ⟨a, o, none⟩ = some v := fun {a o v} e => (hf.cell (p := ⟨a, o, none⟩) (lt_of_cell e) (fun h => h)).trans e
  obtain ⟨b0, b1, b2, b3, b4⟩ := h.b5
  obtain ⟨d0, d1, d2, d3, d4⟩ := h.b6
  obtain ⟨e0, e1, e2, e3, e4, e5, e6, e7, e8, e9, e10, e11⟩ := h.b16
  exact ⟨fun i hi => k (h.co i hi), k h.v4, k h.v5, k h.a5, ⟨k b0, k b1, k b2, k b3, k b4⟩, k h.a6, ⟨k d0, k d1, k d2, k d3, k d4⟩, k h.a11, k h.a16, ⟨k e0, k e1, k e2, k e3, k e4, k e5, k e6, k e7, k e8, k e9, k e10, k e11⟩⟩
theorem KW.so {w : World} {g c f5 c5 f6 c6 c11 h16 d16 : Nat} {f11 : Option Addr} (h : KW w g c f5 c5 f6 c6 c11 h16 d16 f11) : w.cell? ⟨g, 32, none⟩ = some (.int .u32 3) ∧ w.cell? ⟨g, 39, none⟩ = some (.int .u32 3) ∧ w.cell? ⟨g, 40, none⟩ = some (.slice (some ⟨f5, 0, none⟩) 1 c5) ∧ w.cell? ⟨f5, 0, none⟩ = some (.string ⟨#[116, 101, 109, 112]⟩) ∧ w.cell? ⟨f5, 1, none⟩ = some (.int .u8 2) ∧ w.cell? ⟨f5, 2, none⟩ = some (.string ⟨#[]⟩) ∧ w.cell? ⟨f5, 3, none⟩ = some (.float .f32 1109131264) ∧ w.cell? ⟨f5, 4, none⟩ = some (.int .u8 11) ∧ w.cell? ⟨g, 47, none⟩ = some (.slice (some ⟨f6, 0, none⟩) 2 c6) ∧ w.cell? ⟨f6, 0, none⟩ = some (.string ⟨#[110, 97, 109, 101]⟩) ∧ w.cell? ⟨f6, 1, none⟩ = some (.int .u8 1) ∧ w.cell? ⟨f6, 2, none⟩ = some (.string ⟨#[65, 100, 97]⟩) ∧ w.cell? ⟨f6, 3, none⟩ = some (.float .f32 0) ∧ w.cell? ⟨f6, 4, none⟩ = some (.int .u8 0) ∧ w.cell? ⟨g, 82, none⟩ = some (.slice f11 1 c11) :=
  ⟨h.v4, h.v5, h.a5, h.b5.1, h.b5.2.1, h.b5.2.2.1, h.b5.2.2.2.1, h.b5.2.2.2.2, h.a6, h.b6.1, h.b6.2.1, h.b6.2.2.1, h.b6.2.2.2.1, h.b6.2.2.2.2, h.a11⟩
def codeCells : Array Value := #[.int .u8 0, .int .u8 0, .int .u8 5, .int .u8 7, .int .u8 0, .int .u8 0, .int .u8 0, .int .u8 4, .int .u8 0, .int .u8 6, .int .u8 0, .int .u8 0, .int .u8 0, .int .u8 5, .int .u8 0, .int .u8 8, .int .u8 0, .int .u8 10, .int .u8 1, .int .u8 3]
theorem codes_at {W : World} {b : Nat} (hb : W.heap[b]? = some (.cells codeCells 5)) (i : Nat) (hi : i < 20) : W.cell? ⟨b, i, none⟩ = some (.int .u8 ((knC.getD i 0 : Nat) : Int)) := by
  simp only [World.cell?, hb]
  rcases i with _ | _ | _ | _ | _ | _ | _ | _ | _ | _ | _ | _ | _ | _ | _ | _ | _ | _ | _ | _ | i
  · rfl
  · rfl
  · rfl
  · rfl
  · rfl
  · rfl
  · rfl
  · rfl
  · rfl
  · rfl
  · rfl
  · rfl
  · rfl
  · rfl
  · rfl
  · rfl
  · rfl
  · rfl
  · rfl
  · rfl
  · omega
set_option linter.unusedSimpArgs false in
set_option maxHeartbeats 4000000 in
set_option maxRecDepth 100000 in
/-- RecordKnown. -/
theorem rknown_any (w : World) (hg : GU w) : Calls Tryd.prog 3 #[] w fun e w' => e = .returned (.bool true) ∧ Fr (fun _ => False) w w' := by
  have HAw := hide (awake11 w hg)
  have HG := hide hg
  clear hg
  go_enter Tryd.func3, Tryd.ntmps3
  go_wp2_with fail
  refine (unhide HAw).mono ?_
  rintro e w1 ⟨rfl, hf1⟩
  have F1 := hide hf1
  clear hf1 HAw
  go_wp2_with fail
  refine (known_any _).mono ?_
  rintro e w2 ⟨ao, rfl, hs2, hf2⟩
  have H2 := hide hs2
  have F2 := hide ((unhide F1).trans hf2 (fun _ _ h => h))
  clear hs2 hf2 F1
  go_wp2_with fail
  refine (story_any _).mono ?_
  rintro e w3 ⟨g, z0, z1, z2, z3, z4, z5, rfl, hq, hlow, hf3⟩
  have F3 := hide ((unhide F2).trans hf3 (fun _ _ h => h))
  have HAn := hide (answers_any (.slice (some ao) 6 6) (.slice (some ⟨g, 0, none⟩) 20 20) kn (stL z0 z1 z2 z3 z4 z5) w3 ((unhide H2).fr hf3) (fun n c e => (by cases e)) (by decide) hq (by show 20 ≤ _; omega) (stL_good z0 z1 z2 z3 z4 z5) ((unhide HG).fr (unhide F3)))
  rw [knR_eq] at HAn
  clear hq hlow hf3 F2 H2 HG
  go_wp2_with fail
  refine (unhide HAn).mono ?_
  rintro e w4 ⟨ov, T, al0, rfl, hal, hf4⟩
  obtain ⟨ga, c, f5, c5, f6, c6, c11, h16, d16, f11, rfl, hk⟩ := hal.known
  have K4 := hide hk
  have F4 := hide ((unhide F3).trans hf4 (fun _ _ h => h))
  clear hal hk hf4 HAn F3
  obtain ⟨W5, hW5⟩ : ∃ W5, W5 = w4.alloc (.cells codeCells 5) := ⟨_, rfl⟩
  obtain ⟨cb, hcb⟩ : ∃ cb, cb = w4.heap.size := ⟨_, rfl⟩
  have B5 : Hid (W5.heap[cb]? = some (.cells codeCells 5)) := by rw [hW5, hcb]; exact Array.getElem?_push_size
  have K5 : Hid (KW W5 ga c f5 c5 f6 c6 c11 h16 d16 f11) := by rw [hW5]; exact (unhide K4).fr (box1 w4 _)
  have F5 : Hid (Fr (fun _ => False) w W5) := by rw [hW5]; exact (unhide F4).trans (box1 w4 _) (fun _ _ h => h)
  unfold codeCells at hW5
  clear K4 F4
  go_wp2_with fail
  rw [← hW5, ← hcb]
  clear hW5 hcb
  go_loopw [3] (fun iv wr => ∃ j : Nat, j ≤ 20 ∧ iv = .int .i64 (j : Nat) ∧ Fr (fun _ => False) W5 wr) (fun iv _ => 20 - (intOf iv).toNat)
  case atStart => exact ⟨0, Nat.zero_le _, rfl, Fr.refl _ _⟩
  case round =>
    obtain ⟨j, hj, rfl, hfr⟩ := hrel
    have HF := hide hfr
    have hk := (unhide K5).fr hfr
    have hb := (hfr.block cb (lt_of_block (unhide B5)) (fun h => h)).trans (unhide B5)
    clear hfr
    by_cases hlt : j < 20
    · have c1 := hk.co j hlt
      have c2 := codes_at hb j hlt
      obtain ⟨v, hv⟩ : ∃ v, knC.getD j 0 = v := ⟨_, rfl⟩
      rw [hv] at c1 c2
      have hlt' : (j : Int) < 20 := by omega
      clear hk hb hv
      go_wp2_with fail
      go_quiet (fail)
      go_wp2_with fail
      go_roundw
      case rel => exact ⟨j + 1, hlt, by go_num, (unhide HF).drewN _⟩
      case measure => simp [intOf]; omega
    · obtain rfl : j = 20 := by omega
      have hn1 : ∀ w, (binOp .neq 39 (.agg #[.string ⟨#[116, 101, 109, 112]⟩, .int .u8 2, .string ⟨#[]⟩, .float .f32 1109131264, .int .u8 11]) (.agg #[.string ⟨#[116, 101, 109, 112]⟩, .int .u8 2, .string ⟨#[]⟩, .float .f32 1109131264, .int .u8 11])).run Tryd.prog w = .ok (.bool false) w := fun w => by kernel_rfl
      have hn2 : ∀ w, (binOp .neq 39 (.agg #[.string ⟨#[110, 97, 109, 101]⟩, .int .u8 1, .string ⟨#[65, 100, 97]⟩, .float .f32 0, .int .u8 0]) (.agg #[.string ⟨#[110, 97, 109, 101]⟩, .int .u8 1, .string ⟨#[65, 100, 97]⟩, .float .f32 0, .int .u8 0])).run Tryd.prog w = .ok (.bool false) w := fun w => by kernel_rfl
      have hq0 : ∀ w, (binOp .eql 43 (.agg #[.int .u32 1, .int .u32 0, .int .u32 0, .bool true]) (.agg #[.int .u32 1, .int .u32 0, .int .u32 0, .bool true])).run Tryd.prog w = .ok (.bool true) w := fun w => by kernel_rfl
      have hq1 : ∀ w, (binOp .eql 43 (.agg #[.int .u32 2, .int .u32 1, .int .u32 2, .bool false]) (.agg #[.int .u32 2, .int .u32 1, .int .u32 2, .bool false])).run Tryd.prog w = .ok (.bool true) w := fun w => by kernel_rfl
      have hq2 : ∀ w, (binOp .eql 43 (.agg #[.int .u32 3, .int .u32 4, .int .u32 1, .bool false]) (.agg #[.int .u32 3, .int .u32 4, .int .u32 1, .bool false])).run Tryd.prog w = .ok (.bool true) w := fun w => by kernel_rfl
      have HS : Hid (∀ W, Fr (fun _ => False) wr W → W.cell? ⟨ga, 32, none⟩ = some (.int .u32 3) ∧ W.cell? ⟨ga, 39, none⟩ = some (.int .u32 3) ∧ W.cell? ⟨ga, 40, none⟩ = some (.slice (some ⟨f5, 0, none⟩) 1 c5) ∧ W.cell? ⟨f5, 0, none⟩ = some (.string ⟨#[116, 101, 109, 112]⟩) ∧ W.cell? ⟨f5, 1, none⟩ = some (.int .u8 2) ∧ W.cell? ⟨f5, 2, none⟩ = some (.string ⟨#[]⟩) ∧ W.cell? ⟨f5, 3, none⟩ = some (.float .f32 1109131264) ∧ W.cell? ⟨f5, 4, none⟩ = some (.int .u8 11) ∧ W.cell? ⟨ga, 47, none⟩ = some (.slice (some ⟨f6, 0, none⟩) 2 c6) ∧ W.cell? ⟨f6, 0, none⟩ = some (.string ⟨#[110, 97, 109, 101]⟩) ∧ W.cell? ⟨f6, 1, none⟩ = some (.int .u8 1) ∧ W.cell? ⟨f6, 2, none⟩ = some (.string ⟨#[65, 100, 97]⟩) ∧ W.cell? ⟨f6, 3, none⟩ = some (.float .f32 0) ∧ W.cell? ⟨f6, 4, none⟩ = some (.int .u8 0) ∧ W.cell? ⟨ga, 82, none⟩ = some (.slice f11 1 c11)) := fun W hW => (hk.fr hW).so
      have K6 := hide hk
      clear hk hb hlt
      go_wp2_with fail
      refine wp_region_noPanic ?_
      refine wp_region_held_drew (S := (fun W => W.cell? ⟨ga, 32, none⟩ = some (.int .u32 3) ∧ W.cell? ⟨ga, 39, none⟩ = some (.int .u32 3) ∧ W.cell? ⟨ga, 40, none⟩ = some (.slice (some ⟨f5, 0, none⟩) 1 c5) ∧ W.cell? ⟨f5, 0, none⟩ = some (.string ⟨#[116, 101, 109, 112]⟩) ∧ W.cell? ⟨f5, 1, none⟩ = some (.int .u8 2) ∧ W.cell? ⟨f5, 2, none⟩ = some (.string ⟨#[]⟩) ∧ W.cell? ⟨f5, 3, none⟩ = some (.float .f32 1109131264) ∧ W.cell? ⟨f5, 4, none⟩ = some (.int .u8 11) ∧ W.cell? ⟨ga, 47, none⟩ = some (.slice (some ⟨f6, 0, none⟩) 2 c6) ∧ W.cell? ⟨f6, 0, none⟩ = some (.string ⟨#[110, 97, 109, 101]⟩) ∧ W.cell? ⟨f6, 1, none⟩ = some (.int .u8 1) ∧ W.cell? ⟨f6, 2, none⟩ = some (.string ⟨#[65, 100, 97]⟩) ∧ W.cell? ⟨f6, 3, none⟩ = some (.float .f32 0) ∧ W.cell? ⟨f6, 4, none⟩ = some (.int .u8 0) ∧ W.cell? ⟨ga, 82, none⟩ = some (.slice f11 1 c11))) (by kernel_rfl) ((unhide HS) _ (Fr.refl _ _).drew) (fun hHeld => ?_)
      refine wpAnyH_take (i := 0) (v := ?_) rfl (by kernel_rfl) (by kernel_rfl) (by kernel_rfl) (fun _ _ _ h => h) (Or.inl ⟨by rfl, ?_⟩) hHeld ?_
      rotate_left
      · intro w hSw; (try dsimp only at hSw); go_simp; (try with_reducible rfl)
      (try simp only [Act.put, List.getElem_toArray, List.getElem_cons_zero, List.getElem_cons_succ, List.setIfInBounds_toArray, List.set_cons_zero, List.set_cons_succ])
      refine wpAnyH_take (i := 1) (v := ?_) rfl (by kernel_rfl) (by kernel_rfl) (by kernel_rfl) (fun _ _ _ h => h) (Or.inl ⟨by rfl, ?_⟩) hHeld ?_
      rotate_left
      · intro w hSw; (try dsimp only at hSw); go_simp; (try with_reducible rfl)
      (try simp only [Act.put, List.getElem_toArray, List.getElem_cons_zero, List.getElem_cons_succ, List.setIfInBounds_toArray, List.set_cons_zero, List.set_cons_succ])
      refine wpAnyH_take (i := 2) (v := ?_) rfl (by kernel_rfl) (by kernel_rfl) (by kernel_rfl) (fun _ _ _ h => h) (Or.inl ⟨by rfl, ?_⟩) hHeld ?_
      rotate_left
      · intro w hSw; (try dsimp only at hSw); go_simp; (try with_reducible rfl)
      (try simp only [Act.put, List.getElem_toArray, List.getElem_cons_zero, List.getElem_cons_succ, List.setIfInBounds_toArray, List.set_cons_zero, List.set_cons_succ])
      refine wpAnyH_take (i := 3) (v := ?_) rfl (by kernel_rfl) (by kernel_rfl) (by kernel_rfl) (fun _ _ _ h => h) (Or.inl ⟨by rfl, ?_⟩) hHeld ?_
      rotate_left
      · intro w hSw; (try dsimp only at hSw); go_simp; (try with_reducible rfl)
      (try simp only [Act.put, List.getElem_toArray, List.getElem_cons_zero, List.getElem_cons_succ, List.setIfInBounds_toArray, List.set_cons_zero, List.set_cons_succ])
      refine wpAnyH_take (i := 4) (v := ?_) rfl (by kernel_rfl) (by kernel_rfl) (by kernel_rfl) (fun _ _ _ h => h) (Or.inl ⟨by rfl, ?_⟩) hHeld ?_
      rotate_left
      · intro w hSw; (try dsimp only at hSw); go_simp; (try with_reducible rfl)
      (try simp only [Act.put, List.getElem_toArray, List.getElem_cons_zero, List.getElem_cons_succ, List.setIfInBounds_toArray, List.set_cons_zero, List.set_cons_succ])
      refine wpAnyH_take (i := 5) (v := ?_) rfl (by kernel_rfl) (by kernel_rfl) (by kernel_rfl) (fun _ _ _ h => h) (Or.inl ⟨by rfl, ?_⟩) hHeld ?_
      rotate_left
      · intro w hSw; (try dsimp only at hSw); go_simp; (try with_reducible rfl)
      (try simp only [Act.put, List.getElem_toArray, List.getElem_cons_zero, List.getElem_cons_succ, List.setIfInBounds_toArray, List.set_cons_zero, List.set_cons_succ])
      refine wpAnyH_take (i := 6) (v := ?_) rfl (by kernel_rfl) (by kernel_rfl) (by kernel_rfl) (fun _ _ _ h => h) (Or.inl ⟨by rfl, ?_⟩) hHeld ?_
      rotate_left
      · intro w hSw; (try dsimp only at hSw); go_simp; (try with_reducible rfl)
      (try simp only [Act.put, List.getElem_toArray, List.getElem_cons_zero, List.getElem_cons_succ, List.setIfInBounds_toArray, List.set_cons_zero, List.set_cons_succ])
      refine wpAnyH_take (i := 7) (v := ?_) rfl (by kernel_rfl) (by kernel_rfl) (by kernel_rfl) (fun _ _ _ h => h) (Or.inl ⟨by rfl, ?_⟩) hHeld ?_
      rotate_left
      · intro w hSw; (try dsimp only at hSw); go_simp; (try with_reducible rfl)
      (try simp only [Act.put, List.getElem_toArray, List.getElem_cons_zero, List.getElem_cons_succ, List.setIfInBounds_toArray, List.set_cons_zero, List.set_cons_succ])
      refine wpAnyH_take (i := 8) (v := ?_) rfl (by kernel_rfl) (by kernel_rfl) (by kernel_rfl) (fun _ _ _ h => h) (Or.inl ⟨by rfl, ?_⟩) hHeld ?_
      rotate_left
      · intro w hSw; (try dsimp only at hSw); go_simp; (try with_reducible rfl)
      (try simp only [Act.put, List.getElem_toArray, List.getElem_cons_zero, List.getElem_cons_succ, List.setIfInBounds_toArray, List.set_cons_zero, List.set_cons_succ])
      refine wpAnyH_take (i := 9) (v := ?_) rfl (by kernel_rfl) (by kernel_rfl) (by kernel_rfl) (fun _ _ _ h => h) (Or.inl ⟨by rfl, ?_⟩) hHeld ?_
      rotate_left
      · intro w hSw; (try dsimp only at hSw); go_simp; (try with_reducible rfl)
      (try simp only [Act.put, List.getElem_toArray, List.getElem_cons_zero, List.getElem_cons_succ, List.setIfInBounds_toArray, List.set_cons_zero, List.set_cons_succ])
      refine wpAnyH_take (i := 10) (v := ?_) rfl (by kernel_rfl) (by kernel_rfl) (by kernel_rfl) (fun _ _ _ h => h) (Or.inl ⟨by rfl, ?_⟩) hHeld ?_
      rotate_left
      · intro w hSw; (try dsimp only at hSw); go_simp; (try with_reducible rfl)
      (try simp only [Act.put, List.getElem_toArray, List.getElem_cons_zero, List.getElem_cons_succ, List.setIfInBounds_toArray, List.set_cons_zero, List.set_cons_succ])
      refine wpAnyH_take (i := 11) (v := ?_) rfl (by kernel_rfl) (by kernel_rfl) (by kernel_rfl) (fun _ _ _ h => h) (Or.inl ⟨by rfl, ?_⟩) hHeld ?_
      rotate_left
      · intro w hSw; (try dsimp only at hSw); go_simp; (try with_reducible rfl)
      (try simp only [Act.put, List.getElem_toArray, List.getElem_cons_zero, List.getElem_cons_succ, List.setIfInBounds_toArray, List.set_cons_zero, List.set_cons_succ])
      refine wpAnyH_take (i := 12) (v := ?_) rfl (by kernel_rfl) (by kernel_rfl) (by kernel_rfl) (fun _ _ _ h => h) (Or.inl ⟨by rfl, ?_⟩) hHeld ?_
      rotate_left
      · intro w hSw; (try dsimp only at hSw); go_simp; (try with_reducible rfl)
      (try simp only [Act.put, List.getElem_toArray, List.getElem_cons_zero, List.getElem_cons_succ, List.setIfInBounds_toArray, List.set_cons_zero, List.set_cons_succ])
      refine wpAnyH_take (i := 13) (v := ?_) rfl (by kernel_rfl) (by kernel_rfl) (by kernel_rfl) (fun _ _ _ h => h) (Or.inl ⟨by rfl, ?_⟩) hHeld ?_
      rotate_left
      · intro w hSw; (try dsimp only at hSw); go_simp; (try with_reducible rfl)
      (try simp only [Act.put, List.getElem_toArray, List.getElem_cons_zero, List.getElem_cons_succ, List.setIfInBounds_toArray, List.set_cons_zero, List.set_cons_succ])
      refine wpAnyH_take (i := 14) (v := ?_) rfl (by kernel_rfl) (by kernel_rfl) (by kernel_rfl) (fun _ _ _ h => h) (Or.inl ⟨by rfl, ?_⟩) hHeld ?_
      rotate_left
      · intro w hSw; (try dsimp only at hSw); go_simp; (try with_reducible rfl)
      (try simp only [Act.put, List.getElem_toArray, List.getElem_cons_zero, List.getElem_cons_succ, List.setIfInBounds_toArray, List.set_cons_zero, List.set_cons_succ])
      refine wpAnyH_take (i := 15) (v := ?_) rfl (by kernel_rfl) (by kernel_rfl) (by kernel_rfl) (fun _ _ _ h => h) (Or.inl ⟨by rfl, ?_⟩) hHeld ?_
      rotate_left
      · intro w hSw; (try dsimp only at hSw); go_simp; (try with_reducible rfl)
      (try simp only [Act.put, List.getElem_toArray, List.getElem_cons_zero, List.getElem_cons_succ, List.setIfInBounds_toArray, List.set_cons_zero, List.set_cons_succ])
      refine wpAnyH_take (i := 16) (v := ?_) rfl (by kernel_rfl) (by kernel_rfl) (by kernel_rfl) (fun _ _ _ h => h) (Or.inl ⟨by rfl, ?_⟩) hHeld ?_
      rotate_left
      · intro w hSw; (try dsimp only at hSw); go_simp; (try with_reducible rfl)
      (try simp only [Act.put, List.getElem_toArray, List.getElem_cons_zero, List.getElem_cons_succ, List.setIfInBounds_toArray, List.set_cons_zero, List.set_cons_succ])
      refine wpAnyH_take (i := 17) (v := ?_) rfl (by kernel_rfl) (by kernel_rfl) (by kernel_rfl) (fun _ _ _ h => h) (Or.inl ⟨by rfl, ?_⟩) hHeld ?_
      rotate_left
      · intro w hSw; (try dsimp only at hSw); go_simp; (try with_reducible rfl)
      (try simp only [Act.put, List.getElem_toArray, List.getElem_cons_zero, List.getElem_cons_succ, List.setIfInBounds_toArray, List.set_cons_zero, List.set_cons_succ])
      refine wpAnyH_take (i := 18) (v := ?_) rfl (by kernel_rfl) (by kernel_rfl) (by kernel_rfl) (fun _ _ _ h => h) (Or.inl ⟨by rfl, ?_⟩) hHeld ?_
      rotate_left
      · intro w hSw; (try dsimp only at hSw); go_simp; (try with_reducible rfl)
      (try simp only [Act.put, List.getElem_toArray, List.getElem_cons_zero, List.getElem_cons_succ, List.setIfInBounds_toArray, List.set_cons_zero, List.set_cons_succ])
      refine wpAnyH_take (i := 19) (v := ?_) rfl (by kernel_rfl) (by kernel_rfl) (by kernel_rfl) (fun _ _ _ h => h) (Or.inl ⟨by rfl, ?_⟩) hHeld ?_
      rotate_left
      · intro w hSw; (try dsimp only at hSw); go_simp; (try with_reducible rfl)
      (try simp only [Act.put, List.getElem_toArray, List.getElem_cons_zero, List.getElem_cons_succ, List.setIfInBounds_toArray, List.set_cons_zero, List.set_cons_succ])
      refine wpAnyH_take (i := 20) (v := ?_) rfl (by kernel_rfl) (by kernel_rfl) (by kernel_rfl) (fun _ _ _ h => h) (Or.inl ⟨by rfl, ?_⟩) hHeld ?_
      rotate_left
      · intro w hSw; (try dsimp only at hSw); go_simp; (try with_reducible rfl)
      (try simp only [Act.put, List.getElem_toArray, List.getElem_cons_zero, List.getElem_cons_succ, List.setIfInBounds_toArray, List.set_cons_zero, List.set_cons_succ])
      refine wpAnyH_take (i := 21) (v := ?_) rfl (by kernel_rfl) (by kernel_rfl) (by kernel_rfl) (fun _ _ _ h => h) (Or.inl ⟨by rfl, ?_⟩) hHeld ?_
      rotate_left
      · intro w hSw; (try dsimp only at hSw); go_simp; (try with_reducible rfl)
      (try simp only [Act.put, List.getElem_toArray, List.getElem_cons_zero, List.getElem_cons_succ, List.setIfInBounds_toArray, List.set_cons_zero, List.set_cons_succ])
      refine wpAnyH_take (i := 22) (v := ?_) rfl (by kernel_rfl) (by kernel_rfl) (by kernel_rfl) (fun _ _ _ h => h) (Or.inl ⟨by rfl, ?_⟩) hHeld ?_
      rotate_left
      · intro w hSw; (try dsimp only at hSw); go_simp; (try with_reducible rfl)
      (try simp only [Act.put, List.getElem_toArray, List.getElem_cons_zero, List.getElem_cons_succ, List.setIfInBounds_toArray, List.set_cons_zero, List.set_cons_succ])
      refine wpAnyH_take (i := 23) (v := ?_) rfl (by kernel_rfl) (by kernel_rfl) (by kernel_rfl) (fun _ _ _ h => h) (Or.inl ⟨by rfl, ?_⟩) hHeld ?_
      rotate_left
      · intro w hSw; (try dsimp only at hSw); go_simp; (try with_reducible rfl)
      (try simp only [Act.put, List.getElem_toArray, List.getElem_cons_zero, List.getElem_cons_succ, List.setIfInBounds_toArray, List.set_cons_zero, List.set_cons_succ])
      refine wpAnyH_take (i := 24) (v := ?_) rfl (by kernel_rfl) (by kernel_rfl) (by kernel_rfl) (fun _ _ _ h => h) (Or.inl ⟨by rfl, ?_⟩) hHeld ?_
      rotate_left
      · intro w hSw; (try dsimp only at hSw); go_simp; (try with_reducible rfl)
      (try simp only [Act.put, List.getElem_toArray, List.getElem_cons_zero, List.getElem_cons_succ, List.setIfInBounds_toArray, List.set_cons_zero, List.set_cons_succ])
      refine wpAnyH_take (i := 25) (v := ?_) rfl (by kernel_rfl) (by kernel_rfl) (by kernel_rfl) (fun _ _ _ h => h) (Or.inl ⟨by rfl, ?_⟩) hHeld ?_
      rotate_left
      · intro w hSw; (try dsimp only at hSw); go_simp; (try with_reducible rfl)
      (try simp only [Act.put, List.getElem_toArray, List.getElem_cons_zero, List.getElem_cons_succ, List.setIfInBounds_toArray, List.set_cons_zero, List.set_cons_succ])
      refine wpAnyH_take (i := 26) (v := ?_) rfl (by kernel_rfl) (by kernel_rfl) (by kernel_rfl) (fun _ _ _ h => h) (Or.inl ⟨by rfl, ?_⟩) hHeld ?_
      rotate_left
      · intro w hSw; (try dsimp only at hSw); go_simp; (try with_reducible rfl)
      (try simp only [Act.put, List.getElem_toArray, List.getElem_cons_zero, List.getElem_cons_succ, List.setIfInBounds_toArray, List.set_cons_zero, List.set_cons_succ])
      refine wpAnyH_ready (rs := [27]) (by kernel_rfl) (by simp) (AllReadyH.cons rfl (fun K hK => ?_) AllReadyH.nil)
      go_simp
      refine (fq_any 1109131264 _).mono ?_
      rintro e w6 ⟨rfl, hf6⟩
      have H6 := hide ((Fr.refl (fun _ => False) wr).drew.trans hf6 (fun _ _ h => h))
      clear hf6
      go_simp
      refine hK.out _ _ ((unhide HS) _ (unhide H6)) (fun hHeld => ?_)
      clear hK K
      (try simp only [Act.put, List.getElem_toArray, List.getElem_cons_zero, List.getElem_cons_succ, List.setIfInBounds_toArray, List.set_cons_zero, List.set_cons_succ])
      refine wpAnyH_take (i := 28) (v := ?_) rfl (by kernel_rfl) (by kernel_rfl) (by kernel_rfl) (fun _ _ _ h => h) (Or.inl ⟨by rfl, ?_⟩) hHeld ?_
      rotate_left
      · intro w hSw; (try dsimp only at hSw); go_simp; (try with_reducible rfl)
      (try simp only [Act.put, List.getElem_toArray, List.getElem_cons_zero, List.getElem_cons_succ, List.setIfInBounds_toArray, List.set_cons_zero, List.set_cons_succ])
      refine wpAnyH_take (i := 29) (v := ?_) rfl (by kernel_rfl) (by kernel_rfl) (by kernel_rfl) (fun _ _ _ h => h) (Or.inl ⟨by rfl, ?_⟩) hHeld ?_
      rotate_left
      · intro w hSw; (try dsimp only at hSw); go_simp; (try with_reducible rfl)
      (try simp only [Act.put, List.getElem_toArray, List.getElem_cons_zero, List.getElem_cons_succ, List.setIfInBounds_toArray, List.set_cons_zero, List.set_cons_succ])
      refine wpAnyH_take (i := 30) (v := ?_) rfl (by kernel_rfl) (by kernel_rfl) (by kernel_rfl) (fun _ _ _ h => h) (Or.inl ⟨by rfl, ?_⟩) hHeld ?_
      rotate_left
      · intro w hSw; (try dsimp only at hSw); go_simp; (try with_reducible rfl)
      (try simp only [Act.put, List.getElem_toArray, List.getElem_cons_zero, List.getElem_cons_succ, List.setIfInBounds_toArray, List.set_cons_zero, List.set_cons_succ])
      refine wpAnyH_take (i := 31) (v := ?_) rfl (by kernel_rfl) (by kernel_rfl) (by kernel_rfl) (fun _ _ _ h => h) (Or.inl ⟨by rfl, ?_⟩) hHeld ?_
      rotate_left
      · intro w hSw; (try dsimp only at hSw); go_simp; (try with_reducible rfl)
      (try simp only [Act.put, List.getElem_toArray, List.getElem_cons_zero, List.getElem_cons_succ, List.setIfInBounds_toArray, List.set_cons_zero, List.set_cons_succ])
      refine wpAnyH_take (i := 32) (v := ?_) rfl (by kernel_rfl) (by kernel_rfl) (by kernel_rfl) (fun _ _ _ h => h) (Or.inl ⟨by rfl, ?_⟩) hHeld ?_
      rotate_left
      · intro w hSw; (try dsimp only at hSw); go_simp; (try with_reducible rfl)
      (try simp only [Act.put, List.getElem_toArray, List.getElem_cons_zero, List.getElem_cons_succ, List.setIfInBounds_toArray, List.set_cons_zero, List.set_cons_succ])
      refine wpAnyH_take (i := 33) (v := ?_) rfl (by kernel_rfl) (by kernel_rfl) (by kernel_rfl) (fun _ _ _ h => h) (Or.inl ⟨by rfl, ?_⟩) hHeld ?_
      rotate_left
      · intro w hSw; (try dsimp only at hSw); go_simp; (try with_reducible rfl)
      (try simp only [Act.put, List.getElem_toArray, List.getElem_cons_zero, List.getElem_cons_succ, List.setIfInBounds_toArray, List.set_cons_zero, List.set_cons_succ])
      refine wpAnyH_take (i := 34) (v := ?_) rfl (by kernel_rfl) (by kernel_rfl) (by kernel_rfl) (fun _ _ _ h => h) (Or.inl ⟨by rfl, ?_⟩) hHeld ?_
      rotate_left
      · intro w hSw; (try dsimp only at hSw); go_simp; (try with_reducible rfl)
      (try simp only [Act.put, List.getElem_toArray, List.getElem_cons_zero, List.getElem_cons_succ, List.setIfInBounds_toArray, List.set_cons_zero, List.set_cons_succ])
      refine wpAnyH_take (i := 35) (v := ?_) rfl (by kernel_rfl) (by kernel_rfl) (by kernel_rfl) (fun _ _ _ h => h) (Or.inl ⟨by rfl, ?_⟩) hHeld ?_
      rotate_left
      · intro w hSw; (try dsimp only at hSw); go_simp; (try with_reducible rfl)
      (try simp only [Act.put, List.getElem_toArray, List.getElem_cons_zero, List.getElem_cons_succ, List.setIfInBounds_toArray, List.set_cons_zero, List.set_cons_succ])
      refine wpAnyH_take (i := 36) (v := ?_) rfl (by kernel_rfl) (by kernel_rfl) (by kernel_rfl) (fun _ _ _ h => h) (Or.inl ⟨by rfl, ?_⟩) hHeld ?_
      rotate_left
      · intro w hSw; (try dsimp only at hSw); go_simp; (try with_reducible rfl)
      (try simp only [Act.put, List.getElem_toArray, List.getElem_cons_zero, List.getElem_cons_succ, List.setIfInBounds_toArray, List.set_cons_zero, List.set_cons_succ])
      refine wpAnyH_take (i := 37) (v := ?_) rfl (by kernel_rfl) (by kernel_rfl) (by kernel_rfl) (fun _ _ _ h => h) (Or.inl ⟨by rfl, ?_⟩) hHeld ?_
      rotate_left
      · intro w hSw; (try dsimp only at hSw); go_simp; (try with_reducible rfl)
      (try simp only [Act.put, List.getElem_toArray, List.getElem_cons_zero, List.getElem_cons_succ, List.setIfInBounds_toArray, List.set_cons_zero, List.set_cons_succ])
      refine wpAnyH_take (i := 38) (v := ?_) rfl (by kernel_rfl) (by kernel_rfl) (by kernel_rfl) (fun _ _ _ h => h) (Or.inl ⟨by rfl, ?_⟩) hHeld ?_
      rotate_left
      · intro w hSw; (try dsimp only at hSw); go_simp; (try with_reducible rfl)
      (try simp only [Act.put, List.getElem_toArray, List.getElem_cons_zero, List.getElem_cons_succ, List.setIfInBounds_toArray, List.set_cons_zero, List.set_cons_succ])
      refine wpAnyH_take (i := 39) (v := ?_) rfl (by kernel_rfl) (by kernel_rfl) (by kernel_rfl) (fun _ _ _ h => h) (Or.inl ⟨by rfl, ?_⟩) hHeld ?_
      rotate_left
      · intro w hSw; (try dsimp only at hSw); go_simp; (try with_reducible rfl)
      (try simp only [Act.put, List.getElem_toArray, List.getElem_cons_zero, List.getElem_cons_succ, List.setIfInBounds_toArray, List.set_cons_zero, List.set_cons_succ])
      refine wpAnyH_take (i := 40) (v := ?_) rfl (by kernel_rfl) (by kernel_rfl) (by kernel_rfl) (fun _ _ _ h => h) (Or.inl ⟨by rfl, ?_⟩) hHeld ?_
      rotate_left
      · intro w hSw; (try dsimp only at hSw); go_simp; (try with_reducible rfl)
      (try simp only [Act.put, List.getElem_toArray, List.getElem_cons_zero, List.getElem_cons_succ, List.setIfInBounds_toArray, List.set_cons_zero, List.set_cons_succ])
      refine wpAnyH_take (i := 41) (v := ?_) rfl (by kernel_rfl) (by kernel_rfl) (by kernel_rfl) (fun _ _ _ h => h) (Or.inl ⟨by rfl, ?_⟩) hHeld ?_
      rotate_left
      · intro w hSw; (try dsimp only at hSw); go_simp; (try with_reducible rfl)
      (try simp only [Act.put, List.getElem_toArray, List.getElem_cons_zero, List.getElem_cons_succ, List.setIfInBounds_toArray, List.set_cons_zero, List.set_cons_succ])
      refine wpAnyH_take (i := 42) (v := ?_) rfl (by kernel_rfl) (by kernel_rfl) (by kernel_rfl) (fun _ _ _ h => h) (Or.inl ⟨by rfl, ?_⟩) hHeld ?_
      rotate_left
      · intro w hSw; (try dsimp only at hSw); go_simp; (try with_reducible rfl)
      (try simp only [Act.put, List.getElem_toArray, List.getElem_cons_zero, List.getElem_cons_succ, List.setIfInBounds_toArray, List.set_cons_zero, List.set_cons_succ])
      refine wpAnyH_take (i := 43) (v := ?_) rfl (by kernel_rfl) (by kernel_rfl) (by kernel_rfl) (fun _ _ _ h => h) (Or.inl ⟨by rfl, ?_⟩) hHeld ?_
      rotate_left
      · intro w hSw; (try dsimp only at hSw); go_simp; (try with_reducible rfl)
      (try simp only [Act.put, List.getElem_toArray, List.getElem_cons_zero, List.getElem_cons_succ, List.setIfInBounds_toArray, List.set_cons_zero, List.set_cons_succ])
      refine wpAnyH_take (i := 44) (v := ?_) rfl (by kernel_rfl) (by kernel_rfl) (by kernel_rfl) (fun _ _ _ h => h) (Or.inl ⟨by rfl, ?_⟩) hHeld ?_
      rotate_left
      · intro w hSw; (try dsimp only at hSw); go_simp; (try with_reducible rfl)
      (try simp only [Act.put, List.getElem_toArray, List.getElem_cons_zero, List.getElem_cons_succ, List.setIfInBounds_toArray, List.set_cons_zero, List.set_cons_succ])
      refine wpAnyH_ready (rs := [45]) (by kernel_rfl) (by simp) (AllReadyH.cons rfl (fun K hK => ?_) AllReadyH.nil)
      go_simp
      refine (ft_any ⟨#[65, 100, 97]⟩ _).mono ?_
      rintro e w7 ⟨rfl, hf7⟩
      have H7 := hide ((unhide H6).trans hf7 (fun _ _ h => h))
      clear hf7
      go_simp
      refine hK.out _ _ ((unhide HS) _ (unhide H7)) (fun hHeld => ?_)
      clear hK K
      (try simp only [Act.put, List.getElem_toArray, List.getElem_cons_zero, List.getElem_cons_succ, List.setIfInBounds_toArray, List.set_cons_zero, List.set_cons_succ])
      refine wpAnyH_take (i := 46) (v := ?_) rfl (by kernel_rfl) (by kernel_rfl) (by kernel_rfl) (fun _ _ _ h => h) (Or.inl ⟨by rfl, ?_⟩) hHeld ?_
      rotate_left
      · intro w hSw; (try dsimp only at hSw); go_simp; (try with_reducible rfl)
      (try simp only [Act.put, List.getElem_toArray, List.getElem_cons_zero, List.getElem_cons_succ, List.setIfInBounds_toArray, List.set_cons_zero, List.set_cons_succ])
      refine wpAnyH_take (i := 47) (v := ?_) rfl (by kernel_rfl) (by kernel_rfl) (by kernel_rfl) (fun _ _ _ h => h) (Or.inl ⟨by rfl, ?_⟩) hHeld ?_
      rotate_left
      · intro w hSw; (try dsimp only at hSw); go_simp; (try with_reducible rfl)
      (try simp only [Act.put, List.getElem_toArray, List.getElem_cons_zero, List.getElem_cons_succ, List.setIfInBounds_toArray, List.set_cons_zero, List.set_cons_succ])
      refine wpAnyH_take (i := 48) (v := ?_) rfl (by kernel_rfl) (by kernel_rfl) (by kernel_rfl) (fun _ _ _ h => h) (Or.inl ⟨by rfl, ?_⟩) hHeld ?_
      rotate_left
      · intro w hSw; (try dsimp only at hSw); go_simp; (try with_reducible rfl)
      (try simp only [Act.put, List.getElem_toArray, List.getElem_cons_zero, List.getElem_cons_succ, List.setIfInBounds_toArray, List.set_cons_zero, List.set_cons_succ])
      refine wpAnyH_take (i := 49) (v := ?_) rfl (by kernel_rfl) (by kernel_rfl) (by kernel_rfl) (fun _ _ _ h => h) (Or.inl ⟨by rfl, ?_⟩) hHeld ?_
      rotate_left
      · intro w hSw; (try dsimp only at hSw); go_simp; (try with_reducible rfl)
      (try simp only [Act.put, List.getElem_toArray, List.getElem_cons_zero, List.getElem_cons_succ, List.setIfInBounds_toArray, List.set_cons_zero, List.set_cons_succ])
      refine wpAnyH_take (i := 50) (v := ?_) rfl (by kernel_rfl) (by kernel_rfl) (by kernel_rfl) (fun _ _ _ h => h) (Or.inl ⟨by rfl, ?_⟩) hHeld ?_
      rotate_left
      · intro w hSw; (try dsimp only at hSw); go_simp; (try with_reducible rfl)
      (try simp only [Act.put, List.getElem_toArray, List.getElem_cons_zero, List.getElem_cons_succ, List.setIfInBounds_toArray, List.set_cons_zero, List.set_cons_succ])
      refine wpAnyH_take (i := 51) (v := ?_) rfl (by kernel_rfl) (by kernel_rfl) (by kernel_rfl) (fun _ _ _ h => h) (Or.inl ⟨by rfl, ?_⟩) hHeld ?_
      rotate_left
      · intro w hSw; (try dsimp only at hSw); go_simp; (try with_reducible rfl)
      (try simp only [Act.put, List.getElem_toArray, List.getElem_cons_zero, List.getElem_cons_succ, List.setIfInBounds_toArray, List.set_cons_zero, List.set_cons_succ])
      refine wpAnyH_take (i := 52) (v := ?_) rfl (by kernel_rfl) (by kernel_rfl) (by kernel_rfl) (fun _ _ _ h => h) (Or.inl ⟨by rfl, ?_⟩) hHeld ?_
      rotate_left
      · intro w hSw; (try dsimp only at hSw); go_simp; (try with_reducible rfl)
      (try simp only [Act.put, List.getElem_toArray, List.getElem_cons_zero, List.getElem_cons_succ, List.setIfInBounds_toArray, List.set_cons_zero, List.set_cons_succ])
      refine wpAnyH_take (i := 53) (v := ?_) rfl (by kernel_rfl) (by kernel_rfl) (by kernel_rfl) (fun _ _ _ h => h) (Or.inl ⟨by rfl, ?_⟩) hHeld ?_
      rotate_left
      · intro w hSw; (try dsimp only at hSw); go_simp; (try with_reducible rfl)
      (try simp only [Act.put, List.getElem_toArray, List.getElem_cons_zero, List.getElem_cons_succ, List.setIfInBounds_toArray, List.set_cons_zero, List.set_cons_succ])
      refine wpAnyH_take (i := 54) (v := ?_) rfl (by kernel_rfl) (by kernel_rfl) (by kernel_rfl) (fun _ _ _ h => h) (Or.inl ⟨by rfl, ?_⟩) hHeld ?_
      rotate_left
      · intro w hSw; (try dsimp only at hSw); go_simp; (try with_reducible rfl)
      (try simp only [Act.put, List.getElem_toArray, List.getElem_cons_zero, List.getElem_cons_succ, List.setIfInBounds_toArray, List.set_cons_zero, List.set_cons_succ])
      refine wpAnyH_take (i := 55) (v := ?_) rfl (by kernel_rfl) (by kernel_rfl) (by kernel_rfl) (fun _ _ _ h => h) (Or.inl ⟨by rfl, ?_⟩) hHeld ?_
      rotate_left
      · intro w hSw; (try dsimp only at hSw); go_simp; (try with_reducible rfl)
      (try simp only [Act.put, List.getElem_toArray, List.getElem_cons_zero, List.getElem_cons_succ, List.setIfInBounds_toArray, List.set_cons_zero, List.set_cons_succ])
      refine wpAnyH_done (by kernel_rfl) ?_ _
      refine NoPanic.normal ?_
      have k7 := (unhide K6).fr (unhide H7)
      have a16 := k7.a16
      obtain ⟨s0, s1, s2, s3, s4, s5, s6, s7, s8, s9, s10, s11⟩ := k7.b16
      clear k7
      go_wp2_with fail
      go_ret
      exact ⟨rfl, ((unhide F5).trans (unhide HF) (fun _ _ h => h)).trans (unhide H7) (fun _ _ h => h)⟩
end Go.Proofs.YtkpaoebpjcdglaaDoor

namespace Go.Proofs.YtkpaoebpjcdglaaDoor
open Go.ChangeShapes Go.WideShapes Go.ChangeAt Go.RowKit
set_option maxRecDepth 100000

theorem Tryd.ownKnob : ownKnob Tryd.prog.godebug = none := by kernel_rfl
theorem Fr.below {w w' : World} (h : Fr (fun _ => False) w w') : Below w.heap.size w w' := ⟨h.os, h.tape, h.output, h.size, fun k hk => h.block k hk (fun x => x)⟩
theorem laid_in {W : World} : ∀ {l : List (String × DataW Unit)} {ps : List MemPlace}, DataW.LaidVars Tryd.prog W l ps → ∀ {nm : String} {d : DataW Unit}, (nm, d) ∈ l →
    ∃ g t cs fuel p, Tryd.prog.globalNamed nm = some g ∧ (Tryd.prog.globals[g]?).map (·.type) = some t ∧ W.var? Tryd.prog nm = some cs ∧ DataW.trod (H := Unit) (fun _ => ()) Tryd.prog W 0 (fun _ => true) false fuel t cs.toList = some (d, p) ∧ ∀ x ∈ MemPlace.row ⟨g, 0, none⟩ cs.size, x ∈ ps := by
  intro l
  induction l with
  | nil => intro ps _ nm d hm; cases hm
  | cons y r ih =>
    intro ps h nm d hm
    obtain ⟨n, dd⟩ := y
    obtain ⟨g, t, cs, fuel, p, q, hg, ht, hv, hd, hr, rfl⟩ := h
    rcases List.mem_cons.1 hm with e | hm
    · cases e
      exact ⟨g, t, cs, fuel, p, hg, ht, hv, hd, fun x hx => by simp [hx]⟩
    · obtain ⟨g', t', cs', fuel', p', a1, a2, a3, a4, a5⟩ := ih hr hm
      exact ⟨g', t', cs', fuel', p', a1, a2, a3, a4, fun x hx => by simp [a5 x hx]⟩
/-- What is listed, piece by piece. -/
def aggL : DataW Unit → List (DataW Unit)
  | .agg l => l
  | _ => []
def mOf : DataW Unit → Option Int
  | .agg (_ :: .lit (.int .u8 z) :: _) => some z
  | _ => none
def lit1 : DataW Unit → Value
  | .lit (.string l) => .string ⟨l.toArray⟩
  | .lit (.int k z) => .int k z
  | _ => undef
theorem units_m : (aggL Rows.laid_almoner_quant_units).map mOf = measL.map (fun m : Nat => some (m : Int)) := by kernel_rfl
theorem Tryd.cellsRow : Tryd.prog.cellsOf 114 = 5 := by kernel_rfl
theorem Tryd.cellsU8 : Tryd.prog.cellsOf 5 = 1 := by kernel_rfl
theorem gu_of_laid {W : World} {laid : List (String × DataW Unit)} (hL : laidMet Tryd.prog laid W) (hm : ("almoner/quant.units", Rows.laid_almoner_quant_units) ∈ laid) : GU W := by
  intro i hi
  obtain ⟨ps, hv, _, _⟩ := hL
  obtain ⟨g', t', cs, fuel, p, a1, a2, a3, a4, _⟩ := laid_in hv hm
  have hg : Tryd.prog.globalNamed "almoner/quant.units" = some 0 := by kernel_rfl
  obtain rfl := Option.some.inj (hg.symm.trans a1)
  obtain rfl := Option.some.inj ((show (Tryd.prog.globals[0]?).map (·.type) = some 115 by kernel_rfl).symm.trans a2)
  obtain ⟨xs, m, _, hx, _, hlen, hall⟩ := DataW.trod_array Tryd.underlying115 a4
  simp only [Prod.mk.injEq] at hx
  have h1 := hall i hi
  obtain ⟨y, hy⟩ : ∃ y, xs[i]? = some y := ⟨xs[i], List.getElem?_eq_getElem (by omega)⟩
  have hmi : mOf y.1 = some ((measL.getD i 0 : Nat) : Int) := by
    have e := units_m
    rw [hx.1] at e
    have e2 := congrArg (fun l => l[i]?) e
    have hml : i < measL.length := hi
    simp only [aggL, List.getElem?_map, hy, Option.map_some, List.getElem?_eq_getElem hml, Option.some.injEq] at e2
    rw [e2, List.getD, List.getElem?_eq_getElem hml, Option.getD_some]
  rw [Tryd.cellsRow, hy] at h1
  obtain ⟨ys, n, _, hy2, _, hlen2, hf⟩ := DataW.trod_struct Tryd.underlying114 h1
  have h2 := hf 1 _ rfl
  rw [hy2] at hmi
  have hl5 : ys.length = 5 := hlen2
  rcases ys with _ | ⟨y0, _ | ⟨y1, r⟩⟩
  · simp at hl5
  · simp at hl5
  · obtain ⟨v, e1, e2, _⟩ := DataW.trod_int Tryd.underlying5 h2
    rw [e2] at hmi
    simp only [List.map_cons, mOf, Option.some.injEq] at hmi
    subst hmi
    have e1' : ((((cs.toList.drop (i * 5)).take 5).drop 1).take (Tryd.prog.cellsOf 5)) = [.int .u8 ((measL.getD i 0 : Nat) : Int)] := e1
    rw [Tryd.cellsU8] at e1'
    have e3 := congrArg List.head? e1'
    simp only [List.head?_eq_getElem?, List.getElem?_take, List.getElem?_drop] at e3
    rw [World.var?_cell hg a3 (i * 5 + 1)]
    simpa using e3
noncomputable def uWorld (os : Os) : World :=
  let w0 := World.holding Tryd.prog os ⟨#[], #[], []⟩
  { w0 with heap := w0.heap.modify 0 fun
      | .cells _ t frozen => .cells ((aggL Rows.laid_almoner_quant_units).flatMap fun d => (aggL d).map lit1).toArray t frozen
      | o => o }
end Go.Proofs.YtkpaoebpjcdglaaDoor

namespace Go.Proofs.YtkpaoebpjcdglaaDoor
open Go.ChangeShapes Go.WideShapes Go.ChangeAt Go.RowKit
set_option maxRecDepth 100000

theorem rknown_contract (H : Type) (enc : TypeId × Value → H) (W : World) (args : Array Value) (ds gs : List (DataW H)) (before : List MemPlace)
    (hW : DataW.Whole enc Tryd.prog Tryd.f3.params.toList Rows.recordKnownSpec.vars false W args.toList ds gs before) (hL : laidMetH Tryd.prog Rows.recordKnownRow.laid W) (_hsh : W.ShapedOpen Tryd.prog) :
    Calls Tryd.prog 3 args W fun e W' => ∃ v, e = .returned v ∧ Rows.recordKnownSpec.post enc Tryd.prog Tryd.f3 false true false false W args v W' := by
  have hW' := hW
  obtain ⟨p, q, hA0, hV, rfl, hfz, hnd⟩ := hW
  have hA : DataW.TrodAll enc Tryd.prog W 0 (fun _ => true) true Tryd.f3.params.toList args.toList ds p := hA0
  rw [Tryd.params3] at hA
  obtain ⟨hargs, rfl, rfl⟩ := trodAll_nil hA
  obtain rfl : args = #[] := by cases args; simp_all
  obtain ⟨rfl, rfl⟩ := trodVars_none hV
  have hL2 : laidMet Tryd.prog [("almoner/quant.units", Rows.laid_almoner_quant_units)] W := hL
  have hg := gu_of_laid hL2 (.head _)
  refine (rknown_any W hg).mono fun e W' ⟨he, hf⟩ => ?_
  subst he
  have hb := hf.below
  refine ⟨_, rfl, _, _, _, [], [], [], hW', ?_, ?_, ?_, hb.frame _, fun h => by cases h⟩
  · exact trodAll_cons_mk (shut_bool Tryd.underlying4 true) trodAll_mk0
  · exact trodAll_mk0
  · rfl

theorem rknown_laid_met (os : Os) : laidMetH Tryd.prog Rows.recordKnownRow.laid ((uWorld os).forCall (fun _ _ => 0) ⟨#[], #[], []⟩).memory :=
  laidMetH_of_parts (laidMet_of_run' 8 (by kernel_rfl) (by kernel_rfl)) (by kernel_rfl)
theorem rknown_reads (os : Os) {H : Type} (enc : TypeId × Value → H) : ∃ places, DataW.whole enc Tryd.prog ((uWorld os).forCall (fun _ _ => 0) ⟨#[], #[], []⟩).memory Tryd.f3.params.toList Rows.recordKnownSpec.vars false (#[] : Array Value).toList 8 = some ([], [], places) :=
  ⟨[], by kernel_rfl⟩

theorem rknown_lifted (os : Os) (started : os.Started) (H : Type) (enc : TypeId × Value → H) (F : Stop.Interp) :
    ReturnsInHanded {} Tryd.checked os 3 .any ((OpenSpec.ofChange Rows.recordKnownSpec).preRow enc Tryd.prog Tryd.f3 Rows.recordKnownRow.domain false Rows.recordKnownRow.laid) (((OpenSpec.ofChange Rows.recordKnownSpec).at F).post enc Tryd.prog Tryd.f3 false true false false) := by
  obtain ⟨places, hx⟩ := rknown_reads os enc
  refine returnsInHanded_of_row (C := Tryd.checked) (s := OpenSpec.ofChange Rows.recordKnownSpec) Tryd.ownKnob started (by kernel_rfl) Tryd.func3
    (witness_row_atRef (enc := enc) (C := Tryd.checked) false (uWorld os) #[] rfl (by kernel_rfl) (by kernel_rfl) (by kernel_rfl)
      (OpenSpec.preRow_of_cond 8 hx (by kernel_rfl) (fun k hk => by cases hk) (by kernel_rfl) (rknown_laid_met os))) ?_
  intro W base args ds gs before _ hW _ _ _ hL hsh _
  exact rknown_contract H enc W args ds gs before hW hL hsh

theorem rknown_said : Rows.RecordKnownSaid :=
  OpenClaim.holds_of_cond 3 Tryd.f3 rfl rfl rfl rfl rfl rfl rfl ⟨rfl, rfl, rfl, rfl, rfl⟩ rfl rfl rfl rfl rfl (by kernel_rfl) Tryd.func3 (by kernel_rfl)
    (of_decide_eq_true (by kernel_rfl)) (by unfold Func.isWrapper; first | (rw [if_pos (by decide +kernel)]; kernel_rfl) | (rw [if_neg (by decide +kernel)]; exact ⟨rfl, rfl⟩))
    (fun os started H enc _ F => by rw [OpenClaim.pre_eq_preRow]; exact rknown_lifted os started H enc F)

theorem rknown_plain (f : FuncId) (fn : Func) (hf : Tryd.pinned.checked.prog.funcNamed Rows.recordKnownRow.func = some f) (hfn : Tryd.pinned.checked.prog.funcs[f]? = some fn) :
    false = Tryd.pinned.checked.prog.looks [] ∧ ∀ (j : Nat) t, fn.params[j]? = some t → Tryd.pinned.checked.prog.wantsStandIn t = false := by
  obtain rfl : f = 3 := Option.some.inj ((show Tryd.prog.funcNamed Rows.recordKnownRow.func = some 3 by kernel_rfl).symm.trans hf) |>.symm
  obtain rfl : fn = Tryd.f3 := (Option.some.inj (Tryd.func3.symm.trans hfn)).symm
  refine ⟨by kernel_rfl, fun j t ht => ?_⟩
  rw [Tryd.params3] at ht
  simp at ht

/-- THE FIRST FORM's CARD. -/
theorem rknown_card : Rows.RecordKnownCardSaid :=
  Claim7.holds_tied_plain_at .later [] _ _ _ _ rknown_said (fun _ h => by cases h) (by kernel_rfl) (fun _ h => by cases h) recordKnown_row_tie rfl ⟨rfl, rfl⟩ (by kernel_rfl) rfl rknown_plain (by kernel_rfl)
#print axioms rknown_card
end Go.Proofs.YtkpaoebpjcdglaaDoor

