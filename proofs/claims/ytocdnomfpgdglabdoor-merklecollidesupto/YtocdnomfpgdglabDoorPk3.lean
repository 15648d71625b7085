import Derived.Test.YtocdnomfpgdglabDoorPk2
import Derived.Test.YtocdnomfpgdglabDoorPk1
import Derived.Deep.QuietTactic
import Derived.BigQuiet
import Derived.Test.YtocdnomfpgdglabDoorMae
import Derived.Test.YtocdnomfpgdglabDoorMaf
namespace Go.Proofs.YtocdnomfpgdglabDoor
open Go.RowKit

/-- One hash less. -/
theorem q_step (u : Bool) (ps : List (List Nat)) (D d : Nat) (hlen : ps.length = D + 1) :
    ((u = true ∨ ps ≠ []) ∧ (if u = true then ps else ps.tail).length = d + 1 ↔ (u = true ∨ ps.take D ≠ []) ∧ (if u = true then ps.take D else (ps.take D).tail).length = d) ∧
    ((u = true ∨ ps.take D ≠ []) → ∀ old : List Nat, (if u = true then old else ps.headD []) = (if u = true then old else (ps.take D).headD []) ∧ (if u = true then ps else ps.tail).dropLast = (if u = true then ps.take D else (ps.take D).tail) ∧ (if u = true then ps else ps.tail).getLastD [] = ps[D]'(by omega)) := by
  have hdl : ps.dropLast = ps.take D := by rw [List.dropLast_eq_take, hlen]; rfl
  have hgl : ps.getLastD [] = ps[D] := getLastD_at ps D hlen
  have htl : (ps.take D).length = D := by rw [List.length_take]; omega
  cases u with
  | true =>
    simp only [if_true, true_or, true_and]
    refine ⟨by omega, fun _ _ => ⟨hdl, hgl⟩⟩
  | false =>
    clear hdl hgl htl
    rcases ps with _ | ⟨p, q⟩
    · simp at hlen
    · have hq : q.length = D := by simpa using hlen
      rcases D with _ | D
      · have hq0 : q = [] := List.length_eq_zero_iff.1 hq
        subst hq0
        simp
      · refine ⟨?_, fun _ old => ⟨?_, ?_, ?_⟩⟩
        · simp
          omega
        · simp
        · simp only [Bool.false_eq_true, if_false, List.tail_cons, List.take_succ_cons]
          rw [List.dropLast_eq_take, hq]; rfl
        · simp only [Bool.false_eq_true, if_false, List.tail_cons]
          rw [getLastD_at q D hq]; rfl
set_option maxRecDepth 100000 in
set_option maxHeartbeats 1000000 in
/-- rise: no hash is left. -/
theorem rise_short (wi : Nat) (old : List Nat) (ov : Value) (wh : Bool) (f n M : Nat) (vs : List Value) (x : Value) (w : World) (ho : Sl w ov old) (hp : Pcs w x vs []) (hM : f < M) (h : wh = false ∨ ¬ M = f + n) (hno : ¬ rOk wh f n M []) : RiSays wi old ov wh f n M [] x w := by
  unfold RiSays
  obtain ⟨oo, oc, rfl⟩ := ho.form
  obtain ⟨xo, xc, rfl⟩ := hp.form
  clear ho hp
  simp only [List.length_nil]
  generalize old.length = LN at *
  by_cases hm : M = f + n
  · have hw : wh = false := h.resolve_right (fun h => h hm)
    subst hw
    have e : M - f = n := by omega
    rw [e]
    have q0 : ((n : Int) == (n : Int)) = true := by simp
    have HN := hide hno
    clear hm h e hM hno
    go_enter Tryd.func49, Tryd.ntmps49
    go_wp2_with fail
    go_returns
    exact ⟨fun h => absurd h (unhide HN), fun _ => ⟨none, 0, 0, none, 0, 0, rfl⟩, Fr.refl _ _⟩
  · have q0 : (((M - f : Nat) : Int) == (n : Int)) = false := beq_false_of_ne (by omega)
    have q1 : ¬ M - f = n := by omega
    have HN := hide hno
    clear hm h hM hno
    generalize M - f = I at *
    go_enter Tryd.func49, Tryd.ntmps49
    go_wp2_with fail
    go_returns
    exact ⟨fun h => absurd h (unhide HN), fun _ => ⟨none, 0, 0, none, 0, 0, rfl⟩, Fr.refl _ _⟩
end Go.Proofs.YtocdnomfpgdglabDoor

namespace Go.Proofs.YtocdnomfpgdglabDoor
open Go.RowKit

set_option maxRecDepth 100000 in
set_option maxHeartbeats 1000000 in
/-- rise: the part's root is the one hash. -/
theorem rise_end (wi : Nat) (old : List Nat) (ov : Value) (f n D : Nat) (ps : List (List Nat)) (vs : List Value) (g o xc : Nat) (w : World) (ho : Sl w ov old) (hp : Pcs w (.slice (some ⟨g, o, none⟩) (D + 1) xc) vs ps) (hcap : D + 1 ≤ xc) (hlen : ps.length = D + 1) (hD8 : D < 8000000) : RiSays wi old ov false f n (f + n) ps (.slice (some ⟨g, o, none⟩) (D + 1) xc) w := by
  have he : endF f n (f + n) = (f, n) := endF_eq rfl
  have hu : ¬ useO false f n (f + n) = true := by rw [useO]; simp
  have hR : rR false old f n (f + n) ps = ps.headD [] := by rw [rR, if_neg hu]
  have hQ : rQ false f n (f + n) ps = ps.tail := by rw [rQ, if_neg hu]
  have hk : rOk false f n (f + n) ps ↔ D = 0 := by
    rw [rOk, hQ, he]
    show (_ ∧ ps.tail.length = dep f n f n) ↔ _
    rw [dep_eq, List.length_tail, hlen]
    exact ⟨fun h => by omega, fun h => ⟨.inr (fun e => by rw [e] at hlen; simp at hlen), by omega⟩⟩
  unfold RiSays
  rw [hk, hR, hQ, he]
  simp only [olderv_eq, topv_eq, dep_eq, stq_eq]
  rw [show f + n - f = n by omega]
  obtain ⟨oo, oc, rfl⟩ := ho.form
  obtain ⟨g', o', vo, vc, eg, hcell, hsl⟩ := hp.nth (Fr.refl _ _) D (by omega)
  cases eg
  have hhd : D = 0 → ps.headD [] = ps[D] := fun h => by
    subst h
    match ps, hlen with
    | p :: q, _ => rfl
  generalize ps[D] = A at *
  have HS := hide (And.intro hsl hhd)
  clear ho hp hk hR hQ hu he hsl hhd hlen
  generalize old.length = LN at *
  generalize A.length = AN at *
  have q0 : ((n : Int) == (n : Int)) = true := by simp
  have q3 : (((D : Int) + 1) == 0) = false := beq_false_of_ne (by omega)
  have q4 : ¬ (D : Int) + 1 = 0 := by omega
  have q5 : IntKind.i64.wrap ((D : Int) + 1 - 1) = (D : Int) := by rw [IntKind.wrap_i64]; omega
  have q6 : (D : Int) < (D : Int) + 1 := by omega
  have q7 : (D : Int) ≤ (xc : Int) := by omega
  by_cases h0 : D = 0
  · subst h0
    have hcell2 : w.cell? ⟨g, o, none⟩ = some (.slice vo AN vc) := hcell
    have HS2 := (unhide HS).2 rfl
    have HS3 := hide (show Sl w (.slice vo AN vc) (ps.headD []) by rw [HS2]; exact (unhide HS).1)
    clear HS2
    go_enter Tryd.func49, Tryd.ntmps49
    go_wp2_with fail
    go_returns
    exact ⟨⟨vo, AN, vc, vo, AN, vc, none, 0, [], rfl, by simpa using unhide HS3, by simpa using unhide HS3, OT.nil _, StOk.nil _, rfl⟩, Fr.refl _ _⟩
  · have q8 : ((D : Int) == 0) = false := beq_false_of_ne (by omega)
    go_enter Tryd.func49, Tryd.ntmps49
    go_wp2_with fail
    go_returns
    exact ⟨fun h => absurd h h0, fun _ => ⟨vo, AN, vc, vo, AN, vc, rfl⟩, Fr.refl _ _⟩
end Go.Proofs.YtocdnomfpgdglabDoor

namespace Go.Proofs.YtocdnomfpgdglabDoor
open Go.RowKit

set_option maxRecDepth 100000 in
set_option maxHeartbeats 2000000 in
/-- rise, down to the left: its walk. -/
theorem rise_go_l (wi I n K D g o xc d : Nat) (wh : Bool) (oo : Option Addr) (on oc : Nat) (vo : Option Addr) (vn vc : Nat) (A O T : List Nat) (TS : List (List Nat × List Nat × Bool)) (C : Prop) (w : World) (hcell : w.cell? ⟨g, o + D, none⟩ = some (.slice vo vn vc)) (hsl : Sl w (.slice vo vn vc) A) (hcap : D + 1 ≤ xc) (hD8 : D < 8000000) (hKn : K < n) (hIne : ¬ I = n) (hI : I ≤ K) (hd : C → d ≤ 8000000)
    (hha : Calls Tryd.prog 82 #[.int .i64 n] w fun e w' => e = .returned (.int .i64 (K : Nat)) ∧ w' = w)
    (hnode : ∀ w' x y, C → Fr (fun _ => False) w w' → Sl w' x T → Sl w' y A → Calls Tryd.prog 83 #[.int .i64 wi, x, y] w' fun e w'' => ∃ yo yc, e = .returned (.slice yo wi yc) ∧ Sl w'' (.slice yo wi yc) (nd wi T A) ∧ Fr (fun _ => False) w' w'')
    (ih : ∀ w', Fr (fun _ => False) w w' → Calls Tryd.prog 49 #[.int .i64 wi, .int .i64 (I : Int), .int .i64 (K : Int), .bool wh, .slice oo on oc, .slice (some ⟨g, o, none⟩) D xc] w' fun e w'' => (C → ∃ ao an ac bo bn bc so sc ss, e = .returned (.tuple #[.slice ao an ac, .slice bo bn bc, .slice so ss.length sc, .bool true]) ∧ Sl w'' (.slice ao an ac) O ∧ Sl w'' (.slice bo bn bc) T ∧ OT w' w'' (.slice so ss.length sc) ss ∧ StOk w'' ss TS ∧ ss.length = d) ∧ (¬ C → ∃ ao an ac bo bn bc, e = .returned (.tuple #[.slice ao an ac, .slice bo bn bc, .slice none 0 0, .bool false])) ∧ Fr (fun _ => False) w' w'') :
    Calls Tryd.prog 49 #[.int .i64 wi, .int .i64 (I : Int), .int .i64 (n : Int), .bool wh, .slice oo on oc, .slice (some ⟨g, o, none⟩) (D + 1) xc] w fun e w' => (C → ∃ ao an ac bo bn bc so sc ss, e = .returned (.tuple #[.slice ao an ac, .slice bo bn bc, .slice so ss.length sc, .bool true]) ∧ Sl w' (.slice ao an ac) O ∧ Sl w' (.slice bo bn bc) (nd wi T A) ∧ OT w w' (.slice so ss.length sc) ss ∧ StOk w' ss ((T, A, true) :: TS) ∧ ss.length = d + 1) ∧ (¬ C → ∃ ao an ac bo bn bc, e = .returned (.tuple #[.slice ao an ac, .slice bo bn bc, .slice none 0 0, .bool false])) ∧ Fr (fun _ => False) w w' := by
  have q0 : ((I : Int) == (n : Int)) = false := beq_false_of_ne (by omega)
  have q1 : ¬ I = n := hIne
  have q3 : (((D : Int) + 1) == 0) = false := beq_false_of_ne (by omega)
  have q4 : ¬ (D : Int) + 1 = 0 := by omega
  have q5 : IntKind.i64.wrap ((D : Int) + 1 - 1) = (D : Int) := by rw [IntKind.wrap_i64]; omega
  have q6 : (D : Int) < (D : Int) + 1 := by omega
  have q7 : (D : Int) ≤ (xc : Int) := by omega
  have q8 : (I : Int) ≤ (K : Int) := by omega
  have HC := hide (And.intro hha (And.intro ih (And.intro hnode (And.intro hsl hd))))
  clear hha ih hnode hsl hd hKn hIne hI hcap
  go_enter Tryd.func49, Tryd.ntmps49
  go_wp2_with fail
  refine (unhide HC).1.mono ?_
  rintro e w0 ⟨rfl, rfl⟩
  go_wp2_with fail
  refine ((unhide HC).2.1 _ (by first | exact Fr.refl _ _ | exact (Fr.refl _ _).drew)).mono ?_
  rintro e w1 ⟨hA, hB, hF⟩
  by_cases hC : C
  · obtain ⟨ao, an, ac, bo, bn, bc, so, sc, ss, rfl, s1, s2, s3, s4, s5⟩ := hA hC
    have H1 := hide (And.intro s1 (And.intro s2 (And.intro s3 (And.intro s4 (And.intro s5 (And.intro hF hC))))))
    clear hA hB s1 s2 s3 s4 s5 hF hC
    go_wp2_with fail
    refine ((unhide HC).2.2.1 w1 _ _ (unhide H1).2.2.2.2.2.2 (unhide H1).2.2.2.2.2.1 (unhide H1).2.1 ((unhide HC).2.2.2.1.fr0 (unhide H1).2.2.2.2.2.1)).mono ?_
    rintro e w2 ⟨yo, yc, rfl, hS2, hF2⟩
    have H2 := hide (And.intro hS2 hF2)
    clear hS2 hF2
    go_wp2_with fail
    refine (ahead_any bo bn bc vo vn vc true so sc ss TS _ w2 ((unhide H1).2.2.1.fr0 (unhide H2).2) ((unhide H1).2.2.2.1.fr0 (unhide H2).2) (by rw [(unhide H1).2.2.2.2.1]; exact (unhide HC).2.2.2.2 (unhide H1).2.2.2.2.2.2)).mono ?_
    rintro e w3 ⟨da, dc, rfl, hT⟩
    have hl : ((Value.slice bo bn bc, Value.slice vo vn vc, true) :: ss).length = ss.length + 1 := rfl
    have H3 := hide (And.intro hT hl)
    clear hT hl
    go_wp2_with fail
    go_returns
    have hF13 := (unhide H2).2.trans (unhide H3).1.fr (fun _ _ h => h)
    have hF03 := (unhide H1).2.2.2.2.2.1.trans hF13 (fun _ _ h => h)
    refine ⟨fun _ => ⟨ao, an, ac, yo, wi, yc, da, dc, (.slice bo bn bc, .slice vo vn vc, true) :: ss, rfl, (unhide H1).1.fr0 hF13, (unhide H2).1.fr0 (unhide H3).1.fr, (unhide H3).1.base ((unhide H1).2.2.2.2.2.1.trans (unhide H2).2 (fun _ _ h => h)), StOk.cons ((unhide H1).2.1.fr0 hF13) ((unhide HC).2.2.2.1.fr0 hF03) rfl ((unhide H1).2.2.2.1.fr0 hF13), by rw [List.length_cons, (unhide H1).2.2.2.2.1]⟩, fun h => absurd (unhide H1).2.2.2.2.2.2 h, hF03⟩
  · obtain ⟨ao, an, ac, bo, bn, bc, rfl⟩ := hB hC
    have H1 := hide (And.intro hF hC)
    clear hA hB hF hC
    go_wp2_with fail
    go_returns
    exact ⟨fun h => absurd h (unhide H1).2, fun _ => ⟨none, 0, 0, none, 0, 0, rfl⟩, (unhide H1).1⟩
set_option maxRecDepth 100000 in
set_option maxHeartbeats 2000000 in
/-- rise, down to the right: its walk. -/
theorem rise_go_r (wi I n K D g o xc d : Nat) (wh : Bool) (oo : Option Addr) (on oc : Nat) (vo : Option Addr) (vn vc : Nat) (A O T : List Nat) (TS : List (List Nat × List Nat × Bool)) (C : Prop) (w : World) (hcell : w.cell? ⟨g, o + D, none⟩ = some (.slice vo vn vc)) (hsl : Sl w (.slice vo vn vc) A) (hcap : D + 1 ≤ xc) (hD8 : D < 8000000) (h2 : 2 ≤ n) (hn : n < 9223372036854775808) (hKn : K < n) (hIne : ¬ I = n) (hI : ¬ I ≤ K) (hIn : I ≤ n) (hd : C → d ≤ 8000000)
    (hha : Calls Tryd.prog 82 #[.int .i64 n] w fun e w' => e = .returned (.int .i64 (K : Nat)) ∧ w' = w)
    (hnode : ∀ (B : List Nat) w' x y, C → (B = O ∨ B = T) → Fr (fun _ => False) w w' → Sl w' x A → Sl w' y B → Calls Tryd.prog 83 #[.int .i64 wi, x, y] w' fun e w'' => ∃ yo yc, e = .returned (.slice yo wi yc) ∧ Sl w'' (.slice yo wi yc) (nd wi A B) ∧ Fr (fun _ => False) w' w'')
    (ih : ∀ w', Fr (fun _ => False) w w' → Calls Tryd.prog 49 #[.int .i64 wi, .int .i64 ((I - K : Nat) : Int), .int .i64 ((n - K : Nat) : Int), .bool false, .slice oo on oc, .slice (some ⟨g, o, none⟩) D xc] w' fun e w'' => (C → ∃ ao an ac bo bn bc so sc ss, e = .returned (.tuple #[.slice ao an ac, .slice bo bn bc, .slice so ss.length sc, .bool true]) ∧ Sl w'' (.slice ao an ac) O ∧ Sl w'' (.slice bo bn bc) T ∧ OT w' w'' (.slice so ss.length sc) ss ∧ StOk w'' ss TS ∧ ss.length = d) ∧ (¬ C → ∃ ao an ac bo bn bc, e = .returned (.tuple #[.slice ao an ac, .slice bo bn bc, .slice none 0 0, .bool false])) ∧ Fr (fun _ => False) w' w'') :
    Calls Tryd.prog 49 #[.int .i64 wi, .int .i64 (I : Int), .int .i64 (n : Int), .bool wh, .slice oo on oc, .slice (some ⟨g, o, none⟩) (D + 1) xc] w fun e w' => (C → ∃ ao an ac bo bn bc so sc ss, e = .returned (.tuple #[.slice ao an ac, .slice bo bn bc, .slice so ss.length sc, .bool true]) ∧ Sl w' (.slice ao an ac) (nd wi A O) ∧ Sl w' (.slice bo bn bc) (nd wi A T) ∧ OT w w' (.slice so ss.length sc) ss ∧ StOk w' ss ((A, T, false) :: TS) ∧ ss.length = d + 1) ∧ (¬ C → ∃ ao an ac bo bn bc, e = .returned (.tuple #[.slice ao an ac, .slice bo bn bc, .slice none 0 0, .bool false])) ∧ Fr (fun _ => False) w w' := by
  have q0 : ((I : Int) == (n : Int)) = false := beq_false_of_ne (by omega)
  have q1 : ¬ I = n := hIne
  have q3 : (((D : Int) + 1) == 0) = false := beq_false_of_ne (by omega)
  have q4 : ¬ (D : Int) + 1 = 0 := by omega
  have q5 : IntKind.i64.wrap ((D : Int) + 1 - 1) = (D : Int) := by rw [IntKind.wrap_i64]; omega
  have q6 : (D : Int) < (D : Int) + 1 := by omega
  have q7 : (D : Int) ≤ (xc : Int) := by omega
  have q8 : ¬ (I : Int) ≤ (K : Int) := by omega
  have q9 : IntKind.i64.wrap ((I : Int) - (K : Int)) = ((I - K : Nat) : Int) := by rw [IntKind.wrap_i64]; omega
  have q10 : IntKind.i64.wrap ((n : Int) - (K : Int)) = ((n - K : Nat) : Int) := by rw [IntKind.wrap_i64]; omega
  have HC := hide (And.intro hha (And.intro ih (And.intro hnode (And.intro hsl hd))))
  clear hha ih hnode hsl hd h2 hn hKn hIne hI hIn hcap
  generalize I - K = IK at *
  generalize n - K = NK at *
  go_enter Tryd.func49, Tryd.ntmps49
  go_wp2_with fail
  refine (unhide HC).1.mono ?_
  rintro e w0 ⟨rfl, rfl⟩
  go_wp2_with fail
  refine ((unhide HC).2.1 _ (by first | exact Fr.refl _ _ | exact (Fr.refl _ _).drew)).mono ?_
  rintro e w1 ⟨hA, hB, hF⟩
  by_cases hC : C
  · obtain ⟨ao, an, ac, bo, bn, bc, so, sc, ss, rfl, s1, s2, s3, s4, s5⟩ := hA hC
    have H1 := hide (And.intro s1 (And.intro s2 (And.intro s3 (And.intro s4 (And.intro s5 (And.intro hF hC))))))
    clear hA hB s1 s2 s3 s4 s5 hF hC
    go_wp2_with fail
    refine ((unhide HC).2.2.1 O w1 _ _ (unhide H1).2.2.2.2.2.2 (.inl rfl) (unhide H1).2.2.2.2.2.1 ((unhide HC).2.2.2.1.fr0 (unhide H1).2.2.2.2.2.1) (unhide H1).1).mono ?_
    rintro e w2 ⟨yo, yc, rfl, hS2, hF2⟩
    have H2 := hide (And.intro hS2 (And.intro hF2 ((unhide H1).2.2.2.2.2.1.trans hF2 (fun _ _ h => h))))
    clear hS2 hF2
    go_wp2_with fail
    refine ((unhide HC).2.2.1 T w2 _ _ (unhide H1).2.2.2.2.2.2 (.inr rfl) (unhide H2).2.2 ((unhide HC).2.2.2.1.fr0 (unhide H2).2.2) ((unhide H1).2.1.fr0 (unhide H2).2.1)).mono ?_
    rintro e w4 ⟨to, tc, rfl, hS4, hF4⟩
    have H4 := hide (And.intro hS4 (And.intro hF4 ((unhide H2).2.1.trans hF4 (fun _ _ h => h))))
    clear hS4 hF4
    go_wp2_with fail
    refine (ahead_any vo vn vc bo bn bc false so sc ss TS _ w4 ((unhide H1).2.2.1.fr0 (unhide H4).2.2) ((unhide H1).2.2.2.1.fr0 (unhide H4).2.2) (by rw [(unhide H1).2.2.2.2.1]; exact (unhide HC).2.2.2.2 (unhide H1).2.2.2.2.2.2)).mono ?_
    rintro e w3 ⟨da, dc, rfl, hT⟩
    have hl : ((Value.slice vo vn vc, Value.slice bo bn bc, false) :: ss).length = ss.length + 1 := rfl
    have H3 := hide (And.intro hT hl)
    clear hT hl
    go_wp2_with fail
    go_returns
    have hF13 := (unhide H4).2.2.trans (unhide H3).1.fr (fun _ _ h => h)
    have hF03 := (unhide H1).2.2.2.2.2.1.trans hF13 (fun _ _ h => h)
    refine ⟨fun _ => ⟨yo, wi, yc, to, wi, tc, da, dc, (.slice vo vn vc, .slice bo bn bc, false) :: ss, rfl, ((unhide H2).1.fr0 (unhide H4).2.1).fr0 (unhide H3).1.fr, (unhide H4).1.fr0 (unhide H3).1.fr, (unhide H3).1.base ((unhide H1).2.2.2.2.2.1.trans (unhide H4).2.2 (fun _ _ h => h)), StOk.cons ((unhide HC).2.2.2.1.fr0 hF03) ((unhide H1).2.1.fr0 hF13) rfl ((unhide H1).2.2.2.1.fr0 hF13), by rw [List.length_cons, (unhide H1).2.2.2.2.1]⟩, fun h => absurd (unhide H1).2.2.2.2.2.2 h, hF03⟩
  · obtain ⟨ao, an, ac, bo, bn, bc, rfl⟩ := hB hC
    have H1 := hide (And.intro hF hC)
    clear hA hB hF hC
    go_wp2_with fail
    go_returns
    exact ⟨fun h => absurd h (unhide H1).2, fun _ => ⟨none, 0, 0, none, 0, 0, rfl⟩, (unhide H1).1⟩
end Go.Proofs.YtocdnomfpgdglabDoor

namespace Go.Proofs.YtocdnomfpgdglabDoor
open Go.RowKit

theorem rR_wid (wi : Nat) (wh : Bool) (old : List Nat) (f n M : Nat) (ps : List (List Nat)) (h : rOk wh f n M ps) (hol : old.length = wi) (hpw : ∀ p ∈ ps, p.length = wi) : (rR wh old f n M ps).length = wi := by
  unfold rR
  by_cases hu : useO wh f n M = true
  · rw [if_pos hu]; exact hol
  · rw [if_neg hu]
    have hne := h.1.resolve_left hu
    match ps, hne with
    | p :: q, _ => exact hpw p (by simp)
theorem rQ_le (wh : Bool) (f n M : Nat) (ps : List (List Nat)) : (rQ wh f n M ps).length ≤ ps.length := by
  unfold rQ
  by_cases hu : useO wh f n M = true
  · rw [if_pos hu]; exact Nat.le_refl _
  · rw [if_neg hu, List.length_tail]; omega
/-- rise, down to the left. -/
theorem rise_left (wi : Nat) (hw1 : 1 ≤ wi) (hw32 : wi ≤ 32) (old : List Nat) (hol : old.length = wi) (oo : Option Addr) (on oc : Nat) (wh : Bool) (f n M D : Nat) (ps : List (List Nat)) (vs : List Value) (g o xc : Nat) (w : World) (hr : GR w) (hp : Pcs w (.slice (some ⟨g, o, none⟩) (D + 1) xc) vs ps) (hcap : D + 1 ≤ xc) (hlen : ps.length = D + 1) (hD8 : D < 8000000) (h2 : 2 ≤ n) (hn : n < 9223372036854775808) (hfM : f < M) (hMn : ¬ M = f + n) (hM : M ≤ f + hf n) (hpw : ∀ p ∈ ps, p.length = wi)
    (ih : ∀ w', Fr (fun _ => False) w w' → RiSays wi old (.slice oo on oc) wh f (hf n) M (ps.take D) (.slice (some ⟨g, o, none⟩) D xc) w') : RiSays wi old (.slice oo on oc) wh f n M ps (.slice (some ⟨g, o, none⟩) (D + 1) xc) w := by
  have hlt := hf_lt n h2
  have hpos := hf_pos n
  obtain ⟨g', o', vo, vc, eg, hcell, hsl⟩ := hp.nth (Fr.refl _ _) D (by omega)
  cases eg
  have he := endF_l h2 hMn hM
  obtain ⟨e1, e2, e3, -, -⟩ := endF_ok _ f (hf n) M (Nat.le_refl _) hfM hM
  have hu : useO wh f n M = useO wh f (hf n) M := by unfold useO; rw [he]
  have hne : ¬ (f = (endF f (hf n) M).1 ∧ n = (endF f (hf n) M).2) := by omega
  have hlt2 : (endF f (hf n) M).1 < f + hf n := by omega
  have hdp := dep_l (tf := (endF f (hf n) M).1) (tn := (endF f (hf n) M).2) h2 hne hlt2
  have hq := q_step (useO wh f (hf n) M) ps D (dep f (hf n) (endF f (hf n) M).1 (endF f (hf n) M).2) hlen
  have hk : rOk wh f n M ps ↔ rOk wh f (hf n) M (ps.take D) := by
    unfold rOk rQ
    rw [he, hu, hdp]
    exact hq.1
  have hAw := hpw ps[D] (List.getElem_mem _)
  have hpw' : ∀ p ∈ ps.take D, p.length = wi := fun p h => hpw p (List.mem_of_mem_take h)
  have htl : (ps.take D).length = D := by rw [List.length_take]; omega
  have hTw : rOk wh f (hf n) M (ps.take D) → (topv wi (rR wh old f (hf n) M (ps.take D)) f (hf n) (endF f (hf n) M).1 (endF f (hf n) M).2 (rQ wh f (hf n) M (ps.take D))).length = wi := fun h => topv_wid wi hw1 hw32 _ (rR_wid wi wh old _ _ _ _ h hol hpw') _ _ _ _ _ _ (Nat.le_refl _)
  have hgo := rise_go_l wi (M - f) n (hf n) D g o xc (dep f (hf n) (endF f (hf n) M).1 (endF f (hf n) M).2) wh oo on oc vo _ vc ps[D] (olderv wi (rR wh old f (hf n) M (ps.take D)) f (hf n) (endF f (hf n) M).1 (endF f (hf n) M).2 (rQ wh f (hf n) M (ps.take D))) (topv wi (rR wh old f (hf n) M (ps.take D)) f (hf n) (endF f (hf n) M).1 (endF f (hf n) M).2 (rQ wh f (hf n) M (ps.take D))) (stq wi (rR wh old f (hf n) M (ps.take D)) f (hf n) (endF f (hf n) M).1 (endF f (hf n) M).2 (rQ wh f (hf n) M (ps.take D))) (rOk wh f (hf n) M (ps.take D)) w hcell hsl hcap hD8 hlt (by omega) (by omega)
    (fun h => by have := rQ_le wh f (hf n) M (ps.take D); have := h.2; omega)
    (half_any n w hn h2)
    (fun w' x y hC hF hx hy => by
      have hnd := nd_len wi hw1 hw32 (topv wi (rR wh old f (hf n) M (ps.take D)) f (hf n) (endF f (hf n) M).1 (endF f (hf n) M).2 (rQ wh f (hf n) M (ps.take D))) ps[D]
      refine (gnode_any (wi : Int) x y _ _ w' (hr.fr0 hF) hx.s hy.s hx.b hy.b (by rw [hTw hC]; omega) (by rw [hAw]; omega)).mono ?_
      rintro e w'' ⟨yo, yc, rfl, hO⟩
      have hs := hO.sl (nd_lt _ _ _)
      rw [hnd] at hs ⊢
      exact ⟨yo, yc, rfl, hs, hO.fr⟩)
    (fun w' hF => by
      have h := ih w' hF
      unfold RiSays at h
      exact h)
  unfold RiSays
  refine hgo.mono ?_
  rintro e w' ⟨hA, hB, hF⟩
  refine ⟨fun h => ?_, fun h => hB (fun h' => h (hk.2 h')), hF⟩
  have hC := hk.1 h
  obtain ⟨ao, an, ac, bo, bn, bc, so, sc, ss, rfl, s1, s2, s3, s4, s5⟩ := hA hC
  obtain ⟨r1, r2, r3⟩ := hq.2 hC.1 old
  have hR : rR wh old f n M ps = rR wh old f (hf n) M (ps.take D) := by unfold rR; rw [hu]; exact r1
  have hQ : (rQ wh f n M ps).dropLast = rQ wh f (hf n) M (ps.take D) := by unfold rQ; rw [hu]; exact r2
  have hG : (rQ wh f n M ps).getLastD [] = ps[D] := by unfold rQ; rw [hu]; exact r3
  refine ⟨ao, an, ac, bo, bn, bc, so, sc, ss, rfl, ?_, ?_, s3, ?_, ?_⟩
  · rw [he, olderv_l h2 hne hlt2, hR, hQ]; exact s1
  · rw [he, topv_l h2 hne hlt2, hR, hQ, hG]; exact s2
  · rw [he, stq_l h2 hne hlt2, hR, hQ, hG]; exact s4
  · rw [he, hdp]; exact s5
/-- rise, down to the right. -/
theorem rise_right (wi : Nat) (hw1 : 1 ≤ wi) (hw32 : wi ≤ 32) (old : List Nat) (hol : old.length = wi) (oo : Option Addr) (on oc : Nat) (wh : Bool) (f n M D : Nat) (ps : List (List Nat)) (vs : List Value) (g o xc : Nat) (w : World) (hr : GR w) (hp : Pcs w (.slice (some ⟨g, o, none⟩) (D + 1) xc) vs ps) (hcap : D + 1 ≤ xc) (hlen : ps.length = D + 1) (hD8 : D < 8000000) (h2 : 2 ≤ n) (hn : n < 9223372036854775808) (hfM : f < M) (hMn : ¬ M = f + n) (hMle : M ≤ f + n) (hM : ¬ M ≤ f + hf n) (hpw : ∀ p ∈ ps, p.length = wi)
    (ih : ∀ w', Fr (fun _ => False) w w' → RiSays wi old (.slice oo on oc) false (f + hf n) (n - hf n) M (ps.take D) (.slice (some ⟨g, o, none⟩) D xc) w') : RiSays wi old (.slice oo on oc) wh f n M ps (.slice (some ⟨g, o, none⟩) (D + 1) xc) w := by
  have hlt := hf_lt n h2
  have hpos := hf_pos n
  obtain ⟨g', o', vo, vc, eg, hcell, hsl⟩ := hp.nth (Fr.refl _ _) D (by omega)
  cases eg
  have he := endF_r h2 hMn hM
  obtain ⟨e1, e2, e3, -, -⟩ := endF_ok _ (f + hf n) (n - hf n) M (Nat.le_refl _) (by omega) (by omega)
  have hu1 : useO wh f n M = false := by
    unfold useO; rw [he]
    rw [decide_eq_false (by omega), Bool.and_false]
  have hu2 : useO false (f + hf n) (n - hf n) M = false := rfl
  have hu : useO wh f n M = useO false (f + hf n) (n - hf n) M := hu1.trans hu2.symm
  have hne : ¬ (f = (endF (f + hf n) (n - hf n) M).1 ∧ n = (endF (f + hf n) (n - hf n) M).2) := by omega
  have hlt2 : ¬ (endF (f + hf n) (n - hf n) M).1 < f + hf n := by omega
  have hdp := dep_r (tf := (endF (f + hf n) (n - hf n) M).1) (tn := (endF (f + hf n) (n - hf n) M).2) h2 hne hlt2
  have hq := q_step (useO false (f + hf n) (n - hf n) M) ps D (dep (f + hf n) (n - hf n) (endF (f + hf n) (n - hf n) M).1 (endF (f + hf n) (n - hf n) M).2) hlen
  have hk : rOk wh f n M ps ↔ rOk false (f + hf n) (n - hf n) M (ps.take D) := by
    unfold rOk rQ
    rw [he, hu, hdp]
    exact hq.1
  have hAw := hpw ps[D] (List.getElem_mem _)
  have hpw' : ∀ p ∈ ps.take D, p.length = wi := fun p h => hpw p (List.mem_of_mem_take h)
  have htl : (ps.take D).length = D := by rw [List.length_take]; omega
  have hTw : rOk false (f + hf n) (n - hf n) M (ps.take D) → (topv wi (rR false old (f + hf n) (n - hf n) M (ps.take D)) (f + hf n) (n - hf n) (endF (f + hf n) (n - hf n) M).1 (endF (f + hf n) (n - hf n) M).2 (rQ false (f + hf n) (n - hf n) M (ps.take D))).length = wi := fun h => topv_wid wi hw1 hw32 _ (rR_wid wi false old _ _ _ _ h hol hpw') _ _ _ _ _ _ (Nat.le_refl _)
  have hOw : rOk false (f + hf n) (n - hf n) M (ps.take D) → (olderv wi (rR false old (f + hf n) (n - hf n) M (ps.take D)) (f + hf n) (n - hf n) (endF (f + hf n) (n - hf n) M).1 (endF (f + hf n) (n - hf n) M).2 (rQ false (f + hf n) (n - hf n) M (ps.take D))).length = wi := fun h => olderv_wid wi hw1 hw32 _ (rR_wid wi false old _ _ _ _ h hol hpw') _ _ _ _ _ _ (Nat.le_refl _)
  have hsub : M - (f + hf n) = M - f - hf n := by omega
  have hgo := rise_go_r wi (M - f) n (hf n) D g o xc (dep (f + hf n) (n - hf n) (endF (f + hf n) (n - hf n) M).1 (endF (f + hf n) (n - hf n) M).2) wh oo on oc vo _ vc ps[D] (olderv wi (rR false old (f + hf n) (n - hf n) M (ps.take D)) (f + hf n) (n - hf n) (endF (f + hf n) (n - hf n) M).1 (endF (f + hf n) (n - hf n) M).2 (rQ false (f + hf n) (n - hf n) M (ps.take D))) (topv wi (rR false old (f + hf n) (n - hf n) M (ps.take D)) (f + hf n) (n - hf n) (endF (f + hf n) (n - hf n) M).1 (endF (f + hf n) (n - hf n) M).2 (rQ false (f + hf n) (n - hf n) M (ps.take D))) (stq wi (rR false old (f + hf n) (n - hf n) M (ps.take D)) (f + hf n) (n - hf n) (endF (f + hf n) (n - hf n) M).1 (endF (f + hf n) (n - hf n) M).2 (rQ false (f + hf n) (n - hf n) M (ps.take D))) (rOk false (f + hf n) (n - hf n) M (ps.take D)) w hcell hsl hcap hD8 h2 hn hlt (by omega) (by omega) (by omega)
    (fun h => by have := rQ_le false (f + hf n) (n - hf n) M (ps.take D); have := h.2; omega)
    (half_any n w hn h2)
    (fun B w' x y hC hB hF hx hy => by
      have hBw : B.length = wi := hB.elim (fun h => by rw [h]; exact hOw hC) (fun h => by rw [h]; exact hTw hC)
      have hnd := nd_len wi hw1 hw32 ps[D] B
      refine (gnode_any (wi : Int) x y _ _ w' (hr.fr0 hF) hx.s hy.s hx.b hy.b (by rw [hAw]; omega) (by rw [hBw]; omega)).mono ?_
      rintro e w'' ⟨yo, yc, rfl, hO⟩
      have hs := hO.sl (nd_lt _ _ _)
      rw [hnd] at hs ⊢
      exact ⟨yo, yc, rfl, hs, hO.fr⟩)
    (fun w' hF => by
      have h := ih w' hF
      unfold RiSays at h
      rw [hsub] at h
      exact h)
  unfold RiSays
  refine hgo.mono ?_
  rintro e w' ⟨hA, hB, hF⟩
  refine ⟨fun h => ?_, fun h => hB (fun h' => h (hk.2 h')), hF⟩
  have hC := hk.1 h
  obtain ⟨ao, an, ac, bo, bn, bc, so, sc, ss, rfl, s1, s2, s3, s4, s5⟩ := hA hC
  obtain ⟨r1, r2, r3⟩ := hq.2 hC.1 old
  have hR : rR wh old f n M ps = rR false old (f + hf n) (n - hf n) M (ps.take D) := by unfold rR; rw [hu]; exact r1
  have hQ : (rQ wh f n M ps).dropLast = rQ false (f + hf n) (n - hf n) M (ps.take D) := by unfold rQ; rw [hu]; exact r2
  have hG : (rQ wh f n M ps).getLastD [] = ps[D] := by unfold rQ; rw [hu]; exact r3
  refine ⟨ao, an, ac, bo, bn, bc, so, sc, ss, rfl, ?_, ?_, s3, ?_, ?_⟩
  · rw [he, olderv_r h2 hne hlt2, hR, hQ, hG]; exact s1
  · rw [he, topv_r h2 hne hlt2, hR, hQ, hG]; exact s2
  · rw [he, stq_r h2 hne hlt2, hR, hQ, hG]; exact s4
  · rw [he, hdp]; exact s5
/-- The document's rise. -/
theorem rise_any (wi : Nat) (hw1 : 1 ≤ wi) (hw32 : wi ≤ 32) (old : List Nat) (hol : old.length = wi) (oo : Option Addr) (on oc : Nat) (m : Nat) : ∀ (wh : Bool) (f n M : Nat) (ps : List (List Nat)) (vs : List Value) (x : Value) (w : World), n ≤ m → n < 9223372036854775808 → f < M → M ≤ f + n → GR w → Sl w (.slice oo on oc) old → Pcs w x vs ps → Cp x → ps.length ≤ 8000000 → (∀ p ∈ ps, p.length = wi) → RiSays wi old (.slice oo on oc) wh f n M ps x w := by
  induction m with
  | zero => intro wh f n M ps vs x w h _ h1 h2; omega
  | succ m ih =>
    intro wh f n M ps vs x w h hn hfM hMn hr hl hp hcx hps hpw
    by_cases hw : wh = true ∧ M = f + n
    · obtain ⟨rfl, rfl⟩ := hw
      exact rise_whole wi old _ f n ps vs x w hl hp
    · have hw' : wh = false ∨ ¬ M = f + n := by
        cases wh
        · exact .inl rfl
        · exact .inr (fun h => hw ⟨rfl, h⟩)
      by_cases h0 : ps = []
      · subst h0
        refine rise_short wi old _ wh f n M vs x w hl hp hfM hw' ?_
        rintro ⟨hk1, hk2⟩
        have hu : useO wh f n M = true := hk1.resolve_right (fun h => h rfl)
        have hk3 : dep f n (endF f n M).1 (endF f n M).2 = 0 := by
          rw [← hk2, rQ, if_pos hu]; rfl
        have hwh : wh = true := by cases wh; exact absurd hu (by simp [useO]); rfl
        have hMne : ¬ M = f + n := fun h => hw ⟨hwh, h⟩
        obtain ⟨e1, e2, e3, -, -⟩ := endF_ok _ f n M (Nat.le_refl _) hfM hMn
        by_cases hlt : (endF f n M).1 < f + hf n
        · rw [dep_l (by omega) (by omega) hlt] at hk3; omega
        · rw [dep_r (by omega) (by omega) hlt] at hk3; omega
      · obtain ⟨D, hD⟩ : ∃ D, ps.length = D + 1 := ⟨ps.length - 1, by have := List.length_pos_iff.2 h0; omega⟩
        obtain ⟨xo, xc, rfl⟩ := hp.form
        obtain ⟨g, o, v, rfl, -⟩ := hp.cell (Fr.refl _ _) 0 (by omega)
        have hcap : ps.length ≤ xc := hcx _ _ _ rfl
        rw [hD] at hp hcx hcap ⊢
        by_cases hM : M = f + n
        · have hwf : wh = false := hw'.resolve_right (fun h => h hM)
          subst hwf hM
          exact rise_end wi old _ f n D ps vs g o xc w hl hp hcap hD (by omega)
        · have h2 : 2 ≤ n := by omega
          have hlt := hf_lt n h2
          have hpos := hf_pos n
          have hp' := hp.take D (by omega)
          have hcx' : Cp (.slice (some ⟨g, o, none⟩) D xc) := fun _ _ _ e => by cases e; omega
          have htl : (ps.take D).length ≤ 8000000 := by rw [List.length_take]; omega
          have hpw' : ∀ p ∈ ps.take D, p.length = wi := fun p h => hpw p (List.mem_of_mem_take h)
          by_cases hi : M ≤ f + hf n
          · exact rise_left wi hw1 hw32 old hol oo on oc wh f n M D ps vs g o xc w hr hp hcap hD (by omega) h2 hn hfM hM hi hpw (fun w' hf' => ih wh f (hf n) M _ _ _ w' (by omega) (by omega) hfM hi (hr.fr0 hf') (hl.fr0 hf') (hp'.fr0 hf') hcx' htl hpw')
          · exact rise_right wi hw1 hw32 old hol oo on oc wh f n M D ps vs g o xc w hr hp hcap hD (by omega) h2 hn hfM hM hMn hi hpw (fun w' hf' => ih false (f + hf n) (n - hf n) M _ _ _ w' (by omega) (by omega) (by omega) (by omega) (hr.fr0 hf') (hl.fr0 hf') (hp'.fr0 hf') hcx' htl hpw')
end Go.Proofs.YtocdnomfpgdglabDoor

namespace Go.Proofs.YtocdnomfpgdglabDoor
open Go.RowKit

/-- What CheckProof asks of the hashes, said by rise. -/
theorem prfQ_r (wi n m : Nat) (old root : List Nat) (ps : List (List Nat)) : prfQ wi n m old root ps = true ↔ rOk true 0 n m ps ∧ olderv wi (rR true old 0 n m ps) 0 n (endF 0 n m).1 (endF 0 n m).2 (rQ true 0 n m ps) = old ∧ topv wi (rR true old 0 n m ps) 0 n (endF 0 n m).1 (endF 0 n m).2 (rQ true 0 n m ps) = root := by
  unfold prfQ rOk rR rQ useO
  by_cases he : (endF 0 n m).1 = 0
  · rw [if_pos he]
    simp only [decide_eq_true he, Bool.and_true, if_true, true_or, true_and, bodyQ, Bool.and_eq_true, decide_eq_true_eq]
  · rw [if_neg he]
    simp only [decide_eq_false he, Bool.and_false, Bool.false_eq_true, if_false, false_or]
    rcases ps with _ | ⟨p, q⟩
    · simp
    · simp [bodyQ]
theorem prfQ_same (wi n : Nat) (old root : List Nat) (ps : List (List Nat)) : prfQ wi n n old root ps = (decide (ps.length = 0) && decide (old = root)) := by
  have he : endF 0 n n = (0, n) := endF_eq (by omega)
  unfold prfQ bodyQ
  rw [he]
  simp only [if_true, dep_eq, olderv_eq, topv_eq, decide_true, Bool.true_and]
set_option maxRecDepth 100000 in
set_option maxHeartbeats 2000000 in
/-- The document's CheckProof: the guards. -/
theorem gcp_no (j m n : Int) (ov rv x : Value) (old root : List Nat) (vs : List Value) (ps : List (List Nat)) (w : World) (ho : Sl w ov old) (hr : Sl w rv root) (hp : Pcs w x vs ps) (hps : ps.length ≤ 8000000)
    (h : ¬ (1 ≤ j ∧ j ≤ 32 ∧ 0 ≤ m ∧ m ≤ n ∧ (old.length : Int) = j ∧ (root.length : Int) = j ∧ wdq j ps = true)) :
    Calls Tryd.prog 48 #[.int .i64 j, .int .i64 m, .int .i64 n, ov, rv, x] w fun e w' => e = .returned (.bool false) ∧ Fr (fun _ => False) w w' := by
  obtain ⟨oo, oc, rfl⟩ := ho.form
  obtain ⟨rr, rc, rfl⟩ := hr.form
  have hwd := gwide_any j _ vs ps w hp (by omega)
  obtain ⟨xo, xc, rfl⟩ := hp.form
  have HW := hide hwd
  clear ho hr hp hps hwd
  by_cases h1 : j < 1 ∨ 32 < j
  · have HM := hide h1
    clear h h1 HW
    generalize old.length = LL at *
    generalize root.length = RL at *
    generalize ps.length = PL at *
    go_enter Tryd.func48, Tryd.ntmps48
    go_wp2_with fail
    refine (may_no j _ (unhide HM)).mono ?_
    rintro e' w0 ⟨rfl, rfl⟩
    go_wp2_with fail
    go_ret
    exact ⟨rfl, Fr.refl _ _⟩
  · have h1' : 1 ≤ j ∧ j ≤ 32 := by omega
    have HM := hide h1'
    by_cases h2 : m < 0
    · clear h h1 HW h1'
      generalize old.length = LL at *
      generalize root.length = RL at *
      generalize ps.length = PL at *
      go_enter Tryd.func48, Tryd.ntmps48
      go_wp2_with fail
      refine (may_yes j _ (unhide HM).1 (unhide HM).2).mono ?_
      rintro e' w0 ⟨rfl, rfl⟩
      go_wp2_with fail
      go_ret
      exact ⟨rfl, Fr.refl _ _⟩
    · by_cases h3 : n < m
      · clear h h1 HW h1'
        generalize old.length = LL at *
        generalize root.length = RL at *
        generalize ps.length = PL at *
        go_enter Tryd.func48, Tryd.ntmps48
        go_wp2_with fail
        refine (may_yes j _ (unhide HM).1 (unhide HM).2).mono ?_
        rintro e' w0 ⟨rfl, rfl⟩
        go_wp2_with fail
        go_ret
        exact ⟨rfl, Fr.refl _ _⟩
      · by_cases h4 : (old.length : Int) = j
        · by_cases h5 : (root.length : Int) = j
          · have h6 : wdq j ps = false := by
              cases hq : wdq j ps with
              | false => rfl
              | true => exact absurd ⟨h1'.1, h1'.2, by omega, by omega, h4, h5, hq⟩ h
            rw [h6] at HW
            have q5 : ((root.length : Int) == j) = true := by rw [h5]; simp
            have q4 : ((old.length : Int) == j) = true := by rw [h4]; simp
            clear h h1 h1' h6
            generalize old.length = LL at *
            generalize root.length = RL at *
            generalize ps.length = PL at *
            go_enter Tryd.func48, Tryd.ntmps48
            go_wp2_with fail
            refine (may_yes j _ (unhide HM).1 (unhide HM).2).mono ?_
            rintro e' w0 ⟨rfl, rfl⟩
            go_wp2_with fail
            refine (unhide HW).mono ?_
            rintro e' w1 ⟨rfl, rfl⟩
            go_wp2_with fail
            go_ret
            exact ⟨rfl, Fr.refl _ _⟩
          · have q5 : ((root.length : Int) == j) = false := beq_false_of_ne h5
            have q4 : ((old.length : Int) == j) = true := by rw [h4]; simp
            clear h h1 h1' HW
            generalize old.length = LL at *
            generalize root.length = RL at *
            generalize ps.length = PL at *
            go_enter Tryd.func48, Tryd.ntmps48
            go_wp2_with fail
            refine (may_yes j _ (unhide HM).1 (unhide HM).2).mono ?_
            rintro e' w0 ⟨rfl, rfl⟩
            go_wp2_with fail
            go_ret
            exact ⟨rfl, Fr.refl _ _⟩
        · have q4 : ((old.length : Int) == j) = false := beq_false_of_ne h4
          clear h h1 h1' HW
          generalize old.length = LL at *
          generalize root.length = RL at *
          generalize ps.length = PL at *
          go_enter Tryd.func48, Tryd.ntmps48
          go_wp2_with fail
          refine (may_yes j _ (unhide HM).1 (unhide HM).2).mono ?_
          rintro e' w0 ⟨rfl, rfl⟩
          go_wp2_with fail
          go_ret
          exact ⟨rfl, Fr.refl _ _⟩
end Go.Proofs.YtocdnomfpgdglabDoor

namespace Go.Proofs.YtocdnomfpgdglabDoor
open Go.RowKit

theorem count_split (t : Int) : ∀ zs : List Int, zs.Pairwise (· < ·) → (∀ z ∈ zs.take (zs.countP (· < t)), z < t) ∧ ∀ z ∈ zs.drop (zs.countP (· < t)), t ≤ z := by
  intro zs
  induction zs with
  | nil => intro _; simp
  | cons a r ih =>
    intro h
    rw [List.pairwise_cons] at h
    obtain ⟨h1, h2⟩ := h
    obtain ⟨i1, i2⟩ := ih h2
    by_cases ha : a < t
    · rw [List.countP_cons_of_pos (by simpa using ha)]
      refine ⟨fun z hz => ?_, fun z hz => ?_⟩
      · rw [List.take_succ_cons] at hz
        rcases List.mem_cons.1 hz with rfl | hz
        · exact ha
        · exact i1 z hz
      · rw [List.drop_succ_cons] at hz; exact i2 z hz
    · have h0 : r.countP (· < t) = 0 := by
        rw [List.countP_eq_zero]
        intro z hz
        have := h1 z hz
        simp; omega
      rw [List.countP_cons_of_neg (by simpa using ha), h0]
      refine ⟨fun z hz => by simp at hz, fun z hz => ?_⟩
      rw [List.drop_zero] at hz
      rcases List.mem_cons.1 hz with rfl | hz
      · omega
      · have := h1 z hz; omega
/-- A slice of numbers. -/
def Ints (w : World) (x : Value) (zs : List Int) : Prop :=
  ((x = .slice none 0 0 ∧ zs = []) ∨ (∃ a c, x = .slice (some a) 0 c ∧ zs = []) ∨ ∃ g o c, x = .slice (some ⟨g, o, none⟩) zs.length c ∧ zs.length ≤ c ∧ g < w.heap.size ∧ ∀ j, j < zs.length → w.cell? ⟨g, o + j, none⟩ = some (.int .i64 (zs.getD j 0)))
theorem Ints.form {w : World} {x : Value} {zs : List Int} (h : Ints w x zs) : ∃ xo xc, x = .slice xo zs.length xc := by
  rcases h with ⟨rfl, rfl⟩ | ⟨a, c, rfl, rfl⟩ | ⟨g, o, c, rfl, _⟩ <;> exact ⟨_, _, rfl⟩
theorem Ints.fr0 {w w' : World} {x : Value} {zs : List Int} (h : Ints w x zs) (hf : Fr (fun _ => False) w w') : Ints w' x zs := by
  rcases h with h | h | ⟨g, o, c, h1, h2, h3, h4⟩
  · exact .inl h
  · exact .inr (.inl h)
  · exact .inr (.inr ⟨g, o, c, h1, h2, Nat.lt_of_lt_of_le h3 hf.size, fun j hj => (hf.cell (p := ⟨g, o + j, none⟩) h3 (fun h => h)).trans (h4 j hj)⟩)
theorem Ints.at_ {w : World} {xo : Option Addr} {n c : Nat} {zs : List Int} (h : Ints w (.slice xo n c) zs) (h0 : 0 < zs.length) : ∃ g o, xo = some ⟨g, o, none⟩ ∧ n = zs.length ∧ zs.length ≤ c ∧ g < w.heap.size ∧ ∀ j, j < zs.length → w.cell? ⟨g, o + j, none⟩ = some (.int .i64 (zs.getD j 0)) := by
  rcases h with ⟨_, rfl⟩ | ⟨a, c, _, rfl⟩ | ⟨g, o, c', e, h2, h3, h4⟩
  · simp at h0
  · simp at h0
  · simp only [Value.slice.injEq] at e
    obtain ⟨rfl, rfl, rfl⟩ := e
    exact ⟨g, o, rfl, rfl, h2, h3, h4⟩
theorem Ints.take {w : World} {g o n c : Nat} {zs : List Int} (hc : zs.length ≤ c) (hg : g < w.heap.size) (h : ∀ j, j < zs.length → w.cell? ⟨g, o + j, none⟩ = some (.int .i64 (zs.getD j 0))) (hn : n ≤ zs.length) : Ints w (.slice (some ⟨g, o, none⟩) n c) (zs.take n) := by
  have hl : (zs.take n).length = n := by rw [List.length_take]; omega
  refine .inr (.inr ⟨g, o, c, by rw [hl], by omega, hg, fun j hj => ?_⟩)
  rw [h j (by omega)]
  simp only [List.getD, List.getElem?_take]
  rw [if_pos (by omega)]
theorem Ints.drop {w : World} {g o n c : Nat} {zs : List Int} (hc : zs.length ≤ c) (hg : g < w.heap.size) (h : ∀ j, j < zs.length → w.cell? ⟨g, o + j, none⟩ = some (.int .i64 (zs.getD j 0))) (hn : n ≤ zs.length) : Ints w (.slice (some ⟨g, o + n, none⟩) (zs.length - n) (c - n)) (zs.drop n) := by
  have hl : (zs.drop n).length = zs.length - n := by rw [List.length_drop]
  refine .inr (.inr ⟨g, o + n, c - n, by rw [hl], by omega, hg, fun j hj => ?_⟩)
  rw [Nat.add_assoc, h (n + j) (by omega)]
  simp only [List.getD, List.getElem?_drop]
/-- The hashes for places. -/
def mny (wi : Nat) (L : List (List Nat)) (f n : Nat) (zs : List Int) : List (List Nat) :=
  if zs = [] then [mth wi (blk L f n)]
  else if _h : n < 2 then []
  else mny wi L f (hf n) (zs.take (zs.countP (· < ((f + hf n : Nat) : Int)))) ++ mny wi L (f + hf n) (n - hf n) (zs.drop (zs.countP (· < ((f + hf n : Nat) : Int))))
termination_by n
decreasing_by
  · exact hf_lt n (by omega)
  · have := hf_pos n; omega
theorem mny_nil (wi : Nat) (L : List (List Nat)) (f n : Nat) : mny wi L f n [] = [mth wi (blk L f n)] := by rw [mny, if_pos rfl]
theorem mny_one {wi : Nat} {L : List (List Nat)} {f n : Nat} {zs : List Int} (hz : zs ≠ []) (h : n < 2) : mny wi L f n zs = [] := by rw [mny, if_neg hz, dif_pos h]
theorem mny_two {wi : Nat} {L : List (List Nat)} {f n : Nat} {zs : List Int} (hz : zs ≠ []) (h : 2 ≤ n) : mny wi L f n zs = mny wi L f (hf n) (zs.take (zs.countP (· < ((f + hf n : Nat) : Int)))) ++ mny wi L (f + hf n) (n - hf n) (zs.drop (zs.countP (· < ((f + hf n : Nat) : Int)))) := by
  conv => lhs; rw [mny, if_neg hz, dif_neg (by omega)]
theorem mny_lt (wi : Nat) (L : List (List Nat)) (k : Nat) : ∀ f n zs, n ≤ k → zs ≠ [] → 1 ≤ n → (mny wi L f n zs).length ≤ n := by
  induction k with
  | zero => intro f n zs h _ h1; omega
  | succ k ih =>
    intro f n zs h hz h1
    by_cases h2 : n < 2
    · rw [mny_one hz h2]; simp
    · rw [mny_two hz (by omega), List.length_append]
      have h3 := hf_lt n (by omega)
      have h4 := hf_pos n
      generalize zs.countP (· < ((f + hf n : Nat) : Int)) = C
      have one : ∀ f' n', 1 ≤ n' → n' ≤ k → ∀ ys, (mny wi L f' n' ys).length ≤ n' := fun f' n' h5 h6 ys => by
        by_cases hy : ys = []
        · rw [hy, mny_nil]; simpa using h5
        · exact ih f' n' ys h6 hy h5
      have i1 := one f (hf n) (by omega) (by omega) (zs.take C)
      have i2 := one (f + hf n) (n - hf n) (by omega) (by omega) (zs.drop C)
      omega
theorem mny_le (wi : Nat) (L : List (List Nat)) (f n : Nat) (zs : List Int) : (mny wi L f n zs).length ≤ n + 1 := by
  by_cases hz : zs = []
  · rw [hz, mny_nil]; simp
  · by_cases h1 : 1 ≤ n
    · have := mny_lt wi L n f n zs (Nat.le_refl _) hz h1; omega
    · rw [mny_one hz (by omega)]; simp
def ManySays (tb wi : Nat) (L : List (List Nat)) (f n : Nat) (zs : List Int) (x : Value) (w : World) : Prop :=
  Calls Tryd.prog 98 #[pv (.pointer (some ⟨tb, 0, none⟩)) f n, x] w fun e w' => ∃ ao cp vs, e = .returned (.slice ao vs.length cp) ∧ OL w w' ao cp vs (mny wi L f n zs)
set_option maxRecDepth 100000 in
set_option maxHeartbeats 1000000 in
theorem many_nil (tb wi : Nat) (hw1 : 1 ≤ wi) (hw32 : wi ≤ 32) (L : List (List Nat)) (f n : Nat) (x : Value) (w : World) (hT : Tk w tb wi L) (hA : Al f n) (hL : f + n ≤ L.length) (hx : Ints w x []) : ManySays tb wi L f n [] x w := by
  have hroot := fun w' (hf : Fr (fun _ => False) w w') => root_any tb wi hw1 hw32 L _ f n w' (Nat.le_refl _) (hT.fr0 hf) hA hL
  have hMw := hT.mw hw1 hw32 f n
  have hMb := hT.mb f n
  unfold ManySays
  unfold RootSays at hroot
  rw [mny_nil]
  generalize mth wi (blk L f n) = M at *
  obtain ⟨xo, xc, rfl⟩ := hx.form
  have HC := hide (And.intro hroot (And.intro hMw hMb))
  clear hroot hMw hMb hT hA hL hx
  unfold pv at *
  simp only [List.length_nil]
  go_enter Tryd.func98, Tryd.ntmps98
  go_wp2_with fail
  refine ((unhide HC).1 _ ((Fr.refl _ _).alloc _)).mono ?_
  rintro e w1 ⟨yo, yc, rfl, hO⟩
  obtain ⟨W, hW⟩ : ∃ W, w1.alloc (.cells #[.slice yo wi yc] 23) = W := ⟨_, rfl⟩
  have hL1 := (ol_lit1 hO (unhide HC).2.2 wi (unhide HC).2.1 W hW).base ((Fr.refl _ _).alloc _)
  have H1 := hide hL1
  clear hL1 hO
  go_wp2_with fail
  go_ret
  exact ⟨_, 1, _, rfl, unhide H1⟩
set_option maxRecDepth 100000 in
set_option maxHeartbeats 1000000 in
theorem many_one (tb wi : Nat) (L : List (List Nat)) (f : Nat) (zs : List Int) (x : Value) (w : World) (hx : Ints w x zs) (hz : zs ≠ []) : ManySays tb wi L f 1 zs x w := by
  unfold ManySays pv
  rw [mny_one hz (by decide)]
  obtain ⟨xo, xc, rfl⟩ := hx.form
  have h0 : 0 < zs.length := List.length_pos_iff.2 hz
  have q0 : ((zs.length : Int) == 0) = false := beq_false_of_ne (by omega)
  have q1 : ¬ zs.length = 0 := by omega
  have q2 : ¬ zs = [] := hz
  clear hx hz
  generalize zs.length = N at *
  have e1 : ((1 : Nat) : Int) = 1 := rfl
  simp only [e1]
  go_enter Tryd.func98, Tryd.ntmps98
  go_wp2_with fail
  go_ret
  exact ⟨none, 0, [], rfl, (OL.nil _).base ((Fr.refl _ _).alloc _)⟩
set_option maxRecDepth 100000 in
set_option maxHeartbeats 2000000 in
theorem many_two (tb wi : Nat) (L : List (List Nat)) (f n : Nat) (zs : List Int) (x : Value) (w : World) (hb : f + n ≤ 8000000) (h2 : 2 ≤ n) (hx : Ints w x zs) (hz : zs ≠ []) (hs : zs.Pairwise (· < ·)) (hzl : zs.length ≤ 16000000)
    (ih1 : ∀ w' x', Fr (fun _ => False) w w' → Ints w' x' (zs.take (zs.countP (· < ((f + hf n : Nat) : Int)))) → ManySays tb wi L f (hf n) (zs.take (zs.countP (· < ((f + hf n : Nat) : Int)))) x' w')
    (ih2 : ∀ w' x', Fr (fun _ => False) w w' → Ints w' x' (zs.drop (zs.countP (· < ((f + hf n : Nat) : Int)))) → ManySays tb wi L (f + hf n) (n - hf n) (zs.drop (zs.countP (· < ((f + hf n : Nat) : Int)))) x' w') : ManySays tb wi L f n zs x w := by
  have h0 : 0 < zs.length := List.length_pos_iff.2 hz
  obtain ⟨xo, xc, rfl⟩ := hx.form
  obtain ⟨g, o, rfl, -, hc, hgl, hcells⟩ := hx.at_ h0
  have hlt := hf_lt n h2
  have hpos := hf_pos n
  have hpt := fun w => parts_any (some ⟨tb, 0, none⟩) f n w (by omega) h2
  have hfind : ∀ w', Fr (fun _ => False) w w' → Calls Tryd.prog 100 #[.slice (some ⟨g, o, none⟩) zs.length xc, .int .i64 ((f + hf n : Nat) : Int)] w' fun e w'' => ∃ bb, e = .returned (.tuple #[.int .i64 (zs.countP (· < ((f + hf n : Nat) : Int)) : Nat), .bool bb]) ∧ Fr (fun _ => False) w' w'' := fun w' hf' => by
    refine (find_any g o zs.length xc zs ((f + hf n : Nat) : Int) w' (Nat.le_refl _) (by omega) (fun j hj => (hf'.cell (p := ⟨g, o + j, none⟩) hgl (fun h => h)).trans (hcells j hj)) (by rw [List.take_length]; exact hs.imp (fun h => by omega))).mono ?_
    rintro e w'' ⟨rfl, q, rfl⟩
    rw [List.take_length]
    exact ⟨_, rfl, (Fr.refl _ _).drewN q⟩
  have hCl : zs.countP (· < ((f + hf n : Nat) : Int)) ≤ zs.length := List.countP_le_length
  have m1 := mny_le wi L f (hf n) (zs.take (zs.countP (· < ((f + hf n : Nat) : Int))))
  have m2 := mny_le wi L (f + hf n) (n - hf n) (zs.drop (zs.countP (· < ((f + hf n : Nat) : Int))))
  unfold ManySays at *
  rw [mny_two hz h2]
  generalize hC : zs.countP (· < ((f + hf n : Nat) : Int)) = C at *
  have r1 := fun w' (hf' : Fr (fun _ => False) w w') => ih1 w' _ hf' ((Ints.take hc hgl hcells hCl).fr0 hf')
  have r2 : ∀ w', Fr (fun _ => False) w w' → _ := fun w' hf' => ih2 w' _ hf' ((Ints.drop hc hgl hcells hCl).fr0 hf')
  have r3 : C = zs.length → ∀ w' a c', Fr (fun _ => False) w w' → _ := fun hCz w' a c' hf' => ih2 w' (.slice (some a) 0 c') hf' (by rw [hCz, List.drop_length]; exact .inr (.inl ⟨a, c', rfl, rfl⟩))
  generalize mny wi L f (hf n) (zs.take C) = A1 at *
  generalize mny wi L (f + hf n) (n - hf n) (zs.drop C) = A2 at *
  have hcat : ∀ (wr w1 : World) (ao bo : Option Addr) (cp bc : Nat) (vs us : List Value), OL w wr ao cp vs A1 → OL wr w1 bo bc us A2 → True := fun _ _ _ _ _ _ _ _ _ _ => trivial
  have m1' : A1.length ≤ 9000000 := by omega
  have m2' : A2.length ≤ 9000000 := by omega
  have HL := hide (And.intro m1' m2')
  clear m1' m2'
  clear hcat m1 m2 ih1 ih2 hC hs hcells hgl hx hz
  generalize hF2 : f + hf n = F2 at *
  generalize n - hf n = N2 at *
  generalize hf n = K at *
  have q0 : ((zs.length : Int) == 0) = false := beq_false_of_ne (by omega)
  have q1 : ¬ zs.length = 0 := by omega
  have q2 : ((n : Int) == 1) = false := beq_false_of_ne (by omega)
  have q3 : ¬ n = 1 := by omega
  have q4 : (C : Int) ≤ (zs.length : Int) := by omega
  have q5 : (C : Int) ≤ (xc : Int) := by omega
  have HC := hide (And.intro hpt (And.intro hfind (And.intro r1 (And.intro r2 r3))))
  clear hpt hfind r1 r2 r3
  unfold pv at *
  by_cases hcC : xc = C
  · have hCz : C = zs.length := by omega
    have HCz := hide hCz
    have hxc : xc = zs.length := by omega
    clear hcC
    subst hxc
    subst hCz
    generalize zs.length = N at *
    go_enter Tryd.func98, Tryd.ntmps98
    go_wp2_with fail
    obtain ⟨W0, hW0⟩ : ∃ W0, w.alloc (.cells #[.pointer (some ⟨tb, 0, none⟩), .int .i64 f, .int .i64 n] 63) = W0 := ⟨_, rfl⟩
    rw [hW0]
    obtain ⟨-, -, -, hF0⟩ := box3p w _ _ _ _ W0 hW0
    refine ((unhide HC).1 _).mono ?_
    rintro e wA ⟨rfl, hFA⟩
    have HF := hide (hF0.trans hFA (fun _ _ h => h))
    clear hF0 hFA hW0
    go_wp2_with fail
    obtain ⟨W1, hW1⟩ : ∃ W1, (wA.alloc (.cells #[.pointer (some ⟨tb, 0, none⟩), .int .i64 f, .int .i64 K] 63)).alloc (.cells #[.pointer (some ⟨tb, 0, none⟩), .int .i64 F2, .int .i64 N2] 63) = W1 := ⟨_, rfl⟩
    rw [hW1]
    obtain ⟨x0, x1, x2, y0, y1, y2, hF1⟩ := two3 wA _ _ _ _ _ _ _ W1 hW1
    refine ((unhide HC).2.1 _ ((unhide HF).trans hF1 (fun _ _ h => h))).mono ?_
    rintro e wB ⟨bb, rfl, hFB⟩
    have u0 := (hFB.cell (lt_of_cell x0) (fun h => h)).trans x0
    have u1 := (hFB.cell (lt_of_cell x1) (fun h => h)).trans x1
    have u2 := (hFB.cell (lt_of_cell x2) (fun h => h)).trans x2
    have v0 := (hFB.cell (lt_of_cell y0) (fun h => h)).trans y0
    have v1 := (hFB.cell (lt_of_cell y1) (fun h => h)).trans y1
    have v2 := (hFB.cell (lt_of_cell y2) (fun h => h)).trans y2
    have HF2 := hide (((unhide HF).trans hF1 (fun _ _ h => h)).trans hFB (fun _ _ h => h))
    clear hF1 hFB hW1 x0 x1 x2 y0 y1 y2 HF
    generalize wA.heap.size = Z at *
    have hS : ∀ w', Fr (fun _ => False) wB w' → w'.cell? ⟨Z, 0, none⟩ = some (.pointer (some ⟨tb, 0, none⟩)) ∧ w'.cell? ⟨Z, 1, none⟩ = some (.int .i64 f) ∧ w'.cell? ⟨Z, 2, none⟩ = some (.int .i64 K) ∧ w'.cell? ⟨Z + 1, 0, none⟩ = some (.pointer (some ⟨tb, 0, none⟩)) ∧ w'.cell? ⟨Z + 1, 1, none⟩ = some (.int .i64 F2) ∧ w'.cell? ⟨Z + 1, 2, none⟩ = some (.int .i64 N2) := fun w' hf =>
      ⟨(hf.cell (lt_of_cell u0) (fun h => h)).trans u0, (hf.cell (lt_of_cell u1) (fun h => h)).trans u1, (hf.cell (lt_of_cell u2) (fun h => h)).trans u2, (hf.cell (lt_of_cell v0) (fun h => h)).trans v0, (hf.cell (lt_of_cell v1) (fun h => h)).trans v1, (hf.cell (lt_of_cell v2) (fun h => h)).trans v2⟩
    have HS := hide hS
    clear hS
    have T1 : True := trivial
    go_wp2_with fail
    go_region_held3 (fun w' => w'.cell? ⟨Z, 0, none⟩ = some (.pointer (some ⟨tb, 0, none⟩)) ∧ w'.cell? ⟨Z, 1, none⟩ = some (.int .i64 f) ∧ w'.cell? ⟨Z, 2, none⟩ = some (.int .i64 K) ∧ w'.cell? ⟨Z + 1, 0, none⟩ = some (.pointer (some ⟨tb, 0, none⟩)) ∧ w'.cell? ⟨Z + 1, 1, none⟩ = some (.int .i64 F2) ∧ w'.cell? ⟨Z + 1, 2, none⟩ = some (.int .i64 N2))
      (first | assumption | exact (unhide HS) _ (Fr.refl _ _).drew | exact (unhide HS) _ fE | exact (unhide HS) _ fD | exact (unhide HS) _ fC)
      (first
        | (go_at_call 98; clear T1; refine ((unhide HC).2.2.1 _ (by exact (unhide HF2).drew)).mono ?_; rintro e wC ⟨ao, cp, vs, rfl, oC⟩; have fC : Fr (fun _ => False) wB wC := (Fr.refl _ _).drew.trans oC.own.fr (fun _ _ h => h))
        | (go_at_call 98; refine ((unhide HC).2.2.2.2 (unhide HCz) _ _ _ (by exact (unhide HF2).trans fC (fun _ _ h => h))).mono ?_; rintro e wD ⟨bo, bc, us, rfl, oD⟩; have fD : Fr (fun _ => False) wB wD := fC.trans oD.own.fr (fun _ _ h => h))
        | (obtain ⟨ao2, cp2, wE, hr2, hO2⟩ := oC.cat oD (by rw [oC.len, oD.len]; have h1 := (unhide HL).1; have h2 := (unhide HL).2; omega); have fE : Fr (fun _ => False) wB wE := (Fr.refl _ _).drew.trans hO2.own.fr (fun _ _ h => h); refine step_app rfl (.tmp 36) (.tmp 41) 22 22 rfl _ _ _ (by simp [Act.eval]) (by simp [Act.eval]) hr2 ?_))
    have HE := hide (hO2.base ((unhide HF2).drew))
    clear oC oD hO2 hr2 fC fD fE
    go_wp2_with fail
    go_ret
    exact ⟨ao2, cp2, _, by rw [List.length_append]; rfl, unhide HE⟩
  · have q6 : ¬ C = xc := fun h => hcC h.symm
    generalize zs.length = N at *
    go_enter Tryd.func98, Tryd.ntmps98
    go_wp2_with fail
    obtain ⟨W0, hW0⟩ : ∃ W0, w.alloc (.cells #[.pointer (some ⟨tb, 0, none⟩), .int .i64 f, .int .i64 n] 63) = W0 := ⟨_, rfl⟩
    rw [hW0]
    obtain ⟨-, -, -, hF0⟩ := box3p w _ _ _ _ W0 hW0
    refine ((unhide HC).1 _).mono ?_
    rintro e wA ⟨rfl, hFA⟩
    have HF := hide (hF0.trans hFA (fun _ _ h => h))
    clear hF0 hFA hW0
    go_wp2_with fail
    obtain ⟨W1, hW1⟩ : ∃ W1, (wA.alloc (.cells #[.pointer (some ⟨tb, 0, none⟩), .int .i64 f, .int .i64 K] 63)).alloc (.cells #[.pointer (some ⟨tb, 0, none⟩), .int .i64 F2, .int .i64 N2] 63) = W1 := ⟨_, rfl⟩
    rw [hW1]
    obtain ⟨x0, x1, x2, y0, y1, y2, hF1⟩ := two3 wA _ _ _ _ _ _ _ W1 hW1
    refine ((unhide HC).2.1 _ ((unhide HF).trans hF1 (fun _ _ h => h))).mono ?_
    rintro e wB ⟨bb, rfl, hFB⟩
    have u0 := (hFB.cell (lt_of_cell x0) (fun h => h)).trans x0
    have u1 := (hFB.cell (lt_of_cell x1) (fun h => h)).trans x1
    have u2 := (hFB.cell (lt_of_cell x2) (fun h => h)).trans x2
    have v0 := (hFB.cell (lt_of_cell y0) (fun h => h)).trans y0
    have v1 := (hFB.cell (lt_of_cell y1) (fun h => h)).trans y1
    have v2 := (hFB.cell (lt_of_cell y2) (fun h => h)).trans y2
    have HF2 := hide (((unhide HF).trans hF1 (fun _ _ h => h)).trans hFB (fun _ _ h => h))
    clear hF1 hFB hW1 x0 x1 x2 y0 y1 y2 HF
    generalize wA.heap.size = Z at *
    have hS : ∀ w', Fr (fun _ => False) wB w' → w'.cell? ⟨Z, 0, none⟩ = some (.pointer (some ⟨tb, 0, none⟩)) ∧ w'.cell? ⟨Z, 1, none⟩ = some (.int .i64 f) ∧ w'.cell? ⟨Z, 2, none⟩ = some (.int .i64 K) ∧ w'.cell? ⟨Z + 1, 0, none⟩ = some (.pointer (some ⟨tb, 0, none⟩)) ∧ w'.cell? ⟨Z + 1, 1, none⟩ = some (.int .i64 F2) ∧ w'.cell? ⟨Z + 1, 2, none⟩ = some (.int .i64 N2) := fun w' hf =>
      ⟨(hf.cell (lt_of_cell u0) (fun h => h)).trans u0, (hf.cell (lt_of_cell u1) (fun h => h)).trans u1, (hf.cell (lt_of_cell u2) (fun h => h)).trans u2, (hf.cell (lt_of_cell v0) (fun h => h)).trans v0, (hf.cell (lt_of_cell v1) (fun h => h)).trans v1, (hf.cell (lt_of_cell v2) (fun h => h)).trans v2⟩
    have HS := hide hS
    clear hS
    have T1 : True := trivial
    go_wp2_with fail
    go_region_held3 (fun w' => w'.cell? ⟨Z, 0, none⟩ = some (.pointer (some ⟨tb, 0, none⟩)) ∧ w'.cell? ⟨Z, 1, none⟩ = some (.int .i64 f) ∧ w'.cell? ⟨Z, 2, none⟩ = some (.int .i64 K) ∧ w'.cell? ⟨Z + 1, 0, none⟩ = some (.pointer (some ⟨tb, 0, none⟩)) ∧ w'.cell? ⟨Z + 1, 1, none⟩ = some (.int .i64 F2) ∧ w'.cell? ⟨Z + 1, 2, none⟩ = some (.int .i64 N2))
      (first | assumption | exact (unhide HS) _ (Fr.refl _ _).drew | exact (unhide HS) _ fE | exact (unhide HS) _ fD | exact (unhide HS) _ fC)
      (first
        | (go_at_call 98; clear T1; refine ((unhide HC).2.2.1 _ (by exact (unhide HF2).drew)).mono ?_; rintro e wC ⟨ao, cp, vs, rfl, oC⟩; have fC : Fr (fun _ => False) wB wC := (Fr.refl _ _).drew.trans oC.own.fr (fun _ _ h => h))
        | (go_at_call 98; refine ((unhide HC).2.2.2.1 _ (by exact (unhide HF2).trans fC (fun _ _ h => h))).mono ?_; rintro e wD ⟨bo, bc, us, rfl, oD⟩; have fD : Fr (fun _ => False) wB wD := fC.trans oD.own.fr (fun _ _ h => h))
        | (obtain ⟨ao2, cp2, wE, hr2, hO2⟩ := oC.cat oD (by rw [oC.len, oD.len]; have h1 := (unhide HL).1; have h2 := (unhide HL).2; omega); have fE : Fr (fun _ => False) wB wE := (Fr.refl _ _).drew.trans hO2.own.fr (fun _ _ h => h); refine step_app rfl (.tmp 36) (.tmp 41) 22 22 rfl _ _ _ (by simp [Act.eval]) (by simp [Act.eval]) hr2 ?_))
    have HE := hide (hO2.base ((unhide HF2).drew))
    clear oC oD hO2 hr2 fC fD fE
    go_wp2_with fail
    go_ret
    exact ⟨ao2, cp2, _, by rw [List.length_append]; rfl, unhide HE⟩
/-- The hashes for places, of a part. -/
theorem many_any (tb wi : Nat) (hw1 : 1 ≤ wi) (hw32 : wi ≤ 32) (L : List (List Nat)) (k : Nat) : ∀ (f n : Nat) (zs : List Int) (x : Value) (w : World), n ≤ k → Tk w tb wi L → Al f n → f + n ≤ L.length → Ints w x zs → zs.Pairwise (· < ·) → (∀ z ∈ zs, (f : Int) ≤ z ∧ z < f + n) → zs.length ≤ 16000000 → ManySays tb wi L f n zs x w := by
  induction k with
  | zero =>
    intro f n zs x w hk hT hA hL hx hs hz hl
    have e : zs = [] := by
      rcases zs with _ | ⟨a, r⟩
      · rfl
      · have := hz a (by simp); omega
    subst e
    exact many_nil tb wi hw1 hw32 L f n x w hT hA hL hx
  | succ k ih =>
    intro f n zs x w hk hT hA hL hx hs hz hl
    by_cases e : zs = []
    · subst e
      exact many_nil tb wi hw1 hw32 L f n x w hT hA hL hx
    · have hn1 : 1 ≤ n := by
        rcases zs with _ | ⟨a, r⟩
        · exact absurd rfl e
        · have := hz a (by simp); omega
      by_cases h1 : n = 1
      · subst h1
        exact many_one tb wi L f zs x w hx e
      · have hlt := hf_lt n (by omega)
        have hpos := hf_pos n
        obtain ⟨hA1, hA2⟩ := hA.halves (by omega)
        obtain ⟨s1, s2⟩ := count_split ((f + hf n : Nat) : Int) zs hs
        have hle := hT.len
        refine many_two tb wi L f n zs x w (by omega) (by omega) hx e hs hl (fun w' x' hf' hx' => ?_) (fun w' x' hf' hx' => ?_)
        · exact ih f (hf n) _ x' w' (by omega) (hT.fr0 hf') hA1 (by omega) hx' (hs.sublist (List.take_sublist _ _)) (fun z hz' => by have h1 := hz z (List.mem_of_mem_take hz'); have h2 := s1 z hz'; omega) (by rw [List.length_take]; omega)
        · exact ih (f + hf n) (n - hf n) _ x' w' (by omega) (hT.fr0 hf') hA2 (by omega) hx' (hs.sublist (List.drop_sublist _ _)) (fun z hz' => by have h1 := hz z (List.mem_of_mem_drop hz'); have h2 := s2 z hz'; omega) (by rw [List.length_drop]; omega)
end Go.Proofs.YtocdnomfpgdglabDoor

namespace Go.Proofs.YtocdnomfpgdglabDoor
open Go.RowKit

/-- Are numbers rising, from l on, below n? -/
def rsF (n : Int) : Int → List Int → Bool
  | _, [] => true
  | l, z :: r => if z < l ∨ n ≤ z then false else rsF n (z + 1) r
theorem rsF_ok (n : Int) : ∀ (zs : List Int) (l : Int), rsF n l zs = true → zs.Pairwise (· < ·) ∧ ∀ z ∈ zs, l ≤ z ∧ z < n := by
  intro zs
  induction zs with
  | nil => intro l _; exact ⟨List.Pairwise.nil, fun z h => by cases h⟩
  | cons a r ih =>
    intro l h
    rw [rsF] at h
    split at h
    · cases h
    · obtain ⟨h1, h2⟩ := ih (a + 1) h
      refine ⟨List.pairwise_cons.2 ⟨fun z hz => by have := h2 z hz; omega, h1⟩, fun z hz => ?_⟩
      rcases List.mem_cons.1 hz with rfl | hz
      · omega
      · have := h2 z hz; omega
theorem Ints.cell {w : World} {xo : Option Addr} {n c : Nat} {zs : List Int} (h : Ints w (.slice xo n c) zs) (k : Nat) (hk : k < zs.length) : ∃ g o, xo = some ⟨g, o, none⟩ ∧ w.cell? ⟨g, o + k, none⟩ = some (.int .i64 zs[k]) := by
  obtain ⟨g, o, e, _, _, _, hc⟩ := h.at_ (by omega)
  refine ⟨g, o, e, ?_⟩
  rw [hc k hk, List.getD, List.getElem?_eq_getElem hk, Option.getD_some]
set_option maxRecDepth 100000 in
set_option maxHeartbeats 1000000 in
/-- merkle.rising. -/
theorem rising_any (x : Value) (zs : List Int) (n : Int) (w : World) (hx : Ints w x zs) (hn : n < 9223372036854775808) (hl : zs.length ≤ 16000000) (hb : ∀ z ∈ zs, -9223372036854775808 ≤ z) :
    Calls Tryd.prog 64 #[x, .int .i64 n] w fun e w' => e = .returned (.bool (rsF n 0 zs)) ∧ w' = w := by
  obtain ⟨xo, xc, rfl⟩ := hx.form
  have HG := hide (And.intro hx (And.intro hl hb))
  obtain ⟨B, hB⟩ : ∃ B, rsF n 0 zs = B := ⟨_, rfl⟩
  rw [hB]
  have HB := hide hB
  clear hx hl hb hB
  generalize hN : zs.length = N at *
  go_enter Tryd.func64, Tryd.ntmps64
  go_wp2_with fail
  go_loopw [5, 10] (fun lv iv wr => ∃ (k : Nat) (l : Int), k ≤ N ∧ iv = .int .i64 (k : Nat) ∧ lv = .int .i64 l ∧ wr = w ∧ rsF n l (zs.drop k) = B) (fun _ iv _ => N - (intOf iv).toNat)
  case atStart => exact ⟨0, 0, Nat.zero_le _, rfl, rfl, rfl, unhide HB⟩
  case round =>
    obtain ⟨k, l, hk, rfl, rfl, rfl, hI⟩ := hrel
    have hN8 := (unhide HG).2.1
    by_cases hlt : k < N
    · have hlt' : (k : Int) < (N : Int) := by omega
      have hkz : k < zs.length := by omega
      obtain ⟨g, o, rfl, hcell⟩ := (unhide HG).1.cell k hkz
      have hzb := (unhide HG).2.2 zs[k] (List.getElem_mem hkz)
      rw [List.drop_eq_getElem_cons hkz, rsF] at hI
      generalize zs[k] = z at *
      have w1 : IntKind.i64.wrap ((k : Int) + 1) = (k : Int) + 1 := by rw [IntKind.wrap_i64]; omega
      by_cases h1 : z < l
      · rw [if_pos (.inl h1)] at hI
        subst hI
        go_wp2_with fail
        go_ret
        exact ⟨rfl, by first | rfl | trivial⟩
      · by_cases h2 : n ≤ z
        · rw [if_pos (.inr h2)] at hI
          subst hI
          go_wp2_with fail
          go_ret
          exact ⟨rfl, by first | rfl | trivial⟩
        · rw [if_neg (by omega)] at hI
          have w2 : IntKind.i64.wrap (z + 1) = z + 1 := by rw [IntKind.wrap_i64]; omega
          have HI := hide hI
          clear hI
          go_wp2_with fail
          exact ⟨⟨k + 1, z + 1, by omega, by go_num, by go_num, by first | rfl | trivial, unhide HI⟩, by simp [intOf]; omega⟩
    · have hkN : k = N := by omega
      have hlt' : ¬ (k : Int) < (N : Int) := by omega
      rw [List.drop_of_length_le (by omega), rsF] at hI
      subst hI
      clear hkN
      go_wp2_with fail
      go_ret
      exact ⟨rfl, by first | rfl | trivial⟩
set_option maxRecDepth 100000 in
set_option maxHeartbeats 1000000 in
theorem tmany_in (tb wi : Nat) (hw1 : 1 ≤ wi) (hw32 : wi ≤ 32) (L : List (List Nat)) (n : Nat) (x : Value) (zs : List Int) (w : World) (hT : Tk w tb wi L) (hn : n ≤ L.length) (hx : Ints w x zs) (hl : zs.length ≤ 16000000) (hr : rsF n 0 zs = true) :
    Calls Tryd.prog 63 #[.pointer (some ⟨tb, 0, none⟩), x, .int .i64 n] w fun e w' => ∃ ao cp vs, e = .returned (.tuple #[.slice ao vs.length cp, .int .i64 0]) ∧ OL w w' ao cp vs (mny wi L 0 n zs) := by
  obtain ⟨c0, c1, htb⟩ := hT.c0
  have hle := hT.len
  obtain ⟨s1, s2⟩ := rsF_ok n zs 0 hr
  have hhas : Calls Tryd.prog 73 #[.pointer (some ⟨tb, 0, none⟩), .int .i64 n] w fun e w' => e = .returned (.bool true) ∧ w' = w := by
    have := has_any tb L.length wi n w c0 c1
    rw [decide_eq_true (by omega)] at this
    exact this
  have hri := rising_any x zs n w hx (by omega) hl (fun z hz => by have := s2 z hz; omega)
  rw [hr] at hri
  have hmn := fun w' (hf : Fr (fun _ => False) w w') => many_any tb wi hw1 hw32 L n 0 n zs x w' (Nat.le_refl _) (hT.fr0 hf) (al_zero n) (by omega) (hx.fr0 hf) s1 (fun z hz => by have := s2 z hz; omega) hl
  unfold ManySays at hmn
  obtain ⟨xo, xc, rfl⟩ := hx.form
  have HG := hide (And.intro hhas (And.intro hri hmn))
  clear hhas hri hmn hT c0 c1 htb hn hx s1 s2 hr hl hle
  generalize zs.length = N at *
  go_enter Tryd.func63, Tryd.ntmps63
  go_wp2_with fail
  refine (unhide HG).1.mono ?_
  rintro e w0 ⟨rfl, rfl⟩
  go_wp2_with fail
  refine (unhide HG).2.1.mono ?_
  rintro e w0 ⟨rfl, rfl⟩
  go_wp2_with fail
  refine (first_any _ _ _).mono ?_
  rintro e w1 ⟨rfl, hF1⟩
  have H1 := hide hF1
  clear hF1
  go_wp2_with fail
  refine ((unhide HG).2.2 w1 (unhide H1)).mono ?_
  rintro e w2 ⟨ao, cp, vs, rfl, hO⟩
  have H2 := hide (hO.base (unhide H1))
  clear hO
  go_wp2_with fail
  go_returns
  exact ⟨ao, cp, vs, rfl, unhide H2⟩
set_option maxRecDepth 100000 in
set_option maxHeartbeats 1000000 in
theorem tmany_no (tb n : Nat) (wi k : Int) (x : Value) (zs : List Int) (w : World) (c0 : w.cell? ⟨tb, 0, none⟩ = some (.int .i64 wi)) (c1 : w.cell? ⟨tb, 1, none⟩ = some (.int .i64 n)) (hx : Ints w x zs) (hl : zs.length ≤ 16000000) (hb : ∀ z ∈ zs, -9223372036854775808 ≤ z) (hk : k < 9223372036854775808) (h : ¬ (1 ≤ wi ∧ wi ≤ 32 ∧ 0 ≤ k ∧ k ≤ n) ∨ rsF k 0 zs = false) :
    Calls Tryd.prog 63 #[.pointer (some ⟨tb, 0, none⟩), x, .int .i64 k] w fun e w' => e = .returned (.tuple #[.slice none 0 0, .int .i64 1]) ∧ w' = w := by
  have hhas := has_any tb n wi k w c0 c1
  have hri := rising_any x zs k w hx hk hl hb
  obtain ⟨xo, xc, rfl⟩ := hx.form
  by_cases hh : 1 ≤ wi ∧ wi ≤ 32 ∧ 0 ≤ k ∧ k ≤ n
  · rw [decide_eq_true hh] at hhas
    have h' : rsF k 0 zs = false := by
      rcases h with h | h
      · exact absurd hh h
      · exact h
    rw [h'] at hri
    have HG := hide (And.intro hhas hri)
    clear hhas h c0 c1 hx hl hb hri h' hh
    generalize zs.length = N at *
    go_enter Tryd.func63, Tryd.ntmps63
    go_wp2_with fail
    refine (unhide HG).1.mono ?_
    rintro e w0 ⟨rfl, rfl⟩
    go_wp2_with fail
    refine (unhide HG).2.mono ?_
    rintro e w0 ⟨rfl, rfl⟩
    go_wp2_with fail
    go_returns
    exact ⟨rfl, rfl⟩
  · rw [decide_eq_false hh] at hhas
    have HG := hide hhas
    clear hhas h hh c0 c1 hx hl hb hri
    generalize zs.length = N at *
    go_enter Tryd.func63, Tryd.ntmps63
    go_wp2_with fail
    refine (unhide HG).mono ?_
    rintro e w0 ⟨rfl, rfl⟩
    go_wp2_with fail
    go_returns
    exact ⟨rfl, rfl⟩
set_option maxRecDepth 100000 in
set_option maxHeartbeats 1000000 in
/-- merkle.Many, of rising places. -/
theorem mmany_in (wi : Nat) (hw1 : 1 ≤ wi) (hw32 : wi ≤ 32) (x y : Value) (us : List Value) (es : List (List Nat)) (zs : List Int) (w : World) (hg : GS w) (ht : GT w) (hp : Pcs w x us es) (hB : ∀ e ∈ es, e.length ≤ 16000000) (hn : es.length ≤ 8000000) (hy : Ints w y zs) (hl : zs.length ≤ 16000000) (hr : rsF es.length 0 zs = true) :
    Calls Tryd.prog 25 #[.int .i64 wi, x, y] w fun e w' => ∃ ao cp vs, e = .returned (.tuple #[.slice ao vs.length cp, .int .i64 0]) ∧ OL w w' ao cp vs (mny wi (es.map (lf wi)) 0 es.length zs) := by
  have hgr := grown_in wi hw1 hw32 x us es w hg hp hB hn
  have htr := fun w' tb (hf : Fr (fun _ => False) w w') (hT : Tk w' tb wi (es.map (lf wi))) => tmany_in tb wi hw1 hw32 (es.map (lf wi)) es.length y zs w' hT (by rw [List.length_map]; exact Nat.le_refl _) (hy.fr0 hf) hl hr
  obtain ⟨xo, xc, rfl⟩ := hp.form
  obtain ⟨yo, yc, rfl⟩ := hy.form
  have HT := hide (fun (w' : World) (tb base : Nat) (xo : Option Addr) (cp : Nat) (vs : List Value) (rs : List (List Nat)) (hT : TrAt w' base tb wi es.length xo cp vs rs) hR hf => tk_of hw1 hw32 hT hR hg ht hf hn)
  have HG := hide (And.intro hgr htr)
  clear hgr htr hg ht hp hB hn hy hl hr
  generalize mny wi (es.map (lf wi)) 0 es.length zs = M at *
  generalize es.length = N at *
  generalize zs.length = ZN at *
  go_enter Tryd.func25, Tryd.ntmps25
  go_wp2_with fail
  refine (unhide HG).1.mono ?_
  rintro e w1 ⟨rfl, yo, cp, vs, rs, hT, hR, hF⟩
  have hk := (unhide HT) _ _ _ _ _ _ _ hT hR hF
  have H1 := hide (And.intro hk hF)
  clear hk hF hT hR
  generalize w.heap.size = TB at *
  go_wp2_with fail
  refine ((unhide HG).2 w1 TB (unhide H1).2 (unhide H1).1).mono ?_
  rintro e w2 ⟨ao, cp, vs, rfl, hO⟩
  have H2 := hide (hO.base (unhide H1).2)
  clear hO
  go_wp2_with fail
  go_returns
  exact ⟨ao, cp, vs, rfl, unhide H2⟩
set_option maxRecDepth 100000 in
set_option maxHeartbeats 1000000 in
theorem mmany_no (j : Int) (x y : Value) (us : List Value) (es : List (List Nat)) (zs : List Int) (w : World) (hg : GS w) (hp : Pcs w x us es) (hB : ∀ e ∈ es, e.length ≤ 16000000) (hn : es.length ≤ 8000000) (hy : Ints w y zs) (hl : zs.length ≤ 16000000) (hzb : ∀ z ∈ zs, -9223372036854775808 ≤ z) (hi : (j < 1 ∨ 32 < j) ∨ rsF es.length 0 zs = false) :
    Calls Tryd.prog 25 #[.int .i64 j, x, y] w fun e w' => e = .returned (.tuple #[.slice none 0 0, .int .i64 1]) ∧ Fr (fun _ => False) w w' := by
  have hgr : Calls Tryd.prog 34 #[.int .i64 j, x] w fun e w' => e = .returned (.pointer (some ⟨w.heap.size, 0, none⟩)) ∧ w'.cell? ⟨w.heap.size, 0, none⟩ = some (.int .i64 j) ∧ w'.cell? ⟨w.heap.size, 1, none⟩ = some (.int .i64 es.length) ∧ Fr (fun _ => False) w w' := by
    by_cases hj : 1 ≤ j ∧ j ≤ 32
    · obtain ⟨wi, rfl⟩ : ∃ n : Nat, j = (n : Int) := ⟨j.toNat, by omega⟩
      refine (grown_in wi (by omega) (by omega) x us es w hg hp hB hn).mono ?_
      rintro e w' ⟨rfl, xo, cp, vs, rs, hT, _, hF⟩
      exact ⟨rfl, hT.cells.1, hT.cells.2.1, hF⟩
    · refine (grown_out j (by omega) x us es w hp hn).mono ?_
      rintro e w' ⟨rfl, hT, hF⟩
      exact ⟨rfl, hT.cells.1, hT.cells.2.1, hF⟩
  have htr := fun (w' : World) (tb : Nat) (hf : Fr (fun _ => False) w w') (h0 : w'.cell? ⟨tb, 0, none⟩ = some (.int .i64 j)) (h1 : w'.cell? ⟨tb, 1, none⟩ = some (.int .i64 es.length)) => tmany_no tb es.length j es.length y zs w' h0 h1 (hy.fr0 hf) hl hzb (by omega) (hi.imp (fun h => by omega) id)
  obtain ⟨xo, xc, rfl⟩ := hp.form
  obtain ⟨yo, yc, rfl⟩ := hy.form
  have HG := hide (And.intro hgr htr)
  clear hgr htr hp hg hB hn hi hy hl hzb
  generalize es.length = N at *
  generalize zs.length = ZN at *
  go_enter Tryd.func25, Tryd.ntmps25
  go_wp2_with fail
  refine (unhide HG).1.mono ?_
  rintro e w1 ⟨rfl, h0, h1, hF⟩
  have H1 := hide (And.intro h0 (And.intro h1 hF))
  clear hF h0 h1
  generalize w.heap.size = TB at *
  go_wp2_with fail
  refine ((unhide HG).2 w1 TB (unhide H1).2.2 (unhide H1).1 (unhide H1).2.1).mono ?_
  rintro e w2 ⟨rfl, rfl⟩
  go_wp2_with fail
  go_returns
  exact ⟨rfl, (unhide H1).2.2⟩
end Go.Proofs.YtocdnomfpgdglabDoor

namespace Go.Proofs.YtocdnomfpgdglabDoor
open Go.RowKit

set_option maxRecDepth 100000 in
set_option maxHeartbeats 2000000 in
/-- The document's Rising. -/
theorem grising_any (x : Value) (zs : List Int) (n : Int) (w : World) (hx : Ints w x zs) (hl : zs.length ≤ 16000000) (hb : ∀ z ∈ zs, -9223372036854775808 ≤ z) :
    Calls Tryd.prog 106 #[x, .int .i64 n] w fun e w' => e = .returned (.bool (rsF n 0 zs)) ∧ Fr (fun _ => False) w w' := by
  obtain ⟨xo, xc, rfl⟩ := hx.form
  have HG := hide (And.intro hx (And.intro hl hb))
  obtain ⟨B, hB⟩ : ∃ B, rsF n 0 zs = B := ⟨_, rfl⟩
  rw [hB]
  have HB := hide hB
  clear hx hl hb hB
  generalize hN : zs.length = N at *
  go_enter Tryd.func106, Tryd.ntmps106
  go_wp2_with fail
  go_loopw [5] (fun iv wr => ∃ (k : Nat) (l : Int), k ≤ N ∧ iv = .int .i64 (k : Nat) ∧ Fr (fun _ => False) w wr ∧ rsF n l (zs.drop k) = B ∧ (k = 0 ∧ l = 0 ∨ ∃ m z, k = m + 1 ∧ zs[m]? = some z ∧ 0 ≤ z ∧ l = z + 1)) (fun iv _ => N - (intOf iv).toNat)
  case atStart => exact ⟨0, 0, Nat.zero_le _, rfl, Fr.refl _ _, unhide HB, .inl ⟨rfl, rfl⟩⟩
  case round =>
    obtain ⟨k, l, hk, rfl, hF, hI, hK⟩ := hrel
    have hN8 := (unhide HG).2.1
    by_cases hlt : k < N
    · have hlt' : (k : Int) < (N : Int) := by omega
      have hkz : k < zs.length := by omega
      have hx := (unhide HG).1.fr0 hF
      obtain ⟨g, o, rfl, hcell⟩ := hx.cell k hkz
      have hzb := (unhide HG).2.2 zs[k] (List.getElem_mem hkz)
      rw [List.drop_eq_getElem_cons hkz, rsF] at hI
      have hzk : zs[k]? = some zs[k] := List.getElem?_eq_getElem hkz
      have w1 : IntKind.i64.wrap ((k : Int) + 1) = (k : Int) + 1 := by rw [IntKind.wrap_i64]; omega
      rcases hK with ⟨h0, rfl⟩ | ⟨m, p, rfl, hm, hp0, rfl⟩
      · generalize zs[k] = z at *
        have k0 : decide ((0 : Int) < (k : Int)) = false := decide_eq_false (by omega)
        have k01 : decide (0 < k) = false := decide_eq_false (by omega)
        clear h0
        have HF := hide hF
        have HZ := hide hzk
        clear hF hx hzk
        by_cases h1 : z < 0
        · rw [if_pos (.inl h1)] at hI
          subst hI
          go_wp2_with fail
          go_quiet (fail)
          go_wp2_with fail
          go_ret
          exact ⟨rfl, (unhide HF).drewN _⟩
        · have d1 : decide (z < 0) = false := decide_eq_false h1
          by_cases h2 : n ≤ z
          · rw [if_pos (.inr h2)] at hI
            subst hI
            go_wp2_with fail
            go_quiet (fail)
            go_wp2_with fail
            go_ret
            exact ⟨rfl, (unhide HF).drewN _⟩
          · rw [if_neg (by omega)] at hI
            have d2 : decide (n ≤ z) = false := decide_eq_false h2
            have HI := hide hI
            clear hI
            go_wp2_with fail
            go_quiet (fail)
            go_wp2_with fail
            exact ⟨⟨k + 1, z + 1, by omega, by go_num, (unhide HF).drewN _, unhide HI, .inr ⟨k, z, rfl, unhide HZ, by omega, rfl⟩⟩, by simp [intOf]; omega⟩
      · have hmz : m < zs.length := by omega
        obtain ⟨g2, o2, e2, hcell2⟩ := hx.cell m hmz
        have hmm : zs[m] = p := by rw [List.getElem?_eq_getElem hmz] at hm; exact Option.some.inj hm
        rw [hmm] at hcell2
        cases e2
        generalize zs[m + 1] = z at *
        have w2 : IntKind.i64.wrap ((m : Int) + 1 - 1) = (m : Int) := by rw [IntKind.wrap_i64]; omega
        have w3 : IntKind.i64.wrap (((m + 1 : Nat) : Int) - 1) = (m : Int) := by rw [IntKind.wrap_i64]; omega
        have k0 : (0 : Int) < ((m + 1 : Nat) : Int) := by omega
        have k1 : (m : Int) < (N : Int) := by omega
        have HF := hide hF
        have HZ := hide hzk
        clear hF hx hzk hm hmm
        by_cases h1 : z < 0
        · rw [if_pos (.inl (by omega))] at hI
          subst hI
          go_wp2_with fail
          go_quiet (fail)
          go_wp2_with fail
          go_ret
          exact ⟨rfl, (unhide HF).drewN _⟩
        · have d1 : decide (z < 0) = false := decide_eq_false h1
          by_cases h2 : n ≤ z
          · rw [if_pos (.inr h2)] at hI
            subst hI
            go_wp2_with fail
            go_quiet (fail)
            go_wp2_with fail
            go_ret
            exact ⟨rfl, (unhide HF).drewN _⟩
          · have d2 : decide (n ≤ z) = false := decide_eq_false h2
            by_cases h3 : z ≤ p
            · rw [if_pos (.inl (by omega))] at hI
              subst hI
              go_wp2_with fail
              go_quiet (fail)
              go_wp2_with fail
              go_ret
              exact ⟨rfl, (unhide HF).drewN _⟩
            · have d3 : decide (z ≤ p) = false := decide_eq_false h3
              rw [if_neg (by omega)] at hI
              have HI := hide hI
              clear hI
              go_wp2_with fail
              go_quiet (fail)
              go_wp2_with fail
              exact ⟨⟨m + 1 + 1, z + 1, by omega, by go_num, (unhide HF).drewN _, unhide HI, .inr ⟨m + 1, z, rfl, unhide HZ, by omega, rfl⟩⟩, by simp [intOf]; omega⟩
    · have hkN : k = N := by omega
      have hlt' : ¬ (k : Int) < (N : Int) := by omega
      rw [List.drop_of_length_le (by omega), rsF] at hI
      subst hI
      have HF := hide hF
      clear hkN hF hK
      go_wp2_with fail
      go_ret
      exact ⟨rfl, unhide HF⟩
end Go.Proofs.YtocdnomfpgdglabDoor

namespace Go.Proofs.YtocdnomfpgdglabDoor
open Go.RowKit

theorem Tryd.infoInt : (Tryd.prog.info? 3).map (fun i => (i.zero, i.size, i.bytes)) = some (some (.int .i64 0), 1, 8) := by kernel_rfl
def IV (zs : List Int) : List Value := zs.map (.int .i64 ·)
theorem IV_len (zs : List Int) : (IV zs).length = zs.length := List.length_map _
theorem IV_app (a b : List Int) : IV (a ++ b) = IV a ++ IV b := List.map_append
theorem own_form3 {w : World} {base n : Nat} {v : Value} {xs : List Value} (h : w.ownsRow base 3 1 v n xs) : ∃ ao cap, v = .slice ao n cap := by
  rcases h.2 with ⟨rfl, rfl⟩ | ⟨g, cap, cur, rfl, _⟩
  · exact ⟨none, 0, rfl⟩
  · exact ⟨some ⟨g, 0, none⟩, cap, rfl⟩
/-- append(v, x...) of whole numbers. -/
theorem run_app_in (w : World) (base n : Nat) (v x : Value) (xs : List Value) (zs : List Int) (hown : w.ownsRow base 3 1 v n xs) (hx : Ints w x zs) (hb : n + zs.length ≤ 1000000000) (hbase : base ≤ w.heap.size) :
    ∃ ao cap w', (Builtin.append_ #[36, 36] 36 #[v, x]).run Tryd.prog w = .ok (.slice ao (n + zs.length) cap) w' ∧ w'.ownsRow base 3 1 (.slice ao (n + zs.length) cap) (n + zs.length) (xs ++ IV zs) ∧ w.grownBy w' v.ownBlock ∧
      ((Value.slice ao (n + zs.length) cap).ownBlock = v.ownBlock ∨ (Value.slice ao (n + zs.length) cap).ownBlock = some w.heap.size) := by
  obtain ⟨i0, hi, hz0, hz1, hz2⟩ := info_parts Tryd.infoInt
  have hone : ∀ u ∈ IV zs, u.oneCell' = true := fun u hu => by
    obtain ⟨z, _, rfl⟩ := List.mem_map.1 hu
    rfl
  rcases hx with ⟨rfl, rfl⟩ | ⟨ad, c, rfl, rfl⟩ | ⟨g, o, c, rfl, hlc, hgl, hc⟩
  · have hr := run_append_owned_none (P := Tryd.prog) w base 36 36 3 i0 1 Tryd.underlying36 hi v n xs hown
    obtain ⟨ao, cap, rfl⟩ := own_form3 hown
    exact ⟨ao, cap, w, by simpa using hr, by simpa [IV] using hown, ⟨rfl, rfl, rfl, Nat.le_refl _, fun _ _ _ => rfl⟩, .inl rfl⟩
  · obtain ⟨v', w', hr, h2, h3, _, h5⟩ := run_append_own_at (P := Tryd.prog) w base 36 36 3 i0 (.int .i64 0) 1 8 Tryd.underlying36 hi hz0 hz1 hz2 rfl (by decide) v n xs hown ad 0 c [] rfl (fun j u hu => by simp at hu) (fun u hu => by simp at hu) (by simp only [maxLen]; simp at hb; omega) (by simp at hb; omega) hbase
    obtain ⟨ao, cap, rfl⟩ := own_form3 h2
    exact ⟨ao, cap, w', hr, h2, h3, h5⟩
  · obtain ⟨v', w', hr, h2, h3, _, h5⟩ := run_append_own_at (P := Tryd.prog) w base 36 36 3 i0 (.int .i64 0) 1 8 Tryd.underlying36 hi hz0 hz1 hz2 rfl (by decide) v n xs hown ⟨g, o, none⟩ zs.length c (IV zs) (by simp [IV]) (fun j u hu => by
        have hj : j < zs.length := by have := (List.getElem?_eq_some_iff.1 hu).1; rw [IV_len] at this; exact this
        rw [add_at2, hc j hj]
        rw [IV, List.getElem?_map, List.getElem?_eq_getElem hj] at hu
        rw [List.getD, List.getElem?_eq_getElem hj]
        exact hu) hone (by simp only [maxLen]; omega) (by omega) hbase
    obtain ⟨ao, cap, rfl⟩ := own_form3 h2
    exact ⟨ao, cap, w', hr, h2, h3, h5⟩
/-- Whole numbers in memory of one's own. -/
structure OI (w wr : World) (v : Value) (zs : List Int) : Prop where
  own : wr.ownsRow w.heap.size 3 1 v zs.length (IV zs)
  fr : Fr (fun _ => False) w wr
theorem OI.nil (w : World) : OI w w (.slice none 0 0) [] := ⟨⟨rfl, .inl ⟨rfl, rfl⟩⟩, Fr.refl _ _⟩
theorem OI.form {w wr : World} {v : Value} {zs : List Int} (h : OI w wr v zs) : ∃ ao cap, v = .slice ao zs.length cap := own_form3 h.own
theorem OI.fr0 {w wr wq : World} {v : Value} {zs : List Int} (h : OI w wr v zs) (hf : Fr (fun _ => False) wr wq) : OI w wq v zs :=
  ⟨ownsRow_of_block h.own (fun g hg => hf.block g (h.own.lt g hg).2 (fun h => h)), h.fr.trans hf (fun _ _ h => h)⟩
theorem OI.ints {w wr : World} {v : Value} {zs : List Int} (h : OI w wr v zs) : Ints wr v zs := by
  rcases h.own.2 with ⟨e, e0⟩ | ⟨g, cap, cur, e, _, _, h3, _⟩
  · exact .inl ⟨e, List.length_eq_zero_iff.1 e0⟩
  · subst e
    refine .inr (.inr ⟨g, 0, cap, rfl, h3, (h.own.lt g rfl).2, fun j hj => ?_⟩)
    rw [Nat.zero_add, h.own.cellAt j (by omega), IV, List.getElem?_map, List.getElem?_eq_getElem hj, List.getD, List.getElem?_eq_getElem hj]
    rfl
/-- Others are appended; what lies in another block stays. -/
theorem OI.app {w wr : World} {v x : Value} {zs ys : List Int} (h : OI w wr v zs) (hx : Ints wr x ys) (hb : zs.length + ys.length ≤ 1000000000) :
    ∃ ao cap w', (Builtin.append_ #[36, 36] 36 #[v, x]).run Tryd.prog wr = .ok (.slice ao (zs.length + ys.length) cap) w' ∧ OI w w' (.slice ao (zs.length + ys.length) cap) (zs ++ ys) ∧ wr.grownBy w' v.ownBlock ∧ ((Value.slice ao (zs.length + ys.length) cap).ownBlock = v.ownBlock ∨ (Value.slice ao (zs.length + ys.length) cap).ownBlock = some wr.heap.size) := by
  obtain ⟨ao, cap, w', hr, ho, hg, hat⟩ := run_app_in wr w.heap.size zs.length v x (IV zs) ys h.own hx hb h.fr.size
  refine ⟨ao, cap, w', hr, ⟨?_, h.fr.grown hg (fun g hg => .inr (h.own.lt g hg).1)⟩, hg, hat⟩
  rw [List.length_append, IV_app]
  exact ho
/-- The places below, the others less k. -/
def pa (k : Int) (zs : List Int) : List Int := zs.filter (fun z => decide (z < k))
def pb (k : Int) (zs : List Int) : List Int := (zs.filter (fun z => !decide (z < k))).map (· - k)
theorem pa_le (k : Int) (zs : List Int) : (pa k zs).length ≤ zs.length := List.length_filter_le _ _
theorem pb_le (k : Int) (zs : List Int) : (pb k zs).length ≤ zs.length := by rw [pb, List.length_map]; exact List.length_filter_le _ _
theorem pa_app (k : Int) (a b : List Int) : pa k (a ++ b) = pa k a ++ pa k b := List.filter_append _ _
theorem pb_app (k : Int) (a b : List Int) : pb k (a ++ b) = pb k a ++ pb k b := by rw [pb, List.filter_append, List.map_append]; rfl
/-- Two own lists; one more behind the first. -/
theorem OI.two {w wr : World} {v u : Value} {zs ys : List Int} (h : OI w wr v zs) (h' : OI w wr u ys) (hap : ∀ g, v.ownBlock = some g → u.ownBlock = some g → False) (z : Int) (hb : zs.length < 16000000) :
    ∃ ao cap w', (Builtin.append_ #[36, 36] 36 #[v, .slice (some ⟨wr.heap.size, 0, none⟩) 1 1]).run Tryd.prog (wr.alloc (.cells #[.int .i64 z] 3)) = .ok (.slice ao (zs.length + 1) cap) w' ∧ OI w w' (.slice ao (zs.length + 1) cap) (zs ++ [z]) ∧ OI w w' u ys ∧ ∀ g, (Value.slice ao (zs.length + 1) cap).ownBlock = some g → u.ownBlock = some g → False := by
  have hF : Fr (fun _ => False) wr (wr.alloc (.cells #[.int .i64 z] 3)) := (Fr.refl _ _).alloc _
  have hx : Ints (wr.alloc (.cells #[.int .i64 z] 3)) (.slice (some ⟨wr.heap.size, 0, none⟩) 1 1) [z] := by
    refine .inr (.inr ⟨wr.heap.size, 0, 1, rfl, Nat.le_refl _, by simp, fun j hj => ?_⟩)
    have hj0 : j = 0 := by simp at hj; exact hj
    subst hj0
    rw [World.cell?_alloc_at _ _ _ _ rfl]
    rfl
  obtain ⟨ao, cap, w', hr, hO, hg, hat⟩ := (h.fr0 hF).app hx (by simp; omega)
  refine ⟨ao, cap, w', hr, hO, ⟨ownsRow_of_block (h'.fr0 hF).own (fun g hgu => ?_), hO.fr⟩, fun g h1 h2 => ?_⟩
  · exact hg.block g ((h'.fr0 hF).own.lt g hgu).2 (fun hv => hap g hv.symm hgu)
  · rcases hat with e | e
    · exact hap g ((show _ = v.ownBlock from e).symm.trans h1) h2
    · have e1 : (Value.slice ao (zs.length + 1) cap).ownBlock = some (wr.alloc (.cells #[.int .i64 z] 3)).heap.size := e
      rw [e1] at h1
      have := (h'.own.lt g h2).2
      simp at h1
      omega
end Go.Proofs.YtocdnomfpgdglabDoor

namespace Go.Proofs.YtocdnomfpgdglabDoor
open Go.RowKit

set_option maxRecDepth 100000 in
set_option maxHeartbeats 2000000 in
/-- The document's Parted. -/
theorem parted_any (x : Value) (zs : List Int) (K : Int) (w : World) (hx : Ints w x zs) (hl : zs.length ≤ 8000000) (hK : 0 ≤ K ∧ K < 9223372036854775808) (hb : ∀ z ∈ zs, 0 ≤ z ∧ z < 9223372036854775808) :
    Calls Tryd.prog 119 #[x, .int .i64 K] w fun e w' => ∃ a b, e = .returned (.tuple #[a, b]) ∧ Ints w' a (pa K zs) ∧ Ints w' b (pb K zs) ∧ Fr (fun _ => False) w w' := by
  obtain ⟨xo, xc, rfl⟩ := hx.form
  have HG := hide (And.intro hx (And.intro hl (And.intro hb hK)))
  clear hx hl hb hK
  generalize hN : zs.length = N at *
  go_enter Tryd.func119, Tryd.ntmps119
  go_wp2_with fail
  go_loopw [6, 7, 8] (fun av bv iv wr => ∃ k : Nat, k ≤ N ∧ iv = .int .i64 (k : Nat) ∧ OI w wr av (pa K (zs.take k)) ∧ OI w wr bv (pb K (zs.take k)) ∧ ∀ g, av.ownBlock = some g → bv.ownBlock = some g → False) (fun _ _ iv _ => N - (intOf iv).toNat)
  case atStart => exact ⟨0, Nat.zero_le _, rfl, OI.nil w, OI.nil w, fun g h => by cases h⟩
  case round =>
    rename_i av' bv'
    obtain ⟨k, hk, rfl, hA, hB, hap⟩ := hrel
    have hN8 := (unhide HG).2.1
    obtain ⟨hK0, hK1⟩ := (unhide HG).2.2.2
    have hla := pa_le K (zs.take k)
    have hlb := pb_le K (zs.take k)
    have htl : (zs.take k).length = k := by rw [List.length_take]; omega
    by_cases hlt : k < N
    · have hlt' : (k : Int) < (N : Int) := by omega
      have hkz : k < zs.length := by omega
      obtain ⟨g, o, rfl, hcell⟩ := ((unhide HG).1.fr0 hA.fr).cell k hkz
      obtain ⟨hz0, hz1⟩ := (unhide HG).2.2.1 zs[k] (List.getElem_mem hkz)
      have htk : zs.take (k + 1) = zs.take k ++ [zs[k]] := by rw [List.take_add_one, List.getElem?_eq_getElem hkz]; rfl
      have w1 : IntKind.i64.wrap ((k : Int) + 1) = (k : Int) + 1 := by rw [IntKind.wrap_i64]; omega
      generalize zs[k] = z at *
      have hgl := lt_of_cell hcell
      by_cases h1 : z < K
      · have e1 : pa K (zs.take (k + 1)) = pa K (zs.take k) ++ [z] := by rw [htk, pa_app]; simp [pa, h1]
        have e2 : pb K (zs.take (k + 1)) = pb K (zs.take k) := by rw [htk, pb_app]; simp [pb, h1]
        obtain ⟨ao, cp, w', hr, hA2, hB2, hap2⟩ := hA.two hB hap z (by omega)
        rw [← e1] at hA2
        rw [← e2] at hB2
        obtain ⟨a0, ac, rfl⟩ := hA.form
        obtain ⟨b0, bc, rfl⟩ := hB.form
        have HR := hide hr
        have HA := hide (And.intro hA2 (And.intro hB2 hap2))
        clear hr hA2 hB2 hap2 hA hB hap htk e1 e2 hla hlb htl
        generalize (pa K (zs.take k)).length = PA at *
        generalize (pb K (zs.take k)).length = PB at *
        go_wp2_with (at_builtin; refine wpList_app rfl (.tmp 21) (.tmp 26) 36 36 rfl _ _ _ rfl rfl (unhide HR) ?_)
        exact ⟨⟨k + 1, by omega, by go_num, (unhide HA).1, (unhide HA).2.1, (unhide HA).2.2⟩, by simp [intOf]; omega⟩
      · have w2 : IntKind.i64.wrap (z - K) = z - K := by rw [IntKind.wrap_i64]; omega
        have e1 : pb K (zs.take (k + 1)) = pb K (zs.take k) ++ [z - K] := by rw [htk, pb_app]; simp [pb, h1]
        have e2 : pa K (zs.take (k + 1)) = pa K (zs.take k) := by rw [htk, pa_app]; simp [pa, h1]
        obtain ⟨ao, cp, w', hr, hB2, hA2, hap2⟩ := hB.two hA (fun g h1 h2 => hap g h2 h1) (z - K) (by omega)
        rw [← e1] at hB2
        rw [← e2] at hA2
        obtain ⟨a0, ac, rfl⟩ := hA.form
        obtain ⟨b0, bc, rfl⟩ := hB.form
        have HR := hide hr
        have HA := hide (And.intro hA2 (And.intro hB2 hap2))
        clear hr hA2 hB2 hap2 hA hB hap htk e1 e2 hla hlb htl
        generalize (pa K (zs.take k)).length = PA at *
        generalize (pb K (zs.take k)).length = PB at *
        go_wp2_with (at_builtin; refine wpList_app rfl (.tmp 28) (.tmp 35) 36 36 rfl _ _ _ rfl rfl (unhide HR) ?_)
        exact ⟨⟨k + 1, by omega, by go_num, (unhide HA).1, (unhide HA).2.1, fun g h1 h2 => (unhide HA).2.2 g h2 h1⟩, by simp [intOf]; omega⟩
    · have hkN : k = N := by omega
      have hlt' : ¬ (k : Int) < (N : Int) := by omega
      rw [List.take_of_length_le (by omega)] at hA hB
      have HA := hide (And.intro hA.ints (And.intro hB.ints hA.fr))
      obtain ⟨a0, ac, rfl⟩ := hA.form
      obtain ⟨b0, bc, rfl⟩ := hB.form
      clear hkN hA hB hap hla hlb htl
      generalize (pa K zs).length = PA at *
      generalize (pb K zs).length = PB at *
      go_wp2_with fail
      go_returns
      exact ⟨_, _, rfl, (unhide HA).1, (unhide HA).2.1, (unhide HA).2.2⟩
end Go.Proofs.YtocdnomfpgdglabDoor

namespace Go.Proofs.YtocdnomfpgdglabDoor
open Go.RowKit

/-- The block of a slice. -/
def Bk (v : Value) (P : Nat → Prop) : Prop := ∀ g o n c, v = .slice (some ⟨g, o, none⟩) n c → P g
def OfQ (N0 : Nat) (i : Int) (ps : List (List Nat)) (x : Value) (w : World) : Prop :=
  Calls Tryd.prog 41 #[.int .i64 i, x] w fun e w' => ∃ yo yc, e = .returned (.slice yo (mth i ps).length yc) ∧ Sl w' (.slice yo (mth i ps).length yc) (mth i ps) ∧ Fr (fun _ => False) w w' ∧ Bk (.slice yo (mth i ps).length yc) (fun g => g < N0 ∨ w.heap.size ≤ g)
set_option maxRecDepth 100000 in
theorem ofQ_nil (N0 : Nat) (i : Int) (x : Value) (vs : List Value) (w : World) (hr : GR w) (hp : Pcs w x vs []) : OfQ N0 i [] x w := by
  unfold OfQ
  obtain ⟨xo, xc, rfl⟩ := hp.form
  obtain ⟨R, hR⟩ : ∃ R, mth i [] = R := ⟨_, rfl⟩
  have hsum : ∀ w, GR w → Calls Tryd.prog 13 #[.int .i64 i, .slice none 0 0] w fun e w' => ∃ zo zc, e = .returned (.slice zo R.length zc) ∧ OB w w' zo zc R := fun w h => by
    rw [← hR, mth_nil]
    exact gsum_T i _ [] w h (.inl ⟨rfl, rfl⟩) (fun _ h => by cases h) (by simp)
  have hb : ∀ v ∈ R, v < 256 := by rw [← hR, mth_nil]; exact sm_lt i _
  rw [hR]
  have HG := hide (And.intro hsum (And.intro hr hb))
  clear hsum hr hb hR hp
  simp only [List.length_nil]
  go_enter Tryd.func41, Tryd.ntmps41
  go_wp2_with fail
  refine ((unhide HG).1 w (unhide HG).2.1).mono ?_
  rintro e w1 ⟨zo, zc, rfl, hO⟩
  have hbk : Bk (.slice zo R.length zc) (fun g => g < N0 ∨ w.heap.size ≤ g) := fun g o n c e => by
    simp only [Value.slice.injEq] at e
    obtain ⟨rfl, _⟩ := e
    exact .inr (World.ownsRow.lt hO.own g rfl).1
  have H1 := hide (And.intro (hO.sl (unhide HG).2.2) (And.intro hO.fr hbk))
  clear hbk
  clear hO
  go_wp2_with fail
  go_ret
  exact ⟨zo, zc, rfl, (unhide H1).1, (unhide H1).2.1, (unhide H1).2.2⟩
set_option maxRecDepth 100000 in
theorem ofQ_one (N0 : Nat) (i : Int) (p : List Nat) (x : Value) (vs : List Value) (w : World) (hp : Pcs w x vs [p]) (hq : ∀ u ∈ vs, Bk u (fun g => g < N0)) : OfQ N0 i [p] x w := by
  unfold OfQ
  obtain ⟨xo, xc, rfl⟩ := hp.form
  obtain ⟨g, o, v, rfl, hcell, _⟩ := hp.cell (Fr.refl _ _) 0 (by simp)
  have hvl : 0 < vs.length := by rw [hp.len]; simp
  have hsl : Sl w v p ∧ v ∈ vs := by
    have h0 := hp.at_
    rcases h0 with ⟨e, rfl⟩ | ⟨a, c, e, rfl⟩ | ⟨g', o', c, e, _, hc⟩
    · simp at hvl
    · simp at hvl
    · simp only [Value.slice.injEq, Option.some.injEq, Addr.mk.injEq, and_true] at e
      obtain ⟨⟨rfl, rfl⟩, _⟩ := e
      have h1 := hc 0 _ (List.getElem?_eq_getElem hvl)
      rw [h1] at hcell
      have h2 := Option.some.inj hcell
      exact ⟨hp.sl 0 v p (by rw [List.getElem?_eq_getElem hvl, h2]) rfl, by rw [← h2]; exact List.getElem_mem hvl⟩
  rw [mth_one]
  have hbq := hq v hsl.2
  replace hsl := hsl.1
  obtain ⟨vo, vc, rfl⟩ := hsl.form
  rw [Nat.add_zero] at hcell
  have H := hide (And.intro hsl hbq)
  clear hsl hp hvl hbq hq
  simp only [List.length_singleton]
  generalize p.length = P at *
  go_enter Tryd.func41, Tryd.ntmps41
  go_wp2_with fail
  go_ret
  exact ⟨vo, vc, rfl, (unhide H).1, Fr.refl _ _, fun g o n c e => .inl ((unhide H).2 g o n c e)⟩
set_option maxRecDepth 100000 in
set_option maxHeartbeats 1000000 in
theorem ofQ_any (N0 : Nat) (i : Int) (ps : List (List Nat)) (x : Value) (vs : List Value) (w : World) (hl8 : ps.length ≤ 8000000) (hr : GR w) (hp : Pcs w x vs ps) (hcx : Cp x) (hB : ∀ p ∈ ps, p.length ≤ 4000000) (hq : ∀ u ∈ vs, Bk u (fun g => g < N0)) : OfQ N0 i ps x w := by
  by_cases h2 : ps.length < 2
  · match ps, h2 with
    | [], _ => exact ofQ_nil N0 i x vs w hr hp
    | [p], _ => exact ofQ_one N0 i p x vs w hp hq
  · clear hq
    obtain ⟨xo, xc, rfl⟩ := hp.form
    obtain ⟨g, o, v, rfl, -⟩ := hp.cell (Fr.refl _ _) 0 (by omega)
    have hk1 := hf_lt ps.length (by omega)
    have hk2 := hf_pos ps.length
    have hle : vs.length = ps.length := hp.len
    have hcapx : ps.length ≤ xc := hcx _ _ _ rfl
    have cp1 : Cp (.slice (some ⟨g, o, none⟩) (hf ps.length) xc) := fun _ _ _ e => by cases e; omega
    have cp2 : Cp (.slice (some ⟨g, o + hf ps.length, none⟩) (ps.length - hf ps.length) (xc - hf ps.length)) := fun _ _ _ e => by cases e; omega
    have hmt := mth_two i ps (by omega)
    have hP1 := hp.take (hf ps.length) (by omega)
    have hP2 := hp.drop (hf ps.length) hk1
    have hB1 : ∀ p ∈ ps.take (hf ps.length), p.length ≤ 4000000 := fun p h => hB p (List.mem_of_mem_take h)
    have hB2 : ∀ p ∈ ps.drop (hf ps.length), p.length ≤ 4000000 := fun p h => hB p (List.mem_of_mem_drop h)
    have hl1 : (ps.take (hf ps.length)).length = hf ps.length := by rw [List.length_take]; omega
    have hl2 : (ps.drop (hf ps.length)).length = ps.length - hf ps.length := by rw [List.length_drop]
    have c1 : ∀ w', Fr (fun _ => False) w w' → OfSays i (ps.take (hf ps.length)) (.slice (some ⟨g, o, none⟩) (hf ps.length) xc) w' := fun w' hfr => of_any i _ _ _ _ w' (Nat.le_refl _) (by omega) (hr.fr0 hfr) (hP1.fr0 hfr) cp1 hB1
    have c2 : ∀ w', Fr (fun _ => False) w w' → OfSays i (ps.drop (hf ps.length)) (.slice (some ⟨g, o + hf ps.length, none⟩) (ps.length - hf ps.length) (xc - hf ps.length)) w' := fun w' hfr => of_any i _ _ _ _ w' (Nat.le_refl _) (by omega) (hr.fr0 hfr) (hP2.fr0 hfr) cp2 hB2
    have m1 := mth_lt i _ (ps.take (hf ps.length)) (Nat.le_refl _) hP1.byt
    have m2 := mth_lt i _ (ps.drop (hf ps.length)) (Nat.le_refl _) hP2.byt
    have n1 := mth_len i 4000000 (by decide) _ hB1
    have n2 := mth_len i 4000000 (by decide) _ hB2
    have hha := half_any ps.length w (by omega) (by omega)
    unfold OfSays at c1 c2
    unfold OfQ
    rw [hmt]
    generalize mth i (ps.take (hf ps.length)) = M1 at *
    generalize mth i (ps.drop (hf ps.length)) = M2 at *
    obtain ⟨R, hR⟩ : ∃ R, nd i M1 M2 = R := ⟨_, rfl⟩
    rw [hR]
    have hbR : ∀ v ∈ R, v < 256 := by rw [← hR]; exact nd_lt i _ _
    have hnode : ∀ x y w', GR w' → Src w' x M1 → Src w' y M2 → Calls Tryd.prog 83 #[.int .i64 i, x, y] w' fun e w'' => ∃ yo yc, e = .returned (.slice yo R.length yc) ∧ OB w' w'' yo yc R := fun x y w' h1 h3 h4 => by
      rw [← hR]; exact gnode_any i x y M1 M2 w' h1 h3 h4 m1 m2 n1 n2
    have HG := hide (And.intro hr (And.intro hP1 (And.intro hP2 (And.intro c1 (And.intro c2 (And.intro hnode (And.intro hbR hha)))))))
    clear hr hP1 hP2 c1 c2 hnode hbR hha m1 m2 n1 n2 hmt hR hB hB1 hB2 hp hl1 hl2 cp1 cp2 hcx
    generalize hf ps.length = K at *
    have q1 : (K : Int) ≤ (ps.length : Int) := by omega
    have q2 : (K : Int) ≤ (xc : Int) := by omega
    have q3 : ((ps.length : Int) == 0) = false := beq_false_of_ne (by omega)
    have q4 : ((ps.length : Int) == 1) = false := beq_false_of_ne (by omega)
    generalize ps.length = N at *
    go_enter Tryd.func41, Tryd.ntmps41
    go_wp2_with fail
    refine (unhide HG).2.2.2.2.2.2.2.mono ?_
    rintro e w0 ⟨rfl, rfl⟩
    go_wp2_with fail
    have T1 : True := trivial
    have q5 : ¬ xc = K := by omega
    have q6 : ¬ K = xc := by omega
    go_region_held3 (fun _ => True) (trivial) (first
      | (go_at_call 41; clear T1; refine ((unhide HG).2.2.2.1 _ ((Fr.refl _ _).drew)).mono ?_; rintro e wA ⟨yA, cA, rfl, sA, fA⟩)
      | (go_at_call 41; refine ((unhide HG).2.2.2.2.1 _ (((Fr.refl _ _).drew).trans fA (fun _ _ h => h))).mono ?_; rintro e wB ⟨yB, cB, rfl, sB, fB⟩)
      | (go_at_call 83; refine ((unhide HG).2.2.2.2.2.1 _ _ wB (((unhide HG).1.fr0 (((Fr.refl _ _).drew).trans fA (fun _ _ h => h))).fr0 fB) (sA.s.fr0 fB) sB.s).mono ?_; rintro e wC ⟨zo, zc, rfl, oC⟩))
    have hFC : Fr (fun _ => False) w0 wC := ((((Fr.refl (fun _ => False) w0).drew).trans fA (fun _ _ h => h)).trans fB (fun _ _ h => h)).trans oC.fr (fun _ _ h => h)
    have hbk : Bk (.slice zo R.length zc) (fun g => g < N0 ∨ w0.heap.size ≤ g) := fun g o n c e => by
      simp only [Value.slice.injEq] at e
      obtain ⟨rfl, _⟩ := e
      have h1 := (World.ownsRow.lt oC.own g rfl).1
      have h2 : w0.heap.size ≤ wB.heap.size := ((((Fr.refl (fun _ => False) w0).drew).trans fA (fun _ _ h => h)).trans fB (fun _ _ h => h)).size
      exact .inr (by omega)
    have HE := hide (And.intro (oC.sl (unhide HG).2.2.2.2.2.2.1) (And.intro hFC hbk))
    clear hFC hbk
    go_wp2_with fail
    go_ret
    exact ⟨zo, zc, rfl, (unhide HE).1, (unhide HE).2.1, (unhide HE).2.2⟩
end Go.Proofs.YtocdnomfpgdglabDoor

namespace Go.Proofs.YtocdnomfpgdglabDoor
open Go.RowKit

theorem OS.base {w wA wr : World} {xo : Option Addr} {cp : Nat} {vs : List Value} (h : OS wA wr xo cp vs) (hf : Fr (fun _ => False) w wA) : OS w wr xo cp vs := by
  refine ⟨⟨h.own.1, ?_⟩, hf.trans h.fr (fun _ _ h => h)⟩
  rcases h.own.2 with h0 | ⟨g, cap, cur, e1, e2, e3⟩
  · exact .inl h0
  · exact .inr ⟨g, cap, cur, e1, Nat.le_trans hf.size e2, e3⟩
theorem LV.base {w wA wr : World} {ao : Option Addr} {cp : Nat} {us : List Value} {ls : List (List Nat)} (h : LV wA wr ao cp us ls) (hf : Fr (fun _ => False) w wA) : LV w wr ao cp us ls := ⟨h.own.base hf, h.len, h.sl⟩
theorem LV.fr0 {w wr wq : World} {ao : Option Addr} {cp : Nat} {us : List Value} {ls : List (List Nat)} (h : LV w wr ao cp us ls) (hf : Fr (fun _ => False) wr wq) : LV w wq ao cp us ls :=
  ⟨h.own.fr0 hf, h.len, fun j u l hu hl => ⟨(h.sl j u l hu hl).1.fr0 hf, (h.sl j u l hu hl).2.imp id (fun hh g o n c e => ⟨Nat.lt_of_lt_of_le (hh g o n c e).1 hf.size, (hh g o n c e).2⟩)⟩⟩
theorem LV.lit {w w1 : World} (hF0 : Fr (fun _ => False) w w1) {yo : Option Addr} {yc : Nat} {l : List Nat} (hs : Sl w1 (.slice yo l.length yc) l) (W : World) (hW : w1.alloc (.cells #[.slice yo l.length yc] 23) = W) : LV w W (some ⟨w1.heap.size, 0, none⟩) 1 [.slice yo l.length yc] [l] := by
  have hF : Fr (fun _ => False) w1 W := by rw [← hW]; exact (Fr.refl _ _).alloc _
  refine ⟨⟨?_, hF0.trans hF (fun _ _ h => h)⟩, rfl, fun j v p hv hp => ?_⟩
  · have := World.ownsRow_lit (e := 23) (size := 1) w1 #[.slice yo l.length yc] 1 (Nat.le_refl _) (by simp only [maxLen]; omega) rfl
    rw [hW] at this
    refine ⟨this.1, ?_⟩
    rcases this.2 with h0 | ⟨g, cap, cur, e1, e2, e3⟩
    · exact .inl h0
    · exact .inr ⟨g, cap, cur, e1, Nat.le_trans hF0.size e2, e3⟩
  · match j with
    | 0 =>
      simp at hv hp
      subst hv hp
      refine ⟨hs.fr0 hF, hs.lt.imp id (fun hh g o n c e => ⟨Nat.lt_of_lt_of_le (hh g o n c e) hF.size, fun g' hg' e2 => ?_⟩)⟩
      have h1 := hh g o n c e
      simp only [Value.ownBlock, Option.some.injEq] at hg'
      omega
    | j + 1 => simp at hv
/-- One more hash, that lay there. -/
theorem LV.stepS {w wr : World} {ao : Option Addr} {cp : Nat} {us : List Value} {ls : List (List Nat)} (h : LV w wr ao cp us ls) (l : List Nat) (yo : Option Addr) (yc : Nat) (hs : Sl wr (.slice yo l.length yc) l) (hq : l = [] ∨ Bk (.slice yo l.length yc) (fun g => ∀ g', (Value.slice ao us.length cp).ownBlock = some g' → ¬ g = g')) (hn : us.length < 16000000) :
    ∃ ao' cp' w2, (Builtin.append_ #[22, 22] 22 #[.slice ao us.length cp, .slice (some ⟨wr.heap.size, 0, none⟩) 1 1]).run Tryd.prog (wr.alloc (.cells #[.slice yo l.length yc] 23)) = .ok (.slice ao' (us.length + 1) cp') w2 ∧ LV w w2 ao' cp' (us ++ [.slice yo l.length yc]) (ls ++ [l]) ∧ Fr (fun k => (Value.slice ao us.length cp).ownBlock = some k) wr w2 ∧ ∀ g', (Value.slice ao' (us.length + 1) cp').ownBlock = some g' → (Value.slice ao us.length cp).ownBlock = some g' ∨ wr.heap.size ≤ g' := by
  obtain ⟨ao', cp', w2, hr, hOS, hgrow, hat⟩ := h.own.app1 yo l.length yc hn
  have hF : Fr (fun k => (Value.slice ao us.length cp).ownBlock = some k) wr w2 := ((Fr.refl _ _).alloc _).grown hgrow (fun g hg => .inl hg)
  have hsz2 : wr.heap.size ≤ w2.heap.size := hF.size
  have hnew0 : ∀ g', (Value.slice ao' (us.length + 1) cp').ownBlock = some g' → (Value.slice ao us.length cp).ownBlock = some g' ∨ wr.heap.size < g' := fun g' hg => by
    rcases hat with h1 | h1
    · rw [h1] at hg; exact .inl hg
    · rw [h1] at hg
      simp only [Option.some.injEq] at hg
      simp at hg
      exact .inr (by omega)
  have hnew : ∀ g', (Value.slice ao' (us ++ [Value.slice yo l.length yc]).length cp').ownBlock = some g' → (Value.slice ao us.length cp).ownBlock = some g' ∨ wr.heap.size < g' := fun g' hg => hnew0 g' (by rw [List.length_append] at hg; exact hg)
  refine ⟨ao', cp', w2, hr, ⟨hOS, by rw [List.length_append, List.length_append, h.len]; rfl, fun j u p hu hp => ?_⟩, hF, fun g' hg => (hnew0 g' hg).imp id Nat.le_of_lt⟩
  by_cases hj : j < us.length
  · rw [List.getElem?_append_left hj] at hu
    rw [List.getElem?_append_left (by rw [← h.len]; exact hj)] at hp
    obtain ⟨h1, h2⟩ := h.sl j u p hu hp
    refine ⟨h1.frD hF (h2.imp id (fun hh g o n c e hg => (hh g o n c e).2 g hg rfl)), h2.imp id (fun hh g o n c e => ⟨by have := (hh g o n c e).1; omega, fun g' hg' e2 => ?_⟩)⟩
    rcases hnew g' hg' with h3 | h3
    · exact (hh g o n c e).2 g' h3 e2
    · have := (hh g o n c e).1; omega
  · have hje : j = us.length := by
      have := (List.getElem?_eq_some_iff.1 hu).1
      rw [List.length_append, List.length_singleton] at this
      omega
    subst hje
    rw [List.getElem?_append_right (Nat.le_refl _), Nat.sub_self] at hu
    rw [List.getElem?_append_right (by rw [h.len]; exact Nat.le_refl _), h.len, Nat.sub_self] at hp
    simp only [List.getElem?_cons_zero, Option.some.injEq] at hu hp
    subst hu hp
    refine ⟨hs.frD hF (hq.imp id (fun hq g o n c e hg => hq g o n c e g hg rfl)), ?_⟩
    rcases hq with hq | hq
    · exact .inl hq
    · refine hs.lt.imp id (fun hh g o n c e => ⟨Nat.lt_of_lt_of_le (hh g o n c e) hsz2, fun g' hg' e2 => ?_⟩)
      rcases hnew g' hg' with h3 | h3
      · exact hq g o n c e g' h3 e2
      · have := hh g o n c e; omega
/-- A hash of a list, while another list grew. -/
theorem LV.nthD {wA wB wr : World} {bo : Option Addr} {bc : Nat} {us : List Value} {ls : List (List Nat)} {S : Nat → Prop} (h : LV wA wB bo bc us ls) (hF : Fr S wB wr) (hS : ∀ g, S g → g < wA.heap.size) (hSe : ∀ u ∈ us, Bk u (fun g => ¬ S g)) (k : Nat) (hk : k < ls.length) :
    ∃ g yo yc, bo = some ⟨g, 0, none⟩ ∧ wr.cell? ⟨g, k, none⟩ = some (.slice yo ls[k].length yc) ∧ .slice yo ls[k].length yc ∈ us ∧ Sl wr (.slice yo ls[k].length yc) ls[k] ∧ (ls[k] = [] ∨ Bk (.slice yo ls[k].length yc) (fun g => g < wB.heap.size)) := by
  have hku : k < us.length := by rw [h.len]; exact hk
  have hsl := (h.sl k us[k] ls[k] (List.getElem?_eq_getElem hku) (List.getElem?_eq_getElem hk)).1
  obtain ⟨yo, yc, e⟩ := hsl.form
  have hlt := hsl.lt
  have hmem : us[k] ∈ us := List.getElem_mem hku
  have hsl2 := hsl.frD hF (.inr (fun g o m c e' => hSe us[k] hmem g o m c e'))
  rcases h.own.own.2 with ⟨_, e0⟩ | ⟨g, cap, cur, eo, _⟩
  · omega
  · simp only [Value.slice.injEq] at eo
    obtain ⟨rfl, -, rfl⟩ := eo
    obtain ⟨hb, hl⟩ := h.own.own.lt g rfl
    have hc := h.own.own.cellAt k (by omega)
    rw [List.getElem?_eq_getElem hku, e] at hc
    rw [e] at hmem hsl2 hlt
    exact ⟨g, yo, yc, rfl, (hF.cell (p := ⟨g, k, none⟩) hl (fun hs => by have := hS g hs; omega)).trans hc, hmem, hsl2, hlt⟩
/-- The hashes for places, as the document gathers them. -/
def mnyG (i : Int) (ps : List (List Nat)) (zs : List Int) : List (List Nat) :=
  if zs = [] then [mth i ps]
  else if _h : ps.length < 2 then []
  else mnyG i (ps.take (hf ps.length)) (pa ((hf ps.length : Nat) : Int) zs) ++ mnyG i (ps.drop (hf ps.length)) (pb ((hf ps.length : Nat) : Int) zs)
termination_by ps.length
decreasing_by
  · rw [List.length_take]; have := hf_lt ps.length (by omega); omega
  · rw [List.length_drop]; have := hf_pos ps.length; omega
theorem mnyG_nil (i : Int) (ps : List (List Nat)) : mnyG i ps [] = [mth i ps] := by rw [mnyG, if_pos rfl]
theorem mnyG_one {i : Int} {ps : List (List Nat)} {zs : List Int} (hz : zs ≠ []) (h : ps.length < 2) : mnyG i ps zs = [] := by rw [mnyG, if_neg hz, dif_pos h]
theorem mnyG_two {i : Int} {ps : List (List Nat)} {zs : List Int} (hz : zs ≠ []) (h : 2 ≤ ps.length) : mnyG i ps zs = mnyG i (ps.take (hf ps.length)) (pa ((hf ps.length : Nat) : Int) zs) ++ mnyG i (ps.drop (hf ps.length)) (pb ((hf ps.length : Nat) : Int) zs) := by
  conv => lhs; rw [mnyG, if_neg hz, dif_neg (by omega)]
theorem mnyG_lt (i : Int) (k : Nat) : ∀ (ps : List (List Nat)) (zs : List Int), ps.length ≤ k → 1 ≤ ps.length → (mnyG i ps zs).length ≤ ps.length := by
  induction k with
  | zero => intro ps zs h h1; omega
  | succ k ih =>
    intro ps zs h h1
    by_cases hz : zs = []
    · rw [hz, mnyG_nil]; simpa using h1
    · by_cases h2 : ps.length < 2
      · rw [mnyG_one hz h2]; simp
      · have h3 := hf_lt ps.length (by omega)
        have h4 := hf_pos ps.length
        have l1 : (ps.take (hf ps.length)).length = hf ps.length := by rw [List.length_take]; omega
        have l2 : (ps.drop (hf ps.length)).length = ps.length - hf ps.length := by rw [List.length_drop]
        rw [mnyG_two hz (by omega), List.length_append]
        have i1 := ih (ps.take (hf ps.length)) (pa ((hf ps.length : Nat) : Int) zs) (by omega) (by omega)
        have i2 := ih (ps.drop (hf ps.length)) (pb ((hf ps.length : Nat) : Int) zs) (by omega) (by omega)
        omega
theorem mnyG_le (i : Int) (ps : List (List Nat)) (zs : List Int) : (mnyG i ps zs).length ≤ ps.length + 1 := by
  by_cases h : 1 ≤ ps.length
  · have := mnyG_lt i _ ps zs (Nat.le_refl _) h; omega
  · by_cases hz : zs = []
    · rw [hz, mnyG_nil]; simp
    · rw [mnyG_one hz (by omega)]; simp
end Go.Proofs.YtocdnomfpgdglabDoor

namespace Go.Proofs.YtocdnomfpgdglabDoor
open Go.RowKit

def ManyQ (N0 : Nat) (wi : Int) (ps : List (List Nat)) (zs : List Int) (x y : Value) (w : World) : Prop :=
  Calls Tryd.prog 107 #[.int .i64 wi, x, y] w fun e w' => ∃ ao cp us, e = .returned (.slice ao us.length cp) ∧ LV w w' ao cp us (mnyG wi ps zs) ∧ ∀ u ∈ us, Bk u (fun g => g < N0 ∨ w.heap.size ≤ g)
set_option maxRecDepth 100000 in
set_option maxHeartbeats 1000000 in
theorem manyQ_nil (N0 : Nat) (wi : Int) (ps : List (List Nat)) (x y : Value) (vs : List Value) (w : World) (hl8 : ps.length ≤ 8000000) (hr : GR w) (hp : Pcs w x vs ps) (hcx : Cp x) (hB : ∀ p ∈ ps, p.length ≤ 4000000) (hq : ∀ u ∈ vs, Bk u (fun g => g < N0)) (hy : Ints w y []) : ManyQ N0 wi ps [] x y w := by
  have hof := ofQ_any N0 wi ps x vs w hl8 hr hp hcx hB hq
  unfold ManyQ
  unfold OfQ at hof
  rw [mnyG_nil]
  obtain ⟨xo, xc, rfl⟩ := hp.form
  obtain ⟨yo, yc, rfl⟩ := hy.form
  generalize mth wi ps = M at *
  have HG := hide hof
  clear hof hr hp hB hq hy hcx hl8
  generalize ps.length = N at *
  simp only [List.length_nil]
  go_enter Tryd.func107, Tryd.ntmps107
  go_wp2_with fail
  refine (unhide HG).mono ?_
  rintro e w1 ⟨zo, zc, rfl, hS, hF, hK⟩
  obtain ⟨W, hW⟩ : ∃ W, w1.alloc (.cells #[.slice zo M.length zc] 23) = W := ⟨_, rfl⟩
  have H1 := hide (And.intro (LV.lit hF hS W hW) (And.intro hK hW))
  clear hS hF hK hW
  go_wp2_with fail
  go_ret
  have hW := (unhide H1).2.2
  rw [hW]
  exact ⟨_, _, _, rfl, (unhide H1).1, fun u hu => by simp at hu; subst hu; exact (unhide H1).2.1⟩
set_option maxRecDepth 100000 in
set_option maxHeartbeats 1000000 in
theorem manyQ_one (N0 : Nat) (wi : Int) (ps : List (List Nat)) (zs : List Int) (x y : Value) (vs : List Value) (w : World) (hp : Pcs w x vs ps) (hy : Ints w y zs) (hz : zs ≠ []) (h1 : ps.length = 1) : ManyQ N0 wi ps zs x y w := by
  unfold ManyQ
  rw [mnyG_one hz (by omega)]
  obtain ⟨xo, xc, rfl⟩ := hp.form
  obtain ⟨yo, yc, rfl⟩ := hy.form
  have h0 : 0 < zs.length := List.length_pos_iff.2 hz
  have q0 : ((zs.length : Int) == 0) = false := beq_false_of_ne (by omega)
  have q1 : ¬ zs.length = 0 := by omega
  have q2 : ¬ zs = [] := hz
  clear hp hy
  rw [h1]
  clear h1
  generalize zs.length = Z at *
  go_enter Tryd.func107, Tryd.ntmps107
  go_wp2_with fail
  go_ret
  exact ⟨none, 0, [], rfl, LV.nil _, fun u hu => by cases hu⟩
set_option maxRecDepth 100000 in
set_option maxHeartbeats 4000000 in
/-- The document's ManyOf. -/
theorem manyQ_any (N0 : Nat) (wi : Int) (n : Nat) : ∀ (ps : List (List Nat)) (zs : List Int) (x y : Value) (vs : List Value) (w : World), ps.length ≤ n → ps.length ≤ 8000000 - 1 → GR w → Pcs w x vs ps → Cp x → (∀ p ∈ ps, p.length ≤ 4000000) → Ints w y zs → zs.length ≤ 8000000 → (∀ z ∈ zs, 0 ≤ z ∧ z ≤ 16000000) → (zs ≠ [] → 1 ≤ ps.length) → N0 ≤ w.heap.size → (∀ u ∈ vs, Bk u (fun g => g < N0)) → ManyQ N0 wi ps zs x y w := by
  induction n with
  | zero =>
    intro ps zs x y vs w hl hl8 hr hp hcx hB hy hzl hzb hz1 hN0 hq
    have e : zs = [] := Classical.byContradiction fun h => by have := hz1 h; omega
    subst e
    exact manyQ_nil N0 wi ps x y vs w (by omega) hr hp hcx hB hq hy
  | succ n ih =>
    intro ps zs x y vs w hl hl8 hr hp hcx hB hy hzl hzb hz1 hN0 hq
    by_cases hz : zs = []
    · subst hz
      exact manyQ_nil N0 wi ps x y vs w (by omega) hr hp hcx hB hq hy
    · have hp1 := hz1 hz
      by_cases h1 : ps.length = 1
      · exact manyQ_one N0 wi ps zs x y vs w hp hy hz h1
      · obtain ⟨xo, xc, rfl⟩ := hp.form
        obtain ⟨yo, yc, rfl⟩ := hy.form
        obtain ⟨g, o, v, rfl, -⟩ := hp.cell (Fr.refl _ _) 0 (by omega)
        have hk1 := hf_lt ps.length (by omega)
        have hk2 := hf_pos ps.length
        have hle : vs.length = ps.length := hp.len
        have hcapx : ps.length ≤ xc := hcx _ _ _ rfl
        have cp1 : Cp (.slice (some ⟨g, o, none⟩) (hf ps.length) xc) := fun _ _ _ e => by cases e; omega
        have cp2 : Cp (.slice (some ⟨g, o + hf ps.length, none⟩) (ps.length - hf ps.length) (xc - hf ps.length)) := fun _ _ _ e => by cases e; omega
        have hP1 := hp.take (hf ps.length) (by omega)
        have hP2 := hp.drop (hf ps.length) hk1
        have hB1 : ∀ p ∈ ps.take (hf ps.length), p.length ≤ 4000000 := fun p h => hB p (List.mem_of_mem_take h)
        have hB2 : ∀ p ∈ ps.drop (hf ps.length), p.length ≤ 4000000 := fun p h => hB p (List.mem_of_mem_drop h)
        have hl1 : (ps.take (hf ps.length)).length = hf ps.length := by rw [List.length_take]; omega
        have hl2 : (ps.drop (hf ps.length)).length = ps.length - hf ps.length := by rw [List.length_drop]
        have hla := pa_le ((hf ps.length : Nat) : Int) zs
        have hlb := pb_le ((hf ps.length : Nat) : Int) zs
        have hza : ∀ z ∈ pa ((hf ps.length : Nat) : Int) zs, 0 ≤ z ∧ z ≤ 16000000 := fun z h => hzb z (List.mem_filter.1 h).1
        have hzc : ∀ z ∈ pb ((hf ps.length : Nat) : Int) zs, 0 ≤ z ∧ z ≤ 16000000 := fun z h => by
          obtain ⟨z', h', rfl⟩ := List.mem_map.1 h
          have h2 := hzb z' (List.mem_filter.1 h').1
          have h3 := (List.mem_filter.1 h').2
          simp at h3
          omega
        have hha := half_any ps.length w (by omega) (by omega)
        have hpt := parted_any _ zs ((hf ps.length : Nat) : Int) w hy (by omega) (by omega) (fun z hz => by have := hzb z hz; omega)
        have c1 : ∀ w' a, Fr (fun _ => False) w w' → Ints w' a (pa ((hf ps.length : Nat) : Int) zs) → ManyQ N0 wi (ps.take (hf ps.length)) (pa ((hf ps.length : Nat) : Int) zs) (.slice (some ⟨g, o, none⟩) (hf ps.length) xc) a w' := fun w' a hfr ha => ih _ _ _ _ _ w' (by omega) (by omega) (hr.fr0 hfr) (hP1.fr0 hfr) cp1 hB1 ha (by omega) hza (fun _ => by omega) (Nat.le_trans hN0 hfr.size) (fun u hu => hq u (List.mem_of_mem_take hu))
        have c2 : ∀ w' b, Fr (fun _ => False) w w' → Ints w' b (pb ((hf ps.length : Nat) : Int) zs) → ManyQ N0 wi (ps.drop (hf ps.length)) (pb ((hf ps.length : Nat) : Int) zs) (.slice (some ⟨g, o + hf ps.length, none⟩) (ps.length - hf ps.length) (xc - hf ps.length)) b w' := fun w' b hfr hb => ih _ _ _ _ _ w' (by omega) (by omega) (hr.fr0 hfr) (hP2.fr0 hfr) cp2 hB2 hb (by omega) hzc (fun _ => by omega) (Nat.le_trans hN0 hfr.size) (fun u hu => hq u (List.mem_of_mem_drop hu))
        have m1 := mnyG_le wi (ps.take (hf ps.length)) (pa ((hf ps.length : Nat) : Int) zs)
        have m2 := mnyG_le wi (ps.drop (hf ps.length)) (pb ((hf ps.length : Nat) : Int) zs)
        have fa : ∀ w' a, Ints w' a (pa ((hf ps.length : Nat) : Int) zs) → ∃ ao ac, a = .slice ao (pa ((hf ps.length : Nat) : Int) zs).length ac := fun w' a h => h.form
        have fb : ∀ w' a, Ints w' a (pb ((hf ps.length : Nat) : Int) zs) → ∃ ao ac, a = .slice ao (pb ((hf ps.length : Nat) : Int) zs).length ac := fun w' a h => h.form
        unfold ManyQ at c1 c2 ⊢
        rw [mnyG_two hz (by omega)]
        generalize mnyG wi (ps.take (hf ps.length)) (pa ((hf ps.length : Nat) : Int) zs) = A1 at *
        generalize mnyG wi (ps.drop (hf ps.length)) (pb ((hf ps.length : Nat) : Int) zs) = A2 at *
        have m3 : A1.length ≤ 8000000 ∧ A2.length ≤ 8000000 := by omega
        have h0 : 0 < zs.length := List.length_pos_iff.2 hz
        have q0 : ((zs.length : Int) == 0) = false := beq_false_of_ne (by omega)
        have q1 : ¬ zs.length = 0 := by omega
        have q2 : ¬ zs = [] := hz
        have HG := hide (And.intro hha (And.intro hpt (And.intro c1 (And.intro c2 (And.intro m3 (And.intro hN0 (And.intro fa fb)))))))
        clear hr hP1 hP2 c1 c2 hha hpt hB hB1 hB2 hp hl1 hl2 ih cp1 cp2 hcx m1 m2 m3 hla hlb hza hzc hzb hz1 hq hy hle fa fb
        generalize (pa ((hf ps.length : Nat) : Int) zs).length = LA at *
        generalize (pb ((hf ps.length : Nat) : Int) zs).length = LB at *
        generalize hK : hf ps.length = K at *
        have q3 : (K : Int) ≤ (ps.length : Int) := by omega
        have q4 : (K : Int) ≤ (xc : Int) := by omega
        have q5 : ¬ xc = K := by omega
        have q6 : ¬ K = xc := by omega
        have q7 : ((ps.length : Int) == 1) = false := beq_false_of_ne (by omega)
        have q8 : ¬ ps.length = 1 := by omega
        clear hK
        generalize ps.length = N at *
        generalize zs.length = Z at *
        go_enter Tryd.func107, Tryd.ntmps107
        go_wp2_with fail
        refine (unhide HG).1.mono ?_
        rintro e w0 ⟨rfl, rfl⟩
        go_wp2_with fail
        refine (unhide HG).2.1.mono ?_
        rintro e w1 ⟨a, b, rfl, hIa, hIb, hF⟩
        obtain ⟨a0, ac, rfl⟩ := (unhide HG).2.2.2.2.2.2.1 _ _ hIa
        obtain ⟨b0, bc, rfl⟩ := (unhide HG).2.2.2.2.2.2.2 _ _ hIb
        have H1 := hide (And.intro hIa (And.intro hIb hF))
        clear hIa hIb hF
        go_wp2_with fail
        refine ((unhide HG).2.2.1 w1 _ (unhide H1).2.2 (unhide H1).1).mono ?_
        rintro e w2 ⟨ao, cp, us, rfl, hV, hQ⟩
        have H2 := hide (And.intro (hV.base (unhide H1).2.2) (And.intro hV.own.fr (And.intro hQ hV.len)))
        clear hV hQ
        go_wp2_with fail
        refine ((unhide HG).2.2.2.1 w2 _ ((unhide H1).2.2.trans (unhide H2).2.1 (fun _ _ h => h)) ((unhide H1).2.1.fr0 (unhide H2).2.1)).mono ?_
        rintro e w3 ⟨bo, bcp, ts, rfl, hV, hQ⟩
        have htl : ts.length = A2.length := hV.len
        rw [htl]
        have H3 := hide (And.intro hV (And.intro hQ htl))
        clear hV hQ htl
        go_wp2_with fail
        go_loopw [10, 12] (fun ov iv wr => ∃ (k : Nat) (ro : Option Addr) (rc : Nat) (rs : List Value), k ≤ A2.length ∧ iv = .int .i64 (k : Nat) ∧ ov = .slice ro rs.length rc ∧ LV w0 wr ro rc rs (A1 ++ A2.take k) ∧ Fr (fun j => (Value.slice ao us.length cp).ownBlock = some j) w3 wr ∧ (∀ g', (Value.slice ro rs.length rc).ownBlock = some g' → (Value.slice ao us.length cp).ownBlock = some g' ∨ w3.heap.size ≤ g') ∧ ∀ u ∈ rs, Bk u (fun g => g < N0 ∨ w0.heap.size ≤ g)) (fun _ iv _ => A2.length - (intOf iv).toNat)
        case atStart => exact ⟨0, ao, cp, us, Nat.zero_le _, rfl, rfl, by simpa using (unhide H2).1.fr0 (unhide H3).1.own.fr, Fr.refl _ _, fun g h => .inl h, fun u hu g o n c e => ((unhide H2).2.2.1 u hu g o n c e).imp id (fun h => Nat.le_trans (unhide H1).2.2.size h)⟩
        case round =>
          obtain ⟨k, ro, rc, rs, hk, rfl, rfl, hV, hF, hO, hQ⟩ := hrel
          have hm := (unhide HG).2.2.2.2.1
          have hrl : rs.length = A1.length + k := by rw [hV.len, List.length_append, List.length_take]; omega
          by_cases hlt : k < A2.length
          · have hlt' : (k : Int) < (A2.length : Int) := by omega
            have hown : ∀ g', (Value.slice ao us.length cp).ownBlock = some g' → w0.heap.size ≤ g' ∧ g' < w2.heap.size := fun g' hg => (unhide H2).1.own.own.lt g' hg
            have hN0 := (unhide HG).2.2.2.2.2.1
            have h02 : w0.heap.size ≤ w2.heap.size := (unhide H2).1.own.fr.size
            obtain ⟨g2, yo2, yc2, rfl, hcell, hmem, hsl, hl3⟩ := (unhide H3).1.nthD hF (fun g hg => (hown g hg).2) (fun u hu g o n c e hS => by
              have h1 := hown g hS
              rcases (unhide H3).2.1 u hu g o n c e with h2 | h2 <;> omega) k hlt
            have hbk := (unhide H3).2.1 _ hmem
            have hqq : A2[k] = [] ∨ Bk (.slice yo2 A2[k].length yc2) (fun g => ∀ g', (Value.slice ro rs.length rc).ownBlock = some g' → ¬ g = g') := hl3.imp id (fun h g o n c e g' hg' eg => by
              rcases hO g' hg' with h1 | h1
              · have h3 := hown g' h1
                rcases hbk g o n c e with h2 | h2 <;> omega
              · have := h g o n c e; omega)
            obtain ⟨ro', rc', w5, hr, hV5, hF5, hO5⟩ := hV.stepS A2[k] yo2 yc2 hsl hqq (by omega)
            have e1 : A1 ++ A2.take k ++ [A2[k]] = A1 ++ A2.take (k + 1) := by
              rw [List.append_assoc, List.take_add_one, List.getElem?_eq_getElem hlt]; rfl
            rw [e1] at hV5
            have h3r : w3.heap.size ≤ wr.heap.size := hF.size
            have hF6 : Fr (fun j => (Value.slice ao us.length cp).ownBlock = some j) w3 w5 := hF.trans hF5 (fun j hj hT => (hO j hT).resolve_right (by omega))
            have hO6 : ∀ g', (Value.slice ro' (rs ++ [Value.slice yo2 A2[k].length yc2]).length rc').ownBlock = some g' → (Value.slice ao us.length cp).ownBlock = some g' ∨ w3.heap.size ≤ g' := fun g' hg' => by
              rw [List.length_append] at hg'
              rcases hO5 g' hg' with h | h
              · exact hO g' h
              · exact .inr (by omega)
            have hQ6 : ∀ u ∈ rs ++ [Value.slice yo2 A2[k].length yc2], Bk u (fun g => g < N0 ∨ w0.heap.size ≤ g) := fun u hu => by
              rcases List.mem_append.1 hu with hu | hu
              · exact hQ u hu
              · simp at hu
                subst hu
                exact fun g o n c e => (hbk g o n c e).imp id (fun h => by omega)
            have hcell2 : wr.cell? ⟨g2, 0 + k, none⟩ = some (.slice yo2 A2[k].length yc2) := by rw [Nat.zero_add]; exact hcell
            have HR := hide hr
            have HV := hide (And.intro hV5 (And.intro hF6 (And.intro hO6 hQ6)))
            clear hr hV5 hF5 hO5 hF6 hO6 hQ6 hV hF hO hQ hqq hbk hl3 hsl hmem e1 hown
            have w1' : IntKind.i64.wrap ((k : Int) + 1) = (k : Int) + 1 := by rw [IntKind.wrap_i64]; omega
            generalize A2[k].length = EL at *
            generalize A2.length = NB at *
            go_wp2_with (at_builtin; refine wpList_app rfl (.tmp 50) (.tmp 55) 22 22 rfl _ _ _ rfl rfl (unhide HR) ?_)
            exact ⟨⟨k + 1, ro', rc', _, by omega, by go_num, by first | (rw [List.length_append]; rfl) | (rw [List.length_append, hrl]; rfl), (unhide HV).1, (unhide HV).2.1, (unhide HV).2.2.1, (unhide HV).2.2.2⟩, by simp [intOf]; omega⟩
          · have hkN : k = A2.length := by omega
            have hlt' : ¬ (k : Int) < (A2.length : Int) := by omega
            rw [List.take_of_length_le (by omega)] at hV
            have HV := hide (And.intro hV hQ)
            clear hV hQ hkN hO hF hrl
            generalize A2.length = NB at *
            go_wp2_with fail
            go_ret
            exact ⟨ro, rc, rs, rfl, (unhide HV).1, (unhide HV).2⟩
end Go.Proofs.YtocdnomfpgdglabDoor

namespace Go.Proofs.YtocdnomfpgdglabDoor
open Go.RowKit

set_option maxRecDepth 100000 in
set_option maxHeartbeats 1000000 in
/-- The ref's ProofOf. -/
theorem gproofOf_any (wi : Nat) (ps : List (List Nat)) (m : Nat) (x : Value) (vs : List Value) (w : World) (hr : GR w) (hp : Pcs w x vs ps) (hcx : Cp x) (hn : ps.length ≤ 4000000) (hB : ∀ p ∈ ps, p.length ≤ 4000000) (hm : m ≤ ps.length) :
    Calls Tryd.prog 105 #[.int .i64 wi, x, .int .i64 m] w fun e w' => ∃ yo yc us, e = .returned (.slice yo (prf wi ps ps.length m).length yc) ∧ Pcs w' (.slice yo (prf wi ps ps.length m).length yc) us (prf wi ps ps.length m) ∧ Fr (fun _ => False) w w' := by
  rw [prf_sub wi ps m hm]
  by_cases h0 : m = 0 ∨ m = ps.length
  · rw [if_pos h0]
    obtain ⟨xo, xc, rfl⟩ := hp.form
    clear hp hcx hn hB hm hr
    rcases h0 with h0 | h0
    · subst h0
      generalize ps.length = N at *
      have e0 : ((0 : Nat) : Int) = 0 := rfl
      simp only [e0]
      go_enter Tryd.func105, Tryd.ntmps105
      go_wp2_with fail
      go_ret
      first | exact ⟨none, 0, [], rfl, pcs_nil _, Fr.refl _ _⟩ | exact ⟨none, 0, rfl, ⟨[], pcs_nil _⟩, Fr.refl _ _⟩
    · subst h0
      generalize ps.length = N at *
      by_cases hN : N = 0
      · subst hN
        have e0 : ((0 : Nat) : Int) = 0 := rfl
        simp only [e0]
        go_enter Tryd.func105, Tryd.ntmps105
        go_wp2_with fail
        go_ret
        first | exact ⟨none, 0, [], rfl, pcs_nil _, Fr.refl _ _⟩ | exact ⟨none, 0, rfl, ⟨[], pcs_nil _⟩, Fr.refl _ _⟩
      · have q0 : ((N : Int) == 0) = false := beq_false_of_ne (by omega)
        go_enter Tryd.func105, Tryd.ntmps105
        go_wp2_with fail
        go_ret
        first | exact ⟨none, 0, [], rfl, pcs_nil _, Fr.refl _ _⟩ | exact ⟨none, 0, rfl, ⟨[], pcs_nil _⟩, Fr.refl _ _⟩
  · rw [if_neg h0]
    have hs := gsub_any wi _ ps m true x vs w (Nat.le_refl _) (by omega) (by omega) hm hr hp hcx hB
    unfold SubSays at hs
    obtain ⟨xo, xc, rfl⟩ := hp.form
    generalize subF wi ps m true = SB at *
    have HC := hide hs
    have q0 : ((m : Int) == 0) = false := beq_false_of_ne (by omega)
    have q1 : ((m : Int) == (ps.length : Int)) = false := beq_false_of_ne (by omega)
    have q2 : ¬ m = 0 := by omega
    have q3 : ¬ (m : Int) = (ps.length : Int) := by omega
    clear hs hp hcx hn hB hm hr h0
    generalize ps.length = N at *
    go_enter Tryd.func105, Tryd.ntmps105
    go_wp2_with fail
    refine (unhide HC).mono ?_
    rintro e w1 ⟨yo, yc, us, rfl, hP, hF⟩
    have H1 := hide (And.intro hP hF)
    clear hP hF
    go_wp2_with fail
    go_ret
    first | exact ⟨yo, yc, us, rfl, (unhide H1).1, (unhide H1).2⟩ | exact ⟨yo, yc, rfl, ⟨us, (unhide H1).1⟩, (unhide H1).2⟩
/-- The leaves of a tree, as the ref has them. -/
theorem gleaves_C (i : Int) (x : Value) (vs : List Value) (es : List (List Nat)) (w : World) (hr : GR w) (hp : Pcs w x vs es) (hB : ∀ e ∈ es, e.length ≤ 4000000) (hn : es.length ≤ 8000000) :
    Calls Tryd.prog 39 #[.int .i64 i, x] w fun e' w' => ∃ ao cp us, e' = .returned (.slice ao es.length cp) ∧ Pcs w' (.slice ao es.length cp) us (es.map (lf i)) ∧ Fr (fun _ => False) w w' ∧ Cp (.slice ao es.length cp) := by
  refine (gleaves_any i x vs es w hr hp hB hn).mono ?_
  rintro e w' ⟨ao, cp, us, rfl, h1, h2, h3⟩
  exact ⟨ao, cp, us, rfl, h1, h2, fun _ _ _ e => by cases e; exact h3⟩
set_option maxRecDepth 100000 in
set_option maxHeartbeats 1000000 in
theorem gpath_in (wi : Nat) (hw1 : 1 ≤ wi) (hw32 : wi ≤ 32) (x : Value) (vs : List Value) (es : List (List Nat)) (m : Nat) (w : World) (hr : GR w) (hp : Pcs w x vs es) (hB : ∀ e ∈ es, e.length ≤ 4000000) (hn : es.length ≤ 4000000) (hm : m < es.length) :
    Calls Tryd.prog 69 #[.int .i64 wi, x, .int .i64 m] w fun e w' => ∃ yo yc us, e = .returned (.tuple #[.slice yo (pth wi (es.map (lf wi)) m).length yc, .int .i64 0]) ∧ Pcs w' (.slice yo (pth wi (es.map (lf wi)) m).length yc) us (pth wi (es.map (lf wi)) m) ∧ Fr (fun _ => False) w w' := by
  have hlv := gleaves_C wi x vs es w hr hp hB (by omega)
  have hll : (es.map (lf (wi : Int))).length = es.length := List.length_map _
  have hin : ∀ w' (x : Value) us, GR w' → Pcs w' x us (es.map (lf wi)) → Cp x → PathSays wi (es.map (lf wi)) m x w' := fun w' x us h1 h2 h3 => gpath_any wi _ (es.map (lf wi)) m x us w' (Nat.le_refl _) (by omega) (by omega) h1 h2 h3 (fun p hp => by have := map_lf_len wi hw1 hw32 es p hp; omega)
  unfold PathSays at hin
  generalize pth wi (es.map (lf wi)) m = V at *
  obtain ⟨xo, xc, rfl⟩ := hp.form
  have HC := hide (And.intro hlv (And.intro hin hr))
  have hj : 1 ≤ (wi : Int) ∧ (wi : Int) ≤ 32 := by omega
  have HJ := hide hj
  have q1 : ¬ (m : Int) < 0 := by omega
  have q2 : ¬ (es.length : Int) ≤ (m : Int) := by omega
  have q3 : ¬ es.length ≤ m := by omega
  clear hlv hin hr hp hB hn hm hj
  generalize es.length = N at *
  go_enter Tryd.func69, Tryd.ntmps69
  go_wp2_with fail
  refine (may_yes wi _ (unhide HJ).1 (unhide HJ).2).mono ?_
  rintro e w0 ⟨rfl, rfl⟩
  go_wp2_with fail
  refine (unhide HC).1.mono ?_
  rintro e w1 ⟨ao, cp, us, rfl, hP, hF, hC⟩
  have H1 := hide (And.intro hP (And.intro hF hC))
  clear hP hF hC
  go_wp2_with fail
  refine ((unhide HC).2.1 w1 _ us ((unhide HC).2.2.fr0 (unhide H1).2.1) (unhide H1).1 (unhide H1).2.2).mono ?_
  rintro e w2 ⟨yo, yc, us2, rfl, hP, hF⟩
  have H2 := hide (And.intro hP ((unhide H1).2.1.trans hF (fun _ _ h => h)))
  clear hP hF
  go_wp2_with fail
  go_returns
  first | exact ⟨yo, yc, us2, rfl, (unhide H2).1, (unhide H2).2⟩ | exact ⟨yo, yc, rfl, ⟨us2, (unhide H2).1⟩, (unhide H2).2⟩
set_option maxRecDepth 100000 in
set_option maxHeartbeats 1000000 in
theorem gpath_no (j i : Int) (x : Value) (vs : List Value) (es : List (List Nat)) (w : World) (hp : Pcs w x vs es) (h : (j < 1 ∨ 32 < j) ∨ i < 0 ∨ (es.length : Int) ≤ i) :
    Calls Tryd.prog 69 #[.int .i64 j, x, .int .i64 i] w fun e w' => e = .returned (.tuple #[.slice none 0 0, .int .i64 1]) ∧ w' = w := by
  obtain ⟨xo, xc, rfl⟩ := hp.form
  clear hp
  generalize es.length = N at *
  by_cases hj : j < 1 ∨ 32 < j
  · clear h
    go_enter Tryd.func69, Tryd.ntmps69
    go_wp2_with fail
    refine (may_no j _ hj).mono ?_
    rintro e w0 ⟨rfl, rfl⟩
    go_wp2_with fail
    go_returns
    exact ⟨rfl, rfl⟩
  · have HJ := hide (show 1 ≤ j ∧ j ≤ 32 by omega)
    by_cases hi : i < 0
    · clear h hj
      go_enter Tryd.func69, Tryd.ntmps69
      go_wp2_with fail
      refine (may_yes j _ (unhide HJ).1 (unhide HJ).2).mono ?_
      rintro e w0 ⟨rfl, rfl⟩
      go_wp2_with fail
      go_returns
      exact ⟨rfl, rfl⟩
    · have hk : (N : Int) ≤ i := by omega
      clear h hj
      go_enter Tryd.func69, Tryd.ntmps69
      go_wp2_with fail
      refine (may_yes j _ (unhide HJ).1 (unhide HJ).2).mono ?_
      rintro e w0 ⟨rfl, rfl⟩
      go_wp2_with fail
      go_returns
      exact ⟨rfl, rfl⟩
set_option maxRecDepth 100000 in
set_option maxHeartbeats 1000000 in
theorem gproof_in (wi : Nat) (hw1 : 1 ≤ wi) (hw32 : wi ≤ 32) (x : Value) (vs : List Value) (es : List (List Nat)) (m : Nat) (w : World) (hr : GR w) (hp : Pcs w x vs es) (hB : ∀ e ∈ es, e.length ≤ 4000000) (hn : es.length ≤ 4000000) (hm : m ≤ es.length) :
    Calls Tryd.prog 70 #[.int .i64 wi, x, .int .i64 m] w fun e w' => ∃ yo yc us, e = .returned (.tuple #[.slice yo (prf wi (es.map (lf wi)) es.length m).length yc, .int .i64 0]) ∧ Pcs w' (.slice yo (prf wi (es.map (lf wi)) es.length m).length yc) us (prf wi (es.map (lf wi)) es.length m) ∧ Fr (fun _ => False) w w' := by
  have hlv := gleaves_C wi x vs es w hr hp hB (by omega)
  have hll : (es.map (lf (wi : Int))).length = es.length := List.length_map _
  have hin : ∀ w' (x : Value) us, GR w' → Pcs w' x us (es.map (lf wi)) → Cp x → _ := fun w' x us h1 h2 h3 => gproofOf_any wi (es.map (lf wi)) m x us w' h1 h2 h3 (by omega) (fun p hp => by have := map_lf_len wi hw1 hw32 es p hp; omega) (by omega)
  rw [hll] at hin
  generalize prf wi (es.map (lf wi)) es.length m = V at *
  obtain ⟨xo, xc, rfl⟩ := hp.form
  have HC := hide (And.intro hlv (And.intro hin hr))
  have hj : 1 ≤ (wi : Int) ∧ (wi : Int) ≤ 32 := by omega
  have HJ := hide hj
  have q1 : ¬ (m : Int) < 0 := by omega
  have q2 : ¬ (es.length : Int) < (m : Int) := by omega
  have q3 : ¬ es.length < m := by omega
  clear hlv hin hr hp hB hn hm hj
  generalize es.length = N at *
  go_enter Tryd.func70, Tryd.ntmps70
  go_wp2_with fail
  refine (may_yes wi _ (unhide HJ).1 (unhide HJ).2).mono ?_
  rintro e w0 ⟨rfl, rfl⟩
  go_wp2_with fail
  refine (unhide HC).1.mono ?_
  rintro e w1 ⟨ao, cp, us, rfl, hP, hF, hC⟩
  have H1 := hide (And.intro hP (And.intro hF hC))
  clear hP hF hC
  go_wp2_with fail
  refine ((unhide HC).2.1 w1 _ us ((unhide HC).2.2.fr0 (unhide H1).2.1) (unhide H1).1 (unhide H1).2.2).mono ?_
  rintro e w2 ⟨yo, yc, us2, rfl, hP, hF⟩
  have H2 := hide (And.intro hP ((unhide H1).2.1.trans hF (fun _ _ h => h)))
  clear hP hF
  go_wp2_with fail
  go_returns
  first | exact ⟨yo, yc, us2, rfl, (unhide H2).1, (unhide H2).2⟩ | exact ⟨yo, yc, rfl, ⟨us2, (unhide H2).1⟩, (unhide H2).2⟩
set_option maxRecDepth 100000 in
set_option maxHeartbeats 1000000 in
theorem gproof_no (j i : Int) (x : Value) (vs : List Value) (es : List (List Nat)) (w : World) (hp : Pcs w x vs es) (h : (j < 1 ∨ 32 < j) ∨ i < 0 ∨ (es.length : Int) < i) :
    Calls Tryd.prog 70 #[.int .i64 j, x, .int .i64 i] w fun e w' => e = .returned (.tuple #[.slice none 0 0, .int .i64 1]) ∧ w' = w := by
  obtain ⟨xo, xc, rfl⟩ := hp.form
  clear hp
  generalize es.length = N at *
  by_cases hj : j < 1 ∨ 32 < j
  · clear h
    go_enter Tryd.func70, Tryd.ntmps70
    go_wp2_with fail
    refine (may_no j _ hj).mono ?_
    rintro e w0 ⟨rfl, rfl⟩
    go_wp2_with fail
    go_returns
    exact ⟨rfl, rfl⟩
  · have HJ := hide (show 1 ≤ j ∧ j ≤ 32 by omega)
    by_cases hi : i < 0
    · clear h hj
      go_enter Tryd.func70, Tryd.ntmps70
      go_wp2_with fail
      refine (may_yes j _ (unhide HJ).1 (unhide HJ).2).mono ?_
      rintro e w0 ⟨rfl, rfl⟩
      go_wp2_with fail
      go_returns
      exact ⟨rfl, rfl⟩
    · have hk : (N : Int) < i := by omega
      clear h hj
      go_enter Tryd.func70, Tryd.ntmps70
      go_wp2_with fail
      refine (may_yes j _ (unhide HJ).1 (unhide HJ).2).mono ?_
      rintro e w0 ⟨rfl, rfl⟩
      go_wp2_with fail
      go_returns
      exact ⟨rfl, rfl⟩
end Go.Proofs.YtocdnomfpgdglabDoor

namespace Go.Proofs.YtocdnomfpgdglabDoor
open Go.RowKit

theorem filt (t : Int) : ∀ zs : List Int, zs.Pairwise (· < ·) → zs.filter (fun z => decide (z < t)) = zs.take (zs.countP (· < t)) ∧ zs.filter (fun z => !decide (z < t)) = zs.drop (zs.countP (· < t)) := by
  intro zs
  induction zs with
  | nil => intro _; simp
  | cons a r ih =>
    intro h
    rw [List.pairwise_cons] at h
    obtain ⟨h1, h2⟩ := h
    obtain ⟨i1, i2⟩ := ih h2
    by_cases ha : a < t
    · rw [List.countP_cons_of_pos (by simpa using ha), List.filter_cons_of_pos (by simpa using ha), List.filter_cons_of_neg (by simpa using ha), List.take_succ_cons, List.drop_succ_cons, i1, i2]
      exact ⟨rfl, rfl⟩
    · have hr : ∀ z ∈ r, ¬ z < t := fun z hz => by have := h1 z hz; omega
      have hc : r.countP (· < t) = 0 := List.countP_eq_zero.2 (fun z hz => by simpa using hr z hz)
      rw [hc] at i1 i2
      rw [List.countP_cons_of_neg (by simpa using ha), List.filter_cons_of_neg (by simpa using ha), List.filter_cons_of_pos (by simpa using ha), hc, i1, i2]
      exact ⟨rfl, rfl⟩
theorem pa_map (f : Int) (k : Int) (zs : List Int) : pa k (zs.map (· - f)) = (zs.filter (fun z => decide (z < f + k))).map (· - f) := by
  rw [pa, List.filter_map]
  congr 1
  apply List.filter_congr
  intro z _
  simp only [Function.comp]
  congr 1
  exact propext ⟨fun h => by omega, fun h => by omega⟩
theorem pb_map (f : Int) (k : Int) (zs : List Int) : pb k (zs.map (· - f)) = (zs.filter (fun z => !decide (z < f + k))).map (· - (f + k)) := by
  rw [pb, List.filter_map, List.map_map]
  have e : (zs.filter ((fun z => !decide (z < k)) ∘ fun x => x - f)) = zs.filter (fun z => !decide (z < f + k)) := by
    apply List.filter_congr
    intro z _
    simp only [Function.comp]
    congr 2
    exact propext ⟨fun h => by omega, fun h => by omega⟩
  rw [e]
  apply List.map_congr_left
  intro z _
  simp only [Function.comp]
  omega
theorem mnyG_eq (wi : Nat) (L : List (List Nat)) (m : Nat) : ∀ (f n : Nat) (zs : List Int), n ≤ m → f + n ≤ L.length → zs.Pairwise (· < ·) → mnyG wi (blk L f n) (zs.map (· - (f : Int))) = mny wi L f n zs := by
  induction m with
  | zero =>
    intro f n zs h hL hs
    by_cases hz : zs = []
    · subst hz; rw [mny_nil]; exact mnyG_nil _ _
    · rw [mny_one hz (by omega), mnyG_one (by simpa using hz) (by rw [blk_len L f n hL]; omega)]
  | succ m ih =>
    intro f n zs h hL hs
    by_cases hz : zs = []
    · subst hz; rw [mny_nil]; exact mnyG_nil _ _
    · have hlen := blk_len L f n hL
      by_cases h2 : n < 2
      · rw [mny_one hz h2, mnyG_one (by simpa using hz) (by rw [hlen]; omega)]
      · have h3 := hf_lt n (by omega)
        have h4 := hf_pos n
        rw [mny_two hz (by omega), mnyG_two (by simpa using hz) (by omega), hlen, blk_take _ _ _ _ (by omega), blk_drop, pa_map, pb_map]
        have e : (f : Int) + ((hf n : Nat) : Int) = ((f + hf n : Nat) : Int) := by omega
        rw [e]
        obtain ⟨e1, e2⟩ := filt ((f + hf n : Nat) : Int) zs hs
        rw [e1, e2, ih f (hf n) _ (by omega) (by omega) (hs.sublist (List.take_sublist _ _)), ih (f + hf n) (n - hf n) _ (by omega) (by omega) (hs.sublist (List.drop_sublist _ _))]
theorem mnyG_top (wi : Nat) (L : List (List Nat)) (zs : List Int) (hs : zs.Pairwise (· < ·)) : mnyG wi L zs = mny wi L 0 L.length zs := by
  have := mnyG_eq wi L L.length 0 L.length zs (Nat.le_refl _) (by omega) hs
  rw [blk_all] at this
  rw [← this]
  congr 1
  simp
theorem mny_wid (wi : Nat) (hw1 : 1 ≤ wi) (hw32 : wi ≤ 32) (L : List (List Nat)) (hL : ∀ p ∈ L, p.length = wi) (m : Nat) : ∀ f n zs, n ≤ m → ∀ p ∈ mny wi L f n zs, p.length = wi := by
  induction m with
  | zero =>
    intro f n zs h p hp
    by_cases hz : zs = []
    · rw [hz, mny_nil] at hp; simp at hp; subst hp; exact mth_wid wi hw1 hw32 _ (fun p hp => hL p (blk_mem _ _ _ p hp))
    · rw [mny_one hz (by omega)] at hp; cases hp
  | succ m ih =>
    intro f n zs h p hp
    by_cases hz : zs = []
    · rw [hz, mny_nil] at hp; simp at hp; subst hp; exact mth_wid wi hw1 hw32 _ (fun p hp => hL p (blk_mem _ _ _ p hp))
    · by_cases h2 : n < 2
      · rw [mny_one hz h2] at hp; cases hp
      · have h3 := hf_lt n (by omega)
        have h4 := hf_pos n
        rw [mny_two hz (by omega)] at hp
        rcases List.mem_append.1 hp with hp | hp
        · exact ih _ _ _ (by omega) p hp
        · exact ih _ _ _ (by omega) p hp
set_option maxRecDepth 100000 in
set_option maxHeartbeats 1000000 in
theorem gmany_in (wi : Nat) (hw1 : 1 ≤ wi) (hw32 : wi ≤ 32) (x y : Value) (vs : List Value) (es : List (List Nat)) (zs : List Int) (w : World) (hr : GR w) (hp : Pcs w x vs es) (hB : ∀ e ∈ es, e.length ≤ 4000000) (hn : es.length ≤ 4000000) (hy : Ints w y zs) (hzl : zs.length ≤ 4000000) (hri : rsF es.length 0 zs = true) :
    Calls Tryd.prog 71 #[.int .i64 wi, x, y] w fun e w' => ∃ yo yc us, e = .returned (.tuple #[.slice yo (mny wi (es.map (lf wi)) 0 es.length zs).length yc, .int .i64 0]) ∧ Pcs w' (.slice yo (mny wi (es.map (lf wi)) 0 es.length zs).length yc) us (mny wi (es.map (lf wi)) 0 es.length zs) ∧ Fr (fun _ => False) w w' := by
  have hlv := gleaves_C wi x vs es w hr hp hB (by omega)
  have hll : (es.map (lf (wi : Int))).length = es.length := List.length_map _
  obtain ⟨s1, s2⟩ := rsF_ok es.length zs 0 hri
  have hgr := grising_any y zs es.length w hy (by omega) (fun z hz => by have := s2 z hz; omega)
  rw [hri] at hgr
  have hin : ∀ w' (x : Value) us, GR w' → Pcs w' x us (es.map (lf wi)) → Cp x → Ints w' y zs → Calls Tryd.prog 107 #[.int .i64 wi, x, y] w' fun e w'' => ∃ yo yc us, e = .returned (.slice yo (mny wi (es.map (lf wi)) 0 es.length zs).length yc) ∧ Pcs w'' (.slice yo (mny wi (es.map (lf wi)) 0 es.length zs).length yc) us (mny wi (es.map (lf wi)) 0 es.length zs) ∧ Fr (fun _ => False) w' w'' := fun w' x us h1 h2 h3 h4 => by
    have hq : ∀ u ∈ us, Bk u (fun g => g < w'.heap.size) := fun u hu => by
      obtain ⟨j, hj, rfl⟩ := List.getElem_of_mem hu
      have hj2 : j < (es.map (lf (wi : Int))).length := by rw [← h2.len]; exact hj
      rcases (h2.src j us[j] _ (List.getElem?_eq_getElem hj) (List.getElem?_eq_getElem hj2)).2.2 with h | h
      · have := map_lf_len wi hw1 hw32 es _ (List.getElem_mem hj2)
        rw [h] at this
        simp at this
        omega
      · exact h
    have := manyQ_any w'.heap.size wi _ (es.map (lf wi)) zs x y us w' (Nat.le_refl _) (by omega) h1 h2 h3 (fun p hp => by have := map_lf_len wi hw1 hw32 es p hp; omega) h4 (by omega) (fun z hz => by have := s2 z hz; omega) (fun hz => by
      rcases zs with _ | ⟨a, r⟩
      · exact absurd rfl hz
      · have := s2 a (by simp); omega) (Nat.le_refl _) hq
    unfold ManyQ at this
    rw [mnyG_top wi _ zs s1, hll] at this
    refine this.mono ?_
    rintro e w'' ⟨ao, cp, us, rfl, hV, _⟩
    have hpc := hV.pcs
    rw [hV.len] at hpc ⊢
    exact ⟨ao, cp, us, rfl, hpc, hV.own.fr⟩
  generalize mny wi (es.map (lf wi)) 0 es.length zs = V at *
  obtain ⟨xo, xc, rfl⟩ := hp.form
  obtain ⟨yo, yc, rfl⟩ := hy.form
  have hri2 := hide hy
  have hlv2 := fun w' (hf : Fr (fun _ => False) w w') => gleaves_C wi _ vs es w' (hr.fr0 hf) (hp.fr0 hf) hB (by omega)
  have HC := hide (And.intro hlv2 (And.intro hin (And.intro hr hgr)))
  have hj : 1 ≤ (wi : Int) ∧ (wi : Int) ≤ 32 := by omega
  have HJ := hide hj
  clear hlv hlv2 hin hr hp hB hn hj hgr hy hzl hri s1 s2
  generalize es.length = N at *
  generalize hZ : zs.length = Z at *
  go_enter Tryd.func71, Tryd.ntmps71
  go_wp2_with fail
  refine (may_yes wi _ (unhide HJ).1 (unhide HJ).2).mono ?_
  rintro e w0 ⟨rfl, rfl⟩
  go_wp2_with fail
  refine (unhide HC).2.2.2.mono ?_
  rintro e w1 ⟨rfl, hF⟩
  have H0 := hide hF
  clear hF
  go_wp2_with fail
  refine ((unhide HC).1 w1 (unhide H0)).mono ?_
  rintro e w2 ⟨ao, cp, us, rfl, hP, hF, hC⟩
  have H1 := hide (And.intro hP (And.intro ((unhide H0).trans hF (fun _ _ h => h)) hC))
  clear hP hF hC
  go_wp2_with fail
  refine ((unhide HC).2.1 w2 _ us ((unhide HC).2.2.1.fr0 (unhide H1).2.1) (unhide H1).1 (unhide H1).2.2 ((unhide hri2).fr0 (unhide H1).2.1)).mono ?_
  rintro e w3 ⟨yo, yc, us2, rfl, hP, hF⟩
  have H2 := hide (And.intro hP ((unhide H1).2.1.trans hF (fun _ _ h => h)))
  clear hP hF
  go_wp2_with fail
  go_returns
  first | exact ⟨yo, yc, us2, rfl, (unhide H2).1, (unhide H2).2⟩ | exact ⟨yo, yc, rfl, ⟨us2, (unhide H2).1⟩, (unhide H2).2⟩
set_option maxRecDepth 100000 in
set_option maxHeartbeats 1000000 in
theorem gmany_no (j : Int) (x y : Value) (vs : List Value) (es : List (List Nat)) (zs : List Int) (w : World) (hp : Pcs w x vs es) (hy : Ints w y zs) (hl : zs.length ≤ 4000000) (hb : ∀ z ∈ zs, -9223372036854775808 ≤ z) (h : (j < 1 ∨ 32 < j) ∨ rsF es.length 0 zs = false) :
    Calls Tryd.prog 71 #[.int .i64 j, x, y] w fun e w' => e = .returned (.tuple #[.slice none 0 0, .int .i64 1]) ∧ Fr (fun _ => False) w w' := by
  have hgr := grising_any y zs es.length w hy (by omega) hb
  obtain ⟨xo, xc, rfl⟩ := hp.form
  obtain ⟨yo, yc, rfl⟩ := hy.form
  clear hp hy hl hb
  by_cases hj : j < 1 ∨ 32 < j
  · clear h hgr
    generalize es.length = N at *
    generalize zs.length = Z at *
    go_enter Tryd.func71, Tryd.ntmps71
    go_wp2_with fail
    refine (may_no j _ hj).mono ?_
    rintro e w0 ⟨rfl, rfl⟩
    go_wp2_with fail
    go_returns
    exact ⟨rfl, Fr.refl _ _⟩
  · have HJ := hide (show 1 ≤ j ∧ j ≤ 32 by omega)
    rw [h.resolve_left hj] at hgr
    have HG := hide hgr
    clear h hj hgr
    generalize es.length = N at *
    generalize zs.length = Z at *
    go_enter Tryd.func71, Tryd.ntmps71
    go_wp2_with fail
    refine (may_yes j _ (unhide HJ).1 (unhide HJ).2).mono ?_
    rintro e w0 ⟨rfl, rfl⟩
    go_wp2_with fail
    refine (unhide HG).mono ?_
    rintro e w1 ⟨rfl, hF⟩
    have H0 := hide hF
    clear hF
    go_wp2_with fail
    go_returns
    exact ⟨rfl, unhide H0⟩
/-- What Many tells, whatever it is asked. -/
def okM (j : Int) (es : List (List Nat)) (zs : List Int) : Prop := 1 ≤ j ∧ j ≤ 32 ∧ rsF es.length 0 zs = true
instance (j : Int) (es : List (List Nat)) (zs : List Int) : Decidable (okM j es zs) := inferInstanceAs (Decidable (_ ∧ _))
def plM (j : Int) (es : List (List Nat)) (zs : List Int) : List (List Nat) := if okM j es zs then mny j.toNat (es.map (lf j)) 0 es.length zs else []
def pcM (j : Int) (es : List (List Nat)) (zs : List Int) : Int := if okM j es zs then 0 else 1
theorem plM_ok (j : Int) (es : List (List Nat)) (zs : List Int) : (∀ p ∈ plM j es zs, p.length ≤ 1000) ∧ (plM j es zs).length ≤ es.length + 1 := by
  rw [plM]
  split
  · rename_i h
    obtain ⟨h1, h2, h3⟩ := h
    obtain ⟨wi, rfl⟩ : ∃ k : Nat, j = (k : Int) := ⟨j.toNat, by omega⟩
    refine ⟨fun p hp => ?_, mny_le _ _ _ _ _⟩
    have := mny_wid wi (by omega) (by omega) _ (map_lf_len wi (by omega) (by omega) es) _ _ _ _ (Nat.le_refl _) p hp
    omega
  · exact ⟨fun p hp => (by cases hp), Nat.zero_le _⟩
theorem gmanyU (j : Int) (x y : Value) (vs : List Value) (es : List (List Nat)) (zs : List Int) (w : World) (hr : GR w) (hp : Pcs w x vs es) (hB : ∀ e ∈ es, e.length ≤ 4000000) (hn : es.length ≤ 4000000) (hy : Ints w y zs) (hl : zs.length ≤ 4000000) (hb : ∀ z ∈ zs, -9223372036854775808 ≤ z) :
    Calls Tryd.prog 71 #[.int .i64 j, x, y] w fun e w' => ∃ yo yc us, e = .returned (.tuple #[.slice yo (plM j es zs).length yc, .int .i64 (pcM j es zs)]) ∧ Pcs w' (.slice yo (plM j es zs).length yc) us (plM j es zs) ∧ Fr (fun _ => False) w w' := by
  by_cases h : okM j es zs
  · rw [pcM, plM, if_pos h, if_pos h]
    obtain ⟨h1, h2, h3⟩ := h
    obtain ⟨wi, rfl⟩ : ∃ k : Nat, j = (k : Int) := ⟨j.toNat, by omega⟩
    exact gmany_in wi (by omega) (by omega) x y vs es zs w hr hp hB hn hy hl h3
  · rw [pcM, plM, if_neg h, if_neg h]
    refine (gmany_no j x y vs es zs w hp hy hl hb (by
      unfold okM at h
      by_cases hj : j < 1 ∨ 32 < j
      · exact .inl hj
      · right
        cases hc : rsF es.length 0 zs
        · rfl
        · exact absurd ⟨by omega, by omega, hc⟩ h)).mono ?_
    rintro e w' ⟨rfl, hF⟩
    exact ⟨none, 0, [], rfl, pcs_nil _, hF⟩
theorem mmanyU (j : Int) (x y : Value) (vs : List Value) (es : List (List Nat)) (zs : List Int) (w : World) (hg : GS w) (ht : GT w) (hp : Pcs w x vs es) (hB : ∀ e ∈ es, e.length ≤ 16000000) (hn : es.length ≤ 8000000) (hy : Ints w y zs) (hl : zs.length ≤ 4000000) (hb : ∀ z ∈ zs, -9223372036854775808 ≤ z) :
    Calls Tryd.prog 25 #[.int .i64 j, x, y] w fun e w' => ∃ ao cp us, e = .returned (.tuple #[.slice ao us.length cp, .int .i64 (pcM j es zs)]) ∧ OL w w' ao cp us (plM j es zs) := by
  by_cases h : okM j es zs
  · rw [pcM, plM, if_pos h, if_pos h]
    obtain ⟨h1, h2, h3⟩ := h
    obtain ⟨wi, rfl⟩ : ∃ k : Nat, j = (k : Int) := ⟨j.toNat, by omega⟩
    exact mmany_in wi (by omega) (by omega) x y vs es zs w hg ht hp hB hn hy (by omega) h3
  · rw [pcM, plM, if_neg h, if_neg h]
    refine (mmany_no j x y vs es zs w hg hp hB hn hy (by omega) hb (by
      unfold okM at h
      by_cases hj : j < 1 ∨ 32 < j
      · exact .inl hj
      · right
        cases hc : rsF es.length 0 zs
        · rfl
        · exact absurd ⟨by omega, by omega, hc⟩ h)).mono ?_
    rintro e w' ⟨rfl, hF⟩
    exact ⟨none, 0, [], rfl, (OL.nil w).fr0 hF⟩
end Go.Proofs.YtocdnomfpgdglabDoor

namespace Go.Proofs.YtocdnomfpgdglabDoor
open Go.RowKit

/-- The root that leaves' hashes at places and further hashes give, and what is left of these. -/
def gth (wi : Nat) (f n : Nat) (zs : List Int) (ls hs : List (List Nat)) : Option (List Nat × List (List Nat)) :=
  if zs = [] then (match hs with
    | [] => none
    | h :: r => some (h, r))
  else if _h : n < 2 then some (ls.headD [], hs)
  else (gth wi f (hf n) (zs.take (zs.countP (· < ((f + hf n : Nat) : Int)))) (ls.take (zs.countP (· < ((f + hf n : Nat) : Int)))) hs).bind fun a =>
    (gth wi (f + hf n) (n - hf n) (zs.drop (zs.countP (· < ((f + hf n : Nat) : Int)))) (ls.drop (zs.countP (· < ((f + hf n : Nat) : Int)))) a.2).bind fun b => some (nd wi a.1 b.1, b.2)
termination_by n
decreasing_by
  · exact hf_lt n (by omega)
  · have := hf_pos n; omega
theorem gth_nil (wi f n : Nat) (ls : List (List Nat)) : gth wi f n [] ls [] = none := by rw [gth, if_pos rfl]
theorem gth_next (wi f n : Nat) (ls : List (List Nat)) (h : List Nat) (r : List (List Nat)) : gth wi f n [] ls (h :: r) = some (h, r) := by rw [gth, if_pos rfl]
theorem gth_one {wi f n : Nat} {zs : List Int} {ls hs : List (List Nat)} (hz : zs ≠ []) (h : n < 2) : gth wi f n zs ls hs = some (ls.headD [], hs) := by rw [gth.eq_def, if_neg hz, dif_pos h]
theorem gth_two {wi f n : Nat} {zs : List Int} {ls hs : List (List Nat)} (hz : zs ≠ []) (h : 2 ≤ n) : gth wi f n zs ls hs = (gth wi f (hf n) (zs.take (zs.countP (· < ((f + hf n : Nat) : Int)))) (ls.take (zs.countP (· < ((f + hf n : Nat) : Int)))) hs).bind fun a =>
    (gth wi (f + hf n) (n - hf n) (zs.drop (zs.countP (· < ((f + hf n : Nat) : Int)))) (ls.drop (zs.countP (· < ((f + hf n : Nat) : Int)))) a.2).bind fun b => some (nd wi a.1 b.1, b.2) := by
  conv => lhs; rw [gth.eq_def, if_neg hz, dif_neg (by omega)]
theorem cnt_le (t : Int) (zs : List Int) : zs.countP (· < t) ≤ zs.length := List.countP_le_length
/-- Its root is as wide as the hashes are; what is left is an end of them. -/
theorem gth_wid (wi : Nat) (hw1 : 1 ≤ wi) (hw32 : wi ≤ 32) (m : Nat) : ∀ f n zs (ls hs : List (List Nat)) t r, n ≤ m → ls.length = zs.length → (∀ p ∈ ls, p.length = wi) → (∀ p ∈ hs, p.length = wi) → gth wi f n zs ls hs = some (t, r) → t.length = wi ∧ ∃ j, j ≤ hs.length ∧ r = hs.drop j := by
  induction m with
  | zero =>
    intro f n zs ls hs t r h hl hlw hhw he
    by_cases hz : zs = []
    · subst hz
      rcases hs with _ | ⟨a, b⟩
      · rw [gth_nil] at he; cases he
      · rw [gth_next] at he; cases he
        exact ⟨hhw _ (by simp), 1, by simp, rfl⟩
    · rw [gth_one hz (by omega)] at he; cases he
      refine ⟨?_, 0, Nat.zero_le _, rfl⟩
      rcases ls with _ | ⟨a, b⟩
      · exact absurd (List.length_eq_zero_iff.1 hl.symm) hz
      · exact hlw a (by simp)
  | succ m ih =>
    intro f n zs ls hs t r h hl hlw hhw he
    by_cases hz : zs = []
    · subst hz
      rcases hs with _ | ⟨a, b⟩
      · rw [gth_nil] at he; cases he
      · rw [gth_next] at he; cases he
        exact ⟨hhw _ (by simp), 1, by simp, rfl⟩
    · by_cases h2 : n < 2
      · rw [gth_one hz h2] at he; cases he
        refine ⟨?_, 0, Nat.zero_le _, rfl⟩
        rcases ls with _ | ⟨a, b⟩
        · exact absurd (List.length_eq_zero_iff.1 hl.symm) hz
        · exact hlw a (by simp)
      · rw [gth_two hz (by omega)] at he
        have h3 := hf_lt n (by omega)
        have h4 := hf_pos n
        have hc := cnt_le ((f + hf n : Nat) : Int) zs
        generalize zs.countP (· < ((f + hf n : Nat) : Int)) = C at *
        obtain ⟨a, ha, he⟩ := Option.bind_eq_some_iff.1 he
        obtain ⟨b, hb, he⟩ := Option.bind_eq_some_iff.1 he
        cases he
        obtain ⟨-, j, hj, e⟩ := ih f (hf n) _ _ hs a.1 a.2 (by omega) (by rw [List.length_take, List.length_take, hl]) (fun p hp => hlw p (List.mem_of_mem_take hp)) hhw ha
        obtain ⟨-, k, hk, e2⟩ := ih (f + hf n) (n - hf n) _ _ a.2 b.1 b.2 (by omega) (by rw [List.length_drop, List.length_drop, hl]) (fun p hp => hlw p (List.mem_of_mem_drop hp)) (fun p hp => by rw [e] at hp; exact hhw p (List.mem_of_mem_drop hp)) hb
        refine ⟨nd_len wi hw1 hw32 _ _, j + k, ?_, ?_⟩
        · rw [e, List.length_drop] at hk; omega
        · rw [e2, e, List.drop_drop]
/-- What is told is taken: the hashes for places, with others behind them. -/
theorem gth_mny (wi : Nat) (L : List (List Nat)) (m : Nat) : ∀ f n zs (rest : List (List Nat)), n ≤ m → f + n ≤ L.length → zs.Pairwise (· < ·) → (∀ z ∈ zs, (f : Int) ≤ z ∧ z < ((f + n : Nat) : Int)) → gth wi f n zs (zs.map fun z => L.getD z.toNat []) (mny wi L f n zs ++ rest) = some (mth wi (blk L f n), rest) := by
  induction m with
  | zero =>
    intro f n zs rest h hL hs hb
    have hz : zs = [] := by
      rcases zs with _ | ⟨a, r⟩
      · rfl
      · have := hb a (by simp); omega
    subst hz
    rw [mny_nil]; exact gth_next _ _ _ _ _ _
  | succ m ih =>
    intro f n zs rest h hL hs hb
    by_cases hz : zs = []
    · subst hz; rw [mny_nil]; exact gth_next _ _ _ _ _ _
    · by_cases h2 : n < 2
      · rw [mny_one hz h2, gth_one hz h2]
        rcases zs with _ | ⟨a, r⟩
        · exact absurd rfl hz
        · have h1 := hb a (by simp)
          have hn : n = 1 := by omega
          subst hn
          have ha : a.toNat = f := by omega
          simp only [List.map_cons, List.headD_cons, List.nil_append, ha]
          have hfl : f < L.length := by omega
          rw [blk, List.drop_eq_getElem_cons hfl, List.take_succ_cons, List.take_zero, mth_one]
          rw [List.getD, List.getElem?_eq_getElem hfl]; rfl
      · have h3 := hf_lt n (by omega)
        have h4 := hf_pos n
        rw [mny_two hz (by omega), gth_two hz (by omega)]
        obtain ⟨s1, s2⟩ := count_split ((f + hf n : Nat) : Int) zs hs
        generalize zs.countP (· < ((f + hf n : Nat) : Int)) = C at *
        rw [← List.map_take, ← List.map_drop, List.append_assoc, ih f (hf n) _ _ (by omega) (by omega) (hs.sublist (List.take_sublist _ _)) (fun z hz => ⟨(hb z (List.mem_of_mem_take hz)).1, s1 z hz⟩)]
        rw [Option.bind_some]
        simp only
        rw [ih (f + hf n) (n - hf n) _ _ (by omega) (by omega) (hs.sublist (List.drop_sublist _ _)) (fun z hz => ⟨s2 z hz, by have := (hb z (List.mem_of_mem_drop hz)).2; omega⟩)]
        rw [Option.bind_some]
        simp only
        rw [blk_halves L f n (by omega) hL wi]
/-- Nothing is left, and what comes out is the root. -/
def gEnd (G : Option (List Nat × List (List Nat))) (root : List Nat) : Bool :=
  match G with
  | some (t, []) => decide (t = root)
  | _ => false
/-- Whether CheckMany takes hashes. -/
def chkM (j n : Int) (ls : List (List Nat)) (zs : List Int) (hs : List (List Nat)) (root : List Nat) : Bool :=
  decide (1 ≤ j ∧ j ≤ 32) && (decide (0 ≤ n) && (rsF n 0 zs && (decide (ls.length = zs.length) && (decide ((root.length : Int) = j) && (wdq j ls && (wdq j hs &&
    gEnd (gth j.toNat 0 n.toNat zs ls hs) root))))))
theorem chkM_true {j n : Int} {ls : List (List Nat)} {zs : List Int} {hs : List (List Nat)} {root : List Nat} (h1 : 1 ≤ j) (h2 : j ≤ 32) (h3 : 0 ≤ n) (h4 : rsF n 0 zs = true) (h5 : ls.length = zs.length) (h6 : (root.length : Int) = j) (h7 : wdq j ls = true) (h8 : wdq j hs = true) : chkM j n ls zs hs root = gEnd (gth j.toNat 0 n.toNat zs ls hs) root := by
  rw [chkM, decide_eq_true ⟨h1, h2⟩, decide_eq_true h3, h4, decide_eq_true h5, decide_eq_true h6, h7, h8]
  simp only [Bool.true_and]
theorem chkM_false {j n : Int} {ls : List (List Nat)} {zs : List Int} {hs : List (List Nat)} {root : List Nat} (h : ¬ (1 ≤ j ∧ j ≤ 32 ∧ 0 ≤ n ∧ rsF n 0 zs = true ∧ ls.length = zs.length ∧ (root.length : Int) = j ∧ wdq j ls = true ∧ wdq j hs = true)) : chkM j n ls zs hs root = false := by
  cases hq : chkM j n ls zs hs root with
  | false => rfl
  | true =>
    refine absurd ?_ h
    unfold chkM at hq
    simp only [Bool.and_eq_true, decide_eq_true_eq] at hq
    obtain ⟨⟨a1, a2⟩, a3, a4, a5, a6, a7, a8, -⟩ := hq
    exact ⟨a1, a2, a3, a4, a5, a6, a7, a8⟩
end Go.Proofs.YtocdnomfpgdglabDoor

namespace Go.Proofs.YtocdnomfpgdglabDoor
open Go.RowKit

theorem Pcs.zero {w : World} (a : Addr) (c : Nat) : Pcs w (.slice (some a) 0 c) [] [] := ⟨rfl, .inr (.inl ⟨_, _, rfl, rfl⟩), (fun j v p h => by simp at h), (fun p h => by cases h)⟩
/-- What lies behind the first k. -/
theorem Pcs.rest {w : World} {g o n c : Nat} {vs : List Value} {ps : List (List Nat)} (h : Pcs w (.slice (some ⟨g, o, none⟩) n c) vs ps) (hn : n = ps.length) (k : Nat) (hk : k ≤ n) : Pcs w (.slice (some ⟨g, o + k, none⟩) (n - k) (c - k)) (vs.drop k) (ps.drop k) := by
  by_cases e : k = n
  · subst e
    have h1 : ps.drop k = [] := List.drop_eq_nil_of_le (by omega)
    have h2 : vs.drop k = [] := List.drop_eq_nil_of_le (by rw [h.len]; omega)
    rw [h1, h2, Nat.sub_self]
    exact Pcs.zero _ _
  · exact h.drop k (by omega)
/-- A manyClaim at mb: its width, the hashes not used yet; W0: the world in which these lay already. -/
structure McAt (W0 w : World) (mb wi : Nat) (hs : List (List Nat)) : Prop where
  fr : Fr (fun _ => False) W0 w
  lo : W0.heap.size ≤ mb
  c0 : w.cell? ⟨mb, 0, none⟩ = some (.int .i64 wi)
  fz : w.frozen? ⟨mb, 1, none⟩ = false
  c1 : ∃ x us, w.cell? ⟨mb, 1, none⟩ = some x ∧ Pcs W0 x us hs ∧ Cp x
theorem McAt.fr0 {W0 w w' : World} {mb wi : Nat} {hs : List (List Nat)} (h : McAt W0 w mb wi hs) (hf : Fr (fun _ => False) w w') : McAt W0 w' mb wi hs := by
  obtain ⟨x, us, c1, hp, hc⟩ := h.c1
  have hl := lt_of_cell h.c0
  exact ⟨h.fr.trans hf (fun _ _ h => h), h.lo, (hf.cell hl (fun h => h)).trans h.c0, (hf.frozen (p := ⟨mb, 1, none⟩) hl (fun h => h)).trans h.fz, x, us, (hf.cell (p := ⟨mb, 1, none⟩) hl (fun h => h)).trans c1, hp, hc⟩
/-- The hashes move on. -/
theorem McAt.move {W0 w : World} {mb wi : Nat} {hs rs : List (List Nat)} (h : McAt W0 w mb wi hs) (y : Value) (us : List Value) (hp : Pcs W0 y us rs) (hc : Cp y) : McAt W0 (w.setCell ⟨mb, 1, none⟩ y) mb wi rs ∧ Fr (fun g => g = mb) w (w.setCell ⟨mb, 1, none⟩ y) := by
  obtain ⟨x, _, c1, _, _⟩ := h.c1
  refine ⟨⟨h.fr.setCell (.inr h.lo) _, h.lo, ?_, by rw [World.frozen?_setCell]; exact h.fz, y, us, World.cell?_setCell_same' _ _ _ (by rw [c1]; rfl), hp, hc⟩, (Fr.refl (fun g => g = mb) w).setCell (p := ⟨mb, 1, none⟩) (.inl rfl) y⟩
  rw [World.cell?_setCell_other _ _ _ _ (by intro e; injection e with e1 e2; omega)]
  exact h.c0
set_option maxRecDepth 100000 in
set_option maxHeartbeats 1000000 in
theorem mnext_no (W0 w : World) (mb wi : Nat) (h : McAt W0 w mb wi []) : Calls Tryd.prog 99 #[.pointer (some ⟨mb, 0, none⟩)] w fun e w' => e = .returned (.slice none 0 0) ∧ Fr (fun _ => False) w w' := by
  obtain ⟨x, us, c1, hp, hc⟩ := h.c1
  obtain ⟨xo, xc, rfl⟩ := hp.form
  simp only [List.length_nil] at c1
  clear hp hc h
  go_enter Tryd.func99, Tryd.ntmps99
  go_wp2_with fail
  go_ret
  exact ⟨rfl, Fr.refl _ _⟩
set_option maxRecDepth 100000 in
set_option maxHeartbeats 1000000 in
theorem mnext_yes (W0 w : World) (mb wi : Nat) (p : List Nat) (r : List (List Nat)) (h : McAt W0 w mb wi (p :: r)) : Calls Tryd.prog 99 #[.pointer (some ⟨mb, 0, none⟩)] w fun e w' => ∃ vo vc, e = .returned (.slice vo p.length vc) ∧ Sl W0 (.slice vo p.length vc) p ∧ McAt W0 w' mb wi r ∧ Fr (fun g => g = mb) w w' := by
  obtain ⟨x, us, c1, hp, hc⟩ := h.c1
  obtain ⟨xo, xc, rfl⟩ := hp.form
  obtain ⟨g, o, vo, vc, rfl, hcell, hsl⟩ := hp.nth h.fr 0 (by simp)
  obtain ⟨g', o', vo', vc', e', hcell', hsl'⟩ := hp.nth (Fr.refl _ W0) 0 (by simp)
  cases e'
  have ev : Value.slice vo' p.length vc' = .slice vo p.length vc := by
    have h1 := (h.fr.cell (lt_of_cell hcell') (fun h => h)).trans hcell'
    have h2 := h1.symm.trans hcell
    simpa using h2
  simp only [List.getElem_cons_zero, Nat.add_zero] at hcell hsl hsl' hcell'
  have hcap : r.length + 1 ≤ xc := hc _ _ _ rfl
  have hz := h.fz
  have q0 : (((r.length : Int) + 1) == 0) = false := beq_false_of_ne (by omega)
  have q1 : ¬ (r.length : Int) + 1 = 0 := by omega
  have q2 : (0 : Int) < (r.length : Int) + 1 := by omega
  have q3 : (1 : Int) ≤ (r.length : Int) + 1 := by omega
  have e1 : (r.length : Int) + 1 - 1 = (r.length : Int) := by omega
  rw [List.length_cons] at c1
  have hS : Sl W0 (.slice vo p.length vc) p := by rw [← ev]; exact hsl'
  by_cases h1 : xc = 1
  · have hr0 : r = [] := List.length_eq_zero_iff.1 (by omega)
    subst h1 hr0
    have HM := hide (And.intro hS (h.move (.slice (some ⟨g, o, none⟩) 0 0) [] (Pcs.zero _ _) (fun _ _ _ e => by cases e; exact Nat.le_refl _)))
    simp only [List.length_nil, Nat.zero_add] at *
    clear hS h hp hc hsl hsl' hcell' ev
    generalize p.length = PL at *
    go_enter Tryd.func99, Tryd.ntmps99
    go_wp2_with fail
    go_ret
    exact ⟨vo, vc, rfl, (unhide HM).1, (unhide HM).2.1, (unhide HM).2.2⟩
  · have hP := hp.rest rfl 1 (by simp)
    simp only [List.drop_succ_cons, List.drop_zero, List.length_cons, Nat.add_sub_cancel] at hP
    have HM := hide (And.intro hS (h.move _ _ hP (fun _ _ _ e => by cases e; omega)))
    have q4 : ¬ xc = 1 := h1
    have q5 : ((xc : Int) - 1).toNat = xc - 1 := by omega
    clear hS h hp hc hsl hsl' hcell' ev hP
    generalize p.length = PL at *
    generalize r.length = RL at *
    go_enter Tryd.func99, Tryd.ntmps99
    go_wp2_with fail
    go_ret
    exact ⟨vo, vc, rfl, (unhide HM).1, (unhide HM).2.1, (unhide HM).2.2⟩
end Go.Proofs.YtocdnomfpgdglabDoor

namespace Go.Proofs.YtocdnomfpgdglabDoor
open Go.RowKit

theorem rQ_wid (wi : Nat) (wh : Bool) (f n M : Nat) (ps : List (List Nat)) (hpw : ∀ p ∈ ps, p.length = wi) : ∀ p ∈ rQ wh f n M ps, p.length = wi := by
  unfold rQ
  by_cases hu : useO wh f n M = true
  · rw [if_pos hu]; exact hpw
  · rw [if_neg hu]; exact fun p hp => hpw p (List.mem_of_mem_tail hp)
theorem useO_zero (n m : Nat) : useO true 0 n m = true ↔ (endF 0 n m).1 = 0 := by
  unfold useO
  simp
/-- The claim that a proof makes, told. -/
theorem ofProof_Q (wi m n : Nat) (h0 : 0 < m) (hm : m ≤ n) (hn : n < 9223372036854775808) (ov x : Value) (old : List Nat) (vs : List Value) (ps : List (List Nat)) (w : World) (ho : Sl w ov old) (hp : Pcs w x vs ps) (hcx : Cp x) (h : (endF 0 n m).1 = 0 ∨ ps ≠ []) :
    ∃ (ro : Option Addr) (rn rc : Nat) (yo : Option Addr) (yc : Nat) (us : List Value), Sl w (.slice ro rn rc) (rR true old 0 n m ps) ∧ Pcs w (.slice yo (rQ true 0 n m ps).length yc) us (rQ true 0 n m ps) ∧ Cp (.slice yo (rQ true 0 n m ps).length yc) ∧
      ∀ w', Fr (fun _ => False) w w' → Calls Tryd.prog 47 #[.int .i64 wi, .int .i64 m, .int .i64 n, ov, x] w' fun e w'' => e = .returned (.tuple #[cv wi (endF 0 n m).1 (endF 0 n m).2 (.slice ro rn rc) (.slice yo (rQ true 0 n m ps).length yc), .bool true]) ∧ Fr (fun _ => False) w' w'' := by
  obtain ⟨oo, oc, rfl⟩ := ho.form
  obtain ⟨xo, xc, rfl⟩ := hp.form
  by_cases he : (endF 0 n m).1 = 0
  · have hu := (useO_zero n m).2 he
    have eR : rR true old 0 n m ps = old := by rw [rR, if_pos hu]
    have eQ : rQ true 0 n m ps = ps := by rw [rQ, if_pos hu]
    rw [eR, eQ]
    exact ⟨oo, old.length, oc, xo, xc, vs, ho, hp, hcx, fun w' _ => ofProof_l wi m n h0 hm hn he oo _ oc xo _ xc w'⟩
  · have hu : ¬ useO true 0 n m = true := fun h => he ((useO_zero n m).1 h)
    have eR : rR true old 0 n m ps = ps.headD [] := by rw [rR, if_neg hu]
    have eQ : rQ true 0 n m ps = ps.tail := by rw [rQ, if_neg hu]
    rw [eR, eQ]
    have hne := h.resolve_left he
    match ps, hne with
    | p :: q, _ =>
      simp only [List.headD_cons, List.tail_cons]
      obtain ⟨g, o, vo, vc, rfl, hc, hs⟩ := hp.nth (Fr.refl _ _) 0 (by simp)
      have hcap : q.length + 1 ≤ xc := hcx _ _ _ rfl
      simp only [List.getElem_cons_zero, Nat.add_zero] at hc hs
      by_cases h1 : xc = 1
      · have hq : q = [] := List.length_eq_zero_iff.1 (by omega)
        subst h1 hq
        refine ⟨vo, p.length, vc, some ⟨g, o, none⟩, 0, [], hs, Pcs.zero _ _, (fun _ _ _ e => by cases e; exact Nat.le_refl _), fun w' hf => ?_⟩
        exact ofProof_r1 wi m n h0 hm hn he oo _ oc g o vo _ vc w' ((hf.cell (lt_of_cell hc) (fun h => h)).trans hc)
      · have hP := hp.rest (by simp) 1 (by simp)
        simp only [List.drop_succ_cons, List.drop_zero, List.length_cons, Nat.add_sub_cancel] at hP
        refine ⟨vo, p.length, vc, some ⟨g, o + 1, none⟩, xc - 1, _, hs, hP, (fun _ _ _ e => by cases e; omega), fun w' hf => ?_⟩
        exact ofProof_r wi m n h0 hm hn he oo _ oc g o q.length xc vo _ vc w' ((hf.cell (lt_of_cell hc) (fun h => h)).trans hc) hcap h1
/-- What CollideProof tells. -/
def cqR (j : Int) (es : List (List Nat)) (m : Int) (old : List Nat) (ps : List (List Nat)) : Option (List Nat × List Nat) :=
  if chkQ j m es.length old (mr j es) ps = true ∧ ¬ old = mth j ((es.map (lf j)).take m.toNat) then cld j.toNat (es.map (lf j)) (rR true old 0 es.length m.toNat ps) 0 es.length (endF 0 es.length m.toNat).1 (endF 0 es.length m.toNat).2 (rQ true 0 es.length m.toNat ps) else none
theorem chkQ_says {j m n : Int} {old root : List Nat} {ps : List (List Nat)} (h : chkQ j m n old root ps = true) : (1 ≤ j ∧ j ≤ 32) ∧ 0 ≤ m ∧ m ≤ n ∧ (old.length : Int) = j ∧ (root.length : Int) = j ∧ (∀ p ∈ ps, (p.length : Int) = j) ∧ (m = 0 → old = sm j []) ∧ (¬ m = 0 → prfQ j.toNat n.toNat m.toNat old root ps = true) := by
  unfold chkQ at h
  simp only [Bool.and_eq_true, decide_eq_true_eq] at h
  obtain ⟨h1, h2, h3, h4, h5, h6⟩ := h
  refine ⟨h1, h2, h3, wdq_true h4 old (by simp), wdq_true h4 root (by simp), wdq_true h5, fun h0 => ?_, fun h0 => ?_⟩
  · rw [if_pos h0] at h6
    simp only [Bool.and_eq_true, decide_eq_true_eq] at h6
    exact h6.2.1
  · rw [if_neg h0] at h6
    exact h6
/-- Where a proof is taken for another older root, it is of some, not all, and two texts come out. -/
theorem cqR_some (wi M : Nat) (es : List (List Nat)) (old : List Nat) (ps : List (List Nat)) (h : chkQ wi M es.length old (mth wi (es.map (lf wi))) ps = true) (hne : ¬ old = mth wi ((es.map (lf wi)).take M)) :
    0 < M ∧ M < es.length ∧ rOk true 0 es.length M ps ∧ ∃ a b, cld wi (es.map (lf wi)) (rR true old 0 es.length M ps) 0 es.length (endF 0 es.length M).1 (endF 0 es.length M).2 (rQ true 0 es.length M ps) = some (a, b) ∧ a ≠ b ∧ sm wi a = sm wi b := by
  obtain ⟨h1, h2, h3, h4, h5, h6, h7, h8⟩ := chkQ_says h
  simp only [Int.toNat_natCast] at h8
  have hll : (es.map (lf (wi : Int))).length = es.length := List.length_map _
  have hb : blk (es.map (lf (wi : Int))) 0 es.length = es.map (lf wi) := by rw [← hll]; exact blk_all _
  have hM0 : 0 < M := by
    rcases Nat.eq_zero_or_pos M with h0 | h0
    · exfalso
      subst h0
      apply hne
      rw [List.take_zero, mth_nil]
      exact h7 rfl
    · exact h0
  have hq := h8 (by omega)
  have hMn : M < es.length := by
    by_cases hE : M = es.length
    · exfalso
      apply hne
      subst hE
      rw [prfQ_same] at hq
      simp only [Bool.and_eq_true, decide_eq_true_eq] at hq
      rw [hq.2, List.take_of_length_le (by omega)]
    · omega
  obtain ⟨q1, q2, q3⟩ := (prfQ_r wi es.length M old _ ps).1 hq
  obtain ⟨e1, e2, e3, e4, -⟩ := endF_ok _ 0 es.length M (Nat.le_refl _) hM0 (by omega)
  have hpw : ∀ p ∈ ps, p.length = wi := fun p hp => by have := h6 p hp; omega
  refine ⟨hM0, hMn, q1, ?_⟩
  rcases cld_ok wi (by omega) (by omega) (es.map (lf wi)) (map_lf_len wi (by omega) (by omega) es) (rR true old 0 es.length M ps) (rR_wid wi true old _ _ _ _ q1 (by omega) hpw) es.length 0 es.length _ _ (rQ true 0 es.length M ps) (Nat.le_refl _) (by omega) e4 q1.2 (rQ_wid wi true _ _ _ _ hpw) (by rw [hb]; exact q3) with ⟨-, k2, k3⟩ | k
  · exfalso
    apply hne
    have hob := olderv_bes wi (es.map (lf wi)) es.length 0 es.length M (Nat.le_refl _) (by omega) hM0 (by omega)
    rw [← k2, ← k3, q2, Nat.sub_zero, blk, List.drop_zero] at hob
    exact hob
  · exact k
end Go.Proofs.YtocdnomfpgdglabDoor

namespace Go.Proofs.YtocdnomfpgdglabDoor
open Go.RowKit

theorem cqR_false {j : Int} {es : List (List Nat)} {m : Int} {old : List Nat} {ps : List (List Nat)} (h : chkQ j m es.length old (mr j es) ps = false) : cqR j es m old ps = none := by
  unfold cqR
  rw [h, if_neg (by simp)]
set_option maxRecDepth 100000 in
set_option maxHeartbeats 2000000 in
/-- merkle.CollideProof: no width. -/
theorem mcproof_out (j i : Int) (hj : j < 1 ∨ 32 < j) (x : Value) (us : List Value) (es : List (List Nat)) (lv : Value) (leaf : List Nat) (pv' : Value) (vs : List Value) (ps : List (List Nat)) (w : World) (hg : GS w) (hp : Pcs w x us es) (hn : es.length ≤ 8000000) (hl : Sl w lv leaf) (hP : Pcs w pv' vs ps) (hC : Cp pv') (hps : ps.length ≤ 8000000) :
    Calls Tryd.prog 14 #[.int .i64 j, x, .int .i64 i, lv, pv'] w fun e w' => e = .returned (.tuple #[.slice none 0 0, .slice none 0 0, .bool false]) ∧ Fr (fun _ => False) w w' := by
  have hgr := grown_out j hj x us es w hp hn
  have htr : ∀ (w' : World) (tb base : Nat) xo cp vs rs, TrAt w' base tb j es.length xo cp vs rs → Calls Tryd.prog 32 #[.pointer (some ⟨tb, 0, none⟩), .int .i64 es.length] w' fun e w'' => e = .returned (.tuple #[.slice none 0 0, .int .i64 1]) ∧ w'' = w' := fun w' tb base xo cp vs rs hT =>
    troot_no tb es.length j es.length w' hT.cells.1 hT.cells.2.1 (by omega)
  have hck := fun w' (hf' : Fr (fun _ => False) w w') => checkProof_any j i es.length lv (.slice none 0 0) pv' leaf [] vs ps w' (hg.fr0 hf') (hl.fr0 hf') (sl_nil _) (hP.fr0 hf') hC (by omega) (by omega)
  have hB : chkQ j i es.length leaf [] ps = false := by rw [chkQ, decide_eq_false (by omega)]; rfl
  rw [hB] at hck
  obtain ⟨xo, xc, rfl⟩ := hp.form
  obtain ⟨lo, lc, rfl⟩ := hl.form
  obtain ⟨po, pc, rfl⟩ := hP.form
  have HG := hide (And.intro hgr (And.intro htr hck))
  clear hgr htr hck hp hl hP hC hg
  generalize es.length = N at *
  generalize leaf.length = LN at *
  generalize ps.length = PN at *
  go_enter Tryd.func14, Tryd.ntmps14
  go_wp2_with fail
  refine (unhide HG).1.mono ?_
  rintro e w1 ⟨rfl, hT, hF⟩
  have H1 := hide (And.intro hT hF)
  clear hF hT
  generalize w.heap.size = TB at *
  go_wp2_with fail
  refine ((unhide HG).2.1 w1 TB _ _ _ _ _ (unhide H1).1).mono ?_
  rintro e w2 ⟨rfl, rfl⟩
  go_wp2_with fail
  refine ((unhide HG).2.2 _ (unhide H1).2).mono ?_
  rintro e w3 ⟨rfl, hF3⟩
  have H3 := hide ((unhide H1).2.trans hF3 (fun _ _ h => h))
  clear hF3
  go_wp2_with fail
  go_returns
  exact ⟨rfl, unhide H3⟩
set_option maxRecDepth 100000 in
set_option maxHeartbeats 4000000 in
/-- merkle.CollideProof. -/
theorem mcproof_in (wi : Nat) (hw1 : 1 ≤ wi) (hw32 : wi ≤ 32) (i : Int) (x : Value) (us : List Value) (es : List (List Nat)) (lv : Value) (old : List Nat) (pv' : Value) (vs : List Value) (ps : List (List Nat)) (w : World) (hg : GS w) (ht : GT w) (hp : Pcs w x us es) (hB : ∀ e ∈ es, e.length ≤ 16000000) (hn : es.length ≤ 8000000) (hl : Sl w lv old) (hP : Pcs w pv' vs ps) (hC : Cp pv') (hps : ps.length ≤ 8000000) :
    Calls Tryd.prog 14 #[.int .i64 wi, x, .int .i64 i, lv, pv'] w fun e w' => Told w' e (cqR wi es i old ps) ∧ Fr (fun _ => False) w w' := by
  have hll : (es.map (lf (wi : Int))).length = es.length := List.length_map _
  have hbk : blk (es.map (lf (wi : Int))) 0 es.length = es.map (lf wi) := by rw [← hll]; exact blk_all _
  have hgr := grown_T wi hw1 hw32 x us es w hg ht hp hB hn
  have htr := fun tb w' (hT : Tk w' tb wi (es.map (lf wi))) => troot_S tb wi hw1 hw32 (es.map (lf wi)) es.length w' hT (by rw [hll]; exact Nat.le_refl _)
  rw [hbk] at htr
  have hck := fun w' rv (hf' : Fr (fun _ => False) w w') (hr : Sl w' rv (mth wi (es.map (lf wi)))) => checkProof_any wi i es.length lv rv pv' old _ vs ps w' (hg.fr0 hf') (hl.fr0 hf') hr (hP.fr0 hf') hC (by omega) (by omega)
  have hmr : mr wi es = mth wi (es.map (lf wi)) := by unfold mr; rw [if_pos (by omega)]
  cases hq : chkQ wi i es.length old (mth wi (es.map (lf wi))) ps with
  | false =>
    rw [cqR_false (by rw [hmr]; exact hq)]
    rw [hq] at hck
    obtain ⟨xo, xc, rfl⟩ := hp.form
    obtain ⟨lo, lc, rfl⟩ := hl.form
    obtain ⟨po, pc, rfl⟩ := hP.form
    have HG := hide (And.intro hgr (And.intro htr hck))
    clear hgr htr hck hp hl hP hC hg ht hB hq hmr hbk hll
    generalize es.length = N at *
    generalize old.length = LN at *
    generalize ps.length = PN at *
    go_enter Tryd.func14, Tryd.ntmps14
    go_wp2_with fail
    refine (unhide HG).1.mono ?_
    rintro e w1 ⟨tb, rfl, hT, hF⟩
    have H1 := hide (And.intro hT hF)
    clear hF hT
    go_wp2_with fail
    refine ((unhide HG).2.1 tb w1 (unhide H1).1).mono ?_
    rintro e w2 ⟨ro, rc, rfl, hs2, hF2⟩
    have H2 := hide (And.intro hs2 ((unhide H1).2.trans hF2 (fun _ _ h => h)))
    clear hs2 hF2
    go_wp2_with fail
    refine ((unhide HG).2.2 _ _ (unhide H2).2 (unhide H2).1).mono ?_
    rintro e w3 ⟨rfl, hF3⟩
    have H3 := hide ((unhide H2).2.trans hF3 (fun _ _ h => h))
    clear hF3
    go_wp2_with fail
    go_returns
    exact ⟨⟨(fun a b h => by cases h), (fun _ => rfl)⟩, unhide H3⟩
  | true =>
    rw [hq] at hck
    obtain ⟨h1, h2, h3, h4, h5, h6, h7, h8⟩ := chkQ_says hq
    obtain ⟨M, rfl⟩ : ∃ k : Nat, i = (k : Int) := ⟨i.toNat, by omega⟩
    have hM : M ≤ es.length := by omega
    have hbM : blk (es.map (lf (wi : Int))) 0 M = (es.map (lf wi)).take M := by rw [blk, List.drop_zero]
    have htm := fun tb w' (hT : Tk w' tb wi (es.map (lf wi))) => troot_S tb wi hw1 hw32 (es.map (lf wi)) M w' hT (by rw [hll]; exact hM)
    rw [hbM] at htm
    have hU0 : old = mth wi ((es.map (lf wi)).take M) → cqR wi es M old ps = none := fun h => by
      unfold cqR
      rw [Int.toNat_natCast, if_neg (fun k => k.2 h)]
    have hU1 : ¬ old = mth wi ((es.map (lf wi)).take M) → cqR wi es M old ps = cld wi (es.map (lf wi)) (rR true old 0 es.length M ps) 0 es.length (endF 0 es.length M).1 (endF 0 es.length M).2 (rQ true 0 es.length M ps) := fun h => by
      unfold cqR
      rw [hmr, Int.toNat_natCast, if_pos ⟨hq, h⟩]; rfl
    generalize cqR wi es M old ps = U at *
    have hpw : ∀ p ∈ ps, p.length = wi := fun p hp => by have := h6 p hp; omega
    have hcol : ¬ old = mth wi ((es.map (lf wi)).take M) → ∃ a b, U = some (a, b) ∧ ∃ (ro : Option Addr) (rn rc : Nat) (yo : Option Addr) (yn yc : Nat), (∀ w', Fr (fun _ => False) w w' → Calls Tryd.prog 47 #[.int .i64 wi, .int .i64 M, .int .i64 es.length, lv, pv'] w' fun e w'' => e = .returned (.tuple #[cv wi (endF 0 es.length M).1 (endF 0 es.length M).2 (.slice ro rn rc) (.slice yo yn yc), .bool true]) ∧ Fr (fun _ => False) w' w'') ∧ ∀ tb w', Fr (fun _ => False) w w' → Tk w' tb wi (es.map (lf wi)) → Calls Tryd.prog 37 #[pv (.pointer (some ⟨tb, 0, none⟩)) 0 es.length, cv wi (endF 0 es.length M).1 (endF 0 es.length M).2 (.slice ro rn rc) (.slice yo yn yc)] w' fun e w'' => Two w'' e a b ∧ Fr (fun _ => False) w' w'' := fun hne => by
      obtain ⟨k1, k2, k3, a, b, hab, -, -⟩ := cqR_some wi M es old ps hq hne
      obtain ⟨e1, e2, e3, e4, -⟩ := endF_ok _ 0 es.length M (Nat.le_refl _) k1 (by omega)
      obtain ⟨ro, rn, rc, yo, yc, us', s1, s2, s3, s4⟩ := ofProof_Q wi M es.length k1 (by omega) (by omega) lv pv' old vs ps w hl hP hC (k3.1.imp (fun h => (useO_zero _ _).1 h) id)
      refine ⟨a, b, by rw [hU1 hne]; exact hab, ro, rn, rc, yo, _, yc, s4, fun tb w' hf' hT => ?_⟩
      exact collide_any tb wi hw1 hw32 (es.map (lf wi)) ro rn rc _ (rR_wid wi true old _ _ _ _ k3 (by omega) hpw) es.length 0 es.length _ _ _ us' _ w' a b (Nat.le_refl _) hT (al_zero _) (by omega) e4 (s1.fr0 hf') (s2.fr0 hf') s3 k3.2 (rQ_wid wi true _ _ _ _ hpw) hab
    obtain ⟨xo, xc, rfl⟩ := hp.form
    obtain ⟨lo, lc, rfl⟩ := hl.form
    obtain ⟨po, pc, rfl⟩ := hP.form
    generalize mth wi ((es.map (lf wi)).take M) = OM at *
    generalize (endF 0 es.length M).1 = E1 at *
    generalize (endF 0 es.length M).2 = E2 at *
    have HG := hide (And.intro hgr (And.intro htr (And.intro hck (And.intro htm (And.intro hcol (And.intro hl hU0))))))
    clear hgr htr hck htm hcol hl hU0 hU1 hp hP hC hg ht hB hq hmr hbk hll hbM h1 h2 h3 h4 h5 h6 h7 h8 hpw
    generalize hNN : es.length = N at *
    generalize old.length = LN at *
    generalize ps.length = PN at *
    go_enter Tryd.func14, Tryd.ntmps14
    go_wp2_with fail
    refine (unhide HG).1.mono ?_
    rintro e w1 ⟨tb, rfl, hT, hF⟩
    have H1 := hide (And.intro hT hF)
    clear hF hT
    go_wp2_with fail
    refine ((unhide HG).2.1 tb w1 (unhide H1).1).mono ?_
    rintro e w2 ⟨ro, rc, rfl, hs2, hF2⟩
    have H2 := hide (And.intro hs2 (And.intro ((unhide H1).2.trans hF2 (fun _ _ h => h)) hF2))
    clear hs2 hF2
    go_wp2_with fail
    refine ((unhide HG).2.2.1 _ _ (unhide H2).2.1 (unhide H2).1).mono ?_
    rintro e w3 ⟨rfl, hF3⟩
    have H3 := hide (And.intro ((unhide H2).2.1.trans hF3 (fun _ _ h => h)) ((unhide H1).1.fr0 ((unhide H2).2.2.trans hF3 (fun _ _ h => h))))
    clear hF3
    go_wp2_with fail
    refine ((unhide HG).2.2.2.1 tb w3 (unhide H3).2).mono ?_
    rintro e w4 ⟨mo, mc, rfl, hs4, hF4⟩
    have H4 := hide (And.intro hs4 (And.intro ((unhide H3).1.trans hF4 (fun _ _ h => h)) ((unhide H3).2.fr0 hF4)))
    clear hs4 hF4
    go_wp2_with fail
    refine (beq_sl _ _ old OM w4 ((unhide HG).2.2.2.2.2.1.fr0 (unhide H4).2.1) (unhide H4).1).mono ?_
    rintro e w5 ⟨rfl, rfl⟩
    by_cases hE : old = OM
    · rw [decide_eq_true hE]
      have HE := hide hE
      clear hE
      go_wp2_with fail
      go_returns
      refine ⟨⟨(fun a b h => ?_), (fun _ => rfl)⟩, (unhide H4).2.1⟩
      rw [(unhide HG).2.2.2.2.2.2 (unhide HE)] at h
      cases h
    · rw [decide_eq_false hE]
      obtain ⟨a, b, hab, qo, qn, qc, yo, yn, yc, hof, hcl⟩ := (unhide HG).2.2.2.2.1 hE
      have HE := hide (And.intro hab (And.intro hof hcl))
      clear hE hab hof hcl
      unfold cv pv at *
      go_wp2_with fail
      refine ((unhide HE).2.1 _ (unhide H4).2.1).mono ?_
      rintro e w6 ⟨rfl, hF6⟩
      have H6 := hide (And.intro ((unhide H4).2.1.trans hF6 (fun _ _ h => h)) ((unhide H4).2.2.fr0 hF6))
      clear hF6
      go_wp2_with fail
      obtain ⟨W2, hW2⟩ : ∃ W2, w6.alloc (.cells #[.int .i64 wi, .int .i64 E1, .int .i64 E2, .slice qo qn qc, .slice yo yn yc] 67) = W2 := ⟨_, rfl⟩
      try rw [hW2]
      obtain ⟨⟨c0, c1, c2, c3, c4⟩, hF2⟩ := box5 w6 _ _ _ _ _ _ W2 hW2
      have hS : ∀ w', Fr (fun _ => False) W2 w' → w'.cell? ⟨w6.heap.size, 0, none⟩ = some (.int .i64 wi) ∧ w'.cell? ⟨w6.heap.size, 1, none⟩ = some (.int .i64 E1) ∧ w'.cell? ⟨w6.heap.size, 2, none⟩ = some (.int .i64 E2) ∧ w'.cell? ⟨w6.heap.size, 3, none⟩ = some (.slice qo qn qc) ∧ w'.cell? ⟨w6.heap.size, 4, none⟩ = some (.slice yo yn yc) := fun w' hf => by
        have k : ∀ c j v, W2.cell? ⟨c, j, none⟩ = some v → w'.cell? ⟨c, j, none⟩ = some v := fun c j v h => (hf.cell (p := ⟨c, j, none⟩) (lt_of_cell h) (fun h => h)).trans h
        exact ⟨k _ _ _ c0, k _ _ _ c1, k _ _ _ c2, k _ _ _ c3, k _ _ _ c4⟩
      have HS := hide hS
      have H7 := hide (And.intro ((unhide H6).1.trans hF2 (fun _ _ h => h)) ((unhide H6).2.fr0 hF2))
      clear hF2 hS hW2 c0 c1 c2 c3 c4
      generalize w6.heap.size = Y at *
      have T1 : True := trivial
      go_region_held3 (fun w' => w'.cell? ⟨Y, 0, none⟩ = some (.int .i64 wi) ∧ w'.cell? ⟨Y, 1, none⟩ = some (.int .i64 E1) ∧ w'.cell? ⟨Y, 2, none⟩ = some (.int .i64 E2) ∧ w'.cell? ⟨Y, 3, none⟩ = some (.slice qo qn qc) ∧ w'.cell? ⟨Y, 4, none⟩ = some (.slice yo yn yc))
        (first | assumption | exact (unhide HS) _ (Fr.refl _ _).drew | exact (unhide HS) _ fB | exact (unhide HS) _ fA)
        (first
          | (go_at_call 36; clear T1; refine (first_any (some ⟨tb, 0, none⟩) N _).mono ?_; unfold pv; rintro e wA ⟨rfl, hA⟩; have fA : Fr (fun _ => False) W2 wA := (Fr.refl _ _).drew.trans hA (fun _ _ h => h))
          | (go_at_call 37; refine ((unhide HE).2.2 tb _ ((unhide H7).1.trans fA (fun _ _ h => h)) ((unhide H7).2.fr0 fA)).mono ?_; rintro e wB ⟨⟨ao, ac, bo, bc, rfl, k1, k2⟩, hB⟩; have fB : Fr (fun _ => False) W2 wB := fA.trans hB (fun _ _ h => h)))
      have H8 := hide (And.intro k1 (And.intro k2 ((unhide H7).1.trans fB (fun _ _ h => h))))
      clear k1 k2 fA fB hA hB
      generalize hAL : a.length = AL at *
      generalize hBL : b.length = BL at *
      go_wp2_with fail
      go_returns
      refine ⟨⟨(fun a' b' h => ?_), (fun h => ?_)⟩, (unhide H8).2.2⟩
      · rw [(unhide HE).1] at h
        cases h
        rw [hAL, hBL]
        exact ⟨ao, ac, bo, bc, rfl, (unhide H8).1, (unhide H8).2.1⟩
      · rw [(unhide HE).1] at h
        cases h
end Go.Proofs.YtocdnomfpgdglabDoor

namespace Go.Proofs.YtocdnomfpgdglabDoor
open Go.RowKit

set_option maxRecDepth 100000 in
set_option maxHeartbeats 2000000 in
/-- The document's CheckProof of no entries. -/
theorem gcp_zero (wi N : Nat) (hw1 : 1 ≤ wi) (hw32 : wi ≤ 32) (oo : Option Addr) (oc : Nat) (rr : Option Addr) (rc : Nat) (xo : Option Addr) (PL xc : Nat) (old root : List Nat) (w : World) (hg : GR w) (ho : Sl w (.slice oo wi oc) old) (hr : Sl w (.slice rr wi rc) root) (hol : old.length = wi) (hrl : root.length = wi)
    (hwd : Calls Tryd.prog 81 #[.int .i64 wi, .slice xo PL xc] w fun e w' => e = .returned (.bool true) ∧ w' = w) :
    Calls Tryd.prog 48 #[.int .i64 wi, .int .i64 0, .int .i64 N, .slice oo wi oc, .slice rr wi rc, .slice xo PL xc] w fun e w' => e = .returned (.bool (decide (PL = 0) && (decide (old = sm wi []) && (decide (0 < N) || decide (root = sm wi []))))) ∧ Fr (fun _ => False) w w' := by
  have hsum : Calls Tryd.prog 13 #[.int .i64 wi, .slice none 0 0] w fun e w' => ∃ yo yc, e = .returned (.slice yo (sm wi []).length yc) ∧ Sl w' (.slice yo (sm wi []).length yc) (sm wi []) ∧ Fr (fun _ => False) w w' := by
    refine (gsum_T wi _ [] w hg (.inl ⟨rfl, rfl⟩) (fun _ h => by cases h) (by simp)).mono ?_
    rintro e w' ⟨yo, yc, rfl, hO⟩
    exact ⟨yo, yc, rfl, hO.sl (sm_lt _ _), hO.fr⟩
  rw [sm_wid wi hw1 hw32] at hsum
  have h1' : 1 ≤ (wi : Int) ∧ (wi : Int) ≤ 32 := by omega
  have HM := hide h1'
  have hN : ¬ (N : Int) < 0 := by omega
  generalize sm wi [] = Z at *
  obtain ⟨B1, hB1⟩ : ∃ B, decide (old = Z) = B := ⟨_, rfl⟩
  obtain ⟨B2, hB2⟩ : ∃ B, decide (root = Z) = B := ⟨_, rfl⟩
  rw [hB1, hB2]
  have HC := hide (And.intro hsum (And.intro hwd (And.intro ho (And.intro hr (And.intro hB1 (And.intro hB2 (And.intro hol hrl)))))))
  clear hsum hwd ho hr hB1 hB2 hol hrl hg hw1 hw32 h1'
  have q0 : ∀ b : Bool, (b && false) = false := Bool.and_false
  go_enter Tryd.func48, Tryd.ntmps48
  go_wp2_with fail
  refine (may_yes wi _ (unhide HM).1 (unhide HM).2).mono ?_
  rintro e' w0 ⟨rfl, rfl⟩
  go_wp2_with fail
  refine (unhide HC).2.1.mono ?_
  rintro e' w1 ⟨rfl, rfl⟩
  go_wp2_with fail
  refine (unhide HC).1.mono ?_
  rintro e' w2 ⟨yo, yc, rfl, hS, hF⟩
  have H2 := hide (And.intro hS hF)
  clear hS hF
  by_cases hP : PL = 0
  · subst hP
    go_wp2_with fail
    refine (gsame_D ((unhide HC).2.2.1.fr0 (unhide H2).2) (unhide H2).1 (by have h1 := (unhide HC).2.2.2.2.2.2.1; have h2 := (unhide HM).2; omega)).mono ?_
    rintro e' w3 ⟨rfl, hF⟩
    rw [(unhide HC).2.2.2.2.1]
    have H3 := hide (And.intro hF ((unhide H2).2.trans hF (fun _ _ h => h)))
    clear hF
    cases B1 with
    | false =>
      go_wp2_with fail
      go_ret
      exact ⟨rfl, (unhide H3).2⟩
    | true =>
      by_cases hNp : 0 < N
      · have hNp' : 0 < (N : Int) := by omega
        go_wp2_with fail
        go_ret
        exact ⟨by simp, (unhide H3).2⟩
      · have hN0 : N = 0 := by omega
        subst hN0
        go_wp2_with fail
        refine (gsame_D ((unhide HC).2.2.2.1.fr0 (unhide H3).2) ((unhide H2).1.fr0 (unhide H3).1) (by have h1 := (unhide HC).2.2.2.2.2.2.2; have h2 := (unhide HM).2; omega)).mono ?_
        rintro e' w4 ⟨rfl, hF⟩
        rw [(unhide HC).2.2.2.2.2.1]
        have H4 := hide ((unhide H3).2.trans hF (fun _ _ h => h))
        clear hF
        go_wp2_with fail
        go_ret
        exact ⟨by simp, unhide H4⟩
  · have hP' : ((PL : Int) == 0) = false := beq_false_of_ne (by omega)
    go_wp2_with fail
    go_ret
    exact ⟨by simp [hP], (unhide H2).2⟩
set_option maxRecDepth 100000 in
set_option maxHeartbeats 2000000 in
/-- The document's CheckProof of all. -/
theorem gcp_all (wi N : Nat) (hN0 : 0 < N) (hw1 : 1 ≤ wi) (hw32 : wi ≤ 32) (oo : Option Addr) (oc : Nat) (rr : Option Addr) (rc : Nat) (xo : Option Addr) (PL xc : Nat) (old root : List Nat) (w : World) (hg : GR w) (ho : Sl w (.slice oo wi oc) old) (hr : Sl w (.slice rr wi rc) root) (hol : old.length = wi)
    (hwd : Calls Tryd.prog 81 #[.int .i64 wi, .slice xo PL xc] w fun e w' => e = .returned (.bool true) ∧ w' = w) :
    Calls Tryd.prog 48 #[.int .i64 wi, .int .i64 N, .int .i64 N, .slice oo wi oc, .slice rr wi rc, .slice xo PL xc] w fun e w' => e = .returned (.bool (decide (PL = 0) && decide (old = root))) ∧ Fr (fun _ => False) w w' := by
  have hsum : Calls Tryd.prog 13 #[.int .i64 wi, .slice none 0 0] w fun e w' => ∃ yo yc, e = .returned (.slice yo (sm wi []).length yc) ∧ Fr (fun _ => False) w w' := by
    refine (gsum_T wi _ [] w hg (.inl ⟨rfl, rfl⟩) (fun _ h => by cases h) (by simp)).mono ?_
    rintro e w' ⟨yo, yc, rfl, hO⟩
    exact ⟨yo, yc, rfl, hO.fr⟩
  rw [sm_wid wi hw1 hw32] at hsum
  have h1' : 1 ≤ (wi : Int) ∧ (wi : Int) ≤ 32 := by omega
  have HM := hide h1'
  have hN : ¬ (N : Int) < 0 := by omega
  have hN1 : ((N : Int) == 0) = false := beq_false_of_ne (by omega)
  have hN2 : ((N : Int) == (N : Int)) = true := by simp
  obtain ⟨B1, hB1⟩ : ∃ B, decide (old = root) = B := ⟨_, rfl⟩
  rw [hB1]
  have HC := hide (And.intro hsum (And.intro hwd (And.intro ho (And.intro hr (And.intro hB1 hol)))))
  clear hsum hwd ho hr hB1 hol hg hw1 hw32 h1' hN0
  go_enter Tryd.func48, Tryd.ntmps48
  go_wp2_with fail
  refine (may_yes wi _ (unhide HM).1 (unhide HM).2).mono ?_
  rintro e' w0 ⟨rfl, rfl⟩
  go_wp2_with fail
  refine (unhide HC).2.1.mono ?_
  rintro e' w1 ⟨rfl, rfl⟩
  go_wp2_with fail
  refine (unhide HC).1.mono ?_
  rintro e' w2 ⟨yo, yc, rfl, hF⟩
  have H2 := hide hF
  clear hF
  by_cases hP : PL = 0
  · subst hP
    go_wp2_with fail
    refine (gsame_D ((unhide HC).2.2.1.fr0 (unhide H2)) ((unhide HC).2.2.2.1.fr0 (unhide H2)) (by have h1 := (unhide HC).2.2.2.2.2; have h2 := (unhide HM).2; omega)).mono ?_
    rintro e' w3 ⟨rfl, hF⟩
    rw [(unhide HC).2.2.2.2.1]
    have H3 := hide ((unhide H2).trans hF (fun _ _ h => h))
    clear hF
    go_wp2_with fail
    go_ret
    exact ⟨by simp, unhide H3⟩
  · have hP' : ((PL : Int) == 0) = false := beq_false_of_ne (by omega)
    go_wp2_with fail
    go_ret
    exact ⟨by simp [hP], unhide H2⟩
end Go.Proofs.YtocdnomfpgdglabDoor

namespace Go.Proofs.YtocdnomfpgdglabDoor
open Go.RowKit

set_option maxRecDepth 100000 in
set_option maxHeartbeats 2000000 in
/-- The document's CheckProof of some. -/
theorem gcp_some (wi M N : Nat) (hM0 : 0 < M) (hMN : M < N) (hw1 : 1 ≤ wi) (hw32 : wi ≤ 32) (oo : Option Addr) (oc : Nat) (rr : Option Addr) (rc : Nat) (xo : Option Addr) (PL xc : Nat) (old root O T : List Nat) (C : Prop) (w : World) (hg : GR w) (ho : Sl w (.slice oo wi oc) old) (hr : Sl w (.slice rr wi rc) root) (hO : C → O.length = wi) (hT : C → T.length = wi) (B : Bool) (hB : B = true ↔ C ∧ O = old ∧ T = root)
    (hwd : Calls Tryd.prog 81 #[.int .i64 wi, .slice xo PL xc] w fun e w' => e = .returned (.bool true) ∧ w' = w)
    (hri : ∀ w', Fr (fun _ => False) w w' → Calls Tryd.prog 49 #[.int .i64 wi, .int .i64 M, .int .i64 N, .bool true, .slice oo wi oc, .slice xo PL xc] w' fun e w'' => (C → ∃ ao an ac bo bn bc so sn sc, e = .returned (.tuple #[.slice ao an ac, .slice bo bn bc, .slice so sn sc, .bool true]) ∧ Sl w'' (.slice ao an ac) O ∧ Sl w'' (.slice bo bn bc) T) ∧ (¬ C → ∃ ao an ac bo bn bc, e = .returned (.tuple #[.slice ao an ac, .slice bo bn bc, .slice none 0 0, .bool false])) ∧ Fr (fun _ => False) w' w'') :
    Calls Tryd.prog 48 #[.int .i64 wi, .int .i64 M, .int .i64 N, .slice oo wi oc, .slice rr wi rc, .slice xo PL xc] w fun e w' => e = .returned (.bool B) ∧ Fr (fun _ => False) w w' := by
  have hsum : Calls Tryd.prog 13 #[.int .i64 wi, .slice none 0 0] w fun e w' => ∃ yo yc, e = .returned (.slice yo (sm wi []).length yc) ∧ Fr (fun _ => False) w w' := by
    refine (gsum_T wi _ [] w hg (.inl ⟨rfl, rfl⟩) (fun _ h => by cases h) (by simp)).mono ?_
    rintro e w' ⟨yo, yc, rfl, hO⟩
    exact ⟨yo, yc, rfl, hO.fr⟩
  rw [sm_wid wi hw1 hw32] at hsum
  have h1' : 1 ≤ (wi : Int) ∧ (wi : Int) ≤ 32 := by omega
  have HM := hide h1'
  have hN : ¬ (M : Int) < 0 := by omega
  have hN1 : ((M : Int) == 0) = false := beq_false_of_ne (by omega)
  have hN2 : ((M : Int) == (N : Int)) = false := beq_false_of_ne (by omega)
  have hN3 : ¬ (N : Int) < (M : Int) := by omega
  have hN4 : ¬ N < M := by omega
  have hN5 : ¬ M = N := by omega
  have hN6 : ¬ M = 0 := by omega
  have HC := hide (And.intro hsum (And.intro hwd (And.intro ho (And.intro hr (And.intro hB (And.intro hri (And.intro hO hT)))))))
  clear hsum hwd ho hr hB hri hO hT hg hw1 hw32 h1' hM0 hMN
  go_enter Tryd.func48, Tryd.ntmps48
  go_wp2_with fail
  refine (may_yes wi _ (unhide HM).1 (unhide HM).2).mono ?_
  rintro e' w0 ⟨rfl, rfl⟩
  go_wp2_with fail
  refine (unhide HC).2.1.mono ?_
  rintro e' w1 ⟨rfl, rfl⟩
  go_wp2_with fail
  refine (unhide HC).1.mono ?_
  rintro e' w2 ⟨yo, yc, rfl, hF⟩
  have H2 := hide hF
  clear hF
  go_wp2_with fail
  refine ((unhide HC).2.2.2.2.2.1 _ (unhide H2)).mono ?_
  rintro e' w3 ⟨hA, hN, hF⟩
  have H3 := hide ((unhide H2).trans hF (fun _ _ h => h))
  clear hF
  by_cases hC : C
  · obtain ⟨ao, an, ac, bo, bn, bc, so, sn, sc, rfl, s1, s2⟩ := hA hC
    have HS := hide (And.intro s1 (And.intro s2 hC))
    clear hA hN s1 s2 hC
    go_wp2_with fail
    refine (gsame_D (unhide HS).1 ((unhide HC).2.2.1.fr0 (unhide H3)) (by have h1 := (unhide HC).2.2.2.2.2.2.1 (unhide HS).2.2; have h2 := (unhide HM).2; omega)).mono ?_
    rintro e' w4 ⟨rfl, hF⟩
    have H4 := hide (And.intro hF ((unhide H3).trans hF (fun _ _ h => h)))
    clear hF
    by_cases h1 : O = old
    · rw [decide_eq_true h1]
      go_wp2_with fail
      refine (gsame_D ((unhide HS).2.1.fr0 (unhide H4).1) ((unhide HC).2.2.2.1.fr0 (unhide H4).2) (by have h1 := (unhide HC).2.2.2.2.2.2.2 (unhide HS).2.2; have h2 := (unhide HM).2; omega)).mono ?_
      rintro e' w5 ⟨rfl, hF⟩
      have hBB : decide (T = root) = B := by
        have hB := (unhide HC).2.2.2.2.1
        by_cases h2 : T = root
        · rw [decide_eq_true h2, hB.2 ⟨(unhide HS).2.2, h1, h2⟩]
        · rw [decide_eq_false h2]
          cases B
          · rfl
          · exact absurd (hB.1 rfl).2.2 h2
      rw [hBB]
      have H5 := hide ((unhide H4).2.trans hF (fun _ _ h => h))
      clear hF h1 hBB
      go_wp2_with fail
      go_ret
      exact ⟨rfl, unhide H5⟩
    · rw [decide_eq_false h1]
      have hB : B = false := by
        cases B
        · rfl
        · exact absurd ((unhide HC).2.2.2.2.1.1 rfl).2.1 h1
      subst hB
      clear h1
      go_wp2_with fail
      go_ret
      exact ⟨rfl, (unhide H4).2⟩
  · obtain ⟨ao, an, ac, bo, bn, bc, rfl⟩ := hN hC
    have hB : B = false := by
      cases B
      · rfl
      · exact absurd ((unhide HC).2.2.2.2.1.1 rfl).1 hC
    subst hB
    clear hA hN hC
    go_wp2_with fail
    go_ret
    exact ⟨rfl, unhide H3⟩
/-- The document's CheckProof. -/
theorem gcheckProof_any (j m n : Int) (ov rv x : Value) (old root : List Nat) (vs : List Value) (ps : List (List Nat)) (w : World) (hg : GR w) (ho : Sl w ov old) (hr : Sl w rv root) (hp : Pcs w x vs ps) (hcx : Cp x) (hn : n < 9223372036854775808) (hps : ps.length ≤ 8000000) :
    Calls Tryd.prog 48 #[.int .i64 j, .int .i64 m, .int .i64 n, ov, rv, x] w fun e w' => e = .returned (.bool (chkQ j m n old root ps)) ∧ Fr (fun _ => False) w w' := by
  by_cases h : 1 ≤ j ∧ j ≤ 32 ∧ 0 ≤ m ∧ m ≤ n ∧ (old.length : Int) = j ∧ (root.length : Int) = j ∧ wdq j ps = true
  · obtain ⟨h1, h2, h3, h4, h5, h6, h7⟩ := h
    have hwd := gwide_any j _ vs ps w hp (by omega)
    rw [h7] at hwd
    obtain ⟨wi, rfl⟩ : ∃ k : Nat, j = (k : Int) := ⟨j.toNat, by omega⟩
    obtain ⟨M, rfl⟩ : ∃ k : Nat, m = (k : Int) := ⟨m.toNat, by omega⟩
    obtain ⟨N, rfl⟩ : ∃ k : Nat, n = (k : Int) := ⟨n.toNat, by omega⟩
    have hq1 : wdq wi [old, root] = true := by simp [wdq, h5, h6]
    have hce : chkQ wi M N old root ps = (if (M : Int) = 0 then decide (ps = []) && (decide (old = sm wi []) && (decide (0 < (N : Int)) || decide (root = sm wi []))) else prfQ wi N M old root ps) := by
      rw [chkQ, decide_eq_true (show 1 ≤ (wi : Int) ∧ (wi : Int) ≤ 32 by omega), decide_eq_true h3, decide_eq_true h4, hq1, h7]; rfl
    rw [hce]
    clear hce hq1
    have hol : old.length = wi := by omega
    have hrl : root.length = wi := by omega
    have hpw : ∀ p ∈ ps, p.length = wi := fun p hp => by have := wdq_true h7 p hp; omega
    obtain ⟨oo, oc, rfl⟩ := ho.form
    obtain ⟨rr, rc, rfl⟩ := hr.form
    obtain ⟨xo, xc, rfl⟩ := hp.form
    rw [hol] at ho ⊢
    rw [hrl] at hr ⊢
    by_cases hM : M = 0
    · subst hM
      rw [if_pos (show ((0 : Nat) : Int) = 0 from rfl)]
      have e1 : decide (ps = []) = decide (ps.length = 0) := by simp
      have e2 : decide (0 < (N : Int)) = decide (0 < N) := by simp
      rw [e1, e2]
      exact gcp_zero wi N (by omega) (by omega) oo oc rr rc xo _ xc old root w hg ho hr hol hrl hwd
    · rw [if_neg (by omega)]
      by_cases hMN : M = N
      · subst hMN
        rw [prfQ_same]
        exact gcp_all wi M (by omega) (by omega) (by omega) oo oc rr rc xo _ xc old root w hg ho hr hol hwd
      · have hp1 := hp
        refine gcp_some wi M N (by omega) (by omega) (by omega) (by omega) oo oc rr rc xo _ xc old root _ _ (rOk true 0 N M ps) w hg ho hr (fun hC => olderv_wid wi (by omega) (by omega) _ (rR_wid wi true old _ _ _ _ hC hol hpw) _ _ _ _ _ _ (Nat.le_refl _)) (fun hC => topv_wid wi (by omega) (by omega) _ (rR_wid wi true old _ _ _ _ hC hol hpw) _ _ _ _ _ _ (Nat.le_refl _)) _ (prfQ_r wi N M old root ps) hwd (fun w' hF => ?_)
        have hri := rise_any wi (by omega) (by omega) old hol oo wi oc N true 0 N M ps vs _ w' (Nat.le_refl _) (by omega) (by omega) (by omega) (hg.fr0 hF) (ho.fr0 hF) (hp.fr0 hF) hcx hps hpw
        unfold RiSays at hri
        rw [Nat.sub_zero] at hri
        refine hri.mono ?_
        rintro e w'' ⟨hA, hB, hF⟩
        refine ⟨fun hC => ?_, hB, hF⟩
        obtain ⟨ao, an, ac, bo, bn, bc, so, sc, ss, rfl, s1, s2, -, -, -⟩ := hA hC
        exact ⟨ao, an, ac, bo, bn, bc, so, _, sc, rfl, s1, s2⟩
  · have hB : chkQ j m n old root ps = false := by
      cases hq : chkQ j m n old root ps with
      | false => rfl
      | true =>
        refine absurd ?_ h
        unfold chkQ at hq
        simp only [Bool.and_eq_true, decide_eq_true_eq] at hq
        obtain ⟨⟨a1, a2⟩, a3, a4, a5, a6, -⟩ := hq
        exact ⟨a1, a2, a3, a4, by have := wdq_true a5 old (by simp); omega, by have := wdq_true a5 root (by simp); omega, a6⟩
    rw [hB]
    exact gcp_no j m n ov rv x old root vs ps w ho hr hp hps h
end Go.Proofs.YtocdnomfpgdglabDoor

namespace Go.Proofs.YtocdnomfpgdglabDoor
open Go.RowKit

theorem cpR_out {j : Int} (h : ¬ (1 ≤ j ∧ j ≤ 32)) (es : List (List Nat)) (i : Int) (leaf : List Nat) (ps : List (List Nat)) : cpR j es i leaf ps = none := by
  unfold cpR
  rw [chkP, decide_eq_false h, if_neg (by simp)]
theorem cpR_no {j : Int} {es : List (List Nat)} {i : Int} {leaf : List Nat} {ps : List (List Nat)} (h : chkP j leaf i es.length ps (mth j (es.map (lf j))) = false) : cpR j es i leaf ps = none := by
  by_cases hj : 1 ≤ j ∧ j ≤ 32
  · unfold cpR mr
    rw [if_pos hj, h, if_neg (by simp)]
  · exact cpR_out hj es i leaf ps
theorem cqR_out {j : Int} (h : ¬ (1 ≤ j ∧ j ≤ 32)) (es : List (List Nat)) (i : Int) (leaf : List Nat) (ps : List (List Nat)) : cqR j es i leaf ps = none := by
  unfold cqR
  rw [chkQ, decide_eq_false h, if_neg (by simp)]
theorem cqR_no {j : Int} {es : List (List Nat)} {i : Int} {leaf : List Nat} {ps : List (List Nat)} (h : chkQ j i es.length leaf (mth j (es.map (lf j))) ps = false) : cqR j es i leaf ps = none := by
  by_cases hj : 1 ≤ j ∧ j ≤ 32
  · exact cqR_false (by unfold mr; rw [if_pos hj]; exact h)
  · exact cqR_out hj es i leaf ps
theorem cqR_edge {j : Int} {es : List (List Nat)} {i : Int} {old : List Nat} {ps : List (List Nat)} (h : i < 1 ∨ (es.length : Int) ≤ i) : cqR j es i old ps = none := by
  by_cases hj : 1 ≤ j ∧ j ≤ 32
  · obtain ⟨wi, rfl⟩ : ∃ k : Nat, j = (k : Int) := ⟨j.toNat, by omega⟩
    have hmr : mr wi es = mth wi (es.map (lf wi)) := by unfold mr; rw [if_pos (by omega)]
    unfold cqR
    rw [hmr]
    by_cases hc : chkQ wi i es.length old (mth wi (es.map (lf wi))) ps = true ∧ ¬ old = mth wi ((es.map (lf wi)).take i.toNat)
    · exfalso
      obtain ⟨h1, h2, h3, -⟩ := chkQ_says hc.1
      obtain ⟨M, rfl⟩ : ∃ k : Nat, i = (k : Int) := ⟨i.toNat, by omega⟩
      have hc2 := hc.2
      rw [Int.toNat_natCast] at hc2
      obtain ⟨k1, k2, -⟩ := cqR_some wi M es old ps hc.1 hc2
      omega
    · rw [if_neg hc]
  · exact cqR_out hj es i old ps
set_option maxRecDepth 100000 in
set_option maxHeartbeats 2000000 in
/-- The document's CollidePath. -/
theorem gcpath_any (j i : Int) (x : Value) (us : List Value) (es : List (List Nat)) (lv : Value) (leaf : List Nat) (pv' : Value) (vs : List Value) (ps : List (List Nat)) (w : World) (hr : GR w) (hp : Pcs w x us es) (hB : ∀ e ∈ es, e.length ≤ 4000000) (hn : es.length ≤ 4000000) (hl : Sl w lv leaf) (hP : Pcs w pv' vs ps) (hC : Cp pv') (hps : ps.length ≤ 4000000) (hll4 : leaf.length ≤ 4000000) :
    Calls Tryd.prog 10 #[.int .i64 j, x, .int .i64 i, lv, pv'] w fun e w' => Told w' e (cpR j es i leaf ps) ∧ Fr (fun _ => False) w w' := by
  have hlv := gleaves_C j x us es w hr hp hB (by omega)
  have hlen : (es.map (lf j)).length = es.length := List.length_map _
  have hof := fun w' x' us' (hf' : Fr (fun _ => False) w w') (h1 : Pcs w' x' us' (es.map (lf j))) (h2 : Cp x') => of_any j es.length (es.map (lf j)) x' us' w' (by omega) (by omega) (hr.fr0 hf') h1 h2 (fun p hp => by
    obtain ⟨e, _, rfl⟩ := List.mem_map.1 hp
    exact Nat.le_trans (sm32 j _) (by decide))
  unfold OfSays at hof
  have hck := fun w' rv (hf' : Fr (fun _ => False) w w') (hr' : Sl w' rv (mth j (es.map (lf j)))) => gcheckPath_any j i es.length lv rv pv' leaf _ vs ps w' (hr.fr0 hf') (hl.fr0 hf') hr' (hP.fr0 hf') hC (by omega) (by omega)
  cases hq : chkP j leaf i es.length ps (mth j (es.map (lf j))) with
  | false =>
    rw [cpR_no hq]
    rw [hq] at hck
    obtain ⟨xo, xc, rfl⟩ := hp.form
    obtain ⟨lo, lc, rfl⟩ := hl.form
    obtain ⟨po, pc, rfl⟩ := hP.form
    have HG := hide (And.intro hlv (And.intro hof hck))
    clear hlv hof hck hp hl hP hC hr hB hq hlen
    generalize es.length = N at *
    generalize leaf.length = LN at *
    generalize ps.length = PN at *
    go_enter Tryd.func10, Tryd.ntmps10
    go_wp2_with fail
    refine (unhide HG).1.mono ?_
    rintro e w1 ⟨ao, cp, us', rfl, hP1, hF1, hC1⟩
    have H1 := hide (And.intro hP1 (And.intro hC1 hF1))
    clear hP1 hC1 hF1
    go_wp2_with fail
    refine ((unhide HG).2.1 _ _ _ (unhide H1).2.2 (unhide H1).1 (unhide H1).2.1).mono ?_
    rintro e w2 ⟨ro, rc, rfl, hs2, hF2⟩
    have H2 := hide (And.intro hs2 ((unhide H1).2.2.trans hF2 (fun _ _ h => h)))
    clear hs2 hF2
    generalize (mth j (es.map (lf j))).length = RL at *
    go_wp2_with fail
    refine ((unhide HG).2.2 _ _ (unhide H2).2 (unhide H2).1).mono ?_
    rintro e w3 ⟨rfl, hF3⟩
    have H3 := hide ((unhide H2).2.trans hF3 (fun _ _ h => h))
    clear hF3
    go_wp2_with fail
    go_returns
    exact ⟨⟨(fun a b h => by cases h), (fun _ => rfl)⟩, unhide H3⟩
  | true =>
    rw [hq] at hck
    obtain ⟨h1, h2, h3, h4, h5, h6, h7, h8⟩ := chkP_says hq
    obtain ⟨wi, rfl⟩ : ∃ k : Nat, j = (k : Int) := ⟨j.toNat, by omega⟩
    obtain ⟨I, rfl⟩ : ∃ k : Nat, i = (k : Int) := ⟨i.toNat, by omega⟩
    have hI : I < es.length := by omega
    simp only [Int.toNat_natCast] at h7 h8
    have hmr : mr wi es = mth wi (es.map (lf wi)) := by unfold mr; rw [if_pos (by omega)]
    have hgd : (es.map (lf (wi : Int))).getD I [] = lf wi es[I] := by rw [List.getD, List.getElem?_eq_getElem (by omega), Option.getD_some, List.getElem_map]
    have hU0 : leaf = lf (wi : Int) es[I] → cpR wi es I leaf ps = none := fun h => by
      unfold cpR
      rw [Int.toNat_natCast, hgd, if_neg (fun k => k.2 h)]
    have hU1 : ¬ leaf = lf (wi : Int) es[I] → cpR wi es I leaf ps = cld wi (es.map (lf (wi : Int))) leaf 0 es.length I 1 ps := fun h => by
      unfold cpR
      rw [hmr, Int.toNat_natCast, hgd, if_pos ⟨hq, h⟩]; rfl
    generalize cpR wi es I leaf ps = U at *
    have hpw : ∀ p ∈ ps, p.length = wi := fun p hp => by have := h6 p hp; omega
    have hbk : blk (es.map (lf (wi : Int))) 0 es.length = es.map (lf wi) := by rw [← hlen]; exact blk_all _
    have hR1 := rch_one _ 0 es.length I (Nat.le_refl _) (by omega) (by omega)
    obtain ⟨hun, hst2⟩ := unl_stq wi (es.map (lf wi)) leaf es.length 0 es.length I 1 ps (Nat.le_refl _) (by omega) hR1
    rw [hbk] at hun hst2
    have hss := stpv_stq wi leaf es.length 0 es.length I ps (Nat.le_refl _) (by omega) (by omega)
    have hsl := stpv_len wi leaf _ 0 es.length I ps (Nat.le_refl _)
    have hclb := fun lo ln lc w' (hlv' : lv = .slice lo ln lc) (hf' : Fr (fun _ => False) w w') => climb_any wi (by omega) (by omega) leaf (by omega) lo ln lc es.length 0 es.length I ps vs pv' w' (Nat.le_refl _) (by omega) (by omega) (by omega) (by omega) (hr.fr0 hf') (by rw [← hlv']; exact hl.fr0 hf') (hP.fr0 hf') hC (by omega) hpw
    unfold ClSays at hclb
    rw [Nat.sub_zero, hss] at hclb
    rw [hss] at hsl
    have hwst : ∀ t ∈ stq wi leaf 0 es.length I 1 ps, t.1.length ≤ 2000000 ∧ t.2.1.length ≤ 2000000 := fun t ht => by
      have := stq_wid wi (by omega) (by omega) leaf (by omega) es.length 0 es.length I 1 ps (Nat.le_refl _) hpw t ht
      omega
    have hun2 := fun w' wb x' us' so sc ss (hf' : Fr (fun _ => False) w w') (k1 : Pcs w' x' us' (es.map (lf wi))) (k2 : Cp x') (k3 : OT wb w' (.slice so ss.length sc) ss) (k4 : StOk w' ss (stq wi leaf 0 es.length I 1 ps)) => unlike_any wi (by omega) (by omega) x' us' (es.map (lf wi)) so sc ss _ wb w' (hr.fr0 hf') k1 k2 (by omega) (map_lf_len wi (by omega) (by omega) es) k3 k4 hst2 hwst (by have := k4.1; omega)
    rw [hun] at hun2
    obtain ⟨xo, xc, rfl⟩ := hp.form
    obtain ⟨lo, lc, rfl⟩ := hl.form
    obtain ⟨po, pc, rfl⟩ := hP.form
    have hnth := fun w' ao cp us' (hP1 : Pcs w' (.slice ao es.length cp) us' (es.map (lf (wi : Int)))) => hP1.nth (Fr.refl _ w') I (by omega)
    simp only [List.getElem_map] at hnth
    have hlfw := lf_len wi (by omega) (by omega) es[I]
    rw [hlfw] at hnth
    generalize hLF : lf (wi : Int) es[I] = LF at *
    have HG := hide (And.intro hlv (And.intro hof (And.intro hck (And.intro hnth (And.intro hl (And.intro hclb (And.intro hun2 (And.intro hU0 (And.intro hU1 h7)))))))))
    clear hlv hof hck hnth hl hclb hun2 hU0 hU1 hp hP hC hr hB hq hlen hmr hbk hR1 hun hst2 hss hsl hwst h1 h2 h3 h4 h5 h6 h7 h8 hgd hpw hLF hlfw
    generalize hNN : es.length = N at *
    generalize hLN : leaf.length = LN at *
    generalize hPN : ps.length = PN at *
    have q1 : (0 : Int) ≤ (I : Int) := by omega
    have q2 : (I : Int) < (N : Int) := by omega
    go_enter Tryd.func10, Tryd.ntmps10
    go_wp2_with fail
    refine (unhide HG).1.mono ?_
    rintro e w1 ⟨ao, cp, us', rfl, hP1, hF1, hC1⟩
    obtain ⟨g, o, vo, vc, rfl, hcell, hsl⟩ := (unhide HG).2.2.2.1 w1 _ _ _ hP1
    have H1 := hide (And.intro hP1 (And.intro hC1 (And.intro hF1 (And.intro hcell hsl))))
    clear hP1 hC1 hF1 hcell hsl
    go_wp2_with fail
    refine ((unhide HG).2.1 _ _ _ (unhide H1).2.2.1 (unhide H1).1 (unhide H1).2.1).mono ?_
    rintro e w2 ⟨ro, rc, rfl, hs2, hF2⟩
    have H2 := hide (And.intro hs2 (And.intro ((unhide H1).2.2.1.trans hF2 (fun _ _ h => h)) hF2))
    clear hs2 hF2
    generalize (mth (wi : Int) (es.map (lf wi))).length = RL at *
    go_wp2_with fail
    refine ((unhide HG).2.2.1 _ _ (unhide H2).2.1 (unhide H2).1).mono ?_
    rintro e w3 ⟨rfl, hF3⟩
    have hF13 := (unhide H2).2.2.trans hF3 (fun _ _ h => h)
    have hc3 := (hF13.cell (lt_of_cell (unhide H1).2.2.2.1) (fun h => h)).trans (unhide H1).2.2.2.1
    have H3 := hide (And.intro ((unhide H2).2.1.trans hF3 (fun _ _ h => h)) hF13)
    clear hF3 hF13
    go_wp2_with fail
    refine (gsame_D ((unhide HG).2.2.2.2.1.fr0 (unhide H3).1) ((unhide H1).2.2.2.2.fr0 (unhide H3).2) (by rw [hLN]; omega)).mono ?_
    rintro e w4 ⟨rfl, hF4⟩
    have H4 := hide (And.intro ((unhide H3).1.trans hF4 (fun _ _ h => h)) ((unhide H3).2.trans hF4 (fun _ _ h => h)))
    clear hF4 hc3
    by_cases hE : leaf = LF
    · rw [decide_eq_true hE]
      have HE := hide hE
      clear hE
      go_wp2_with fail
      go_returns
      refine ⟨⟨(fun a b h => ?_), (fun _ => rfl)⟩, (unhide H4).1⟩
      rw [(unhide HG).2.2.2.2.2.2.2.1 (unhide HE)] at h
      cases h
    · rw [decide_eq_false hE]
      have HE := hide hE
      clear hE
      go_wp2_with fail
      refine ((unhide HG).2.2.2.2.2.1 _ _ _ _ rfl (unhide H4).1).mono ?_
      rintro e w5 ⟨hY, -, hF5⟩
      obtain ⟨ho, hn', hc, so, sc, ss, rfl, -, hT, hK⟩ := hY (unhide HG).2.2.2.2.2.2.2.2.2
      have H5 := hide (And.intro hT (And.intro hK (And.intro ((unhide H4).1.trans hF5 (fun _ _ h => h)) ((unhide H4).2.trans hF5 (fun _ _ h => h)))))
      clear hY hT hK hF5
      generalize hSN : ss.length = SN at *
      go_wp2_with fail
      have hlast := (unhide HG).2.2.2.2.2.2.1 w5 w4 _ _ so sc ss (unhide H5).2.2.1 ((unhide H1).1.fr0 (unhide H5).2.2.2) (unhide H1).2.1 (by rw [hSN]; exact (unhide H5).1) (unhide H5).2.1
      rw [hSN] at hlast
      refine hlast.mono ?_
      clear hlast
      rintro e w6 ⟨hTold, hF6⟩
      have hU := (unhide HG).2.2.2.2.2.2.2.2.1 (unhide HE)
      rw [← hU] at hTold
      have hF06 := (unhide H5).2.2.1.trans hF6 (fun _ _ h => h)
      rcases U with _ | ⟨a, b⟩
      · obtain rfl := hTold.2 rfl
        have H6 := hide (And.intro hTold hF06)
        clear hTold hF6 hF06 hU
        go_wp2_with fail
        go_returns
        exact unhide H6
      · obtain ⟨ao', ac', bo', bc', rfl, k1, k2⟩ := hTold.1 a b rfl
        have H6 := hide (And.intro hTold hF06)
        clear hTold hF6 hF06 hU k1 k2
        generalize a.length = AL at *
        generalize b.length = BL at *
        go_wp2_with fail
        go_returns
        exact unhide H6
set_option maxRecDepth 100000 in
set_option maxHeartbeats 4000000 in
/-- The document's CollideProof. -/
theorem gcproof_any (j i : Int) (x : Value) (us : List Value) (es : List (List Nat)) (lv : Value) (old : List Nat) (pv' : Value) (vs : List Value) (ps : List (List Nat)) (w : World) (hr : GR w) (hp : Pcs w x us es) (hB : ∀ e ∈ es, e.length ≤ 4000000) (hn : es.length ≤ 4000000) (hl : Sl w lv old) (hP : Pcs w pv' vs ps) (hC : Cp pv') (hps : ps.length ≤ 4000000) (hll4 : old.length ≤ 4000000) :
    Calls Tryd.prog 15 #[.int .i64 j, x, .int .i64 i, lv, pv'] w fun e w' => Told w' e (cqR j es i old ps) ∧ Fr (fun _ => False) w w' := by
  have hlv := gleaves_C j x us es w hr hp hB (by omega)
  have hlen : (es.map (lf j)).length = es.length := List.length_map _
  have hlf4 : ∀ p ∈ es.map (lf j), p.length ≤ 4000000 := fun p hp => by
    obtain ⟨e, _, rfl⟩ := List.mem_map.1 hp
    exact Nat.le_trans (sm32 j _) (by decide)
  have hof := fun w' x' us' (hf' : Fr (fun _ => False) w w') (h1 : Pcs w' x' us' (es.map (lf j))) (h2 : Cp x') => of_any j es.length (es.map (lf j)) x' us' w' (by omega) (by omega) (hr.fr0 hf') h1 h2 hlf4
  have hck := fun w' rv (hf' : Fr (fun _ => False) w w') (hr' : Sl w' rv (mth j (es.map (lf j)))) => gcheckProof_any j i es.length lv rv pv' old _ vs ps w' (hr.fr0 hf') (hl.fr0 hf') hr' (hP.fr0 hf') hC (by omega) (by omega)
  unfold OfSays at hof
  by_cases hedge : i < 1 ∨ (es.length : Int) ≤ i
  · rw [cqR_edge hedge]
    obtain ⟨xo, xc, rfl⟩ := hp.form
    obtain ⟨lo, lc, rfl⟩ := hl.form
    obtain ⟨po, pc, rfl⟩ := hP.form
    have HG := hide hlv
    clear hlv hof hck hp hl hP hC hr hB hlen hlf4
    generalize es.length = N at *
    generalize old.length = LN at *
    generalize ps.length = PN at *
    by_cases hi : i < 1
    · clear hedge
      go_enter Tryd.func15, Tryd.ntmps15
      go_wp2_with fail
      refine (unhide HG).mono ?_
      rintro e w1 ⟨ao, cp, us', rfl, -, hF1, -⟩
      have H1 := hide hF1
      clear hF1
      go_wp2_with fail
      go_returns
      exact ⟨⟨(fun a b h => by cases h), (fun _ => rfl)⟩, unhide H1⟩
    · have hi2 : (N : Int) ≤ i := hedge.resolve_left hi
      have q1 : ¬ i < (N : Int) := by omega
      clear hedge
      go_enter Tryd.func15, Tryd.ntmps15
      go_wp2_with fail
      refine (unhide HG).mono ?_
      rintro e w1 ⟨ao, cp, us', rfl, -, hF1, -⟩
      have H1 := hide hF1
      clear hF1
      go_wp2_with fail
      go_returns
      exact ⟨⟨(fun a b h => by cases h), (fun _ => rfl)⟩, unhide H1⟩
  · have hi1 : ¬ i < 1 := fun h => hedge (.inl h)
    have hi2 : ¬ (es.length : Int) ≤ i := fun h => hedge (.inr h)
    obtain ⟨M, rfl⟩ : ∃ k : Nat, i = (k : Int) := ⟨i.toNat, by omega⟩
    clear hedge
    cases hq : chkQ j M es.length old (mth j (es.map (lf j))) ps with
    | false =>
      rw [cqR_no hq]
      rw [hq] at hck
      obtain ⟨xo, xc, rfl⟩ := hp.form
      obtain ⟨lo, lc, rfl⟩ := hl.form
      obtain ⟨po, pc, rfl⟩ := hP.form
      have HG := hide (And.intro hlv (And.intro hof hck))
      clear hlv hof hck hp hl hP hC hr hB hq hlen hlf4
      generalize es.length = N at *
      generalize old.length = LN at *
      generalize ps.length = PN at *
      have q1 : ¬ (M : Int) < 1 := hi1
      have q2 : ¬ (N : Int) ≤ (M : Int) := hi2
      have q3 : ¬ M < 1 := by omega
      have q4 : ¬ N ≤ M := by omega
      go_enter Tryd.func15, Tryd.ntmps15
      go_wp2_with fail
      refine (unhide HG).1.mono ?_
      rintro e w1 ⟨ao, cp, us', rfl, hP1, hF1, hC1⟩
      have H1 := hide (And.intro hP1 (And.intro hC1 hF1))
      clear hP1 hC1 hF1
      go_wp2_with fail
      refine ((unhide HG).2.1 _ _ _ (unhide H1).2.2 (unhide H1).1 (unhide H1).2.1).mono ?_
      rintro e w2 ⟨ro, rc, rfl, hs2, hF2⟩
      have H2 := hide (And.intro hs2 ((unhide H1).2.2.trans hF2 (fun _ _ h => h)))
      clear hs2 hF2
      generalize (mth j (es.map (lf j))).length = RL at *
      go_wp2_with fail
      refine ((unhide HG).2.2 _ _ (unhide H2).2 (unhide H2).1).mono ?_
      rintro e w3 ⟨rfl, hF3⟩
      have H3 := hide ((unhide H2).2.trans hF3 (fun _ _ h => h))
      clear hF3
      go_wp2_with fail
      go_returns
      exact ⟨⟨(fun a b h => by cases h), (fun _ => rfl)⟩, unhide H3⟩
    | true =>
      rw [hq] at hck
      obtain ⟨h1, h2, h3, h4, h5, h6, -, -⟩ := chkQ_says hq
      obtain ⟨wi, rfl⟩ : ∃ k : Nat, j = (k : Int) := ⟨j.toNat, by omega⟩
      have hM0 : 0 < M := by omega
      have hMn : M < es.length := by omega
      have hmr : mr wi es = mth wi (es.map (lf wi)) := by unfold mr; rw [if_pos (by omega)]
      have hU0 : old = mth wi ((es.map (lf wi)).take M) → cqR wi es M old ps = none := fun h => by
        unfold cqR
        rw [Int.toNat_natCast, if_neg (fun k => k.2 h)]
      have hU1 : ¬ old = mth wi ((es.map (lf wi)).take M) → cqR wi es M old ps = cld wi (es.map (lf wi)) (rR true old 0 es.length M ps) 0 es.length (endF 0 es.length M).1 (endF 0 es.length M).2 (rQ true 0 es.length M ps) := fun h => by
        unfold cqR
        rw [hmr, Int.toNat_natCast, if_pos ⟨hq, h⟩]; rfl
      generalize cqR wi es M old ps = U at *
      have hpw : ∀ p ∈ ps, p.length = wi := fun p hp => by have := h6 p hp; omega
      have hbk : blk (es.map (lf (wi : Int))) 0 es.length = es.map (lf wi) := by rw [← hlen]; exact blk_all _
      obtain ⟨e1, e2, e3, e4, -⟩ := endF_ok _ 0 es.length M (Nat.le_refl _) hM0 (by omega)
      obtain ⟨hun, hst2⟩ := unl_stq wi (es.map (lf wi)) (rR true old 0 es.length M ps) es.length 0 es.length _ _ (rQ true 0 es.length M ps) (Nat.le_refl _) (by omega) e4
      rw [hbk] at hun hst2
      have hri := fun lo ln lc w' (hlv' : lv = .slice lo ln lc) (hf' : Fr (fun _ => False) w w') => rise_any wi (by omega) (by omega) old (by omega) lo ln lc es.length true 0 es.length M ps vs pv' w' (Nat.le_refl _) (by omega) (by omega) (by omega) (hr.fr0 hf') (by rw [← hlv']; exact hl.fr0 hf') (hP.fr0 hf') hC (by omega) hpw
      unfold RiSays at hri
      rw [Nat.sub_zero] at hri
      have hrok : ¬ old = mth wi ((es.map (lf wi)).take M) → rOk true 0 es.length M ps := fun hne => (cqR_some wi M es old ps hq hne).2.2.1
      have hdl := dep_le es.length 0 es.length (endF 0 es.length M).1 (endF 0 es.length M).2 (Nat.le_refl _)
      have hwst : rOk true 0 es.length M ps → ∀ t ∈ stq wi (rR true old 0 es.length M ps) 0 es.length (endF 0 es.length M).1 (endF 0 es.length M).2 (rQ true 0 es.length M ps), t.1.length ≤ 2000000 ∧ t.2.1.length ≤ 2000000 := fun hk t ht => by
        have := stq_wid wi (by omega) (by omega) _ (rR_wid wi true old _ _ _ _ hk (by omega) hpw) es.length 0 es.length _ _ _ (Nat.le_refl _) (rQ_wid wi true _ _ _ _ hpw) t ht
        omega
      have hun2 := fun w' wb x' us' so sc ss (hk : rOk true 0 es.length M ps) (hf' : Fr (fun _ => False) w w') (k1 : Pcs w' x' us' (es.map (lf wi))) (k2 : Cp x') (k3 : OT wb w' (.slice so ss.length sc) ss) (k4 : StOk w' ss (stq wi (rR true old 0 es.length M ps) 0 es.length (endF 0 es.length M).1 (endF 0 es.length M).2 (rQ true 0 es.length M ps))) (k5 : ss.length ≤ 8000000) => unlike_any wi (by omega) (by omega) x' us' (es.map (lf wi)) so sc ss _ wb w' (hr.fr0 hf') k1 k2 (by omega) (map_lf_len wi (by omega) (by omega) es) k3 k4 hst2 (hwst hk) k5
      rw [hun] at hun2
      have hofm := fun w' g o cp us' (hf' : Fr (fun _ => False) w w') (hk1 : Pcs w' (.slice (some ⟨g, o, none⟩) es.length cp) us' (es.map (lf (wi : Int)))) (hk2 : Cp (.slice (some ⟨g, o, none⟩) es.length cp)) => of_any (wi : Int) es.length ((es.map (lf (wi : Int))).take M) _ _ w' (by rw [List.length_take]; omega) (by rw [List.length_take]; omega) (hr.fr0 hf') (hk1.take M (by omega)) (show Cp (.slice (some ⟨g, o, none⟩) M cp) from fun _ _ _ e => by cases e; have := hk2 _ _ _ rfl; omega) (fun p hp => hlf4 p (List.mem_of_mem_take hp))
      unfold OfSays at hofm
      have hat : ∀ w' ao cp us', Pcs w' (.slice ao es.length cp) us' (es.map (lf (wi : Int))) → ∃ g o, ao = some ⟨g, o, none⟩ := fun w' ao cp us' hk1 => by
        obtain ⟨g, o, v, e, -⟩ := hk1.cell (Fr.refl _ _) 0 (by omega)
        exact ⟨g, o, e⟩
      obtain ⟨xo, xc, rfl⟩ := hp.form
      obtain ⟨lo, lc, rfl⟩ := hl.form
      obtain ⟨po, pc, rfl⟩ := hP.form
      generalize hOM : mth (wi : Int) ((es.map (lf wi)).take M) = OM at *
      generalize stq wi (rR true old 0 es.length M ps) 0 es.length (endF 0 es.length M).1 (endF 0 es.length M).2 (rQ true 0 es.length M ps) = ST at *
      generalize dep 0 es.length (endF 0 es.length M).1 (endF 0 es.length M).2 = DD at *
      have HG := hide (And.intro hlv (And.intro hof (And.intro hck (And.intro hofm (And.intro hl (And.intro hri (And.intro hun2 (And.intro hU0 (And.intro hU1 (And.intro hrok hat))))))))))
      clear hlv hof hck hofm hl hri hun2 hU0 hU1 hrok hp hP hC hr hB hq hlen hlf4 hmr hbk e1 e2 e3 e4 hun hst2 hwst h1 h2 h3 h4 h5 h6 hpw hOM hat
      generalize hNN : es.length = N at *
      generalize hLN : old.length = LN at *
      generalize hPN : ps.length = PN at *
      have q1 : ¬ (M : Int) < 1 := hi1
      have q2 : ¬ (N : Int) ≤ (M : Int) := hi2
      have q3 : ¬ M < 1 := by omega
      have q4 : ¬ N ≤ M := by omega
      have q5 : (M : Int) ≤ (N : Int) := by omega
      have q6 : (0 : Int) ≤ (M : Int) := by omega
      go_enter Tryd.func15, Tryd.ntmps15
      go_wp2_with fail
      refine (unhide HG).1.mono ?_
      rintro e w1 ⟨ao, cp, us', rfl, hP1, hF1, hC1⟩
      obtain ⟨g, o, rfl⟩ := (unhide HG).2.2.2.2.2.2.2.2.2.2 w1 _ _ _ hP1
      have hcp : N ≤ cp := hC1 _ _ _ rfl
      have q7 : (M : Int) ≤ (cp : Int) := by omega
      have H1 := hide (And.intro hP1 (And.intro hC1 hF1))
      clear hP1 hC1 hF1
      go_wp2_with fail
      refine ((unhide HG).2.1 _ _ _ (unhide H1).2.2 (unhide H1).1 (unhide H1).2.1).mono ?_
      rintro e w2 ⟨ro, rc, rfl, hs2, hF2⟩
      have H2 := hide (And.intro hs2 (And.intro ((unhide H1).2.2.trans hF2 (fun _ _ h => h)) hF2))
      clear hs2 hF2
      generalize (mth (wi : Int) (es.map (lf wi))).length = RL at *
      go_wp2_with fail
      refine ((unhide HG).2.2.1 _ _ (unhide H2).2.1 (unhide H2).1).mono ?_
      rintro e w3 ⟨rfl, hF3⟩
      have H3 := hide (And.intro ((unhide H2).2.1.trans hF3 (fun _ _ h => h)) ((unhide H2).2.2.trans hF3 (fun _ _ h => h)))
      clear hF3
      go_wp2_with fail
      refine ((unhide HG).2.2.2.1 w3 g o cp _ (unhide H3).1 ((unhide H1).1.fr0 (unhide H3).2) (unhide H1).2.1).mono ?_
      rintro e w4 ⟨mo, mc, rfl, hs4, hF4⟩
      have H4 := hide (And.intro hs4 (And.intro ((unhide H3).1.trans hF4 (fun _ _ h => h)) ((unhide H3).2.trans hF4 (fun _ _ h => h))))
      clear hs4 hF4
      generalize OM.length = OL at *
      go_wp2_with fail
      refine (gsame_D ((unhide HG).2.2.2.2.1.fr0 (unhide H4).2.1) (unhide H4).1 (by rw [hLN]; omega)).mono ?_
      rintro e w5 ⟨rfl, hF5⟩
      have H5 := hide (And.intro ((unhide H4).2.1.trans hF5 (fun _ _ h => h)) ((unhide H4).2.2.trans hF5 (fun _ _ h => h)))
      clear hF5
      by_cases hE : old = OM
      · rw [decide_eq_true hE]
        have HE := hide hE
        clear hE
        go_wp2_with fail
        go_returns
        refine ⟨⟨(fun a b h => ?_), (fun _ => rfl)⟩, (unhide H5).1⟩
        rw [(unhide HG).2.2.2.2.2.2.2.1 (unhide HE)] at h
        cases h
      · rw [decide_eq_false hE]
        have HE := hide hE
        clear hE
        go_wp2_with fail
        refine ((unhide HG).2.2.2.2.2.1 _ _ _ _ rfl (unhide H5).1).mono ?_
        rintro e w6 ⟨hY, -, hF6⟩
        obtain ⟨a1, n1, c1, b1, n2, c2, so, sc, ss, rfl, -, -, hT, hK, hsd⟩ := hY ((unhide HG).2.2.2.2.2.2.2.2.2.1 (unhide HE))
        have H6 := hide (And.intro hT (And.intro hK (And.intro ((unhide H5).1.trans hF6 (fun _ _ h => h)) (And.intro ((unhide H5).2.trans hF6 (fun _ _ h => h)) hsd))))
        clear hY hT hK hF6 hsd
        generalize hSN : ss.length = SN at *
        go_wp2_with fail
        have hlast := (unhide HG).2.2.2.2.2.2.1 w6 w5 _ _ so sc ss ((unhide HG).2.2.2.2.2.2.2.2.2.1 (unhide HE)) (unhide H6).2.2.1 ((unhide H1).1.fr0 (unhide H6).2.2.2.1) (unhide H1).2.1 (by rw [hSN]; exact (unhide H6).1) (unhide H6).2.1 (by have := (unhide H6).2.2.2.2; omega)
        rw [hSN] at hlast
        refine hlast.mono ?_
        clear hlast
        rintro e w7 ⟨hTold, hF7⟩
        have hU := (unhide HG).2.2.2.2.2.2.2.2.1 (unhide HE)
        rw [← hU] at hTold
        have hF07 := (unhide H6).2.2.1.trans hF7 (fun _ _ h => h)
        rcases U with _ | ⟨a, b⟩
        · obtain rfl := hTold.2 rfl
          have H7 := hide (And.intro hTold hF07)
          clear hTold hF7 hF07 hU
          go_wp2_with fail
          go_returns
          exact unhide H7
        · obtain ⟨ao', ac', bo', bc', rfl, k1, k2⟩ := hTold.1 a b rfl
          have H7 := hide (And.intro hTold hF07)
          clear hTold hF7 hF07 hU k1 k2
          generalize a.length = AL at *
          generalize b.length = BL at *
          go_wp2_with fail
          go_returns
          exact unhide H7
end Go.Proofs.YtocdnomfpgdglabDoor

namespace Go.Proofs.YtocdnomfpgdglabDoor
open Go.RowKit

theorem cld_len (wi : Nat) (hw1 : 1 ≤ wi) (hw32 : wi ≤ 32) (L : List (List Nat)) (hL : ∀ p ∈ L, p.length = wi) (r : List Nat) (hr : r.length = wi) (m : Nat) : ∀ f n tf tn (ps : List (List Nat)) a b, n ≤ m → (∀ p ∈ ps, p.length = wi) → cld wi L r f n tf tn ps = some (a, b) → (a.length ≤ 100 ∧ b.length ≤ 100) ∧ 0 < a.length ∧ 0 < b.length := by
  induction m with
  | zero =>
    intro f n tf tn ps a b h hpw hc
    rw [cld, dif_pos (.inr (by omega))] at hc
    cases hc
  | succ m ih =>
    intro f n tf tn ps a b h hpw hc
    by_cases e : (f = tf ∧ n = tn) ∨ n < 2
    · rw [cld, dif_pos e] at hc
      cases hc
    · have h2 : 2 ≤ n := by omega
      have hne : ¬ (f = tf ∧ n = tn) := fun h => e (.inl h)
      have hlt := hf_lt n h2
      have hp := hf_pos n
      have hg : (ps.getLastD []).length ≤ wi := by
        by_cases h0 : ps = []
        · rw [h0]; exact Nat.zero_le _
        · rw [List.getLastD_eq_getLast?, List.getLast?_eq_some_getLast h0]
          exact Nat.le_of_eq (hpw _ (List.getLast_mem h0))
      have hpd : ∀ p ∈ ps.dropLast, p.length = wi := fun p hp => hpw p ((List.dropLast_sublist ps).subset hp)
      by_cases hv : hva wi r f n tf tn ps = hvb wi L f n
      · by_cases hl : tf < f + hf n
        · rw [cld_l h2 hne hv hl] at hc
          exact ih _ _ _ _ _ a b (by omega) hpd hc
        · rw [cld_r h2 hne hv hl] at hc
          exact ih _ _ _ _ _ a b (by omega) hpd hc
      · rw [cld_no h2 hne hv] at hc
        cases hc
        have t1 := topv_wid wi hw1 hw32 r hr _ f (hf n) tf tn ps.dropLast (Nat.le_refl _)
        have t2 := topv_wid wi hw1 hw32 r hr _ (f + hf n) (n - hf n) tf tn ps.dropLast (Nat.le_refl _)
        have m1 := mth_wid wi hw1 hw32 (blk L f (hf n)) (fun p hp => hL p (blk_mem _ _ _ p hp))
        have m2 := mth_wid wi hw1 hw32 (blk L (f + hf n) (n - hf n)) (fun p hp => hL p (blk_mem _ _ _ p hp))
        refine ⟨⟨?_, ?_⟩, by unfold hva; rw [List.length_cons]; omega, by unfold hvb; rw [List.length_cons]; omega⟩
        · unfold hva sdl sdr
          rw [List.length_cons, List.length_append]
          split <;> omega
        · unfold hvb
          rw [List.length_cons, List.length_append]
          omega
/-- What is told differs and has one hash. -/
theorem cpR_ok {j : Int} {es : List (List Nat)} {i : Int} {leaf : List Nat} {ps : List (List Nat)} {a b : List Nat} (h : cpR j es i leaf ps = some (a, b)) : ¬ a = b ∧ sm j a = sm j b ∧ (a.length ≤ 100 ∧ b.length ≤ 100) ∧ 0 < a.length ∧ 0 < b.length := by
  unfold cpR at h
  split at h
  · rename_i hc
    obtain ⟨h1, h2, h3, h4, h5, h6, -, -⟩ := chkP_says hc.1
    obtain ⟨wi, rfl⟩ : ∃ k : Nat, j = (k : Int) := ⟨j.toNat, by omega⟩
    obtain ⟨I, rfl⟩ : ∃ k : Nat, i = (k : Int) := ⟨i.toNat, by omega⟩
    have hmr : mr wi es = mth wi (es.map (lf wi)) := by unfold mr; rw [if_pos (by omega)]
    obtain ⟨c1, c2⟩ := hc
    rw [hmr] at c1
    simp only [Int.toNat_natCast] at h c2
    obtain ⟨a', b', k1, k2, k3⟩ := cpR_some wi I es leaf ps c1 c2
    rw [h] at k1
    cases k1
    have l1 := cld_len wi (by omega) (by omega) _ (map_lf_len wi (by omega) (by omega) es) leaf (by omega) es.length 0 es.length I 1 ps a b (Nat.le_refl _) (fun p hp => by have := h6 p hp; omega) h
    exact ⟨k2, k3, l1⟩
  · cases h
theorem cqR_ok {j : Int} {es : List (List Nat)} {i : Int} {old : List Nat} {ps : List (List Nat)} {a b : List Nat} (h : cqR j es i old ps = some (a, b)) : ¬ a = b ∧ sm j a = sm j b ∧ (a.length ≤ 100 ∧ b.length ≤ 100) ∧ 0 < a.length ∧ 0 < b.length := by
  unfold cqR at h
  split at h
  · rename_i hc
    obtain ⟨h1, h2, h3, h4, h5, h6, -, -⟩ := chkQ_says hc.1
    obtain ⟨wi, rfl⟩ : ∃ k : Nat, j = (k : Int) := ⟨j.toNat, by omega⟩
    obtain ⟨M, rfl⟩ : ∃ k : Nat, i = (k : Int) := ⟨i.toNat, by omega⟩
    have hmr : mr wi es = mth wi (es.map (lf wi)) := by unfold mr; rw [if_pos (by omega)]
    obtain ⟨c1, c2⟩ := hc
    rw [hmr] at c1
    simp only [Int.toNat_natCast] at h c2
    have hpw : ∀ p ∈ ps, p.length = wi := fun p hp => by have := h6 p hp; omega
    obtain ⟨-, -, k0, a', b', k1, k2, k3⟩ := cqR_some wi M es old ps c1 c2
    rw [h] at k1
    cases k1
    have l1 := cld_len wi (by omega) (by omega) _ (map_lf_len wi (by omega) (by omega) es) _ (rR_wid wi true old _ _ _ _ k0 (by omega) hpw) es.length 0 es.length _ _ _ a b (Nat.le_refl _) (rQ_wid wi true _ _ _ _ hpw) h
    exact ⟨k2, k3, l1⟩
  · cases h
theorem mcpath_T (j i : Int) (x : Value) (us : List Value) (es : List (List Nat)) (lv : Value) (leaf : List Nat) (pv' : Value) (vs : List Value) (ps : List (List Nat)) (w : World) (hg : GS w) (ht : GT w) (hp : Pcs w x us es) (hB : ∀ e ∈ es, e.length ≤ 16000000) (hn : es.length ≤ 8000000) (hl : Sl w lv leaf) (hP : Pcs w pv' vs ps) (hC : Cp pv') (hps : ps.length ≤ 8000000) :
    Calls Tryd.prog 9 #[.int .i64 j, x, .int .i64 i, lv, pv'] w fun e w' => Told w' e (cpR j es i leaf ps) ∧ Fr (fun _ => False) w w' := by
  by_cases hj : 1 ≤ j ∧ j ≤ 32
  · obtain ⟨wi, rfl⟩ : ∃ k : Nat, j = (k : Int) := ⟨j.toNat, by omega⟩
    exact mcpath_in wi (by omega) (by omega) i x us es lv leaf pv' vs ps w hg ht hp hB hn hl hP hC hps
  · rw [cpR_out hj]
    exact (mcpath_out j i (by omega) x us es lv leaf pv' vs ps w hg hp hn hl hP hC hps).mono (fun e w' ⟨h1, h2⟩ => ⟨⟨(fun a b h => by cases h), (fun _ => h1)⟩, h2⟩)
theorem mcproof_T (j i : Int) (x : Value) (us : List Value) (es : List (List Nat)) (lv : Value) (leaf : List Nat) (pv' : Value) (vs : List Value) (ps : List (List Nat)) (w : World) (hg : GS w) (ht : GT w) (hp : Pcs w x us es) (hB : ∀ e ∈ es, e.length ≤ 16000000) (hn : es.length ≤ 8000000) (hl : Sl w lv leaf) (hP : Pcs w pv' vs ps) (hC : Cp pv') (hps : ps.length ≤ 8000000) :
    Calls Tryd.prog 14 #[.int .i64 j, x, .int .i64 i, lv, pv'] w fun e w' => Told w' e (cqR j es i leaf ps) ∧ Fr (fun _ => False) w w' := by
  by_cases hj : 1 ≤ j ∧ j ≤ 32
  · obtain ⟨wi, rfl⟩ : ∃ k : Nat, j = (k : Int) := ⟨j.toNat, by omega⟩
    exact mcproof_in wi (by omega) (by omega) i x us es lv leaf pv' vs ps w hg ht hp hB hn hl hP hC hps
  · rw [cqR_out hj]
    exact (mcproof_out j i (by omega) x us es lv leaf pv' vs ps w hg hp hn hl hP hC hps).mono (fun e w' ⟨h1, h2⟩ => ⟨⟨(fun a b h => by cases h), (fun _ => h1)⟩, h2⟩)
end Go.Proofs.YtocdnomfpgdglabDoor

namespace Go.Proofs.YtocdnomfpgdglabDoor
open Go.RowKit

/-- What the walk of MerkleCollides leans on. -/
structure ClC (w : World) (j i : Int) (xo : Option Addr) (N xc : Nat) (lo : Option Addr) (LN lc : Nat) (po : Option Addr) (PN pc : Nat) (es ps : List (List Nat)) (U1 U2 : Option (List Nat × List Nat)) : Prop where
  gd1 : Calls Tryd.prog 8 #[.slice xo N xc] w fun e w' => ∃ so sc ao ac us ts, e = .returned (.tuple #[.slice so N sc, .slice ao (N + 9) ac]) ∧ Pcs w' (.slice so N sc) us es ∧ Cp (.slice so N sc) ∧ Pcs w' (.slice ao (N + 9) ac) ts (gls es) ∧ Fr (fun _ => False) w w'
  gd2 : ∀ w', Fr (fun _ => False) w w' → Calls Tryd.prog 8 #[.slice po PN pc] w' fun e w'' => ∃ so sc ao ac us ts, e = .returned (.tuple #[.slice so PN sc, .slice ao (PN + 9) ac]) ∧ Pcs w'' (.slice so PN sc) us ps ∧ Cp (.slice so PN sc) ∧ Pcs w'' (.slice ao (PN + 9) ac) ts (gls ps) ∧ Fr (fun _ => False) w' w''
  p1 : ∀ w' so sc us to tc vs, Fr (fun _ => False) w w' → Pcs w' (.slice so N sc) us es → Pcs w' (.slice to PN tc) vs ps → Cp (.slice to PN tc) → Calls Tryd.prog 9 #[.int .i64 j, .slice so N sc, .int .i64 i, .slice lo LN lc, .slice to PN tc] w' fun e w'' => Told w'' e U1 ∧ Fr (fun _ => False) w' w''
  g1 : ∀ w', Fr (fun _ => False) w w' → Calls Tryd.prog 10 #[.int .i64 j, .slice xo N xc, .int .i64 i, .slice lo LN lc, .slice po PN pc] w' fun e w'' => Told w'' e U1 ∧ Fr (fun _ => False) w' w''
  p2 : ∀ w' so sc us to tc vs, Fr (fun _ => False) w w' → Pcs w' (.slice so N sc) us es → Pcs w' (.slice to PN tc) vs ps → Cp (.slice to PN tc) → Calls Tryd.prog 14 #[.int .i64 j, .slice so N sc, .int .i64 i, .slice lo LN lc, .slice to PN tc] w' fun e w'' => Told w'' e U2 ∧ Fr (fun _ => False) w' w''
  g2 : ∀ w', Fr (fun _ => False) w w' → Calls Tryd.prog 15 #[.int .i64 j, .slice xo N xc, .int .i64 i, .slice lo LN lc, .slice po PN pc] w' fun e w'' => Told w'' e U2 ∧ Fr (fun _ => False) w' w''
  l1 : ∀ w' so sc ao ac us ts, Fr (fun _ => False) w w' → Pcs w' (.slice so N sc) us es → Pcs w' (.slice ao (N + 9) ac) ts (gls es) → Calls Tryd.prog 12 #[.slice xo N xc, .slice so N sc, .slice ao (N + 9) ac] w' fun e w'' => e = .returned (.bool true) ∧ Fr (fun _ => False) w' w''
  l2 : ∀ w' so sc ao ac us ts, Fr (fun _ => False) w w' → Pcs w' (.slice so PN sc) us ps → Pcs w' (.slice ao (PN + 9) ac) ts (gls ps) → Calls Tryd.prog 12 #[.slice po PN pc, .slice so PN sc, .slice ao (PN + 9) ac] w' fun e w'' => e = .returned (.bool true) ∧ Fr (fun _ => False) w' w''
  sum : ∀ w' v (m : List Nat), Fr (fun _ => False) w w' → Sl w' v m → m.length ≤ 100 → Calls Tryd.prog 13 #[.int .i64 j, v] w' fun e w'' => ∃ yo yc, e = .returned (.slice yo (sm j m).length yc) ∧ Sl w'' (.slice yo (sm j m).length yc) (sm j m) ∧ Fr (fun _ => False) w' w''
  lv : ∀ w', Fr (fun _ => False) w w' → Calls Tryd.prog 16 #[] w' fun e w'' => e = .returned (.bool true) ∧ Fr (fun _ => False) w' w''
  k1 : ∀ a b, U1 = some (a, b) → ¬ a = b ∧ sm j a = sm j b ∧ a.length ≤ 100 ∧ b.length ≤ 100
  k2 : ∀ a b, U2 = some (a, b) → ¬ a = b ∧ sm j a = sm j b ∧ a.length ≤ 100 ∧ b.length ≤ 100
theorem clC (j i : Int) (x : Value) (us : List Value) (es : List (List Nat)) (lv : Value) (leaf : List Nat) (pv' : Value) (vs : List Value) (ps : List (List Nat)) (w : World) (hg : GS w) (hr : GR w) (ht : GT w) (hp : Pcs w x us es) (hB : ∀ e ∈ es, e.length ≤ 4000000) (hn : es.length ≤ 4000000) (hl : Sl w lv leaf) (hll : leaf.length ≤ 4000000) (hP : Pcs w pv' vs ps) (hC : Cp pv') (hPB : ∀ e ∈ ps, e.length ≤ 4000000) (hps : ps.length ≤ 4000000) :
    ∃ xo xc lo lc po pc, x = .slice xo es.length xc ∧ lv = .slice lo leaf.length lc ∧ pv' = .slice po ps.length pc ∧ ClC w j i xo es.length xc lo leaf.length lc po ps.length pc es ps (cpR j es i leaf ps) (cqR j es i leaf ps) := by
  obtain ⟨xo, xc, rfl⟩ := hp.form
  obtain ⟨lo, lc, rfl⟩ := hl.form
  obtain ⟨po, pc, rfl⟩ := hP.form
  have hB16 : ∀ e ∈ es, e.length ≤ 16000000 := fun e he => by have := hB e he; omega
  refine ⟨xo, xc, lo, lc, po, pc, rfl, rfl, rfl, ?_, fun w' hf => ?_, fun w' so sc us' to tc vs' hf h1 h2 h3 => mcpath_T j i _ us' es _ leaf _ vs' ps w' (hg.fr0 hf) (ht.fr0 hf) h1 hB16 (by omega) (hl.fr0 hf) h2 h3 (by omega), fun w' hf => gcpath_any j i _ us es _ leaf _ vs ps w' (hr.fr0 hf) (hp.fr0 hf) hB hn (hl.fr0 hf) (hP.fr0 hf) hC hps hll, fun w' so sc us' to tc vs' hf h1 h2 h3 => mcproof_T j i _ us' es _ leaf _ vs' ps w' (hg.fr0 hf) (ht.fr0 hf) h1 hB16 (by omega) (hl.fr0 hf) h2 h3 (by omega), fun w' hf => gcproof_any j i _ us es _ leaf _ vs ps w' (hr.fr0 hf) (hp.fr0 hf) hB hn (hl.fr0 hf) (hP.fr0 hf) hC hps hll, fun w' so sc ao ac us' ts hf h1 h2 => mleft_any _ _ _ us us' ts es w' (hp.fr0 hf) h1 h2 hB (by omega), fun w' so sc ao ac us' ts hf h1 h2 => mleft_any _ _ _ vs us' ts ps w' (hP.fr0 hf) h1 h2 hPB (by omega), fun w' v m hf h1 h2 => ?_, fun w' hf => mlives_any w' (hg.fr0 hf) (ht.fr0 hf), fun a b h => ⟨(cpR_ok h).1, (cpR_ok h).2.1, (cpR_ok h).2.2.1.1, (cpR_ok h).2.2.1.2⟩, fun a b h => ⟨(cqR_ok h).1, (cqR_ok h).2.1, (cqR_ok h).2.2.1.1, (cqR_ok h).2.2.1.2⟩⟩
  · refine (mguarded_any _ us es w hp hB (by omega)).mono ?_
    rintro e w1 ⟨so, sc, svs, ao, ac, avs, rfl, hsl, hI⟩
    have h1 := hI.pcsS hsl hp.byt
    have h2 := hI.pcsA
    have hal : avs.length = es.length + 9 := by rw [← hI.sln]; exact hsl
    rw [hal] at h2
    exact ⟨so, sc, ao, ac, _, _, rfl, h1.1, h1.2, h2, hI.all.own.fr⟩
  · refine (mguarded_any _ vs ps w' (hP.fr0 hf) hPB (by omega)).mono ?_
    rintro e w1 ⟨so, sc, svs, ao, ac, avs, rfl, hsl, hI⟩
    have h1 := hI.pcsS hsl hP.byt
    have h2 := hI.pcsA
    have hal : avs.length = ps.length + 9 := by rw [← hI.sln]; exact hsl
    rw [hal] at h2
    exact ⟨so, sc, ao, ac, _, _, rfl, h1.1, h1.2, h2, hI.all.own.fr⟩
  · refine (gsum_T j v m w' (hr.fr0 hf) h1.s h1.b (by omega)).mono ?_
    rintro e w'' ⟨yo, yc, rfl, hO⟩
    exact ⟨yo, yc, rfl, hO.sl (sm_lt _ _), hO.fr⟩
set_option maxRecDepth 100000 in
set_option maxHeartbeats 8000000 in
/-- MerkleCollides. -/
theorem collides_go (w : World) (j i : Int) (xo : Option Addr) (N xc : Nat) (lo : Option Addr) (LN lc : Nat) (po : Option Addr) (PN pc : Nat) (es ps : List (List Nat)) (U1 U2 : Option (List Nat × List Nat)) (hC : ClC w j i xo N xc lo LN lc po PN pc es ps U1 U2) :
    Calls Tryd.prog 3 #[.int .i64 j, .slice xo N xc, .int .i64 i, .slice lo LN lc, .slice po PN pc] w fun e w' => e = .returned (.bool true) ∧ Fr (fun _ => False) w w' := by
  have HC := hide hC
  clear hC
  go_enter Tryd.func3, Tryd.ntmps3
  go_wp2_with fail
  refine (unhide HC).gd1.mono ?_
  rintro e w1 ⟨so, sc, ao, ac, us, ts, rfl, h1, h2, h3, hF1⟩
  have H1 := hide (And.intro h1 (And.intro h3 hF1))
  clear h1 h2 h3 hF1
  go_wp2_with fail
  refine ((unhide HC).gd2 _ (unhide H1).2.2).mono ?_
  rintro e w2 ⟨to, tc, bo, bc, vs, us2, rfl, h1, h2, h3, hF2⟩
  have HS := hide (And.intro ((unhide H1).1.fr0 hF2) (And.intro ((unhide H1).2.1.fr0 hF2) (And.intro h1 (And.intro h2 (And.intro h3 ((unhide H1).2.2.trans hF2 (fun _ _ h => h)))))))
  clear h1 h2 h3 hF2 H1
  go_wp2_with fail
  refine ((unhide HC).p1 _ _ _ _ _ _ _ (unhide HS).2.2.2.2.2 (unhide HS).1 (unhide HS).2.2.1 (unhide HS).2.2.2.1).mono ?_
  rintro e w3 ⟨hT3, hF3⟩
  rcases U1 with _ | ⟨P, Q⟩
  · obtain rfl := hT3.2 rfl
    have H3 := hide hF3
    clear hT3 hF3
    go_wp2_with fail
    refine ((unhide HC).g1 _ ((unhide HS).2.2.2.2.2.trans (unhide H3) (fun _ _ h => h))).mono ?_
    rintro e w4 ⟨hT4, hF4⟩
    obtain rfl := hT4.2 rfl
    have H4 := hide ((unhide H3).trans hF4 (fun _ _ h => h))
    clear hT4 hF4
    go_wp2_with fail
    refine (gsame_D (sl_nil w4) (sl_nil w4) (by simp)).mono ?_
    rintro e w5 ⟨rfl, hF5⟩
    have H5 := hide ((unhide H4).trans hF5 (fun _ _ h => h))
    clear hF5
    rw [decide_eq_true rfl]
    go_wp2_with fail
    refine (gsame_D (sl_nil w5) (sl_nil w5) (by simp)).mono ?_
    rintro e w6 ⟨rfl, hF6⟩
    have H6 := hide ((unhide H5).trans hF6 (fun _ _ h => h))
    clear hF6
    rw [decide_eq_true rfl]
    go_wp2_with fail
    refine ((unhide HC).l1 _ _ _ _ _ _ _ ((unhide HS).2.2.2.2.2.trans (unhide H6) (fun _ _ h => h)) ((unhide HS).1.fr0 (unhide H6)) ((unhide HS).2.1.fr0 (unhide H6))).mono ?_
    rintro e w7 ⟨rfl, hF7⟩
    have H7 := hide (And.intro ((unhide H6).trans hF7 (fun _ _ h => h)) hF7)
    clear hF7
    go_wp2_with fail
    refine ((unhide HC).l2 _ _ _ _ _ _ _ ((unhide HS).2.2.2.2.2.trans (unhide H7).1 (fun _ _ h => h)) ((unhide HS).2.2.1.fr0 (unhide H7).1) ((unhide HS).2.2.2.2.1.fr0 (unhide H7).1)).mono ?_
    rintro e w8 ⟨rfl, hF8⟩
    have H8 := hide (And.intro ((unhide H7).1.trans hF8 (fun _ _ h => h)) ((unhide H7).2.trans hF8 (fun _ _ h => h)))
    clear hF8
    go_wp2_with fail
    refine ((unhide HC).p2 _ _ _ _ _ _ _ ((unhide HS).2.2.2.2.2.trans (unhide H8).1 (fun _ _ h => h)) ((unhide HS).1.fr0 (unhide H8).1) ((unhide HS).2.2.1.fr0 (unhide H8).1) (unhide HS).2.2.2.1).mono ?_
    rintro e w3' ⟨hT3, hF3⟩
    replace hF3 := (unhide H8).1.trans hF3 (fun _ _ h => h)
    clear H3 H4 H5 H6 H7 H8
    rcases U2 with _ | ⟨P, Q⟩
    · obtain rfl := hT3.2 rfl
      have H3 := hide hF3
      clear hT3 hF3
      go_wp2_with fail
      refine ((unhide HC).g2 _ ((unhide HS).2.2.2.2.2.trans (unhide H3) (fun _ _ h => h))).mono ?_
      rintro e w4 ⟨hT4, hF4⟩
      obtain rfl := hT4.2 rfl
      have H4 := hide ((unhide H3).trans hF4 (fun _ _ h => h))
      clear hT4 hF4
      go_wp2_with fail
      refine (gsame_D (sl_nil w4) (sl_nil w4) (by simp)).mono ?_
      rintro e w5 ⟨rfl, hF5⟩
      have H5 := hide ((unhide H4).trans hF5 (fun _ _ h => h))
      clear hF5
      rw [decide_eq_true rfl]
      go_wp2_with fail
      refine (gsame_D (sl_nil w5) (sl_nil w5) (by simp)).mono ?_
      rintro e w6 ⟨rfl, hF6⟩
      have H6 := hide ((unhide H5).trans hF6 (fun _ _ h => h))
      clear hF6
      rw [decide_eq_true rfl]
      go_wp2_with fail
      refine ((unhide HC).l1 _ _ _ _ _ _ _ ((unhide HS).2.2.2.2.2.trans (unhide H6) (fun _ _ h => h)) ((unhide HS).1.fr0 (unhide H6)) ((unhide HS).2.1.fr0 (unhide H6))).mono ?_
      rintro e w7 ⟨rfl, hF7⟩
      have H7 := hide (And.intro ((unhide H6).trans hF7 (fun _ _ h => h)) hF7)
      clear hF7
      go_wp2_with fail
      refine ((unhide HC).l2 _ _ _ _ _ _ _ ((unhide HS).2.2.2.2.2.trans (unhide H7).1 (fun _ _ h => h)) ((unhide HS).2.2.1.fr0 (unhide H7).1) ((unhide HS).2.2.2.2.1.fr0 (unhide H7).1)).mono ?_
      rintro e w8 ⟨rfl, hF8⟩
      have H8 := hide (And.intro ((unhide H7).1.trans hF8 (fun _ _ h => h)) ((unhide H7).2.trans hF8 (fun _ _ h => h)))
      clear hF8
      go_wp2_with fail
      refine ((unhide HC).lv _ ((unhide HS).2.2.2.2.2.trans (unhide H8).1 (fun _ _ h => h))).mono ?_
      rintro e wz ⟨rfl, hFz⟩
      have HZ := hide ((unhide HS).2.2.2.2.2.trans ((unhide H8).1.trans hFz (fun _ _ h => h)) (fun _ _ h => h))
      clear hFz
      go_wp2_with fail
      go_ret
      exact ⟨rfl, unhide HZ⟩
    · obtain ⟨a1, c1, a2, c2, rfl, s1, s2⟩ := hT3.1 P Q rfl
      obtain ⟨kn, ks, kl1, kl2⟩ := (unhide HC).k2 P Q rfl
      have H3 := hide (And.intro hF3 (And.intro s1 (And.intro s2 (And.intro kn (And.intro ks (And.intro kl1 kl2))))))
      clear hT3 hF3 s1 s2 kn ks kl1 kl2
      generalize hPL : P.length = PL at *
      generalize hQL : Q.length = QL at *
      go_wp2_with fail
      refine ((unhide HC).g2 _ ((unhide HS).2.2.2.2.2.trans (unhide H3).1 (fun _ _ h => h))).mono ?_
      rintro e w4 ⟨hT4, hF4⟩
      obtain ⟨b1, d1, b2, d2, rfl, t1, t2⟩ := hT4.1 P Q rfl
      have H4 := hide (And.intro ((unhide H3).1.trans hF4 (fun _ _ h => h)) (And.intro ((unhide H3).2.1.fr0 hF4) (And.intro ((unhide H3).2.2.1.fr0 hF4) (And.intro t1 t2))))
      clear hT4 hF4 t1 t2
      rw [hPL, hQL]
      rw [hPL, hQL] at H4
      go_wp2_with fail
      refine (gsame_D (unhide H4).2.1 (unhide H4).2.2.2.1 (by rw [hPL]; have := (unhide H3).2.2.2.2.2.1; omega)).mono ?_
      rintro e w5 ⟨rfl, hF5⟩
      have H5 := hide (And.intro ((unhide H4).1.trans hF5 (fun _ _ h => h)) (And.intro ((unhide H4).2.1.fr0 hF5) (And.intro ((unhide H4).2.2.1.fr0 hF5) ((unhide H4).2.2.2.2.fr0 hF5))))
      clear hF5
      rw [decide_eq_true rfl]
      go_wp2_with fail
      refine (gsame_D (unhide H5).2.2.1 (unhide H5).2.2.2 (by rw [hQL]; have := (unhide H3).2.2.2.2.2.2; omega)).mono ?_
      rintro e w6 ⟨rfl, hF6⟩
      have H6' := hide (And.intro ((unhide H5).2.1.fr0 hF6) ((unhide H5).2.2.1.fr0 hF6))
      have H6 := hide ((unhide H5).1.trans hF6 (fun _ _ h => h))
      clear hF6
      rw [decide_eq_true rfl]
      go_wp2_with fail
      refine ((unhide HC).l1 _ _ _ _ _ _ _ ((unhide HS).2.2.2.2.2.trans (unhide H6) (fun _ _ h => h)) ((unhide HS).1.fr0 (unhide H6)) ((unhide HS).2.1.fr0 (unhide H6))).mono ?_
      rintro e w7 ⟨rfl, hF7⟩
      have H7 := hide (And.intro ((unhide H6).trans hF7 (fun _ _ h => h)) hF7)
      clear hF7
      go_wp2_with fail
      refine ((unhide HC).l2 _ _ _ _ _ _ _ ((unhide HS).2.2.2.2.2.trans (unhide H7).1 (fun _ _ h => h)) ((unhide HS).2.2.1.fr0 (unhide H7).1) ((unhide HS).2.2.2.2.1.fr0 (unhide H7).1)).mono ?_
      rintro e w8 ⟨rfl, hF8⟩
      have H8 := hide (And.intro ((unhide H7).1.trans hF8 (fun _ _ h => h)) ((unhide H7).2.trans hF8 (fun _ _ h => h)))
      clear hF8
      go_wp2_with fail
      refine (gsame_D ((unhide H6').1.fr0 (unhide H8).2) ((unhide H6').2.fr0 (unhide H8).2) (by rw [hPL]; have := (unhide H3).2.2.2.2.2.1; omega)).mono ?_
      rintro e w9 ⟨rfl, hF9⟩
      have H9 := hide (And.intro ((unhide H8).1.trans hF9 (fun _ _ h => h)) ((unhide H8).2.trans hF9 (fun _ _ h => h)))
      clear hF9
      rw [decide_eq_false (unhide H3).2.2.2.1]
      go_wp2_with fail
      refine ((unhide HC).sum _ _ P ((unhide HS).2.2.2.2.2.trans (unhide H9).1 (fun _ _ h => h)) ((unhide H6').1.fr0 (unhide H9).2) (by rw [hPL]; exact (unhide H3).2.2.2.2.2.1)).mono ?_
      rintro e w10 ⟨yo, yc, rfl, hS10, hF10⟩
      have H10 := hide (And.intro hS10 (And.intro ((unhide H9).1.trans hF10 (fun _ _ h => h)) ((unhide H9).2.trans hF10 (fun _ _ h => h))))
      clear hS10 hF10
      generalize (sm j P).length = SL at *
      go_wp2_with fail
      refine ((unhide HC).sum _ _ Q ((unhide HS).2.2.2.2.2.trans (unhide H10).2.1 (fun _ _ h => h)) ((unhide H6').2.fr0 (unhide H10).2.2) (by rw [hQL]; exact (unhide H3).2.2.2.2.2.2)).mono ?_
      rintro e w11 ⟨zo, zc, rfl, hS11, hF11⟩
      have H11 := hide (And.intro hS11 (And.intro ((unhide H10).1.fr0 hF11) ((unhide H10).2.1.trans hF11 (fun _ _ h => h))))
      clear hS11 hF11
      generalize (sm j Q).length = ZL at *
      go_wp2_with fail
      refine (gsame_D (unhide H11).2.1 (unhide H11).1 (by have := sm32 j P; omega)).mono ?_
      rintro e w12 ⟨rfl, hF12⟩
      have H12 := hide ((unhide H11).2.2.trans hF12 (fun _ _ h => h))
      clear hF12
      rw [decide_eq_true (unhide H3).2.2.2.2.1]
      go_wp2_with fail
      refine ((unhide HC).lv _ ((unhide HS).2.2.2.2.2.trans (unhide H12) (fun _ _ h => h))).mono ?_
      rintro e wz ⟨rfl, hFz⟩
      have HZ := hide ((unhide HS).2.2.2.2.2.trans ((unhide H12).trans hFz (fun _ _ h => h)) (fun _ _ h => h))
      clear hFz
      go_wp2_with fail
      go_ret
      exact ⟨rfl, unhide HZ⟩
  · obtain ⟨a1, c1, a2, c2, rfl, s1, s2⟩ := hT3.1 P Q rfl
    obtain ⟨kn, ks, kl1, kl2⟩ := (unhide HC).k1 P Q rfl
    have H3 := hide (And.intro hF3 (And.intro s1 (And.intro s2 (And.intro kn (And.intro ks (And.intro kl1 kl2))))))
    clear hT3 hF3 s1 s2 kn ks kl1 kl2
    generalize hPL : P.length = PL at *
    generalize hQL : Q.length = QL at *
    go_wp2_with fail
    refine ((unhide HC).g1 _ ((unhide HS).2.2.2.2.2.trans (unhide H3).1 (fun _ _ h => h))).mono ?_
    rintro e w4 ⟨hT4, hF4⟩
    obtain ⟨b1, d1, b2, d2, rfl, t1, t2⟩ := hT4.1 P Q rfl
    have H4 := hide (And.intro ((unhide H3).1.trans hF4 (fun _ _ h => h)) (And.intro ((unhide H3).2.1.fr0 hF4) (And.intro ((unhide H3).2.2.1.fr0 hF4) (And.intro t1 t2))))
    clear hT4 hF4 t1 t2
    rw [hPL, hQL]
    rw [hPL, hQL] at H4
    go_wp2_with fail
    refine (gsame_D (unhide H4).2.1 (unhide H4).2.2.2.1 (by rw [hPL]; have := (unhide H3).2.2.2.2.2.1; omega)).mono ?_
    rintro e w5 ⟨rfl, hF5⟩
    have H5 := hide (And.intro ((unhide H4).1.trans hF5 (fun _ _ h => h)) (And.intro ((unhide H4).2.1.fr0 hF5) (And.intro ((unhide H4).2.2.1.fr0 hF5) ((unhide H4).2.2.2.2.fr0 hF5))))
    clear hF5
    rw [decide_eq_true rfl]
    go_wp2_with fail
    refine (gsame_D (unhide H5).2.2.1 (unhide H5).2.2.2 (by rw [hQL]; have := (unhide H3).2.2.2.2.2.2; omega)).mono ?_
    rintro e w6 ⟨rfl, hF6⟩
    have H6' := hide (And.intro ((unhide H5).2.1.fr0 hF6) ((unhide H5).2.2.1.fr0 hF6))
    have H6 := hide ((unhide H5).1.trans hF6 (fun _ _ h => h))
    clear hF6
    rw [decide_eq_true rfl]
    go_wp2_with fail
    refine ((unhide HC).l1 _ _ _ _ _ _ _ ((unhide HS).2.2.2.2.2.trans (unhide H6) (fun _ _ h => h)) ((unhide HS).1.fr0 (unhide H6)) ((unhide HS).2.1.fr0 (unhide H6))).mono ?_
    rintro e w7 ⟨rfl, hF7⟩
    have H7 := hide (And.intro ((unhide H6).trans hF7 (fun _ _ h => h)) hF7)
    clear hF7
    go_wp2_with fail
    refine ((unhide HC).l2 _ _ _ _ _ _ _ ((unhide HS).2.2.2.2.2.trans (unhide H7).1 (fun _ _ h => h)) ((unhide HS).2.2.1.fr0 (unhide H7).1) ((unhide HS).2.2.2.2.1.fr0 (unhide H7).1)).mono ?_
    rintro e w8 ⟨rfl, hF8⟩
    have H8 := hide (And.intro ((unhide H7).1.trans hF8 (fun _ _ h => h)) ((unhide H7).2.trans hF8 (fun _ _ h => h)))
    clear hF8
    go_wp2_with fail
    refine (gsame_D ((unhide H6').1.fr0 (unhide H8).2) ((unhide H6').2.fr0 (unhide H8).2) (by rw [hPL]; have := (unhide H3).2.2.2.2.2.1; omega)).mono ?_
    rintro e w9 ⟨rfl, hF9⟩
    have H9 := hide (And.intro ((unhide H8).1.trans hF9 (fun _ _ h => h)) ((unhide H8).2.trans hF9 (fun _ _ h => h)))
    clear hF9
    rw [decide_eq_false (unhide H3).2.2.2.1]
    go_wp2_with fail
    refine ((unhide HC).sum _ _ P ((unhide HS).2.2.2.2.2.trans (unhide H9).1 (fun _ _ h => h)) ((unhide H6').1.fr0 (unhide H9).2) (by rw [hPL]; exact (unhide H3).2.2.2.2.2.1)).mono ?_
    rintro e w10 ⟨yo, yc, rfl, hS10, hF10⟩
    have H10 := hide (And.intro hS10 (And.intro ((unhide H9).1.trans hF10 (fun _ _ h => h)) ((unhide H9).2.trans hF10 (fun _ _ h => h))))
    clear hS10 hF10
    generalize (sm j P).length = SL at *
    go_wp2_with fail
    refine ((unhide HC).sum _ _ Q ((unhide HS).2.2.2.2.2.trans (unhide H10).2.1 (fun _ _ h => h)) ((unhide H6').2.fr0 (unhide H10).2.2) (by rw [hQL]; exact (unhide H3).2.2.2.2.2.2)).mono ?_
    rintro e w11 ⟨zo, zc, rfl, hS11, hF11⟩
    have H11 := hide (And.intro hS11 (And.intro ((unhide H10).1.fr0 hF11) ((unhide H10).2.1.trans hF11 (fun _ _ h => h))))
    clear hS11 hF11
    generalize (sm j Q).length = ZL at *
    go_wp2_with fail
    refine (gsame_D (unhide H11).2.1 (unhide H11).1 (by have := sm32 j P; omega)).mono ?_
    rintro e w12 ⟨rfl, hF12⟩
    have H12 := hide ((unhide H11).2.2.trans hF12 (fun _ _ h => h))
    clear hF12
    rw [decide_eq_true (unhide H3).2.2.2.2.1]
    go_wp2_with fail
    refine ((unhide HC).p2 _ _ _ _ _ _ _ ((unhide HS).2.2.2.2.2.trans (unhide H12) (fun _ _ h => h)) ((unhide HS).1.fr0 (unhide H12)) ((unhide HS).2.2.1.fr0 (unhide H12)) (unhide HS).2.2.2.1).mono ?_
    rintro e w3' ⟨hT3, hF3⟩
    replace hF3 := (unhide H12).trans hF3 (fun _ _ h => h)
    clear H3 H4 H5 H6 H7 H8 H6' H9 H10 H11 H12
    clear hPL hQL
    rcases U2 with _ | ⟨P, Q⟩
    · obtain rfl := hT3.2 rfl
      have H3 := hide hF3
      clear hT3 hF3
      go_wp2_with fail
      refine ((unhide HC).g2 _ ((unhide HS).2.2.2.2.2.trans (unhide H3) (fun _ _ h => h))).mono ?_
      rintro e w4 ⟨hT4, hF4⟩
      obtain rfl := hT4.2 rfl
      have H4 := hide ((unhide H3).trans hF4 (fun _ _ h => h))
      clear hT4 hF4
      go_wp2_with fail
      refine (gsame_D (sl_nil w4) (sl_nil w4) (by simp)).mono ?_
      rintro e w5 ⟨rfl, hF5⟩
      have H5 := hide ((unhide H4).trans hF5 (fun _ _ h => h))
      clear hF5
      rw [decide_eq_true rfl]
      go_wp2_with fail
      refine (gsame_D (sl_nil w5) (sl_nil w5) (by simp)).mono ?_
      rintro e w6 ⟨rfl, hF6⟩
      have H6 := hide ((unhide H5).trans hF6 (fun _ _ h => h))
      clear hF6
      rw [decide_eq_true rfl]
      go_wp2_with fail
      refine ((unhide HC).l1 _ _ _ _ _ _ _ ((unhide HS).2.2.2.2.2.trans (unhide H6) (fun _ _ h => h)) ((unhide HS).1.fr0 (unhide H6)) ((unhide HS).2.1.fr0 (unhide H6))).mono ?_
      rintro e w7 ⟨rfl, hF7⟩
      have H7 := hide (And.intro ((unhide H6).trans hF7 (fun _ _ h => h)) hF7)
      clear hF7
      go_wp2_with fail
      refine ((unhide HC).l2 _ _ _ _ _ _ _ ((unhide HS).2.2.2.2.2.trans (unhide H7).1 (fun _ _ h => h)) ((unhide HS).2.2.1.fr0 (unhide H7).1) ((unhide HS).2.2.2.2.1.fr0 (unhide H7).1)).mono ?_
      rintro e w8 ⟨rfl, hF8⟩
      have H8 := hide (And.intro ((unhide H7).1.trans hF8 (fun _ _ h => h)) ((unhide H7).2.trans hF8 (fun _ _ h => h)))
      clear hF8
      go_wp2_with fail
      refine ((unhide HC).lv _ ((unhide HS).2.2.2.2.2.trans (unhide H8).1 (fun _ _ h => h))).mono ?_
      rintro e wz ⟨rfl, hFz⟩
      have HZ := hide ((unhide HS).2.2.2.2.2.trans ((unhide H8).1.trans hFz (fun _ _ h => h)) (fun _ _ h => h))
      clear hFz
      go_wp2_with fail
      go_ret
      exact ⟨rfl, unhide HZ⟩
    · obtain ⟨a1, c1, a2, c2, rfl, s1, s2⟩ := hT3.1 P Q rfl
      obtain ⟨kn, ks, kl1, kl2⟩ := (unhide HC).k2 P Q rfl
      have H3 := hide (And.intro hF3 (And.intro s1 (And.intro s2 (And.intro kn (And.intro ks (And.intro kl1 kl2))))))
      clear hT3 hF3 s1 s2 kn ks kl1 kl2
      generalize hPL : P.length = PL at *
      generalize hQL : Q.length = QL at *
      go_wp2_with fail
      refine ((unhide HC).g2 _ ((unhide HS).2.2.2.2.2.trans (unhide H3).1 (fun _ _ h => h))).mono ?_
      rintro e w4 ⟨hT4, hF4⟩
      obtain ⟨b1, d1, b2, d2, rfl, t1, t2⟩ := hT4.1 P Q rfl
      have H4 := hide (And.intro ((unhide H3).1.trans hF4 (fun _ _ h => h)) (And.intro ((unhide H3).2.1.fr0 hF4) (And.intro ((unhide H3).2.2.1.fr0 hF4) (And.intro t1 t2))))
      clear hT4 hF4 t1 t2
      rw [hPL, hQL]
      rw [hPL, hQL] at H4
      go_wp2_with fail
      refine (gsame_D (unhide H4).2.1 (unhide H4).2.2.2.1 (by rw [hPL]; have := (unhide H3).2.2.2.2.2.1; omega)).mono ?_
      rintro e w5 ⟨rfl, hF5⟩
      have H5 := hide (And.intro ((unhide H4).1.trans hF5 (fun _ _ h => h)) (And.intro ((unhide H4).2.1.fr0 hF5) (And.intro ((unhide H4).2.2.1.fr0 hF5) ((unhide H4).2.2.2.2.fr0 hF5))))
      clear hF5
      rw [decide_eq_true rfl]
      go_wp2_with fail
      refine (gsame_D (unhide H5).2.2.1 (unhide H5).2.2.2 (by rw [hQL]; have := (unhide H3).2.2.2.2.2.2; omega)).mono ?_
      rintro e w6 ⟨rfl, hF6⟩
      have H6' := hide (And.intro ((unhide H5).2.1.fr0 hF6) ((unhide H5).2.2.1.fr0 hF6))
      have H6 := hide ((unhide H5).1.trans hF6 (fun _ _ h => h))
      clear hF6
      rw [decide_eq_true rfl]
      go_wp2_with fail
      refine ((unhide HC).l1 _ _ _ _ _ _ _ ((unhide HS).2.2.2.2.2.trans (unhide H6) (fun _ _ h => h)) ((unhide HS).1.fr0 (unhide H6)) ((unhide HS).2.1.fr0 (unhide H6))).mono ?_
      rintro e w7 ⟨rfl, hF7⟩
      have H7 := hide (And.intro ((unhide H6).trans hF7 (fun _ _ h => h)) hF7)
      clear hF7
      go_wp2_with fail
      refine ((unhide HC).l2 _ _ _ _ _ _ _ ((unhide HS).2.2.2.2.2.trans (unhide H7).1 (fun _ _ h => h)) ((unhide HS).2.2.1.fr0 (unhide H7).1) ((unhide HS).2.2.2.2.1.fr0 (unhide H7).1)).mono ?_
      rintro e w8 ⟨rfl, hF8⟩
      have H8 := hide (And.intro ((unhide H7).1.trans hF8 (fun _ _ h => h)) ((unhide H7).2.trans hF8 (fun _ _ h => h)))
      clear hF8
      go_wp2_with fail
      refine (gsame_D ((unhide H6').1.fr0 (unhide H8).2) ((unhide H6').2.fr0 (unhide H8).2) (by rw [hPL]; have := (unhide H3).2.2.2.2.2.1; omega)).mono ?_
      rintro e w9 ⟨rfl, hF9⟩
      have H9 := hide (And.intro ((unhide H8).1.trans hF9 (fun _ _ h => h)) ((unhide H8).2.trans hF9 (fun _ _ h => h)))
      clear hF9
      rw [decide_eq_false (unhide H3).2.2.2.1]
      go_wp2_with fail
      refine ((unhide HC).sum _ _ P ((unhide HS).2.2.2.2.2.trans (unhide H9).1 (fun _ _ h => h)) ((unhide H6').1.fr0 (unhide H9).2) (by rw [hPL]; exact (unhide H3).2.2.2.2.2.1)).mono ?_
      rintro e w10 ⟨yo, yc, rfl, hS10, hF10⟩
      have H10 := hide (And.intro hS10 (And.intro ((unhide H9).1.trans hF10 (fun _ _ h => h)) ((unhide H9).2.trans hF10 (fun _ _ h => h))))
      clear hS10 hF10
      generalize (sm j P).length = SL at *
      go_wp2_with fail
      refine ((unhide HC).sum _ _ Q ((unhide HS).2.2.2.2.2.trans (unhide H10).2.1 (fun _ _ h => h)) ((unhide H6').2.fr0 (unhide H10).2.2) (by rw [hQL]; exact (unhide H3).2.2.2.2.2.2)).mono ?_
      rintro e w11 ⟨zo, zc, rfl, hS11, hF11⟩
      have H11 := hide (And.intro hS11 (And.intro ((unhide H10).1.fr0 hF11) ((unhide H10).2.1.trans hF11 (fun _ _ h => h))))
      clear hS11 hF11
      generalize (sm j Q).length = ZL at *
      go_wp2_with fail
      refine (gsame_D (unhide H11).2.1 (unhide H11).1 (by have := sm32 j P; omega)).mono ?_
      rintro e w12 ⟨rfl, hF12⟩
      have H12 := hide ((unhide H11).2.2.trans hF12 (fun _ _ h => h))
      clear hF12
      rw [decide_eq_true (unhide H3).2.2.2.2.1]
      go_wp2_with fail
      refine ((unhide HC).lv _ ((unhide HS).2.2.2.2.2.trans (unhide H12) (fun _ _ h => h))).mono ?_
      rintro e wz ⟨rfl, hFz⟩
      have HZ := hide ((unhide HS).2.2.2.2.2.trans ((unhide H12).trans hFz (fun _ _ h => h)) (fun _ _ h => h))
      clear hFz
      go_wp2_with fail
      go_ret
      exact ⟨rfl, unhide HZ⟩
/-- MerkleCollides, of what comes in. -/
theorem collides_any (j i : Int) (x : Value) (us : List Value) (es : List (List Nat)) (lv : Value) (leaf : List Nat) (pv' : Value) (vs : List Value) (ps : List (List Nat)) (w : World) (hg : GS w) (hr : GR w) (ht : GT w) (hp : Pcs w x us es) (hB : ∀ e ∈ es, e.length ≤ 4000000) (hn : es.length ≤ 4000000) (hl : Sl w lv leaf) (hll : leaf.length ≤ 4000000) (hP : Pcs w pv' vs ps) (hC : Cp pv') (hPB : ∀ e ∈ ps, e.length ≤ 4000000) (hps : ps.length ≤ 4000000) :
    Calls Tryd.prog 3 #[.int .i64 j, x, .int .i64 i, lv, pv'] w fun e w' => e = .returned (.bool true) ∧ Fr (fun _ => False) w w' := by
  obtain ⟨xo, xc, lo, lc, po, pc, rfl, rfl, rfl, h⟩ := clC j i x us es lv leaf pv' vs ps w hg hr ht hp hB hn hl hll hP hC hPB hps
  exact collides_go w j i xo _ xc lo _ lc po _ pc es ps _ _ h
end Go.Proofs.YtocdnomfpgdglabDoor

namespace Go.Proofs.YtocdnomfpgdglabDoor
open Go.ChangeShapes Go.WideShapes Go.ChangeAt Go.RowKit
set_option maxRecDepth 100000

theorem mcollides_contract (H : Type) (enc : TypeId × Value → H) (W : World) (base : Nat) (args : Array Value) (ds gs : List (DataW H)) (before : List MemPlace)
    (hval : ∀ (j : Nat) t v, Tryd.f3.params[j]? = some t → args[j]? = some v → Value.okWide Tryd.prog W .any base t v)
    (hW : DataW.Whole enc Tryd.prog Tryd.f3.params.toList Rows.merkleCollidesSpec.vars false W args.toList ds gs before) (hk : Rows.uptoSmall H (ds ++ gs) = true) (hL : laidMetH Tryd.prog Rows.merkleCollidesUptoRow.laid W) (hsh : W.ShapedOpen Tryd.prog) :
    Calls Tryd.prog 3 args W fun e W' => ∃ v, e = .returned v ∧ Rows.merkleCollidesSpec.post enc Tryd.prog Tryd.f3 false true false false W args v W' := by
  have hW' := hW
  obtain ⟨p, q, hA0, hV, rfl, hfz, hnd⟩ := hW
  have hA : DataW.TrodAll enc Tryd.prog W 0 (fun _ => true) true Tryd.f3.params.toList args.toList ds p := hA0
  rw [Tryd.params3] at hA hval
  obtain ⟨v0, vs0, d0, ds0, p0, q0, hargs, rfl, rfl, h0, r0⟩ := trodAll_cons hA
  obtain ⟨v1, vs1, d1, ds1, p1, q1, rfl, rfl, rfl, h1, r1⟩ := trodAll_cons r0
  obtain ⟨v2, vs2, d2, ds2, p2, q2, rfl, rfl, rfl, h2, r2⟩ := trodAll_cons r1
  obtain ⟨v3, vs3, d3, ds3, p3, q3, rfl, rfl, rfl, h3, r3⟩ := trodAll_cons r2
  obtain ⟨v4, vs4, d4, ds4, p4, q4, rfl, rfl, rfl, h4, r4⟩ := trodAll_cons r3
  obtain ⟨rfl, rfl, rfl⟩ := trodAll_nil r4
  obtain rfl : args = #[v0, v1, v2, v3, v4] := by cases args; simp_all
  obtain ⟨rfl, rfl⟩ := trodVars_none hV
  obtain ⟨a0, rfl, rfl, rfl, w0⟩ := open_int Tryd.underlying3 (hval 0 3 v0 rfl rfl) h0
  obtain ⟨us1, ps1, hP1, hCp1, hB1, hN1⟩ := pcs_of_readingC (hval 1 22 v1 rfl rfl) h1
  obtain ⟨a2, rfl, rfl, rfl, w2⟩ := open_int Tryd.underlying3 (hval 2 3 v2 rfl rfl) h2
  have hb3 : ∃ l : List Nat, Sl W v3 l ∧ l.length ≤ Rows.uptoBulk d3 := by
    obtain ⟨a, len, cap, rfl⟩ := okWide_slice Tryd.underlying23 (hval 3 23 v3 rfl rfl)
    obtain ⟨fuel, hf⟩ := h3
    obtain ⟨l, q1, q2, q3, q4, q5⟩ := src_of_trod (by simpa [Value.cells] using hf)
    exact ⟨l, ⟨q1, q3, q4, q2⟩, q5⟩
  obtain ⟨l3, hS3, hN3⟩ := hb3
  obtain ⟨us4, ps4, hP4, hCp4, hB4, hN4⟩ := pcs_of_readingC (hval 4 22 v4 rfl rfl) h4
  have hk1 : Rows.uptoBulk d1 ≤ 1048576 := by
    have h := of_decide_eq_true hk
    simp only [List.append_nil, Rows.uptoBulkAll] at h
    omega
  have hk3 : Rows.uptoBulk d3 ≤ 1048576 := by
    have h := of_decide_eq_true hk
    simp only [List.append_nil, Rows.uptoBulkAll] at h
    omega
  have hk4 : Rows.uptoBulk d4 ≤ 1048576 := by
    have h := of_decide_eq_true hk
    simp only [List.append_nil, Rows.uptoBulkAll] at h
    omega
  obtain ⟨hg, hr, ht⟩ := g6_of_laid (show laidMet Tryd.prog laid6 W from hL) (heap_enough hsh)
  clear hA0
  refine (collides_any a0 a2 v1 us1 ps1 v3 l3 v4 us4 ps4 W hg hr ht hP1 (fun p hp => by have := hB1 p hp; omega) (by omega) hS3 (by omega) hP4 hCp4 (fun p hp => by have := hB4 p hp; omega) (by omega)).mono fun e W' ⟨he, hf⟩ => ?_
  subst he
  have hlt : ∀ x ∈ [] ++ (p1 ++ ([] ++ (p3 ++ (p4 ++ [])))), x.block < W.heap.size := fun x hx => hW'.lt x (by simpa using hx)
  have hb := hf.below
  refine ⟨_, rfl, _, _, _, [], [] ++ (p1 ++ ([] ++ (p3 ++ (p4 ++ [])))), [], hW', ?_, ?_, ?_, hb.frame _, fun h => by cases h⟩
  · exact trodAll_cons_mk (shut_bool Tryd.underlying4 true) trodAll_mk0
  · exact (trodAll_cons_mk (shut_int Tryd.underlying3 w0) (trodAll_cons_mk (Below.trod (by kernel_rfl) (by kernel_rfl) (by decide +kernel) h1 hb (fun x hx => hlt x (by simp [hx]))) (trodAll_cons_mk (shut_int Tryd.underlying3 w2) (trodAll_cons_mk (Below.trod (by kernel_rfl) (by kernel_rfl) (by decide +kernel) h3 hb (fun x hx => hlt x (by simp [hx]))) (trodAll_cons_mk (Below.trod (by kernel_rfl) (by kernel_rfl) (by decide +kernel) h4 hb (fun x hx => hlt x (by simp [hx]))) trodAll_mk0)))))
  · rfl

theorem mcollides_laid_met (os : Os) : laidMetH Tryd.prog Rows.merkleCollidesUptoRow.laid ((mWorld os).forCall (fun _ _ => 0) ⟨#[], #[.int .i64 0, .slice none 0 0, .int .i64 0, .slice none 0 0, .slice none 0 0], []⟩).memory :=
  laidMetH_of_parts (laidMet_of_run' 8 (by kernel_rfl) (by kernel_rfl)) (by kernel_rfl)
theorem mcollides_reads (os : Os) {H : Type} (enc : TypeId × Value → H) : ∃ places, DataW.whole enc Tryd.prog ((mWorld os).forCall (fun _ _ => 0) ⟨#[], #[.int .i64 0, .slice none 0 0, .int .i64 0, .slice none 0 0, .slice none 0 0], []⟩).memory Tryd.f3.params.toList Rows.merkleCollidesSpec.vars false #[Value.int .i64 0, .slice none 0 0, .int .i64 0, .slice none 0 0, .slice none 0 0].toList 8 = some ([.lit (.int .i64 0), .nil, .lit (.int .i64 0), .nil, .nil], [], places) :=
  ⟨[], by kernel_rfl⟩

theorem mcollides_lifted (os : Os) (started : os.Started) (H : Type) (enc : TypeId × Value → H) (F : Stop.Interp) :
    ReturnsInHanded {} Tryd.checked os 3 .any ((Rows.OpenSpec.upto Rows.merkleCollidesSpec).preRow enc Tryd.prog Tryd.f3 Rows.merkleCollidesUptoRow.domain false Rows.merkleCollidesUptoRow.laid) (((Rows.OpenSpec.upto Rows.merkleCollidesSpec).at F).post enc Tryd.prog Tryd.f3 false true false false) := by
  obtain ⟨places, hx⟩ := mcollides_reads os enc
  refine returnsInHanded_of_row (C := Tryd.checked) (s := Rows.OpenSpec.upto Rows.merkleCollidesSpec) Tryd.ownKnob started (by kernel_rfl) Tryd.func3
    (witness_row_atRef (enc := enc) (C := Tryd.checked) false (mWorld os) #[.int .i64 0, .slice none 0 0, .int .i64 0, .slice none 0 0, .slice none 0 0] rfl (by kernel_rfl) (by kernel_rfl) (by kernel_rfl)
      (OpenSpec.preRow_of_cond 8 hx (by kernel_rfl) (fun k hk => by cases hk; kernel_rfl) (by kernel_rfl) (mcollides_laid_met os))) ?_
  intro W base args ds gs before hval hW _ hcond _ hL hsh _
  exact mcollides_contract H enc W base args ds gs before hval hW (hcond _ rfl) hL hsh

theorem mcollides_said : Rows.MerkleCollidesUptoSaid :=
  OpenClaim.holds_of_cond 3 Tryd.f3 rfl rfl rfl rfl rfl rfl rfl ⟨rfl, rfl, rfl, rfl, rfl⟩ rfl rfl rfl rfl rfl (by kernel_rfl) Tryd.func3 (by kernel_rfl)
    (of_decide_eq_true (by kernel_rfl)) (by unfold Func.isWrapper; first | (rw [if_pos (by decide +kernel)]; kernel_rfl) | (rw [if_neg (by decide +kernel)]; exact ⟨rfl, rfl⟩))
    (fun os started H enc _ F => by rw [OpenClaim.pre_eq_preRow]; exact mcollides_lifted os started H enc F)

theorem mcollides_plain (f : FuncId) (fn : Func) (hf : Tryd.pinned.checked.prog.funcNamed Rows.merkleCollidesUptoRow.func = some f) (hfn : Tryd.pinned.checked.prog.funcs[f]? = some fn) :
    false = Tryd.pinned.checked.prog.looks [] ∧ ∀ (j : Nat) t, fn.params[j]? = some t → Tryd.pinned.checked.prog.wantsStandIn t = false := by
  obtain rfl : f = 3 := Option.some.inj ((show Tryd.prog.funcNamed Rows.merkleCollidesUptoRow.func = some 3 by kernel_rfl).symm.trans hf) |>.symm
  obtain rfl : fn = Tryd.f3 := (Option.some.inj (Tryd.func3.symm.trans hfn)).symm
  refine ⟨by kernel_rfl, fun j t ht => ?_⟩
  rw [Tryd.params3] at ht
  have ht' : t = 3 ∨ t = 22 ∨ t = 3 ∨ t = 23 ∨ t = 22 := by simpa using Array.mem_of_getElem? ht
  rcases ht' with rfl | rfl | rfl | rfl | rfl
  · exact (show Tryd.prog.wantsStandIn 3 = false by kernel_rfl)
  · exact (show Tryd.prog.wantsStandIn 22 = false by kernel_rfl)
  · exact (show Tryd.prog.wantsStandIn 3 = false by kernel_rfl)
  · exact (show Tryd.prog.wantsStandIn 23 = false by kernel_rfl)
  · exact (show Tryd.prog.wantsStandIn 22 = false by kernel_rfl)

/-- THE SECOND FORM's CARD. -/
theorem mcollides_card : Rows.MerkleCollidesUptoCardSaid :=
  Claim7.holds_tied_plain_at .later [] _ _ _ _ mcollides_said (fun _ h => by cases h) (by kernel_rfl) (fun _ h => by cases h) merkleCollidesUpto_row_tie rfl ⟨rfl, rfl⟩ (by kernel_rfl) rfl mcollides_plain (by kernel_rfl)
#print axioms mcollides_card
end Go.Proofs.YtocdnomfpgdglabDoor

