import Derived.Test.YtciblhmmpamjoaaDoorPk2
import Derived.Test.YtciblhmmpamjoaaDoorOcc
namespace Go.Proofs.YtciblhmmpamjoaaDoor
open Go.RowKit

def gRd (p : P3) (k wd ow : Nat) (sl : Bool) (G : List Nat) : Nat := if k = ow ∨ (p.r = 3 ∧ p.w = wd) then 0 else if (p.r = 2 ∨ p.r = 1) ∧ p.w = wd ∧ sl = false then 0 else if (p.r = 3 ∨ p.r = 2) ∧ k ∈ G then 0 else if (p.r = 2 ∨ p.r = 1) ∧ p.w = wd then 6 else 5
def gRe (p : P3) (k wd ow : Nat) : Nat := if k = ow ∨ (p.r = 3 ∧ p.w = wd) then 0 else 5
def gSe (_p : P3) (k ow : Nat) : Nat := if k = ow then 0 else 5
def gBr (p : P3) (rs : ByteArray) : Nat := if (p.r = 3 ∨ p.r = 2) ∧ rs.toList.isEmpty = false then 0 else 5
set_option maxHeartbeats 2000000 in
set_option maxRecDepth 100000 in
theorem gread_any (sv : Value) (S : List P3) (wd ow : Nat) (sl : Bool) (gv : Value) (G : List Nat) (k : Nat) (w : World) (hS : Stf w sv S) (hl : S.length ≤ 140737488355328) (hG : Us w gv G) (hgl : G.length ≤ 140737488355328) :
    Calls Tryd.prog 9 #[sv, .agg #[.int .u32 (wd : Nat), .int .u32 (ow : Nat), .bool sl, gv], .int .u32 (k : Nat)] w fun e w' => e = .returned (.int .u8 ((ansv S k fun p => gRd p k wd ow sl G : Nat) : Nat)) ∧ Fr (fun _ => False) w w' := by
  have HG := hide (fun W (hf : Fr (fun _ => False) w W) => ggranted_any (.int .u32 (wd : Nat)) (.int .u32 (ow : Nat)) (.bool sl) gv G k W (hG.fr hf) hgl)
  have HF := hide (fun W (hf : Fr (fun _ => False) w W) => gfind_any sv S k W (hS.fr hf) hl)
  obtain ⟨xo, xc, rfl⟩ := hS.form
  obtain ⟨go, gc, rfl⟩ := hG.form
  clear hG
  rcases fnd_cases S k with ⟨h1, h2⟩ | ⟨j, hj, h1, h2, h3⟩
  · have HV := hide (show (ansv S k fun p => gRd p k wd ow sl G) = 1 by rw [ansv, h2])
    simp only [fndI, h1] at HF
    clear hS h1 h2
    go_enter Tryd.func9, Tryd.ntmps9
    go_wp2_with fail
    refine ((unhide HF) _ ((Fr.refl _ _).alloc _)).mono ?_
    clear HF
    rintro e w2 ⟨rfl, rfl⟩
    go_wp2_with fail
    go_ret
    exact ⟨by rw [unhide HV]; rfl, (Fr.refl _ _).alloc _⟩
  · obtain ⟨P, hPe⟩ : ∃ P, S[j] = P := ⟨_, rfl⟩
    have HV := hide (show (ansv S k fun p => gRd p k wd ow sl G) = (fun p : P3 => gRd p k wd ow sl G) P by rw [ansv, h2, hPe])
    simp only [fndI, h1] at HF
    obtain ⟨g, o, rfl, c0, c1, c2⟩ := hS.at_ j hj
    rw [hPe] at c0 c1 c2 h3
    have hgl0 : g < w.heap.size := lt_of_cell c0
    clear hS h1 h2 hPe
    obtain ⟨pa, pr, pw⟩ := P
    simp only at c0 c1 c2 h3
    rw [h3] at c0
    clear h3
    go_enter Tryd.func9, Tryd.ntmps9
    go_wp2_with fail
    refine ((unhide HF) _ ((Fr.refl _ _).alloc _)).mono ?_
    clear HF
    rintro e w2 ⟨rfl, rfl⟩
    go_wp2_with fail
    go_quiet (fail)
    by_cases hown : k = ow
    · subst hown
      go_wp2_with fail
      go_ret
      exact ⟨by rw [unhide HV]; simp [gRd], (by repeat first | exact Fr.refl _ _ | refine Fr.alloc ?_ _ | refine Fr.drew ?_ | refine Fr.drewN ?_ _)⟩
    · by_cases hr3 : pr = 3
      · subst hr3
        by_cases hnear : pw = wd
        · subst hnear
          go_wp2_with fail
          go_ret
          exact ⟨by rw [unhide HV]; simp [gRd, hown], (by repeat first | exact Fr.refl _ _ | refine Fr.alloc ?_ _ | refine Fr.drew ?_ | refine Fr.drewN ?_ _)⟩
        · have ib : ((pw : Int) == (wd : Int)) = false := by rw [beq_cast]; simp [hnear]
          by_cases hg : k ∈ G
          · have hD : decide (k ∈ G) = true := by simp [hg]
            rw [hD] at HG
            clear hD
            go_wp2_with fail
            refine Calls.mono (unhide HG _ ?_) ?_
            · repeat first | exact Fr.refl _ _ | refine Fr.alloc ?_ _ | refine Fr.drew ?_ | refine Fr.drewN ?_ _
            clear HG
            rintro e wq ⟨rfl, hq⟩
            go_wp2_with fail
            go_ret
            exact ⟨by rw [unhide HV]; simp [gRd, hnear, hown, hg], (Fr.trans (by repeat first | exact Fr.refl _ _ | refine Fr.alloc ?_ _ | refine Fr.drew ?_ | refine Fr.drewN ?_ _) hq (fun _ _ h => h))⟩
          · have hD : decide (k ∈ G) = false := by simp [hg]
            rw [hD] at HG
            clear hD
            go_wp2_with fail
            refine Calls.mono (unhide HG _ ?_) ?_
            · repeat first | exact Fr.refl _ _ | refine Fr.alloc ?_ _ | refine Fr.drew ?_ | refine Fr.drewN ?_ _
            clear HG
            rintro e wq ⟨rfl, hq⟩
            go_wp2_with fail
            go_ret
            exact ⟨by rw [unhide HV]; simp [gRd, hnear, hown, hg], (Fr.trans (by repeat first | exact Fr.refl _ _ | refine Fr.alloc ?_ _ | refine Fr.drew ?_ | refine Fr.drewN ?_ _) hq (fun _ _ h => h))⟩
      · have ir3 : ¬ (pr : Int) = 3 := by omega
        by_cases hr2 : pr = 2
        · subst hr2
          by_cases hnear : pw = wd
          · subst hnear
            rcases sl with _ | _
            · go_wp2_with fail
              go_ret
              exact ⟨by rw [unhide HV]; simp [gRd, hown], (by repeat first | exact Fr.refl _ _ | refine Fr.alloc ?_ _ | refine Fr.drew ?_ | refine Fr.drewN ?_ _)⟩
            · by_cases hg : k ∈ G
              · have hD : decide (k ∈ G) = true := by simp [hg]
                rw [hD] at HG
                clear hD
                go_wp2_with fail
                refine Calls.mono (unhide HG _ ?_) ?_
                · repeat first | exact Fr.refl _ _ | refine Fr.alloc ?_ _ | refine Fr.drew ?_ | refine Fr.drewN ?_ _
                clear HG
                rintro e wq ⟨rfl, hq⟩
                go_wp2_with fail
                go_ret
                exact ⟨by rw [unhide HV]; simp [gRd, hown, hg], (Fr.trans (by repeat first | exact Fr.refl _ _ | refine Fr.alloc ?_ _ | refine Fr.drew ?_ | refine Fr.drewN ?_ _) hq (fun _ _ h => h))⟩
              · have hD : decide (k ∈ G) = false := by simp [hg]
                rw [hD] at HG
                clear hD
                go_wp2_with fail
                refine Calls.mono (unhide HG _ ?_) ?_
                · repeat first | exact Fr.refl _ _ | refine Fr.alloc ?_ _ | refine Fr.drew ?_ | refine Fr.drewN ?_ _
                clear HG
                rintro e wq ⟨rfl, hq⟩
                go_wp2_with fail
                go_ret
                exact ⟨by rw [unhide HV]; simp [gRd, hown, hg], (Fr.trans (by repeat first | exact Fr.refl _ _ | refine Fr.alloc ?_ _ | refine Fr.drew ?_ | refine Fr.drewN ?_ _) hq (fun _ _ h => h))⟩
          · have ib : ((pw : Int) == (wd : Int)) = false := by rw [beq_cast]; simp [hnear]
            by_cases hg : k ∈ G
            · have hD : decide (k ∈ G) = true := by simp [hg]
              rw [hD] at HG
              clear hD
              go_wp2_with fail
              refine Calls.mono (unhide HG _ ?_) ?_
              · repeat first | exact Fr.refl _ _ | refine Fr.alloc ?_ _ | refine Fr.drew ?_ | refine Fr.drewN ?_ _
              clear HG
              rintro e wq ⟨rfl, hq⟩
              go_wp2_with fail
              go_ret
              exact ⟨by rw [unhide HV]; simp [gRd, hnear, hown, hg], (Fr.trans (by repeat first | exact Fr.refl _ _ | refine Fr.alloc ?_ _ | refine Fr.drew ?_ | refine Fr.drewN ?_ _) hq (fun _ _ h => h))⟩
            · have hD : decide (k ∈ G) = false := by simp [hg]
              rw [hD] at HG
              clear hD
              go_wp2_with fail
              refine Calls.mono (unhide HG _ ?_) ?_
              · repeat first | exact Fr.refl _ _ | refine Fr.alloc ?_ _ | refine Fr.drew ?_ | refine Fr.drewN ?_ _
              clear HG
              rintro e wq ⟨rfl, hq⟩
              go_wp2_with fail
              go_ret
              exact ⟨by rw [unhide HV]; simp [gRd, hnear, hown, hg], (Fr.trans (by repeat first | exact Fr.refl _ _ | refine Fr.alloc ?_ _ | refine Fr.drew ?_ | refine Fr.drewN ?_ _) hq (fun _ _ h => h))⟩
        · have ir2 : ¬ (pr : Int) = 2 := by omega
          by_cases hr1 : pr = 1
          · subst hr1
            by_cases hnear : pw = wd
            · subst hnear
              rcases sl with _ | _
              · go_wp2_with fail
                go_ret
                exact ⟨by rw [unhide HV]; simp [gRd, hown], (by repeat first | exact Fr.refl _ _ | refine Fr.alloc ?_ _ | refine Fr.drew ?_ | refine Fr.drewN ?_ _)⟩
              · go_wp2_with fail
                go_ret
                exact ⟨by rw [unhide HV]; simp [gRd, hown], (by repeat first | exact Fr.refl _ _ | refine Fr.alloc ?_ _ | refine Fr.drew ?_ | refine Fr.drewN ?_ _)⟩
            · have ib : ((pw : Int) == (wd : Int)) = false := by rw [beq_cast]; simp [hnear]
              go_wp2_with fail
              go_ret
              exact ⟨by rw [unhide HV]; simp [gRd, hnear, hown], (by repeat first | exact Fr.refl _ _ | refine Fr.alloc ?_ _ | refine Fr.drew ?_ | refine Fr.drewN ?_ _)⟩
          · have ir1 : ¬ (pr : Int) = 1 := by omega
            go_wp2_with fail
            go_ret
            exact ⟨by rw [unhide HV]; simp [gRd, hr3, hr2, hr1, hown], (by repeat first | exact Fr.refl _ _ | refine Fr.alloc ?_ _ | refine Fr.drew ?_ | refine Fr.drewN ?_ _)⟩
end Go.Proofs.YtciblhmmpamjoaaDoor

namespace Go.Proofs.YtciblhmmpamjoaaDoor
open Go.RowKit Go.Shelf

/-- What a request that is done leaves of what policy asks. -/
def SDone (s : RM) (r : RQ) (x : RM × RA) : Prop := x.1.S = s.S ∧ ((r.op = 1 ∧ (∃ V, x.1.C = s.C ++ [⟨r.wa, r.ow, false, [], V⟩]) ∧ x.2.F = []) ∨ (r.op ≠ 1 ∧ 1 ≤ r.rc ∧ ∃ c, s.C[r.rc - 1]? = some c ∧ (∃ V, x.1.C = s.C.set (r.rc - 1) ⟨c.wa, c.ow, (if r.op = 6 then decide (r.ve = 1) else c.sl), (if r.op = 6 then [] else if r.op = 7 then insN r.ac c.G else c.G), V⟩) ∧ (x.2.F ≠ [] → r.op = 3 ∧ rdCode s.S r.ac c = 0)))
theorem step_done {s : RM} {r : RQ} {F : List F5} {pl : Nat} (h : (s.step r F pl).2.co = 0) : SDone s r (s.step r F pl) := by
  unfold RM.step at h ⊢
  by_cases h1 : r.frm F = false
  · rw [if_pos h1] at h; exact absurd h (by simp [RA.no])
  rw [if_neg h1] at h ⊢
  have hop : r.op = 1 ∨ r.op = 2 ∨ r.op = 3 ∨ r.op = 4 ∨ r.op = 5 ∨ r.op = 6 ∨ r.op = 7 := by
    unfold RQ.frm at h1
    by_cases q1 : r.op = 1; · exact .inl q1
    by_cases q2 : r.op = 2; · exact .inr (.inl q2)
    by_cases q3 : r.op = 3; · exact .inr (.inr (.inl q3))
    by_cases q4 : r.op = 4; · exact .inr (.inr (.inr (.inl q4)))
    by_cases q5 : r.op = 5; · exact .inr (.inr (.inr (.inr (.inl q5))))
    by_cases q6 : r.op = 6; · exact .inr (.inr (.inr (.inr (.inr (.inl q6)))))
    by_cases q7 : r.op = 7; · exact .inr (.inr (.inr (.inr (.inr (.inr q7)))))
    exact absurd (by simp [q1, q2, q3, q4, q5, q6, q7]) h1
  by_cases h2 : (perso s.S r.ac).isSome = false
  · rw [if_pos h2] at h; exact absurd h (by simp [RA.no])
  rw [if_neg h2] at h ⊢
  by_cases h3 : r.op = 1
  · rw [if_pos h3] at h ⊢
    unfold RM.create at h ⊢
    by_cases a1 : crCode s.S r.ac r.wa r.ow ≠ 0
    · rw [if_pos a1] at h; exact absurd h a1
    rw [if_neg a1] at h ⊢
    by_cases a2 : 256 ≤ s.C.length
    · rw [if_pos a2] at h; exact absurd h (by simp [RA.no])
    rw [if_neg a2]
    exact ⟨rfl, .inl ⟨h3, ⟨_, rfl⟩, rfl⟩⟩
  rw [if_neg h3] at h ⊢
  by_cases h4 : r.rc = 0
  · rw [if_pos h4] at h; exact absurd h (by simp [RA.no])
  rw [if_neg h4] at h ⊢
  cases hc : s.C[r.rc - 1]? with
  | none => rw [hc] at h; exact absurd h (by simp [RA.no])
  | some c =>
    rw [hc] at h
    simp only at h ⊢
    have hset : s.C.set (r.rc - 1) ⟨c.wa, c.ow, c.sl, c.G, c.V⟩ = s.C := set_id hc
    have h5 : 1 ≤ r.rc := by omega
    unfold RM.op at h ⊢
    by_cases o2 : r.op = 2
    · rw [if_pos o2] at h ⊢
      unfold RM.amend at h ⊢
      by_cases a1 : amCode s.S r.ac c F ≠ 0
      · rw [if_pos a1] at h; exact absurd h a1
      rw [if_neg a1] at h ⊢
      by_cases a2 : r.ve = 0 ∨ c.V.length < r.ve
      · rw [if_pos a2] at h; exact absurd h (by simp [RA.no])
      rw [if_neg a2] at h ⊢
      by_cases a3 : r.ve ≠ c.V.length
      · rw [if_pos a3] at h; exact absurd h (by simp [RA.no])
      rw [if_neg a3] at h ⊢
      by_cases a4 : 64 ≤ c.V.length ∨ 32 < (c.mrg F).length
      · rw [if_pos a4] at h; exact absurd h (by simp [RA.no])
      rw [if_neg a4] at h ⊢
      by_cases a5 : remU c.now F = true
      · rw [if_pos a5] at h; exact absurd h (by simp [RA.no])
      rw [if_neg a5]
      exact ⟨rfl, .inr ⟨h3, h5, c, hc, ⟨c.V ++ [⟨r.ac, pl, c.mrg F, false⟩], by simp [o2]⟩, fun hf => absurd rfl hf⟩⟩
    rw [if_neg o2] at h ⊢
    by_cases o3 : r.op = 3
    · rw [if_pos o3] at h ⊢
      unfold RM.read at h ⊢
      by_cases a1 : rdCode s.S r.ac c ≠ 0
      · rw [if_pos a1] at h; exact absurd h a1
      rw [if_neg a1] at h ⊢
      by_cases a2 : r.vn c = 0
      · rw [if_pos a2] at h; exact absurd h (by simp [RA.no])
      rw [if_neg a2] at h ⊢
      cases hv : c.V[r.vn c - 1]? with
      | none => rw [hv] at h; exact absurd h (by simp [RA.no])
      | some v =>
        rw [hv] at h
        simp only at h ⊢
        by_cases a3 : v.rd = true
        · rw [if_pos a3] at h; exact absurd h (by simp [RA.no])
        rw [if_neg a3]
        exact ⟨rfl, .inr ⟨h3, h5, c, hc, ⟨c.V, by simp [o3, hset]⟩, fun hf => ⟨o3, by omega⟩⟩⟩
    rw [if_neg o3] at h ⊢
    by_cases o4 : r.op = 4
    · rw [if_pos o4] at h ⊢
      unfold RM.redact at h ⊢
      by_cases a1 : reCode s.S r.ac c ≠ 0
      · rw [if_pos a1] at h; exact absurd h a1
      rw [if_neg a1] at h ⊢
      by_cases a2 : r.ve = 0
      · rw [if_pos a2] at h; exact absurd h (by simp [RA.no])
      rw [if_neg a2] at h ⊢
      cases hv : c.V[r.ve - 1]? with
      | none => rw [hv] at h; exact absurd h (by simp [RA.no])
      | some v =>
        rw [hv] at h
        simp only at h ⊢
        by_cases a3 : v.rd = true
        · rw [if_pos a3] at h; exact absurd h (by simp [RA.no])
        rw [if_neg a3]
        exact ⟨rfl, .inr ⟨h3, h5, c, hc, ⟨c.V.set (r.ve - 1) ⟨v.au, v.ev, [], true⟩, by simp [o4]⟩, fun hf => absurd rfl hf⟩⟩
    rw [if_neg o4] at h ⊢
    by_cases o5 : r.op = 5
    · rw [if_pos o5] at h ⊢
      unfold RM.history at h ⊢
      by_cases a1 : hiCode s.S r.ac c ≠ 0
      · rw [if_pos a1] at h; exact absurd h a1
      rw [if_neg a1]
      exact ⟨rfl, .inr ⟨h3, h5, c, hc, ⟨c.V, by simp [o5, hset]⟩, fun hf => absurd rfl hf⟩⟩
    rw [if_neg o5] at h ⊢
    by_cases o6 : r.op = 6
    · rw [if_pos o6] at h ⊢
      unfold RM.seal at h ⊢
      by_cases a1 : seCode s.S r.ac c ≠ 0
      · rw [if_pos a1] at h; exact absurd h a1
      rw [if_neg a1]
      exact ⟨rfl, .inr ⟨h3, h5, c, hc, ⟨c.V, by simp [o6]⟩, fun hf => absurd rfl hf⟩⟩
    rw [if_neg o6] at h ⊢
    have o7 : r.op = 7 := by omega
    unfold RM.break at h ⊢
    by_cases a1 : brCode s.S r.ac c r.rs ≠ 0
    · rw [if_pos a1] at h; exact absurd h a1
    rw [if_neg a1]
    exact ⟨rfl, .inr ⟨h3, h5, c, hc, ⟨c.V, by simp [o7]⟩, fun hf => absurd rfl hf⟩⟩
/-- A sheet, and where its list lies. -/
structure SH where
  wa : Nat
  ow : Nat
  sl : Bool
  gv : Value
  G : List Nat
def ShC (c : CM) (x : SH) : Prop := x.wa = c.wa ∧ x.ow = c.ow ∧ x.sl = c.sl ∧ ∀ k, k ∈ x.G ↔ k ∈ c.G
def Shs (C : List CM) (L : List SH) : Prop := L.length = C.length ∧ ∀ (i : Nat) (c : CM) (x : SH), C[i]? = some c → L[i]? = some x → ShC c x
theorem Shs.app {C : List CM} {L : List SH} {c : CM} {x : SH} (h : Shs C L) (hx : ShC c x) : Shs (C ++ [c]) (L ++ [x]) := by
  refine ⟨by simp [h.1], fun i c' x' hc hx' => ?_⟩
  rcases Nat.lt_trichotomy i C.length with hi | hi | hi
  · rw [List.getElem?_append_left hi] at hc
    rw [List.getElem?_append_left (by rw [h.1]; exact hi)] at hx'
    exact h.2 i c' x' hc hx'
  · subst hi
    rw [List.getElem?_append_right (Nat.le_refl _)] at hc
    rw [List.getElem?_append_right (by rw [h.1]; exact Nat.le_refl _), h.1] at hx'
    simp at hc hx'
    subst hc hx'
    exact hx
  · rw [List.getElem?_eq_none (by simp; omega)] at hc
    cases hc
theorem Shs.set {C : List CM} {L : List SH} {c : CM} {x : SH} (h : Shs C L) (i : Nat) (hx : ShC c x) : Shs (C.set i c) (L.set i x) := by
  refine ⟨by simp [h.1], fun j c' x' hc hx' => ?_⟩
  by_cases hij : i = j
  · subst hij
    have h1 : i < C.length := by
      have := (List.getElem?_eq_some_iff.1 hc).1
      simpa using this
    rw [List.getElem?_set_self h1] at hc
    rw [List.getElem?_set_self (by rw [h.1]; exact h1)] at hx'
    cases hc
    cases hx'
    exact hx
  · rw [List.getElem?_set_ne hij] at hc hx'
    exact h.2 j c' x' hc hx'
theorem Shs.at_ {C : List CM} {L : List SH} (h : Shs C L) {i : Nat} {c : CM} (hc : C[i]? = some c) : ∃ x, L[i]? = some x ∧ ShC c x := by
  have h1 : i < L.length := by rw [h.1]; exact (List.getElem?_eq_some_iff.1 hc).1
  exact ⟨L[i], List.getElem?_eq_getElem h1, h.2 i c _ hc (List.getElem?_eq_getElem h1)⟩
def shcells : List SH → List Value
  | [] => []
  | x :: r => .int .u32 (x.wa : Nat) :: .int .u32 (x.ow : Nat) :: .bool x.sl :: x.gv :: shcells r
theorem shcells_len : ∀ L : List SH, (shcells L).length = L.length * 4
  | [] => rfl
  | x :: r => by simp only [shcells, List.length_cons, shcells_len r]; omega
theorem shcells_app : ∀ (L : List SH) (x : SH), shcells (L ++ [x]) = shcells L ++ [.int .u32 (x.wa : Nat), .int .u32 (x.ow : Nat), .bool x.sl, x.gv]
  | [], _ => rfl
  | y :: r, x => by simp only [List.cons_append, shcells, shcells_app r x]
theorem shcells_at : ∀ (L : List SH) (k : Nat) (x : SH), L[k]? = some x → (shcells L)[k * 4]? = some (.int .u32 (x.wa : Nat)) ∧ (shcells L)[k * 4 + 1]? = some (.int .u32 (x.ow : Nat)) ∧ (shcells L)[k * 4 + 2]? = some (.bool x.sl) ∧ (shcells L)[k * 4 + 3]? = some x.gv
  | [], k, x, h => by simp at h
  | y :: r, 0, x, h => by
    simp at h
    subst h
    simp [shcells]
  | y :: r, k + 1, x, h => by
    rw [List.getElem?_cons_succ] at h
    obtain ⟨h0, h1, h2, h3⟩ := shcells_at r k x h
    simp only [shcells]
    rw [show (k + 1) * 4 = k * 4 + 1 + 1 + 1 + 1 by omega]
    exact ⟨h0, h1, h2, h3⟩
theorem shcells_sl : ∀ (L : List SH) (k : Nat) (x : SH) (b : Bool), L[k]? = some x → (shcells L).set (k * 4 + 2) (.bool b) = shcells (L.set k ⟨x.wa, x.ow, b, x.gv, x.G⟩)
  | [], k, x, b, h => by simp at h
  | y :: r, 0, x, b, h => by
    simp at h
    subst h
    simp [shcells]
  | y :: r, k + 1, x, b, h => by
    rw [List.getElem?_cons_succ] at h
    have h1 := shcells_sl r k x b h
    rw [show (k + 1) * 4 + 2 = (k * 4 + 2) + 1 + 1 + 1 + 1 by omega]
    simp only [shcells, List.set_cons_succ]
    rw [h1]
theorem shcells_gv : ∀ (L : List SH) (k : Nat) (x : SH) (v : Value) (G : List Nat), L[k]? = some x → (shcells L).set (k * 4 + 3) v = shcells (L.set k ⟨x.wa, x.ow, x.sl, v, G⟩)
  | [], k, x, v, G, h => by simp at h
  | y :: r, 0, x, v, G, h => by
    simp at h
    subst h
    simp [shcells]
  | y :: r, k + 1, x, v, G, h => by
    rw [List.getElem?_cons_succ] at h
    have h1 := shcells_gv r k x v G h
    rw [show (k + 1) * 4 + 3 = (k * 4 + 3) + 1 + 1 + 1 + 1 by omega]
    simp only [shcells, List.set_cons_succ]
    rw [h1]
theorem eq_rd (sv gv fv : Value) (rs : ByteArray) (p : P3) (k wd ow : Nat) (sl : Bool) (G : List Nat) (hp : p.a = k) : (if rdF (⟨sv, p, wd, ow, sl, gv, fv, rs⟩ : QM) G then 0 else whyRd (⟨sv, p, wd, ow, sl, gv, fv, rs⟩ : QM)) = gRd p k wd ow sl G := by
  subst hp
  unfold rdF whyRd gRd QM.own QM.near QM.role
  by_cases h1 : p.a = ow <;> by_cases h2 : p.w = wd <;> by_cases h3 : p.r = 3 <;> by_cases h4 : p.r = 2 <;> by_cases h5 : p.r = 1 <;> cases sl <;> by_cases h6 : p.a ∈ G <;> simp_all
/-- Whoever may read by the model's record may read by the sheet. -/
theorem read_sheet {S : List P3} {k : Nat} {c : CM} {x : SH} (h : rdCode S k c = 0) (hx : ShC c x) : (ansv S k fun p => gRd p k x.wa x.ow x.sl x.G) = 0 := by
  obtain ⟨e1, e2, e3, e4⟩ := hx
  rw [← h]
  unfold rdCode
  rcases fnd_cases S k with ⟨_, h2⟩ | ⟨j, hj, _, h2, h3⟩
  · simp only [ansv, h2]
  · simp only [ansv, h2]
    rw [show qm S[j] c ByteArray.empty = (⟨.slice none 0 0, S[j], c.wa, c.ow, c.sl, .slice none 0 0, .slice none 0 0, ByteArray.empty⟩ : QM) from rfl, eq_rd _ _ _ _ _ k _ _ _ _ h3, e1, e2, e3]
    unfold gRd
    simp only [e4]
end Go.Proofs.YtciblhmmpamjoaaDoor

namespace Go.Proofs.YtciblhmmpamjoaaDoor
open Go.RowKit Go.Shelf

/-- A State, and a play in its box. -/
structure RP (w wr : World) (bs : Nat) (Ts : Nat → Prop) (ss : RM) (sv rv pv : Value) (S : List P3) (l : List (RQ × List F5)) (pl : List Nat) : Prop where
  rs : RsB wr bs Ts ss
  ts : ∀ k, Ts k → w.heap.size + 1 ≤ k ∧ k < wr.heap.size
  b : wr.heap[w.heap.size]? = some (.cells #[sv, rv, pv] 26)
  st : Stf wr sv S
  so : ∀ g o n c, sv = .slice (some ⟨g, o, none⟩) n c → 0 < n → g < w.heap.size
  q : Rqs wr rv l
  lo : ∀ k, Rqb rv l k → k < w.heap.size
  p : Us wr pv pl
  po : ∀ g o n c, pv = .slice (some ⟨g, o, none⟩) n c → 0 < n → g < w.heap.size
  u : GU wr
  uv : 0 < w.heap.size
  f : Fr (fun _ => False) w wr
theorem RP.frS {w W W' : World} {bs : Nat} {Ts S' : Nat → Prop} {ss : RM} {sv rv pv : Value} {S : List P3} {l : List (RQ × List F5)} {pl : List Nat} (h : RP w W bs Ts ss sv rv pv S l pl) (hf : Fr S' W W') (h1 : ∀ k, S' k → w.heap.size < k ∧ ¬ Ts k) : RP w W' bs Ts ss sv rv pv S l pl := by
  have hs := hf.size
  have hlow : ∀ k, k ≤ w.heap.size → ¬ S' k := fun k hk hS => by have := (h1 k hS).1; omega
  exact ⟨h.rs.frS hf (fun k hk => (h1 k hk).2), fun k hk => ⟨(h.ts k hk).1, Nat.lt_of_lt_of_le (h.ts k hk).2 hs⟩, (hf.block _ (lt_of_block h.b) (hlow _ (Nat.le_refl _))).trans h.b, h.st.frM hf (fun g o n c e h0 => hlow g (by have := h.so g o n c e h0; omega)), h.so, h.q.frS hf (fun k hk => hlow k (by have := h.lo k hk; omega)), h.lo, h.p.frS hf (fun g o n c e h0 => hlow g (by have := h.po g o n c e h0; omega)), h.po, h.u.frT hf (hlow _ (by have := h.uv; omega)), h.uv, h.f.absorb hf (fun k hk => by have := (h1 k hk).1; omega)⟩
theorem RP.fr {w W W' : World} {bs : Nat} {Ts : Nat → Prop} {ss : RM} {sv rv pv : Value} {S : List P3} {l : List (RQ × List F5)} {pl : List Nat} (h : RP w W bs Ts ss sv rv pv S l pl) (hf : Fr (fun _ => False) W W') : RP w W' bs Ts ss sv rv pv S l pl := h.frS hf (fun _ h => h.elim)
/-- Behind Apply. -/
theorem RP.goS {w W W' : World} {bs : Nat} {Ts T' : Nat → Prop} {ss s' : RM} {sv rv pv : Value} {S : List P3} {l : List (RQ × List F5)} {pl : List Nat} (h : RP w W bs Ts ss sv rv pv S l pl) (hf : Fr Ts W W') (hr : RsB W' bs T' s') (k2 : ∀ k, T' k → Ts k ∨ W.heap.size ≤ k) (k3 : ∀ k, T' k → k < W'.heap.size) : RP w W' bs T' s' sv rv pv S l pl := by
  have hb := lt_of_block h.b
  have hlow : ∀ k, k ≤ w.heap.size → ¬ Ts k := fun k hk hT => by have := (h.ts k hT).1; omega
  refine ⟨hr, fun k hk => ⟨?_, k3 k hk⟩, (hf.block _ hb (hlow _ (Nat.le_refl _))).trans h.b, h.st.frM hf (fun g o n c e h0 => hlow g (by have := h.so g o n c e h0; omega)), h.so, h.q.frS hf (fun k hk => hlow k (by have := h.lo k hk; omega)), h.lo, h.p.frS hf (fun g o n c e h0 => hlow g (by have := h.po g o n c e h0; omega)), h.po, h.u.frT hf (hlow _ (by have := h.uv; omega)), h.uv, h.f.absorb hf (fun k hk => by have := (h.ts k hk).1; omega)⟩
  rcases k2 k hk with h1 | h1
  · exact (h.ts k h1).1
  · omega
theorem RP.apply {w W : World} {bs : Nat} {Ts : Nat → Prop} {ss : RM} {sv rv pv : Value} {S : List P3} {l : List (RQ × List F5)} {pl : List Nat} (h : RP w W bs Ts ss sv rv pv S l pl) {p : RQ × List F5} (hp : p ∈ l) (hok : ss.Ok) (hg : PGood p) (n : Nat) (X : RM × RA) (hX : ss.step p.1 p.2 n = X) :
    Calls Tryd.prog 7 #[.pointer (some ⟨bs, 0, none⟩), p.1.v, .int .u32 (n : Nat)] W fun e w' => ∃ fo fn fc ho hn hc, e = .returned (.agg #[.int .u32 (p.1.cl : Nat), .int .u32 (p.1.nu : Nat), .int .u8 (X.2.co : Nat), .int .u32 (X.2.rc : Nat), .int .u32 (X.2.ve : Nat), .slice fo fn fc, .slice ho hn hc]) ∧ ∃ T', RP w w' bs T' X.1 sv rv pv S l pl ∧ Fr Ts W w' ∧ (∀ k, T' k → Ts k ∨ W.heap.size ≤ k) ∧ OwF w' W.heap.size (.slice fo fn fc) X.2.F ∧ OwS w' W.heap.size (.slice ho hn hc) X.2.H := by
  refine (apply_C bs Ts ss p.1 p.2 n W h.rs (fun k hk => (h.ts k hk).2) hok (h.q.d p hp) hg.2.1 hg.2.2 h.u X hX).mono ?_
  rintro e w' ⟨fo, fn, fc, ho, hn, hc, he, o1, o2, hf, T', k1, k2, k3, k4, k5⟩
  exact ⟨fo, fn, fc, ho, hn, hc, he, T', h.goS hf k1 k2 k3, hf, k2, o1, o2⟩
/-- The box of the play and the request at hand. -/
theorem RP.cells {w W : World} {bs : Nat} {Ts : Nat → Prop} {ss : RM} {sv pv : Value} {S : List P3} {g o n c : Nat} {l : List (RQ × List F5)} {pl : List Nat} (h : RP w W bs Ts ss sv (.slice (some ⟨g, o, none⟩) n c) pv S l pl) {j : Nat} {p : RQ × List F5} (hj : l[j]? = some p) : (W.cell? ⟨w.heap.size, 0, none⟩ = some sv ∧ W.cell? ⟨w.heap.size, 1, none⟩ = some (.slice (some ⟨g, o, none⟩) n c) ∧ W.cell? ⟨w.heap.size, 2, none⟩ = some pv) ∧ R10 W g (o + j * 10) p.1 := by
  refine ⟨⟨by simp [World.cell?, h.b], by simp [World.cell?, h.b], by simp [World.cell?, h.b]⟩, ?_⟩
  obtain ⟨hl, hp⟩ := List.getElem?_eq_some_iff.1 hj
  obtain ⟨g', o', e, r⟩ := h.q.at_ j hl
  cases e
  rw [← hp]
  exact r
/-- Sheets of one's own, apart from T; the lists of who broke the seal are never written to. -/
structure ShA (W : World) (base : Nat) (T : Nat → Prop) (v : Value) (L : List SH) (j : Nat) : Prop where
  row : W.ownsRow base 44 4 v L.length (shcells L)
  nt : ∀ g, v.ownBlock = some g → ¬ T g
  g : ∀ x ∈ L, W.ownsRow base 32 1 x.gv x.G.length (ncells x.G)
  gt : ∀ x ∈ L, ∀ g, x.gv.ownBlock = some g → ¬ T g
  gl : ∀ x ∈ L, x.G.length ≤ j
theorem ShA.ne {W : World} {base : Nat} {T : Nat → Prop} {v : Value} {L : List SH} {j : Nat} (h : ShA W base T v L j) {x : SH} (hx : x ∈ L) {g : Nat} (hg : x.gv.ownBlock = some g) : v.ownBlock ≠ some g := fun e => own_ne h.row (h.g x hx) (by decide) g e hg
theorem ShA.frS {W W' : World} {base : Nat} {T T' S : Nat → Prop} {v : Value} {L : List SH} {j : Nat} (h : ShA W base T v L j) (hf : Fr S W W') (h1 : ∀ k, S k → T k ∨ W.heap.size ≤ k) (h2 : ∀ k, T' k → T k ∨ W.heap.size ≤ k) : ShA W' base T' v L j := by
  refine ⟨ownsRow_of_block h.row (fun g hg => hf.block g (h.row.lt g hg).2 (fun hs => (h1 g hs).elim (h.nt g hg) (fun h3 => by have := (h.row.lt g hg).2; omega))), fun g hg ht => (h2 g ht).elim (h.nt g hg) (fun h3 => by have := (h.row.lt g hg).2; omega), fun x hx => ownsRow_of_block (h.g x hx) (fun g hg => hf.block g ((h.g x hx).lt g hg).2 (fun hs => (h1 g hs).elim (h.gt x hx g hg) (fun h3 => by have := ((h.g x hx).lt g hg).2; omega))), fun x hx g hg ht => (h2 g ht).elim (h.gt x hx g hg) (fun h3 => by have := ((h.g x hx).lt g hg).2; omega), h.gl⟩
theorem ShA.fr {W W' : World} {base : Nat} {T : Nat → Prop} {v : Value} {L : List SH} {j : Nat} (h : ShA W base T v L j) (hf : Fr (fun _ => False) W W') : ShA W' base T v L j := h.frS hf (fun _ h => h.elim) (fun _ h => .inl h)
theorem ShA.more {W : World} {base : Nat} {T : Nat → Prop} {v : Value} {L : List SH} {j k : Nat} (h : ShA W base T v L j) (hk : j ≤ k) : ShA W base T v L k := ⟨h.row, h.nt, h.g, h.gt, fun x hx => Nat.le_trans (h.gl x hx) hk⟩
theorem ShA.cells {W : World} {base : Nat} {T : Nat → Prop} {v : Value} {L : List SH} {j : Nat} (h : ShA W base T v L j) {k : Nat} {x : SH} (hx : L[k]? = some x) : ∃ g cap, v = .slice (some ⟨g, 0, none⟩) L.length cap ∧ g < W.heap.size ∧ base ≤ g ∧ (W.cell? ⟨g, k * 4, none⟩ = some (.int .u32 (x.wa : Nat)) ∧ W.cell? ⟨g, k * 4 + 1, none⟩ = some (.int .u32 (x.ow : Nat)) ∧ W.cell? ⟨g, k * 4 + 2, none⟩ = some (.bool x.sl) ∧ W.cell? ⟨g, k * 4 + 3, none⟩ = some x.gv) ∧ ∀ i, W.frozen? ⟨g, i, none⟩ = false := by
  have hk : k < L.length := (List.getElem?_eq_some_iff.1 hx).1
  obtain ⟨g, cap, e, _, _⟩ := h.row.form (by omega)
  obtain ⟨h0, h1, h2, h3⟩ := shcells_at L k x hx
  have hr := h.row
  rw [e] at hr
  have hlt := hr.lt g rfl
  exact ⟨g, cap, e, hlt.2, hlt.1, ⟨(hr.cellAt _ (by omega)).trans h0, (hr.cellAt _ (by omega)).trans h1, (hr.cellAt _ (by omega)).trans h2, (hr.cellAt _ (by omega)).trans h3⟩, fun i => hr.frozenAt i⟩
/-- A sheet is stored into: sealed or not. -/
theorem ShA.putSl {W : World} {base : Nat} {T : Nat → Prop} {g cap : Nat} {L : List SH} {j : Nat} (h : ShA W base T (.slice (some ⟨g, 0, none⟩) L.length cap) L j) {k : Nat} {x : SH} (hx : L[k]? = some x) (b : Bool) : ShA (W.setCell ⟨g, k * 4 + 2, none⟩ (.bool b)) base T (.slice (some ⟨g, 0, none⟩) (L.set k ⟨x.wa, x.ow, b, x.gv, x.G⟩).length cap) (L.set k ⟨x.wa, x.ow, b, x.gv, x.G⟩) j := by
  have hm : x ∈ L := List.mem_of_getElem? hx
  have hin : ∀ y ∈ L.set k ⟨x.wa, x.ow, b, x.gv, x.G⟩, ∃ z ∈ L, y.gv = z.gv ∧ y.G = z.G := fun y hy => by
    rcases List.mem_or_eq_of_mem_set hy with hy | rfl
    · exact ⟨y, hy, rfl, rfl⟩
    · exact ⟨x, hm, rfl, rfl⟩
  have hfr : Fr (fun i => i = g) W (W.setCell ⟨g, k * 4 + 2, none⟩ (.bool b)) := (Fr.refl (fun i => i = g) W).setCell (p := ⟨g, k * 4 + 2, none⟩) (.inl rfl) _
  refine ⟨?_, h.nt, fun y hy => ?_, fun y hy => ?_, fun y hy => ?_⟩
  · have := own_set h.row rfl (k * 4 + 2) (.bool b)
    rw [shcells_sl L k x b hx] at this
    rw [List.length_set]
    exact this
  · obtain ⟨z, hz, e1, e2⟩ := hin y hy
    rw [e1, e2]
    exact ownsRow_of_block (h.g z hz) (fun i hi => hfr.block i ((h.g z hz).lt i hi).2 (fun e => h.ne hz hi (by rw [e]; rfl)))
  · obtain ⟨z, hz, e1, e2⟩ := hin y hy
    rw [e1]
    exact h.gt z hz
  · obtain ⟨z, hz, e1, e2⟩ := hin y hy
    rw [e2]
    exact h.gl z hz
/-- Another list of who broke the seal. -/
theorem ShA.putGv {W : World} {base : Nat} {T : Nat → Prop} {g cap : Nat} {L : List SH} {j : Nat} (h : ShA W base T (.slice (some ⟨g, 0, none⟩) L.length cap) L j) {k : Nat} {x : SH} (hx : L[k]? = some x) (gv : Value) (G : List Nat) (h1 : W.ownsRow base 32 1 gv G.length (ncells G)) (h2 : ∀ i, gv.ownBlock = some i → ¬ T i) (h3 : G.length ≤ j) : ShA (W.setCell ⟨g, k * 4 + 3, none⟩ gv) base T (.slice (some ⟨g, 0, none⟩) (L.set k ⟨x.wa, x.ow, x.sl, gv, G⟩).length cap) (L.set k ⟨x.wa, x.ow, x.sl, gv, G⟩) j := by
  have hm : x ∈ L := List.mem_of_getElem? hx
  have hfr : Fr (fun i => i = g) W (W.setCell ⟨g, k * 4 + 3, none⟩ gv) := (Fr.refl (fun i => i = g) W).setCell (p := ⟨g, k * 4 + 3, none⟩) (.inl rfl) _
  have hng : gv.ownBlock ≠ some g := fun e => own_ne h.row h1 (by decide) g rfl e
  refine ⟨?_, h.nt, fun y hy => ?_, fun y hy => ?_, fun y hy => ?_⟩
  · have := own_set h.row rfl (k * 4 + 3) gv
    rw [shcells_gv L k x gv G hx] at this
    rw [List.length_set]
    exact this
  · rcases List.mem_or_eq_of_mem_set hy with hy | rfl
    · exact ownsRow_of_block (h.g y hy) (fun i hi => hfr.block i ((h.g y hy).lt i hi).2 (fun e => h.ne hy hi (by rw [e]; rfl)))
    · exact ownsRow_of_block h1 (fun i hi => hfr.block i (h1.lt i hi).2 (fun e => hng (by rw [hi, e])))
  · rcases List.mem_or_eq_of_mem_set hy with hy | rfl
    · exact h.gt y hy
    · exact h2
  · rcases List.mem_or_eq_of_mem_set hy with hy | rfl
    · exact h.gl y hy
    · exact h3
theorem Tryd.infoSht : (Tryd.prog.info? 44).map (fun i => (i.zero, i.size, i.bytes)) = some (some (.agg #[.int .u32 0, .int .u32 0, .bool false, .slice none 0 0]), 4, 40) := by kernel_rfl
/-- append(sheets, x). -/
theorem ShA.append {W : World} {base : Nat} {T : Nat → Prop} {v : Value} {L : List SH} {j : Nat} (h : ShA W base T v L j) (hb : base ≤ W.heap.size) (hT : ∀ k, T k → k < W.heap.size) (hl : L.length ≤ 1000000) (x wa ow : Nat) (hx : W.heap[x]? = some (.cells #[.int .u32 (wa : Nat), .int .u32 (ow : Nat), .bool false, .slice none 0 0] 44)) :
    ∃ ao cap w', (Builtin.append_ #[31, 31] 31 #[v, .slice (some ⟨x, 0, none⟩) 1 1]).run Tryd.prog W = .ok (.slice ao (L.length + 1) cap) w' ∧ ShA w' base T (.slice ao (L.length + 1) cap) (L ++ [⟨wa, ow, false, .slice none 0 0, []⟩]) j ∧ Fr (fun g => v.ownBlock = some g) W w' := by
  obtain ⟨i0, hi, hz0, hz1, hz2⟩ := info_parts Tryd.infoSht
  obtain ⟨v', w', hr, h2, h3, _, h5⟩ := run_append_own_at (P := Tryd.prog) (w := W) base 31 31 44 i0 (.agg #[.int .u32 0, .int .u32 0, .bool false, .slice none 0 0]) 4 40 Tryd.underlying31 hi hz0 hz1 hz2 rfl (by decide) v L.length (shcells L) h.row ⟨x, 0, none⟩ 1 1 [.int .u32 (wa : Nat), .int .u32 (ow : Nat), .bool false, .slice none 0 0] rfl (fun i u hu => by
    rw [addr_add, Nat.zero_add]
    simp only [World.cell?, hx]
    simpa using hu) (fun u hu => by simp at hu; rcases hu with rfl | rfl | rfl | rfl <;> rfl) (by simp only [maxLen]; omega) (by omega) hb
  obtain ⟨ao, cap, rfl⟩ := own_formX h2
  have hfr : Fr (fun g => v.ownBlock = some g) W w' := (Fr.refl _ _).grown h3 (fun g hg => .inl hg)
  refine ⟨ao, cap, w', hr, ⟨by rw [shcells_app, List.length_append, List.length_singleton]; exact h2, fun g hg ht => ?_, fun y hy => ?_, fun y hy => ?_, fun y hy => ?_⟩, hfr⟩
  · rcases h5 with e | e
    · rw [e] at hg; exact h.nt g hg ht
    · rw [e] at hg; cases hg; have := hT _ ht; omega
  · rcases List.mem_append.1 hy with hy | hy
    · exact ownsRow_of_block (h.g y hy) (fun i hi => hfr.block i ((h.g y hy).lt i hi).2 (h.ne hy hi))
    · rw [List.mem_singleton] at hy; subst hy; exact World.ownsRow_nil _ _ _ _
  · rcases List.mem_append.1 hy with hy | hy
    · exact h.gt y hy
    · rw [List.mem_singleton] at hy; subst hy; intro g hg; cases hg
  · rcases List.mem_append.1 hy with hy | hy
    · exact h.gl y hy
    · rw [List.mem_singleton] at hy; subst hy; exact Nat.zero_le _
/-- append([]uint32{k}, list..). -/
theorem app_one (W : World) (base m k : Nat) (gv : Value) (G : List Nat) (hg : W.ownsRow base 32 1 gv G.length (ncells G)) (hm : W.heap[m]? = some (.cells #[.int .u32 (k : Nat)] 32)) (hbm : base ≤ m) (hl : G.length ≤ 1000000000) :
    ∃ ao cap w', (Builtin.append_ #[24, 24] 24 #[.slice (some ⟨m, 0, none⟩) 1 1, gv]).run Tryd.prog W = .ok (.slice ao (1 + G.length) cap) w' ∧ w'.ownsRow base 32 1 (.slice ao (1 + G.length) cap) (k :: G).length (ncells (k :: G)) ∧ Fr (fun i => i = m) W w' ∧ ∀ i, (Value.slice ao (1 + G.length) cap).ownBlock = some i → i = m ∨ W.heap.size ≤ i := by
  have hml : m < W.heap.size := lt_of_block hm
  have hown : W.ownsRow base 32 1 (.slice (some ⟨m, 0, none⟩) 1 1) 1 (ncells [k]) :=
    ⟨rfl, .inr ⟨m, 1, #[.int .u32 (k : Nat)], rfl, hbm, hm, Nat.le_refl _, by simp only [maxLen]; omega, rfl, rfl⟩⟩
  obtain ⟨i0, hi, hz0, hz1, hz2⟩ := info_parts Tryd.infoU
  rcases hg.2 with ⟨rfl, h0⟩ | ⟨g, cap, cur, rfl, _⟩
  · obtain rfl := List.length_eq_zero_iff.1 h0
    have hr := run_append_owned_none (P := Tryd.prog) W base 24 24 32 i0 1 Tryd.underlying24 hi _ _ _ hown
    exact ⟨_, _, W, hr, hown, Fr.refl _ _, fun i hi => by cases hi; exact .inl rfl⟩
  · obtain ⟨v', w', hr, h2, h3, _, h5⟩ := run_append_own_at (P := Tryd.prog) (w := W) base 24 24 32 i0 (.int .u32 0) 1 4 Tryd.underlying24 hi hz0 hz1 hz2 rfl (by decide) _ 1 (ncells [k]) hown ⟨g, 0, none⟩ G.length cap (ncells G) (by simp [ncells]) (fun i u hu => by
      rw [addr_add, Nat.zero_add]
      have := (List.getElem?_eq_some_iff.1 hu).1
      rw [hg.cellAt i (by simpa [ncells] using this)]
      exact hu) (fun u hu => by simp [ncells] at hu; obtain ⟨n, _, rfl⟩ := hu; rfl) (by simp only [maxLen]; omega) (by omega) (by omega)
    obtain ⟨ao, cap2, rfl⟩ := own_formX h2
    refine ⟨ao, cap2, w', hr, by rw [List.length_cons, Nat.add_comm G.length 1]; exact h2, (Fr.refl _ _).grown h3 (fun g hg => .inl (by cases hg; rfl)), fun i hi => ?_⟩
    rcases h5 with e | e
    · rw [e] at hi; cases hi; exact .inl rfl
    · rw [e] at hi; cases hi; exact .inr (Nat.le_refl _)
end Go.Proofs.YtciblhmmpamjoaaDoor

namespace Go.Proofs.YtciblhmmpamjoaaDoor
open Go.RowKit Go.Shelf

/-- A whole request is stored into a new box. -/
theorem req_put {W : World} {g : Nat} {z0 z1 z2 z3 z4 z5 z6 z7 z8 z9 : Value} (hb : W.heap[g]? = some (.cells #[z0, z1, z2, z3, z4, z5, z6, z7, z8, z9] 37)) (r : RQ) (hf : r.fv.oneCell' = true) :
    ∃ W8, (Instr.storeAt 37 (.pointer (some ⟨g, 0, none⟩)) (.agg r.cs)).run Tryd.prog W = .ok () W8 ∧ W8.heap[g]? = some (.cells r.cs 37) ∧ Fr (fun k => k = g) W W8 := by
  obtain ⟨c0, c1, c2, c3, c4, c5, c6, c7, c8, c9⟩ := r
  simp only [RQ.cs] at hf ⊢
  generalize he : ([.int .u32 (c0 : Nat), .int .u32 (c1 : Nat), .int .u32 (c2 : Nat), .int .u8 (c3 : Nat), .int .u32 (c4 : Nat), .int .u32 (c5 : Nat), .int .u32 (c6 : Nat), .int .u32 (c7 : Nat), c8, .string c9] : List Value) = cs
  have h1 : ∀ v ∈ cs, v.oneCell' = true := by
    rw [← he]
    intro v hv
    simp at hv
    rcases hv with rfl | rfl | rfl | rfl | rfl | rfl | rfl | rfl | rfl | rfl <;> first | rfl | exact hf
  have hr := run_storeAt_mid (P := Tryd.prog) W g 0 37 cs.toArray (fun i hi => by
    have hi : i < cs.length := by simpa using hi
    rw [← he] at hi
    simp only [List.length_cons, List.length_nil] at hi
    refine ⟨?_, by simp [World.frozen?, hb]⟩
    rcases i with _ | _ | _ | _ | _ | _ | _ | _ | _ | _ | i
    · simp [World.cell?, hb]
    · simp [World.cell?, hb]
    · simp [World.cell?, hb]
    · simp [World.cell?, hb]
    · simp [World.cell?, hb]
    · simp [World.cell?, hb]
    · simp [World.cell?, hb]
    · simp [World.cell?, hb]
    · simp [World.cell?, hb]
    · simp [World.cell?, hb]
    · omega) (by rw [← he]; kernel_rfl) (all_oneCell_toArray h1)
  refine ⟨W.setCells g 0 cs, hr, ?_, ?_⟩
  · rw [← he]
    have k0 := heap_setCell_same W g 0 #[z0, z1, z2, z3, z4, z5, z6, z7, z8, z9] 37 (.int .u32 (c0 : Nat)) hb
    have k1 := heap_setCell_same _ g 1 _ 37 (.int .u32 (c1 : Nat)) k0
    have k2 := heap_setCell_same _ g 2 _ 37 (.int .u32 (c2 : Nat)) k1
    have k3 := heap_setCell_same _ g 3 _ 37 (.int .u8 (c3 : Nat)) k2
    have k4 := heap_setCell_same _ g 4 _ 37 (.int .u32 (c4 : Nat)) k3
    have k5 := heap_setCell_same _ g 5 _ 37 (.int .u32 (c5 : Nat)) k4
    have k6 := heap_setCell_same _ g 6 _ 37 (.int .u32 (c6 : Nat)) k5
    have k7 := heap_setCell_same _ g 7 _ 37 (.int .u32 (c7 : Nat)) k6
    have k8 := heap_setCell_same _ g 8 _ 37 c8 k7
    have k9 := heap_setCell_same _ g 9 _ 37 (.string c9) k8
    simp only [List.setIfInBounds_toArray, List.set_cons_zero, List.set_cons_succ] at k9
    exact k9
  · rw [← he]
    have f0 := (Fr.refl (fun k => k = g) W).setCell (p := ⟨g, 0, none⟩) (.inl rfl) (.int .u32 (c0 : Nat))
    have f1 := f0.setCell (p := ⟨g, 1, none⟩) (.inl rfl) (.int .u32 (c1 : Nat))
    have f2 := f1.setCell (p := ⟨g, 2, none⟩) (.inl rfl) (.int .u32 (c2 : Nat))
    have f3 := f2.setCell (p := ⟨g, 3, none⟩) (.inl rfl) (.int .u8 (c3 : Nat))
    have f4 := f3.setCell (p := ⟨g, 4, none⟩) (.inl rfl) (.int .u32 (c4 : Nat))
    have f5 := f4.setCell (p := ⟨g, 5, none⟩) (.inl rfl) (.int .u32 (c5 : Nat))
    have f6 := f5.setCell (p := ⟨g, 6, none⟩) (.inl rfl) (.int .u32 (c6 : Nat))
    have f7 := f6.setCell (p := ⟨g, 7, none⟩) (.inl rfl) (.int .u32 (c7 : Nat))
    have f8 := f7.setCell (p := ⟨g, 8, none⟩) (.inl rfl) c8
    exact f8.setCell (p := ⟨g, 9, none⟩) (.inl rfl) (.string c9)
end Go.Proofs.YtciblhmmpamjoaaDoor

namespace Go.Proofs.YtciblhmmpamjoaaDoor
open Go.RowKit Go.Shelf

/-- A State, the play, the sheets, and the request at hand in its box. -/
structure RJ (w W : World) (bs : Nat) (T : Nat → Prop) (s : RM) (sv rv pv : Value) (S : List P3) (l : List (RQ × List F5)) (pl : List Nat) (rb : Nat) (r : RQ) (v : Value) (L : List SH) (j : Nat) : Prop where
  p : RP w W bs T s sv rv pv S l pl
  rk : W.heap[rb]? = some (.cells r.cs 37)
  rh : w.heap.size < rb
  rn : ¬ T rb
  sh : ShA W (w.heap.size + 1) T v L j
section
variable {w W W' : World} {bs : Nat} {T T' : Nat → Prop} {s s' : RM} {sv rv pv : Value} {S : List P3} {l : List (RQ × List F5)} {pl : List Nat} {rb : Nat} {r : RQ} {v : Value} {L : List SH} {j : Nat} {ba base : Nat} {fv : Value} {F : List F5}
theorem RJ.fr (h : RJ w W bs T s sv rv pv S l pl rb r v L j) (hf : Fr (fun _ => False) W W') : RJ w W' bs T s sv rv pv S l pl rb r v L j :=
  ⟨h.p.fr hf, (hf.block _ (lt_of_block h.rk) (fun h => h)).trans h.rk, h.rh, h.rn, h.sh.fr hf⟩
theorem RJ.mk' (h : RP w W bs T s sv rv pv S l pl) (hs : ShA W (w.heap.size + 1) T v L j) (hf : Fr (fun _ => False) W W') (hb : W'.heap[W.heap.size]? = some (.cells r.cs 37)) : RJ w W' bs T s sv rv pv S l pl W.heap.size r v L j :=
  ⟨h.fr hf, hb, by have := lt_of_block h.b; omega, fun ht => by have := (h.ts _ ht).2; omega, hs.fr hf⟩
theorem RJ.goS (h : RJ w W bs T s sv rv pv S l pl rb r v L j) (hp : RP w W' bs T' s' sv rv pv S l pl) (hf : Fr T W W') (k2 : ∀ k, T' k → T k ∨ W.heap.size ≤ k) : RJ w W' bs T' s' sv rv pv S l pl rb r v L j :=
  ⟨hp, (hf.block _ (lt_of_block h.rk) h.rn).trans h.rk, h.rh, fun ht => (k2 rb ht).elim h.rn (fun h1 => by have := lt_of_block h.rk; omega), h.sh.frS hf (fun k hk => .inl hk) k2⟩
theorem RJ.req (h : RJ w W bs T s sv rv pv S l pl rb r v L j) : W.cell? ⟨rb, 0, none⟩ = some (.int .u32 (r.cl : Nat)) ∧ W.cell? ⟨rb, 1, none⟩ = some (.int .u32 (r.nu : Nat)) ∧ W.cell? ⟨rb, 2, none⟩ = some (.int .u32 (r.ac : Nat)) ∧ W.cell? ⟨rb, 3, none⟩ = some (.int .u8 (r.op : Nat)) ∧ W.cell? ⟨rb, 4, none⟩ = some (.int .u32 (r.rc : Nat)) ∧ W.cell? ⟨rb, 5, none⟩ = some (.int .u32 (r.ve : Nat)) ∧ W.cell? ⟨rb, 6, none⟩ = some (.int .u32 (r.wa : Nat)) ∧ W.cell? ⟨rb, 7, none⟩ = some (.int .u32 (r.ow : Nat)) ∧ W.cell? ⟨rb, 8, none⟩ = some r.fv ∧ W.cell? ⟨rb, 9, none⟩ = some (.string r.rs) := by
  have hb := h.rk
  refine ⟨?_, ?_, ?_, ?_, ?_, ?_, ?_, ?_, ?_, ?_⟩ <;> simp [World.cell?, hb, RQ.cs]
theorem RJ.box (h : RJ w W bs T s sv rv pv S l pl rb r v L j) : W.cell? ⟨w.heap.size, 0, none⟩ = some sv ∧ W.cell? ⟨w.heap.size, 1, none⟩ = some rv ∧ W.cell? ⟨w.heap.size, 2, none⟩ = some pv := by
  have hb := h.p.b
  refine ⟨?_, ?_, ?_⟩ <;> simp [World.cell?, hb]
/-- And an answer in its box. -/
structure RK (w W : World) (bs : Nat) (T : Nat → Prop) (s : RM) (sv rv pv : Value) (S : List P3) (l : List (RQ × List F5)) (pl : List Nat) (rb : Nat) (r : RQ) (v : Value) (L : List SH) (j : Nat) (ba : Nat) (blk : Array Value) (base : Nat) (fv : Value) (F : List F5) : Prop where
  j : RJ w W bs T s sv rv pv S l pl rb r v L j
  bk : W.heap[ba]? = some (.cells blk 40)
  hi : w.heap.size < ba
  ns : ¬ T ba
  f : OwF W base fv F
  nf : fv.ownBlock ≠ some ba
theorem RK.fr {blk : Array Value} (h : RK w W bs T s sv rv pv S l pl rb r v L j ba blk base fv F) (hf : Fr (fun _ => False) W W') : RK w W' bs T s sv rv pv S l pl rb r v L j ba blk base fv F :=
  ⟨h.j.fr hf, (hf.block _ (lt_of_block h.bk) (fun h => h)).trans h.bk, h.hi, h.ns, h.f.fr hf (fun _ _ h => h), h.nf⟩
theorem RK.early {blk : Array Value} (h : RJ w W bs T s sv rv pv S l pl rb r v L j) (hb : W.heap[ba]? = some (.cells blk 40)) (hi : w.heap.size < ba) (ns : ¬ T ba) (h' : RP w W' bs T' s' sv rv pv S l pl) (hf : Fr T W W') (k2 : ∀ k, T' k → T k ∨ W.heap.size ≤ k) (o1 : OwF W' W.heap.size fv F) : RK w W' bs T' s' sv rv pv S l pl rb r v L j ba blk W.heap.size fv F := by
  have hl := lt_of_block hb
  exact ⟨h.goS h' hf k2, (hf.block ba hl ns).trans hb, hi, fun ht => (k2 ba ht).elim ns (fun h => by omega), o1, fun e => by have := (o1.lt ba e).1; omega⟩
theorem RK.late (blk : Array Value) (h : RJ w W bs T s sv rv pv S l pl rb r v L j) (h' : RP w W' bs T' s' sv rv pv S l pl) (hf : Fr T W W') (k2 : ∀ k, T' k → T k ∨ W.heap.size ≤ k) (o1 : OwF W' W.heap.size fv F) : RK w (W'.alloc (.cells blk 40)) bs T' s' sv rv pv S l pl rb r v L j W'.heap.size blk W.heap.size fv F := by
  have hl := lt_of_block h'.b
  exact ⟨(h.goS h' hf k2).fr (box1 W' _), Array.getElem?_push_size, hl, fun ht => by have := (h'.ts _ ht).2; omega, o1.fr (box1 W' _) (fun _ _ h => h), fun e => by have := (o1.lt _ e).2; omega⟩
theorem RK.put {a0 a1 a2 a3 a4 a5 a6 : Value} (h : RK w W bs T s sv rv pv S l pl rb r v L j ba #[a0, a1, a2, a3, a4, a5, a6] base fv F) (c0 c1 c2 c3 c4 c5 c6 : Value) (h1 : ∀ v ∈ [c0, c1, c2, c3, c4, c5, c6], v.oneCell' = true) :
    ∃ W8, (Instr.storeAt 40 (.pointer (some ⟨ba, 0, none⟩)) (.agg #[c0, c1, c2, c3, c4, c5, c6])).run Tryd.prog W = .ok () W8 ∧ RK w W8 bs T s sv rv pv S l pl rb r v L j ba #[c0, c1, c2, c3, c4, c5, c6] base fv F := by
  obtain ⟨W8, h2, h3, h4⟩ := ans_put h.bk c0 c1 c2 c3 c4 c5 c6 h1
  have hsh := h.j.sh
  have e1 : ∀ g, v.ownBlock = some g → g ≠ ba := fun g hg e => blk_ne hsh.row h.bk (by decide) (by rw [hg, e])
  have e2 : rb ≠ ba := fun e => by
    have h5 := h.j.rk
    rw [e, h.bk] at h5
    cases h5
  refine ⟨W8, h2, ⟨⟨h.j.p.frS h4 (fun k hk => by rw [hk]; exact ⟨h.hi, h.ns⟩), (h4.block _ (lt_of_block h.j.rk) e2).trans h.j.rk, h.j.rh, h.j.rn, ⟨ownsRow_of_block hsh.row (fun g hg => h4.block g (hsh.row.lt g hg).2 (e1 g hg)), hsh.nt, fun x hx => ownsRow_of_block (hsh.g x hx) (fun g hg => h4.block g ((hsh.g x hx).lt g hg).2 (fun e => blk_ne (hsh.g x hx) h.bk (by decide) (by rw [hg, e]))), hsh.gt, hsh.gl⟩⟩, h3, h.hi, h.ns, h.f.fr h4 (fun g hg e => h.nf (by rw [hg, e])), h.nf⟩⟩
end
end Go.Proofs.YtciblhmmpamjoaaDoor

namespace Go.Proofs.YtciblhmmpamjoaaDoor
open Go.RowKit Go.Shelf

set_option maxHeartbeats 40000000 in
set_option maxRecDepth 100000 in
/-- RecordHidden. -/
theorem rhidden_any (sv rv pv : Value) (S : List P3) (l : List (RQ × List F5)) (pl : List Nat) (w : World) (hs : Stf w sv S) (hS : S.length ≤ 1000000) (hq : Rqs w rv l) (hl : l.length ≤ 1000000000) (hp : Us w pv pl) (hg : GU w) (hpg : ∀ p ∈ l, PGood p) :
    Calls Tryd.prog 3 #[.agg #[sv, rv, pv]] w fun e w' => e = .returned (.bool true) ∧ Fr (fun _ => False) w w' := by
  obtain ⟨so, sc, rfl⟩ := hs.form
  obtain ⟨ro, rc0, rfl⟩ := hq.form
  obtain ⟨po, pc, rfl⟩ := hp.form
  have HQ := hide (And.intro hs (And.intro hq (And.intro hp (And.intro hg hpg))))
  have HOk : Hid (RM.Ok ⟨S, []⟩) := ⟨by show S.length ≤ _; omega, by show 0 ≤ 256; omega, fun c hc => by cases hc⟩
  obtain ⟨W1, hW1⟩ : ∃ W1, W1 = w.alloc (.cells #[.slice so S.length sc, .slice ro l.length rc0, .slice po pl.length pc] 26) := ⟨_, rfl⟩
  have hb1 : W1.heap[w.heap.size]? = some (.cells #[.slice so S.length sc, .slice ro l.length rc0, .slice po pl.length pc] 26) := by rw [hW1]; exact Array.getElem?_push_size
  have hf1 : Fr (fun _ => False) w W1 := by rw [hW1]; exact box1 w _
  have H1 := hide (And.intro hb1 hf1)
  clear hs hq hp hg hpg hb1 hf1
  go_enter Tryd.func3, Tryd.ntmps3
  go_wp2_with fail
  rw [← hW1]
  clear hW1
  refine (awake11 W1 ((unhide HQ).2.2.2.1.fr (unhide H1).2)).mono ?_
  rintro e w2 ⟨rfl, hf2⟩
  have H2 := hide (And.intro ((hf2.block _ (lt_of_block (unhide H1).1) (fun h => h)).trans (unhide H1).1) ((unhide H1).2.trans hf2 (fun _ _ h => h)))
  clear hf2 H1
  have b0 : w2.cell? ⟨w.heap.size, 0, none⟩ = some (.slice so S.length sc) := by simp [World.cell?, (unhide H2).1]
  go_wp2_with fail
  refine (staff_any _ S w2 ((unhide HQ).1.fr (unhide H2).2) hS).mono ?_
  rintro e w3 ⟨v, rfl, ho3, hf3⟩
  have HN3 := hide (new_B v S w3 (own_stf ho3) (own_z ho3) hS)
  have H3 := hide (And.intro ((hf3.block _ (lt_of_block (unhide H2).1) (fun h => h)).trans (unhide H2).1) ((unhide H2).2.trans hf3 (fun _ _ h => h)))
  obtain ⟨vo, vc, rfl⟩ := own_formX ho3
  clear hf3 H2 b0 ho3
  go_wp2_with fail
  refine (unhide HN3).mono ?_
  rintro e w4 ⟨bs, rfl, hb4, hf4⟩
  have hlo3 := lt_of_block (unhide H3).1
  have HI0 : Hid (RP w w4 bs (fun k => w3.heap.size ≤ k ∧ k < w4.heap.size) ⟨S, []⟩ (.slice so S.length sc) (.slice ro l.length rc0) (.slice po pl.length pc) S l pl) := by
    have h6 := (unhide H3).2.trans hf4 (fun _ _ h => h)
    exact ⟨hb4, fun k hk => ⟨by omega, hk.2⟩, (hf4.block _ hlo3 (fun h => h)).trans (unhide H3).1, (unhide HQ).1.fr h6, fun g o n c e h0 => (unhide HQ).1.ltg e h0, (unhide HQ).2.1.fr h6, fun k hk => (unhide HQ).2.1.lt hk, (unhide HQ).2.2.1.fr h6, (unhide HQ).2.2.1.lt, (unhide HQ).2.2.2.1.fr h6, lt_of_cell ((unhide HQ).2.2.2.1 0 (by omega)), h6⟩
  clear hb4 hf4 HN3 H3 hlo3
  go_wp2_with fail
  go_loopw [4, 5] (fun av kv wr => ∃ j : Nat, j ≤ l.length ∧ kv = .int .i64 (j : Nat) ∧ ∃ T s vo vc L, av = .slice vo L.length vc ∧ RP w wr bs T s (.slice so S.length sc) (.slice ro l.length rc0) (.slice po pl.length pc) S l pl ∧ ShA wr (w.heap.size + 1) T (.slice vo L.length vc) L j ∧ Shs s.C L ∧ s.Ok ∧ s.S = S ∧ L.length = s.C.length) (fun _ kv _ => l.length - (intOf kv).toNat)
  case atStart => exact ⟨0, Nat.zero_le _, rfl, _, _, none, 0, [], rfl, unhide HI0, ⟨World.ownsRow_nil _ _ _ _, fun g hg => (by cases hg), fun x hx => (by cases hx), fun x hx => (by cases hx), fun x hx => (by cases hx)⟩, ⟨rfl, fun i c x hc => (by simp at hc)⟩, unhide HOk, rfl, rfl⟩
  case round =>
    obtain ⟨j, hj, rfl, T, s, vo, vc, L, rfl, hi, hsh, hm, hok, heS, hLl⟩ := hrel
    clear HI0
    by_cases hlt : j < l.length
    · obtain ⟨p, hpe⟩ : ∃ p, l[j] = p := ⟨_, rfl⟩
      have hpe2 : l[j]? = some p := by rw [List.getElem?_eq_getElem hlt, hpe]
      obtain ⟨g, o, rfl, _⟩ := hi.q.at_ j hlt
      have hpm : p ∈ l := List.mem_of_getElem? hpe2
      have hpg := (unhide HQ).2.2.2.2 p hpm
      obtain ⟨⟨cl, nu, ac, op, rc, ve, wa, ow, fv, rs⟩, F⟩ := p
      obtain ⟨xo2, xc2, rfl⟩ : ∃ xo2 xc2, fv = .slice xo2 F.length xc2 := (hi.q.d _ hpm).f.form
      obtain ⟨n, hn0⟩ : ∃ n, plc pl j = n := ⟨_, rfl⟩
      obtain ⟨X, hX⟩ : ∃ X, s.step ⟨cl, nu, ac, op, rc, ve, wa, ow, .slice xo2 F.length xc2, rs⟩ F n = X := ⟨_, rfl⟩
      have hkl : (j : Int) < (l.length : Int) := by omega
      obtain ⟨⟨b0, b1, b2⟩, hcs⟩ := hi.cells hpe2
      clear hpe
      obtain ⟨W1, hst, hk1, hf1⟩ := req_put (W := wr.alloc (.cells #[.int .u32 0, .int .u32 0, .int .u32 0, .int .u8 0, .int .u32 0, .int .u32 0, .int .u32 0, .int .u32 0, .slice none 0 0, .string ⟨#[]⟩] 37)) (g := wr.heap.size) Array.getElem?_push_size ⟨cl, nu, ac, op, rc, ve, wa, ow, .slice xo2 F.length xc2, rs⟩ rfl
      have hj1 := RJ.mk' (W' := W1) (r := ⟨cl, nu, ac, op, rc, ve, wa, ow, .slice xo2 F.length xc2, rs⟩) hi hsh ((box1 wr _).absorb hf1 (fun k hk => by omega)) hk1
      obtain ⟨rb, hrb⟩ : ∃ rb, rb = wr.heap.size := ⟨_, rfl⟩
      rw [← hrb] at hj1
      have HST := hide hst
      have HJ := hide hj1
      have HS : Hid (∀ W T1 s1 v1 L1, RJ w W bs T1 s1 (.slice so S.length sc) (.slice (some ⟨g, o, none⟩) l.length rc0) (.slice po pl.length pc) S l pl rb ⟨cl, nu, ac, op, rc, ve, wa, ow, .slice xo2 F.length xc2, rs⟩ v1 L1 j → (W.cell? ⟨w.heap.size, 0, none⟩ = some (.slice so S.length sc) ∧ W.cell? ⟨w.heap.size, 1, none⟩ = some (.slice (some ⟨g, o, none⟩) l.length rc0) ∧ W.cell? ⟨w.heap.size, 2, none⟩ = some (.slice po pl.length pc)) ∧ W.cell? ⟨rb, 0, none⟩ = some (.int .u32 (cl : Nat)) ∧ W.cell? ⟨rb, 1, none⟩ = some (.int .u32 (nu : Nat)) ∧ W.cell? ⟨rb, 2, none⟩ = some (.int .u32 (ac : Nat)) ∧ W.cell? ⟨rb, 3, none⟩ = some (.int .u8 (op : Nat)) ∧ W.cell? ⟨rb, 4, none⟩ = some (.int .u32 (rc : Nat)) ∧ W.cell? ⟨rb, 5, none⟩ = some (.int .u32 (ve : Nat)) ∧ W.cell? ⟨rb, 6, none⟩ = some (.int .u32 (wa : Nat)) ∧ W.cell? ⟨rb, 7, none⟩ = some (.int .u32 (ow : Nat)) ∧ W.cell? ⟨rb, 8, none⟩ = some (.slice xo2 F.length xc2) ∧ W.cell? ⟨rb, 9, none⟩ = some (.string rs)) := fun W T1 s1 v1 L1 h => ⟨h.box, h.req⟩
      have HPl : Hid (∀ W T1 s1 v1 L1, RJ w W bs T1 s1 (.slice so S.length sc) (.slice (some ⟨g, o, none⟩) l.length rc0) (.slice po pl.length pc) S l pl rb ⟨cl, nu, ac, op, rc, ve, wa, ow, .slice xo2 F.length xc2, rs⟩ v1 L1 j → Calls Tryd.prog 8 #[.agg #[.slice so S.length sc, .slice (some ⟨g, o, none⟩) l.length rc0, .slice po pl.length pc], .int .i64 (j : Nat)] W fun e w' => e = .returned (.int .u32 (n : Nat)) ∧ Fr (fun _ => False) W w') := fun W T1 s1 v1 L1 h => by rw [← hn0]; exact place_any _ _ _ pl j W h.p.p (by omega) ⟨_, _, _, rfl⟩ ⟨_, _, _, rfl⟩
      have HAp : Hid (∀ W, RJ w W bs T s (.slice so S.length sc) (.slice (some ⟨g, o, none⟩) l.length rc0) (.slice po pl.length pc) S l pl rb ⟨cl, nu, ac, op, rc, ve, wa, ow, .slice xo2 F.length xc2, rs⟩ (.slice vo L.length vc) L j → Calls Tryd.prog 7 #[.pointer (some ⟨bs, 0, none⟩), .agg #[.int .u32 (cl : Nat), .int .u32 (nu : Nat), .int .u32 (ac : Nat), .int .u8 (op : Nat), .int .u32 (rc : Nat), .int .u32 (ve : Nat), .int .u32 (wa : Nat), .int .u32 (ow : Nat), .slice xo2 F.length xc2, .string rs], .int .u32 (n : Nat)] W fun e w' => ∃ fo fn fc ho hn hc, e = .returned (.agg #[.int .u32 (cl : Nat), .int .u32 (nu : Nat), .int .u8 (X.2.co : Nat), .int .u32 (X.2.rc : Nat), .int .u32 (X.2.ve : Nat), .slice fo fn fc, .slice ho hn hc]) ∧ ∃ T', RP w w' bs T' X.1 (.slice so S.length sc) (.slice (some ⟨g, o, none⟩) l.length rc0) (.slice po pl.length pc) S l pl ∧ Fr T W w' ∧ (∀ k, T' k → T k ∨ W.heap.size ≤ k) ∧ OwF w' W.heap.size (.slice fo fn fc) X.2.F ∧ OwS w' W.heap.size (.slice ho hn hc) X.2.H) := fun W h => h.p.apply (p := (⟨cl, nu, ac, op, rc, ve, wa, ow, .slice xo2 F.length xc2, rs⟩, F)) hpm hok hpg n X hX
      have HX : Hid (X.1.Ok ∧ (¬ X.2.co = 0 → X = (s, RA.no X.2.co)) ∧ (X.2.co = 0 → SDone s ⟨cl, nu, ac, op, rc, ve, wa, ow, .slice xo2 F.length xc2, rs⟩ X)) := by rw [← hX]; exact ⟨hok.step _ _ _ hpg.2.2 hpg.1, fun h => step_no h, fun h => step_done h⟩
      have HM := hide (And.intro hm (And.intro hok (And.intro heS hLl)))
      obtain ⟨c0, c1, c2, c3, c4, c5, c6, c7, c8, c9⟩ := hcs
      simp only at c0 c1 c2 c3 c4 c5 c6 c7 c8 c9
      clear hpe2 hpm hpg hX hn0 hok hst hk1 hf1 hj1 hi hsh hm heS hLl
      go_wp2_with (refine wpList_stN rfl 37 (.tmp 6) (.tmp 28) rfl _ _ rfl rfl (unhide HST) ?_)
      clear HST c0 c1 c2 c3 c4 c5 c6 c7 c8 c9 b0 b1 b2
      rw [← hrb]
      clear hrb
      refine wp_region_last (n := 7) (m := 7) (S := (fun W => (W.cell? ⟨w.heap.size, 0, none⟩ = some (.slice so S.length sc) ∧ W.cell? ⟨w.heap.size, 1, none⟩ = some (.slice (some ⟨g, o, none⟩) l.length rc0) ∧ W.cell? ⟨w.heap.size, 2, none⟩ = some (.slice po pl.length pc)) ∧ W.cell? ⟨rb, 0, none⟩ = some (.int .u32 (cl : Nat)) ∧ W.cell? ⟨rb, 1, none⟩ = some (.int .u32 (nu : Nat)) ∧ W.cell? ⟨rb, 2, none⟩ = some (.int .u32 (ac : Nat)) ∧ W.cell? ⟨rb, 3, none⟩ = some (.int .u8 (op : Nat)) ∧ W.cell? ⟨rb, 4, none⟩ = some (.int .u32 (rc : Nat)) ∧ W.cell? ⟨rb, 5, none⟩ = some (.int .u32 (ve : Nat)) ∧ W.cell? ⟨rb, 6, none⟩ = some (.int .u32 (wa : Nat)) ∧ W.cell? ⟨rb, 7, none⟩ = some (.int .u32 (ow : Nat)) ∧ W.cell? ⟨rb, 8, none⟩ = some (.slice xo2 F.length xc2) ∧ W.cell? ⟨rb, 9, none⟩ = some (.string rs))) (by kernel_rfl) rfl rfl rfl (by kernel_rfl) (by kernel_rfl) ((unhide HS) _ _ _ _ _ ((unhide HJ).fr (Fr.refl _ _).drew)) (fun hHeld => ?_)
      refine wpAnyH_take (i := 0) (v := ?_) rfl (by kernel_rfl) (by kernel_rfl) (by kernel_rfl) (fun _ _ _ h => h) (Or.inl ⟨by rfl, ?_⟩) hHeld ?_
      rotate_left
      · intro w hSw; (try dsimp only at hSw); go_simp; (try with_reducible rfl)
      (try simp only [Act.put, List.getElem_toArray, List.getElem_cons_zero, List.setIfInBounds_toArray, List.set_cons_zero, List.set_cons_succ])
      refine wpAnyH_take (i := 1) (v := ?_) rfl (by kernel_rfl) (by kernel_rfl) (by kernel_rfl) (fun _ _ _ h => h) (Or.inl ⟨by rfl, ?_⟩) hHeld ?_
      rotate_left
      · intro w hSw; (try dsimp only at hSw); go_simp; (try with_reducible rfl)
      (try simp only [Act.put, List.getElem_toArray, List.getElem_cons_zero, List.getElem_cons_succ, List.setIfInBounds_toArray, List.set_cons_zero, List.set_cons_succ])
      refine wpAnyH_take (i := 2) (v := ?_) rfl (by kernel_rfl) (by kernel_rfl) (by kernel_rfl) (fun _ _ _ h => h) (Or.inl ⟨by rfl, ?_⟩) hHeld ?_
      rotate_left
      · intro w hSw; (try dsimp only at hSw); go_simp; (try with_reducible rfl)
      (try simp only [Act.put, List.getElem_toArray, List.getElem_cons_zero, List.getElem_cons_succ, List.setIfInBounds_toArray, List.set_cons_zero, List.set_cons_succ])
      refine wpAnyH_take (i := 3) (v := ?_) rfl (by kernel_rfl) (by kernel_rfl) (by kernel_rfl) (fun _ _ _ h => h) (Or.inl ⟨by rfl, ?_⟩) hHeld ?_
      rotate_left
      · intro w hSw; (try dsimp only at hSw); go_simp; (try with_reducible rfl)
      (try simp only [Act.put, List.getElem_toArray, List.getElem_cons_zero, List.getElem_cons_succ, List.setIfInBounds_toArray, List.set_cons_zero, List.set_cons_succ])
      refine wpAnyH_ready (rs := [4, 6]) (by kernel_rfl) (by simp) (AllReadyH.cons rfl (fun K hK => ?_) (AllReadyH.cons rfl (fun K hK => ?_) AllReadyH.nil))
      focus
        go_simp
        refine ((unhide HPl) _ _ _ _ _ ((unhide HJ).fr (Fr.refl _ _).drew)).mono ?_
        rintro e w3 ⟨rfl, f3⟩
        have R3 := hide (((unhide HJ).fr (Fr.refl _ _).drew).fr f3)
        clear f3
        go_simp
        refine hK.out _ _ ((unhide HS) _ _ _ _ _ (unhide R3)) (fun hHeld => ?_)
        clear hK K
        (try simp only [Act.put, List.getElem_toArray, List.getElem_cons_zero, List.getElem_cons_succ, List.setIfInBounds_toArray, List.set_cons_zero, List.set_cons_succ])
        refine wpAnyH_ready (rs := [5, 6]) (by kernel_rfl) (by simp) (AllReadyH.cons rfl (fun K hK => ?_) (AllReadyH.cons rfl (fun K hK => ?_) AllReadyH.nil))
        focus
          go_simp
          refine ((unhide HAp) _ (unhide R3)).mono ?_
          rintro e w4 ⟨fo, fn, fc, ho, hn, hc, rfl, T', r4, f4, k4, o4, p4⟩
          have g4 := RK.late #[.int .u32 0, .int .u32 0, .int .u8 0, .int .u32 0, .int .u32 0, .slice none 0 0, .slice none 0 0] (unhide R3) r4 f4 k4 o4
          have R4 := hide ((unhide R3).goS r4 f4 k4)
          clear r4 f4 k4 o4 p4
          go_simp
          refine hK.out _ _ ((unhide HS) _ _ _ _ _ (unhide R4)) (fun hHeld => ?_)
          clear hK K
          (try simp only [Act.put, List.getElem_toArray, List.getElem_cons_zero, List.getElem_cons_succ, List.setIfInBounds_toArray, List.set_cons_zero, List.set_cons_succ])
          refine wpAnyH_ready (rs := [6]) (by kernel_rfl) (by simp) (AllReadyH.cons rfl (fun K hK => ?_) AllReadyH.nil)
          go_simp
          refine hK.out _ _ ((unhide HS) _ _ _ _ _ ((unhide R4).fr (box1 w4 _))) (fun hHeld => ?_)
          clear hK K
          (try simp only [Act.put, List.getElem_toArray, List.getElem_cons_zero, List.getElem_cons_succ, List.setIfInBounds_toArray, List.set_cons_zero, List.set_cons_succ])
          obtain ⟨ba, hba⟩ : ∃ ba, ba = w4.heap.size := ⟨_, rfl⟩
          rw [← hba] at g4 ⊢
          obtain ⟨W8, st8, g8⟩ := g4.put (.int .u32 (cl : Nat)) (.int .u32 (nu : Nat)) (.int .u8 (X.2.co : Nat)) (.int .u32 (X.2.rc : Nat)) (.int .u32 (X.2.ve : Nat)) (.slice fo fn fc) (.slice ho hn hc) (fun u hu => by simp at hu; rcases hu with rfl | rfl | rfl | rfl | rfl | rfl | rfl <;> rfl)
          have HST := hide st8
          have G8 := hide g8
          clear st8 g8
          refine wpAnyH_done (by kernel_rfl) ?_ _
          simp only [lastQ]
          refine wp_stN 40 (.tmp 7) (.tmp 34) rfl _ _ (by simp [Act.eval]) (by simp [Act.eval]) (unhide HST) ?_
          (try simp only [Act.put])
          clear HST
          clear hba R4 R3
        rotate_left
        focus
          go_simp
          refine hK.out _ _ ((unhide HS) _ _ _ _ _ ((unhide R3).fr (box1 w3 _))) (fun hHeld => ?_)
          clear hK K
          (try simp only [Act.put, List.getElem_toArray, List.getElem_cons_zero, List.getElem_cons_succ, List.setIfInBounds_toArray, List.set_cons_zero, List.set_cons_succ])
          refine wpAnyH_ready (rs := [5]) (by kernel_rfl) (by simp) (AllReadyH.cons rfl (fun K hK => ?_) AllReadyH.nil)
          go_simp
          refine ((unhide HAp) _ ((unhide R3).fr (box1 w3 _))).mono ?_
          rintro e w4 ⟨fo, fn, fc, ho, hn, hc, rfl, T', r4, f4, k4, o4, p4⟩
          have g4 := RK.early (ba := w3.heap.size) ((unhide R3).fr (box1 w3 _)) Array.getElem?_push_size (lt_of_block (unhide R3).p.b) (fun ht => by have := ((unhide R3).p.ts _ ht).2; omega) r4 f4 k4 o4
          have R4 := hide (((unhide R3).fr (box1 w3 _)).goS r4 f4 k4)
          clear r4 f4 k4 o4 p4
          go_simp
          refine hK.out _ _ ((unhide HS) _ _ _ _ _ (unhide R4)) (fun hHeld => ?_)
          clear hK K
          (try simp only [Act.put, List.getElem_toArray, List.getElem_cons_zero, List.getElem_cons_succ, List.setIfInBounds_toArray, List.set_cons_zero, List.set_cons_succ])
          obtain ⟨ba, hba⟩ : ∃ ba, ba = w3.heap.size := ⟨_, rfl⟩
          rw [← hba] at g4 ⊢
          obtain ⟨W8, st8, g8⟩ := g4.put (.int .u32 (cl : Nat)) (.int .u32 (nu : Nat)) (.int .u8 (X.2.co : Nat)) (.int .u32 (X.2.rc : Nat)) (.int .u32 (X.2.ve : Nat)) (.slice fo fn fc) (.slice ho hn hc) (fun u hu => by simp at hu; rcases hu with rfl | rfl | rfl | rfl | rfl | rfl | rfl <;> rfl)
          have HST := hide st8
          have G8 := hide g8
          clear st8 g8
          refine wpAnyH_done (by kernel_rfl) ?_ _
          simp only [lastQ]
          refine wp_stN 40 (.tmp 7) (.tmp 34) rfl _ _ (by simp [Act.eval]) (by simp [Act.eval]) (unhide HST) ?_
          (try simp only [Act.put])
          clear HST
          clear hba R4 R3
      rotate_left 2
      focus
        go_simp
        refine hK.out _ _ ((unhide HS) _ _ _ _ _ ((unhide HJ).fr ((Fr.refl _ _).drew.alloc _))) (fun hHeld => ?_)
        clear hK K
        (try simp only [Act.put, List.getElem_toArray, List.getElem_cons_zero, List.getElem_cons_succ, List.setIfInBounds_toArray, List.set_cons_zero, List.set_cons_succ])
        refine wpAnyH_ready (rs := [4]) (by kernel_rfl) (by simp) (AllReadyH.cons rfl (fun K hK => ?_) AllReadyH.nil)
        go_simp
        refine ((unhide HPl) _ _ _ _ _ ((unhide HJ).fr ((Fr.refl _ _).drew.alloc _))).mono ?_
        rintro e w3 ⟨rfl, f3⟩
        have R3 := hide (((unhide HJ).fr ((Fr.refl _ _).drew.alloc _)).fr f3)
        have B3 := hide ((f3.block W1.heap.size (by simp) (fun h => h)).trans Array.getElem?_push_size)
        clear f3
        go_simp
        refine hK.out _ _ ((unhide HS) _ _ _ _ _ (unhide R3)) (fun hHeld => ?_)
        clear hK K
        (try simp only [Act.put, List.getElem_toArray, List.getElem_cons_zero, List.getElem_cons_succ, List.setIfInBounds_toArray, List.set_cons_zero, List.set_cons_succ])
        refine wpAnyH_ready (rs := [5]) (by kernel_rfl) (by simp) (AllReadyH.cons rfl (fun K hK => ?_) AllReadyH.nil)
        go_simp
        refine ((unhide HAp) _ (unhide R3)).mono ?_
        rintro e w4 ⟨fo, fn, fc, ho, hn, hc, rfl, T', r4, f4, k4, o4, p4⟩
        have g4 := RK.early (ba := W1.heap.size) (unhide R3) (unhide B3) (lt_of_block (unhide HJ).p.b) (fun ht => by have := ((unhide HJ).p.ts _ ht).2; omega) r4 f4 k4 o4
        have R4 := hide ((unhide R3).goS r4 f4 k4)
        clear r4 f4 k4 o4 p4
        go_simp
        refine hK.out _ _ ((unhide HS) _ _ _ _ _ (unhide R4)) (fun hHeld => ?_)
        clear hK K
        (try simp only [Act.put, List.getElem_toArray, List.getElem_cons_zero, List.getElem_cons_succ, List.setIfInBounds_toArray, List.set_cons_zero, List.set_cons_succ])
        obtain ⟨ba, hba⟩ : ∃ ba, ba = W1.heap.size := ⟨_, rfl⟩
        rw [← hba] at g4 ⊢
        obtain ⟨W8, st8, g8⟩ := g4.put (.int .u32 (cl : Nat)) (.int .u32 (nu : Nat)) (.int .u8 (X.2.co : Nat)) (.int .u32 (X.2.rc : Nat)) (.int .u32 (X.2.ve : Nat)) (.slice fo fn fc) (.slice ho hn hc) (fun u hu => by simp at hu; rcases hu with rfl | rfl | rfl | rfl | rfl | rfl | rfl <;> rfl)
        have HST := hide st8
        have G8 := hide g8
        clear st8 g8
        refine wpAnyH_done (by kernel_rfl) ?_ _
        simp only [lastQ]
        refine wp_stN 40 (.tmp 7) (.tmp 34) rfl _ _ (by simp [Act.eval]) (by simp [Act.eval]) (unhide HST) ?_
        (try simp only [Act.put])
        clear HST
        clear hba R4 B3 R3
      all_goals
        clear HS HPl HAp HJ
        obtain ⟨c0, c1, c2, c3, c4, c5, c6, c7, c8, c9⟩ := (unhide G8).j.req
        simp only at c0 c1 c2 c3 c4 c5 c6 c7 c8 c9
        have d2 : W8.cell? ⟨ba, 2, none⟩ = some (.int .u8 (X.2.co : Nat)) := by simp [World.cell?, (unhide G8).bk]
        have d5 : W8.cell? ⟨ba, 5, none⟩ = some (.slice fo fn fc) := by simp [World.cell?, (unhide G8).bk]
        clear c0 c1 c8 c9
        by_cases hz : X.2.co = 0
        · rw [hz] at d2
          have HD := hide ((unhide HX).2.2 hz)
          clear hz
          rcases (unhide HD).2 with ⟨ho1, ⟨V, hC⟩, hF0⟩ | ⟨ho1, hr1, c, hc, ⟨V, hC⟩, hFr⟩
          · have HC := hide (And.intro hC hF0)
            clear hC hF0
            simp only at ho1
            subst ho1
            obtain ⟨ao, cap, w9, hr9, hsh9, hf9⟩ := ((unhide G8).j.sh.fr (box1 W8 (.cells #[.int .u32 (wa : Nat), .int .u32 (ow : Nat), .bool false, .slice none 0 0] 44))).append (by have := lt_of_block (unhide G8).j.p.b; simp; omega) (fun k hk => by have := ((unhide G8).j.p.ts k hk).2; simp; omega) (by have := (unhide HM).2.2.2; have := (unhide HM).2.1.C; omega) W8.heap.size wa ow Array.getElem?_push_size
            have HR := hide hr9
            have H9 := hide (And.intro hsh9 (((unhide G8).j.p.fr (box1 W8 (.cells #[.int .u32 (wa : Nat), .int .u32 (ow : Nat), .bool false, .slice none 0 0] 44))).frS hf9 (fun k hk => ⟨((unhide G8).j.sh.row.lt k hk).1, (unhide G8).j.sh.nt k hk⟩)))
            clear hr9 hsh9 hf9
            go_wp2_with (at_builtin; refine wpList_app rfl (.tmp 41) (.tmp 47) 31 31 rfl _ _ _ rfl rfl (unhide HR) ?_)
            go_roundw
            case rel => exact ⟨j + 1, hlt, by go_num, T', X.1, ao, cap, L ++ [⟨wa, ow, false, .slice none 0 0, []⟩], by simp, (unhide H9).2, by simpa using (unhide H9).1.more (by omega), by rw [(unhide HC).1]; exact (unhide HM).1.app ⟨rfl, rfl, rfl, fun _ => Iff.rfl⟩, (unhide HX).1, by rw [(unhide HD).1]; exact (unhide HM).2.2.1, by rw [(unhide HC).1]; simp [(unhide HM).1.1]⟩
            case measure => simp [intOf]; omega
          · simp only at ho1 hr1 hc hC hFr
            obtain ⟨k, rfl⟩ : ∃ k, rc = k + 1 := ⟨rc - 1, by omega⟩
            simp only [Nat.add_sub_cancel] at hc hC
            obtain ⟨x, hx, hxc⟩ := (unhide HM).1.at_ hc
            obtain ⟨gb, cap, hve, hgl, hgb, ⟨s0, s1, s2, s3⟩, hfz⟩ := (unhide G8).j.sh.cells hx
            simp only [Value.slice.injEq, true_and] at hve
            obtain ⟨rfl, rfl⟩ := hve
            have hk := (List.getElem?_eq_some_iff.1 hx).1
            have hL2 := (unhide HM).2.2.2
            have hL3 := (unhide HM).2.1.C
            have o1 : ¬ ((op : Nat) : Int) = 1 := by omega
            have a1 : ¬ ((k : Int) + 1) < 1 := by omega
            have a2 : IntKind.i64.wrap ((k : Int) + 1) = (k : Int) + 1 := by rw [IntKind.wrap_i64]; omega
            have a3 : ¬ (L.length : Int) < (k : Int) + 1 := by omega
            have a4 : IntKind.u32.wrap (k : Int) = (k : Int) := by rw [IntKind.wrap_u32]; omega
            have a5 : (k : Int) < (L.length : Int) := by omega
            have n1 : ¬ rb = gb := fun e => blk_ne (unhide G8).j.sh.row (unhide G8).j.rk (by decide) (by rw [e]; rfl)
            have n2 : ¬ gb = rb := fun e => n1 e.symm
            have n3 : ¬ ba = gb := fun e => blk_ne (unhide G8).j.sh.row (unhide G8).bk (by decide) (by rw [e]; rfl)
            have n4 : ¬ gb = ba := fun e => n3 e.symm
            have hfn : fn = X.2.F.length := (unhide G8).f.len
            have HFn := hide hfn
            have HB := hide (And.intro hx (And.intro hxc (And.intro hc (And.intro hC (And.intro hFr hgb)))))
            have hrl := lt_of_block (unhide G8).j.rk
            have hbl := lt_of_block (unhide G8).bk
            clear hx hxc hc hC hFr hk hL2 hL3 hr1 ho1 hfn
            have f2 := hfz (k * 4 + 2)
            have f3 := hfz (k * 4 + 3)
            clear hfz
            by_cases o6 : op = 6
            · subst o6
              have HF0 : Hid (X.2.F = []) := by
                rcases e : X.2.F with _ | ⟨y, ys⟩
                · rfl
                · have := ((unhide HB).2.2.2.2.1 (by rw [e]; exact List.cons_ne_nil _ _)).1
                  omega
              obtain rfl : fn = 0 := by rw [unhide HFn, unhide HF0]; rfl
              go_wp2_with fail
              go_quiet (fail)
              go_wp2_with fail
              go_roundw
              case rel =>
                obtain ⟨hx, hxc, hc, hC, hFr, hgb⟩ := unhide HB
                have hsh := (unhide G8).j.sh
                have eb : ((ve : Int) == 1) = decide (ve = 1) := by
                  by_cases h : ve = 1
                  · simp [h]
                  · have h' : ¬ (ve : Int) = 1 := by omega
                    simp [h, h']
                have h1 := hsh.putSl hx ((ve : Int) == 1)
                have h2 := h1.putGv (List.getElem?_set_self (List.getElem?_eq_some_iff.1 hx).1) (.slice none 0 0) [] (World.ownsRow_nil _ _ _ _) (fun i hi => by cases hi) (Nat.zero_le _)
                simp only [List.set_set] at h2
                have hfr := ((Fr.refl (fun i => i = gb) W8).setCell (p := ⟨gb, k * 4 + 2, none⟩) (.inl rfl) (.bool ((ve : Int) == 1))).setCell (p := ⟨gb, k * 4 + 3, none⟩) (.inl rfl) (.slice none 0 0)
                have hp := (unhide G8).j.p.frS hfr (fun i hi => by subst hi; exact ⟨by omega, hsh.nt _ rfl⟩)
                refine ⟨j + 1, hlt, by go_num, T', X.1, _, _, L.set k ⟨x.wa, x.ow, (ve : Int) == 1, .slice none 0 0, []⟩, by rw [List.length_set], hp.fr ((Fr.refl _ _).drewN _), (h2.fr ((Fr.refl _ _).drewN _)).more (by omega), ?_, (unhide HX).1, by rw [(unhide HD).1]; exact (unhide HM).2.2.1, by rw [hC]; simp [(unhide HM).2.2.2]⟩
                rw [hC]
                exact (unhide HM).1.set k ⟨hxc.1, hxc.2.1, by simp [eb], fun _ => by simp⟩
              case measure => simp [intOf]; omega
            · have o6i : ¬ ((op : Nat) : Int) = 6 := by omega
              by_cases o7 : op = 7
              · subst o7
                have HF0 : Hid (X.2.F = []) := by
                  rcases e : X.2.F with _ | ⟨y, ys⟩
                  · rfl
                  · have := ((unhide HB).2.2.2.2.1 (by rw [e]; exact List.cons_ne_nil _ _)).1
                    omega
                obtain rfl : fn = 0 := by rw [unhide HFn, unhide HF0]; rfl
                obtain ⟨m, hm0⟩ : ∃ m, m = W8.heap.size := ⟨_, rfl⟩
                obtain ⟨W9, hW9⟩ : ∃ W9, W9 = (W8.alloc (.cells #[.int .u32 (ac : Nat)] 32)).drew := ⟨_, rfl⟩
                have hf9 : Fr (fun _ => False) W8 W9 := by rw [hW9]; exact ((Fr.refl _ _).alloc _).drew
                have hs9 : W9.heap.size = m + 1 := by rw [hW9, hm0]; simp
                have hk9 : W9.heap[m]? = some (.cells #[.int .u32 (ac : Nat)] 32) := by rw [hW9, hm0]; exact Array.getElem?_push_size
                have hxm : x ∈ L := List.mem_of_getElem? (unhide HB).1
                have hmb : w.heap.size + 1 ≤ m := by have := lt_of_block (unhide G8).j.p.b; omega
                obtain ⟨ao, cap2, w10, hr10, ho10, hf10, hb10⟩ := app_one W9 (w.heap.size + 1) m ac x.gv x.G (((unhide G8).j.sh.fr hf9).g x hxm) hk9 hmb (by have := (unhide G8).j.sh.gl x hxm; omega)
                have e9 : ∀ W, Fr (fun _ => False) W8 W → W.cell? ⟨rb, 2, none⟩ = some (.int .u32 (ac : Nat)) ∧ W.cell? ⟨gb, k * 4 + 3, none⟩ = some x.gv := fun W hW => ⟨(hW.cell (p := ⟨rb, 2, none⟩) hrl (fun h => h)).trans c2, (hW.cell (p := ⟨gb, k * 4 + 3, none⟩) hgl (fun h => h)).trans s3⟩
                have hf810 : Fr (fun _ => False) W8 w10 := hf9.absorb hf10 (fun i hi => by omega)
                have x3 := (hf810.cell (p := ⟨gb, k * 4 + 3, none⟩) hgl (fun h => h)).trans s3
                have y3 : w10.frozen? ⟨gb, k * 4 + 3, none⟩ = false := (World.frozen?_of_block (hf810.block gb hgl (fun h => h))).trans f3
                have x5 := (hf810.cell (p := ⟨ba, 5, none⟩) hbl (fun h => h)).trans d5
                have HR := hide hr10
                have H10 := hide (And.intro ho10 (And.intro hf810 (And.intro hb10 (And.intro hf10 (And.intro hf9 (And.intro hm0 hs9))))))
                have HE9 := hide e9
                clear hr10 ho10 hf10 hb10 hf810 e9 hk9 hxm hmb hf9 hs9
                go_wp2_with fail
                refine wp_region_last (n := 13) (m := 13) (S := (fun W => W.cell? ⟨rb, 2, none⟩ = some (.int .u32 (ac : Nat)) ∧ W.cell? ⟨gb, k * 4 + 3, none⟩ = some x.gv)) (by kernel_rfl) rfl rfl rfl (by kernel_rfl) (by kernel_rfl) ((unhide HE9) _ (Fr.refl _ _).drew) (fun hHeld => ?_)
                refine wpAnyH_take (i := 0) (v := ?_) rfl (by kernel_rfl) (by kernel_rfl) (by kernel_rfl) (fun _ _ _ h => h) (Or.inl ⟨by rfl, ?_⟩) hHeld ?_
                rotate_left
                · intro w hSw; (try dsimp only at hSw); go_simp; (try with_reducible rfl)
                (try simp only [Act.put, List.getElem_toArray, List.getElem_cons_zero, List.setIfInBounds_toArray, List.set_cons_zero, List.set_cons_succ])
                refine wpAnyH_take (i := 1) (v := ?_) rfl (by kernel_rfl) (by kernel_rfl) (by kernel_rfl) (fun _ _ _ h => h) (Or.inl ⟨by rfl, ?_⟩) hHeld ?_
                rotate_left
                · intro w hSw; (try dsimp only at hSw); go_simp; (try with_reducible rfl)
                (try simp only [Act.put, List.getElem_toArray, List.getElem_cons_zero, List.getElem_cons_succ, List.setIfInBounds_toArray, List.set_cons_zero, List.set_cons_succ])
                refine wpAnyH_take (i := 2) (v := ?_) rfl (by kernel_rfl) (by kernel_rfl) (by kernel_rfl) (fun _ _ _ h => h) (Or.inl ⟨by rfl, ?_⟩) hHeld ?_
                rotate_left
                · intro w hSw; (try dsimp only at hSw); go_simp; (try with_reducible rfl)
                (try simp only [Act.put, List.getElem_toArray, List.getElem_cons_zero, List.getElem_cons_succ, List.setIfInBounds_toArray, List.set_cons_zero, List.set_cons_succ])
                refine wpAnyH_take (i := 3) (v := ?_) rfl (by kernel_rfl) (by kernel_rfl) (by kernel_rfl) (fun _ _ _ h => h) (Or.inl ⟨by rfl, ?_⟩) hHeld ?_
                rotate_left
                · intro w hSw; (try dsimp only at hSw); go_simp; (try with_reducible rfl)
                (try simp only [Act.put, List.getElem_toArray, List.getElem_cons_zero, List.getElem_cons_succ, List.setIfInBounds_toArray, List.set_cons_zero, List.set_cons_succ])
                refine wpAnyH_take (i := 5) (v := ?_) rfl (by kernel_rfl) (by kernel_rfl) (by kernel_rfl) (fun _ _ _ h => h) (Or.inl ⟨by rfl, ?_⟩) hHeld ?_
                rotate_left
                · intro w hSw; (try dsimp only at hSw); go_simp; (try with_reducible rfl)
                (try simp only [Act.put, List.getElem_toArray, List.getElem_cons_zero, List.getElem_cons_succ, List.setIfInBounds_toArray, List.set_cons_zero, List.set_cons_succ])
                refine wpAnyH_take (i := 6) (v := ?_) rfl (by kernel_rfl) (by kernel_rfl) (by kernel_rfl) (fun _ _ _ h => h) (Or.inl ⟨by rfl, ?_⟩) hHeld ?_
                rotate_left
                · intro w hSw; (try dsimp only at hSw); go_simp; (try with_reducible rfl)
                (try simp only [Act.put, List.getElem_toArray, List.getElem_cons_zero, List.getElem_cons_succ, List.setIfInBounds_toArray, List.set_cons_zero, List.set_cons_succ])
                refine wpAnyH_take (i := 7) (v := ?_) rfl (by kernel_rfl) (by kernel_rfl) (by kernel_rfl) (fun _ _ _ h => h) (Or.inl ⟨by rfl, ?_⟩) hHeld ?_
                rotate_left
                · intro w hSw; (try dsimp only at hSw); go_simp; (try with_reducible rfl)
                (try simp only [Act.put, List.getElem_toArray, List.getElem_cons_zero, List.getElem_cons_succ, List.setIfInBounds_toArray, List.set_cons_zero, List.set_cons_succ])
                refine wpAnyH_take (i := 8) (v := ?_) rfl (by kernel_rfl) (by kernel_rfl) (by kernel_rfl) (fun _ _ _ h => h) (Or.inl ⟨by rfl, ?_⟩) hHeld ?_
                rotate_left
                · intro w hSw; (try dsimp only at hSw); go_simp; (try with_reducible rfl)
                (try simp only [Act.put, List.getElem_toArray, List.getElem_cons_zero, List.getElem_cons_succ, List.setIfInBounds_toArray, List.set_cons_zero, List.set_cons_succ])
                refine wpAnyH_take (i := 9) (v := ?_) rfl (by kernel_rfl) (by kernel_rfl) (by kernel_rfl) (fun _ _ _ h => h) (Or.inl ⟨by rfl, ?_⟩) hHeld ?_
                rotate_left
                · intro w hSw; (try dsimp only at hSw); go_simp; (try with_reducible rfl)
                (try simp only [Act.put, List.getElem_toArray, List.getElem_cons_zero, List.getElem_cons_succ, List.setIfInBounds_toArray, List.set_cons_zero, List.set_cons_succ])
                refine wpAnyH_ready (rs := [4]) (by kernel_rfl) (by simp) (AllReadyH.cons rfl (fun K hK => ?_) AllReadyH.nil)
                go_simp
                rw [← hW9, ← hm0]
                refine hK.out _ _ ((unhide HE9) _ (unhide H10).2.2.2.2.1) (fun hHeld => ?_)
                clear hK K
                (try simp only [Act.put, List.getElem_toArray, List.getElem_cons_zero, List.getElem_cons_succ, List.setIfInBounds_toArray, List.set_cons_zero, List.set_cons_succ])
                refine wpAnyH_ready (rs := [10]) (by kernel_rfl) (by simp) (AllReadyH.cons rfl (fun K hK => ?_) AllReadyH.nil)
                refine step_app rfl (.tmp 84) (.tmp 89) 24 24 rfl _ _ _ (by simp [Act.eval]) (by simp [Act.eval]) (unhide HR) ?_
                refine hK.out _ _ ((unhide HE9) _ (unhide H10).2.1) (fun hHeld => ?_)
                clear hK K
                (try simp only [Act.put, List.getElem_toArray, List.getElem_cons_zero, List.getElem_cons_succ, List.setIfInBounds_toArray, List.set_cons_zero, List.set_cons_succ])
                refine wpAnyH_take (i := 11) (v := ?_) rfl (by kernel_rfl) (by kernel_rfl) (by kernel_rfl) (fun _ _ _ h => h) (Or.inl ⟨by rfl, ?_⟩) hHeld ?_
                rotate_left
                · intro w hSw; (try dsimp only at hSw); go_simp; (try with_reducible rfl)
                (try simp only [Act.put, List.getElem_toArray, List.getElem_cons_zero, List.getElem_cons_succ, List.setIfInBounds_toArray, List.set_cons_zero, List.set_cons_succ])
                refine wpAnyH_take (i := 12) (v := ?_) rfl (by kernel_rfl) (by kernel_rfl) (by kernel_rfl) (fun _ _ _ h => h) (Or.inl ⟨by rfl, ?_⟩) hHeld ?_
                rotate_left
                · intro w hSw; (try dsimp only at hSw); go_simp; (try with_reducible rfl)
                (try simp only [Act.put, List.getElem_toArray, List.getElem_cons_zero, List.getElem_cons_succ, List.setIfInBounds_toArray, List.set_cons_zero, List.set_cons_succ])
                refine wpAnyH_done (by kernel_rfl) ?_ _
                simp only [lastQ]
                clear hW9 hm0
                go_simp
                go_wp2_with fail
                go_quiet (fail)
                go_wp2_with fail
                go_roundw
                case rel =>
                  obtain ⟨hx, hxc, hc, hC, hFr, hgb⟩ := unhide HB
                  obtain ⟨ho10, hf810, hb10, hf10, hf9, hm0, hs9⟩ := unhide H10
                  have hsh := (unhide G8).j.sh
                  have h2 := ((hsh.fr hf810).more (show j ≤ j + 1 by omega)).putGv hx (.slice ao (1 + x.G.length) cap2) (ac :: x.G) ho10 (fun i hi ht => by have h3 := ((unhide G8).j.p.ts i ht).2; rcases hb10 i hi with h4 | h4 <;> omega) (by have := hsh.gl x (List.mem_of_getElem? hx); simp; omega)
                  have hfr := (Fr.refl (fun i => i = gb) w10).setCell (p := ⟨gb, k * 4 + 3, none⟩) (.inl rfl) (.slice ao (1 + x.G.length) cap2)
                  have hp := ((unhide G8).j.p.fr hf810).frS hfr (fun i hi => by subst hi; exact ⟨by omega, hsh.nt _ rfl⟩)
                  refine ⟨j + 1, hlt, by go_num, T', X.1, _, _, L.set k ⟨x.wa, x.ow, x.sl, .slice ao (1 + x.G.length) cap2, ac :: x.G⟩, by rw [List.length_set], hp.fr ((Fr.refl _ _).drewN _), h2.fr ((Fr.refl _ _).drewN _), ?_, (unhide HX).1, by rw [(unhide HD).1]; exact (unhide HM).2.2.1, by rw [hC]; simp [(unhide HM).2.2.2]⟩
                  rw [hC]
                  exact (unhide HM).1.set k ⟨hxc.1, hxc.2.1, by simp [hxc.2.2.1], fun i => by simp [insN_mem, hxc.2.2.2]⟩
                case measure => simp [intOf]; omega
              · have o7i : ¬ ((op : Nat) : Int) = 7 := by omega
                by_cases hF : X.2.F = []
                · obtain rfl : fn = 0 := by rw [unhide HFn, hF]; rfl
                  have O67 := hide (And.intro o6 o7)
                  clear o6 o7
                  go_wp2_with fail
                  go_quiet (fail)
                  go_wp2_with fail
                  go_roundw
                  case rel =>
                    obtain ⟨o6, o7⟩ := unhide O67
                    obtain ⟨hx, hxc, hc, hC, hFr, hgb⟩ := unhide HB
                    have h5 := (unhide HM).1.set k (c := ⟨c.wa, c.ow, c.sl, c.G, V⟩) (x := x) hxc
                    rw [set_id hx] at h5
                    refine ⟨j + 1, hlt, by go_num, T', X.1, _, _, L, rfl, (unhide G8).j.p.fr ((Fr.refl _ _).drewN _), ((unhide G8).j.sh.fr ((Fr.refl _ _).drewN _)).more (by omega), ?_, (unhide HX).1, by rw [(unhide HD).1]; exact (unhide HM).2.2.1, by rw [hC]; simp [(unhide HM).2.2.2]⟩
                    rw [hC]
                    simpa [o6, o7] using h5
                  case measure => simp [intOf]; omega
                · have hF3 := (unhide HB).2.2.2.2.1 hF
                  obtain rfl : op = 3 := hF3.1
                  have hfp : (0 : Int) < (fn : Int) := by rw [unhide HFn]; have := List.length_pos_iff.2 hF; omega
                  have hfq : 0 < fn := by omega
                  have hfr1 : decide ((0 : Int) < (fn : Int)) = true := decide_eq_true hfp
                  have hfr2 : decide (0 < fn) = true := decide_eq_true hfq
                  obtain ⟨p0, _, _⟩ := (unhide G8).j.box
                  have hpl : w.heap.size < W8.heap.size := lt_of_block (unhide G8).j.p.b
                  have HS3 : Hid (∀ W, Fr (fun _ => False) W8 W → W.cell? ⟨ba, 5, none⟩ = some (.slice fo fn fc) ∧ W.cell? ⟨rb, 3, none⟩ = some (.int .u8 3) ∧ W.cell? ⟨rb, 2, none⟩ = some (.int .u32 (ac : Nat)) ∧ W.cell? ⟨w.heap.size, 0, none⟩ = some (.slice so S.length sc) ∧ W.cell? ⟨gb, k * 4, none⟩ = some (.int .u32 (x.wa : Nat)) ∧ W.cell? ⟨gb, k * 4 + 1, none⟩ = some (.int .u32 (x.ow : Nat)) ∧ W.cell? ⟨gb, k * 4 + 2, none⟩ = some (.bool x.sl) ∧ W.cell? ⟨gb, k * 4 + 3, none⟩ = some x.gv) := fun W hW => ⟨(hW.cell (p := ⟨ba, 5, none⟩) hbl (fun h => h)).trans d5, (hW.cell (p := ⟨rb, 3, none⟩) hrl (fun h => h)).trans c3, (hW.cell (p := ⟨rb, 2, none⟩) hrl (fun h => h)).trans c2, (hW.cell (p := ⟨w.heap.size, 0, none⟩) hpl (fun h => h)).trans p0, (hW.cell (p := ⟨gb, k * 4, none⟩) hgl (fun h => h)).trans s0, (hW.cell (p := ⟨gb, k * 4 + 1, none⟩) hgl (fun h => h)).trans s1, (hW.cell (p := ⟨gb, k * 4 + 2, none⟩) hgl (fun h => h)).trans s2, (hW.cell (p := ⟨gb, k * 4 + 3, none⟩) hgl (fun h => h)).trans s3⟩
                  have HRd : Hid (∀ W, Fr (fun _ => False) W8 W → Calls Tryd.prog 9 #[.slice so S.length sc, .agg #[.int .u32 (x.wa : Nat), .int .u32 (x.ow : Nat), .bool x.sl, x.gv], .int .u32 (ac : Nat)] W fun e w' => e = .returned (.int .u8 0) ∧ Fr (fun _ => False) W w') := fun W hW => by
                    have h := gread_any (.slice so S.length sc) S x.wa x.ow x.sl x.gv x.G ac W ((unhide G8).j.p.st.fr hW) (by omega) (own_us ((unhide G8).j.sh.fr hW |>.g x (List.mem_of_getElem? (unhide HB).1))) (by have := (unhide G8).j.sh.gl x (List.mem_of_getElem? (unhide HB).1); omega)
                    rw [read_sheet (S := S) (k := ac) (c := c) (x := x) (by have := hF3.2; rw [(unhide HM).2.2.1] at this; exact this) (unhide HB).2.1] at h
                    exact h
                  have O67 := hide (And.intro o6 o7)
                  clear hF hF3 o6 o7 p0 hpl
                  go_wp2_with fail
                  refine wp_region_noPanic ?_
                  refine wp_region_held_drew (S := (fun W => W.cell? ⟨ba, 5, none⟩ = some (.slice fo fn fc) ∧ W.cell? ⟨rb, 3, none⟩ = some (.int .u8 3) ∧ W.cell? ⟨rb, 2, none⟩ = some (.int .u32 (ac : Nat)) ∧ W.cell? ⟨w.heap.size, 0, none⟩ = some (.slice so S.length sc) ∧ W.cell? ⟨gb, k * 4, none⟩ = some (.int .u32 (x.wa : Nat)) ∧ W.cell? ⟨gb, k * 4 + 1, none⟩ = some (.int .u32 (x.ow : Nat)) ∧ W.cell? ⟨gb, k * 4 + 2, none⟩ = some (.bool x.sl) ∧ W.cell? ⟨gb, k * 4 + 3, none⟩ = some x.gv)) (by kernel_rfl) ((unhide HS3) _ (Fr.refl _ _).drew) (fun hHeld => ?_)
                  refine wpAnyH_take (i := 0) (v := ?_) rfl (by kernel_rfl) (by kernel_rfl) (by kernel_rfl) (fun _ _ _ h => h) (Or.inl ⟨by rfl, ?_⟩) hHeld ?_
                  rotate_left
                  · intro w hSw; (try dsimp only at hSw); go_simp; (try with_reducible rfl)
                  (try simp only [Act.put, List.getElem_toArray, List.getElem_cons_zero, List.setIfInBounds_toArray, List.set_cons_zero, List.set_cons_succ])
                  refine wpAnyH_take (i := 1) (v := ?_) rfl (by kernel_rfl) (by kernel_rfl) (by kernel_rfl) (fun _ _ _ h => h) (Or.inl ⟨by rfl, ?_⟩) hHeld ?_
                  rotate_left
                  · intro w hSw; (try dsimp only at hSw); go_simp; (try with_reducible rfl)
                  (try simp only [Act.put, List.getElem_toArray, List.getElem_cons_zero, List.getElem_cons_succ, List.setIfInBounds_toArray, List.set_cons_zero, List.set_cons_succ])
                  refine wpAnyH_take (i := 2) (v := ?_) rfl (by kernel_rfl) (by kernel_rfl) (by kernel_rfl) (fun _ _ _ h => h) (Or.inl ⟨by rfl, ?_⟩) hHeld ?_
                  rotate_left
                  · intro w hSw; (try dsimp only at hSw); go_simp; (try with_reducible rfl)
                  (try simp only [Act.put, List.getElem_toArray, List.getElem_cons_zero, List.getElem_cons_succ, List.setIfInBounds_toArray, List.set_cons_zero, List.set_cons_succ])
                  refine wpAnyH_take (i := 3) (v := ?_) rfl (by kernel_rfl) (by kernel_rfl) (by kernel_rfl) (fun _ _ _ h => h) (Or.inl ⟨by rfl, ?_⟩) hHeld ?_
                  rotate_left
                  · intro w hSw; (try dsimp only at hSw); go_simp; (try with_reducible rfl)
                  (try simp only [Act.put, List.getElem_toArray, List.getElem_cons_zero, List.getElem_cons_succ, List.setIfInBounds_toArray, List.set_cons_zero, List.set_cons_succ])
                  refine wpAnyH_take (i := 4) (v := ?_) rfl (by kernel_rfl) (by kernel_rfl) (by kernel_rfl) (fun _ _ _ h => h) (Or.inl ⟨by rfl, ?_⟩) hHeld ?_
                  rotate_left
                  · intro w hSw; (try dsimp only at hSw); go_simp; (try with_reducible rfl)
                  (try simp only [Act.put, List.getElem_toArray, List.getElem_cons_zero, List.getElem_cons_succ, List.setIfInBounds_toArray, List.set_cons_zero, List.set_cons_succ])
                  refine wpAnyH_take (i := 5) (v := ?_) rfl (by kernel_rfl) (by kernel_rfl) (by kernel_rfl) (fun _ _ _ h => h) (Or.inl ⟨by rfl, ?_⟩) hHeld ?_
                  rotate_left
                  · intro w hSw; (try dsimp only at hSw); go_simp; (try with_reducible rfl)
                  (try simp only [Act.put, List.getElem_toArray, List.getElem_cons_zero, List.getElem_cons_succ, List.setIfInBounds_toArray, List.set_cons_zero, List.set_cons_succ])
                  refine wpAnyH_take (i := 6) (v := ?_) rfl (by kernel_rfl) (by kernel_rfl) (by kernel_rfl) (fun _ _ _ h => h) (Or.inl ⟨by rfl, ?_⟩) hHeld ?_
                  rotate_left
                  · intro w hSw; (try dsimp only at hSw); go_simp; (try with_reducible rfl)
                  (try simp only [Act.put, List.getElem_toArray, List.getElem_cons_zero, List.getElem_cons_succ, List.setIfInBounds_toArray, List.set_cons_zero, List.set_cons_succ])
                  refine wpAnyH_take (i := 7) (v := ?_) rfl (by kernel_rfl) (by kernel_rfl) (by kernel_rfl) (fun _ _ _ h => h) (Or.inl ⟨by rfl, ?_⟩) hHeld ?_
                  rotate_left
                  · intro w hSw; (try dsimp only at hSw); go_simp; (try with_reducible rfl)
                  (try simp only [Act.put, List.getElem_toArray, List.getElem_cons_zero, List.getElem_cons_succ, List.setIfInBounds_toArray, List.set_cons_zero, List.set_cons_succ])
                  refine wpAnyH_take (i := 8) (v := ?_) rfl (by kernel_rfl) (by kernel_rfl) (by kernel_rfl) (fun _ _ _ h => h) (Or.inl ⟨by rfl, ?_⟩) hHeld ?_
                  rotate_left
                  · intro w hSw; (try dsimp only at hSw); go_simp; (try with_reducible rfl)
                  (try simp only [Act.put, List.getElem_toArray, List.getElem_cons_zero, List.getElem_cons_succ, List.setIfInBounds_toArray, List.set_cons_zero, List.set_cons_succ])
                  refine wpAnyH_take (i := 9) (v := ?_) rfl (by kernel_rfl) (by kernel_rfl) (by kernel_rfl) (fun _ _ _ h => h) (Or.inl ⟨by rfl, ?_⟩) hHeld ?_
                  rotate_left
                  · intro w hSw; (try dsimp only at hSw); go_simp; (try with_reducible rfl)
                  (try simp only [Act.put, List.getElem_toArray, List.getElem_cons_zero, List.getElem_cons_succ, List.setIfInBounds_toArray, List.set_cons_zero, List.set_cons_succ])
                  refine wpAnyH_take (i := 10) (v := ?_) rfl (by kernel_rfl) (by kernel_rfl) (by kernel_rfl) (fun _ _ _ h => h) (Or.inl ⟨by rfl, ?_⟩) hHeld ?_
                  rotate_left
                  · intro w hSw; (try dsimp only at hSw); go_simp; (try with_reducible rfl)
                  (try simp only [Act.put, List.getElem_toArray, List.getElem_cons_zero, List.getElem_cons_succ, List.setIfInBounds_toArray, List.set_cons_zero, List.set_cons_succ])
                  refine wpAnyH_take (i := 11) (v := ?_) rfl (by kernel_rfl) (by kernel_rfl) (by kernel_rfl) (fun _ _ _ h => h) (Or.inl ⟨by rfl, ?_⟩) hHeld ?_
                  rotate_left
                  · intro w hSw; (try dsimp only at hSw); go_simp; (try with_reducible rfl)
                  (try simp only [Act.put, List.getElem_toArray, List.getElem_cons_zero, List.getElem_cons_succ, List.setIfInBounds_toArray, List.set_cons_zero, List.set_cons_succ])
                  refine wpAnyH_take (i := 12) (v := ?_) rfl (by kernel_rfl) (by kernel_rfl) (by kernel_rfl) (fun _ _ _ h => h) (Or.inl ⟨by rfl, ?_⟩) hHeld ?_
                  rotate_left
                  · intro w hSw; (try dsimp only at hSw); go_simp; (try with_reducible rfl)
                  (try simp only [Act.put, List.getElem_toArray, List.getElem_cons_zero, List.getElem_cons_succ, List.setIfInBounds_toArray, List.set_cons_zero, List.set_cons_succ])
                  refine wpAnyH_take (i := 13) (v := ?_) rfl (by kernel_rfl) (by kernel_rfl) (by kernel_rfl) (fun _ _ _ h => h) (Or.inl ⟨by rfl, ?_⟩) hHeld ?_
                  rotate_left
                  · intro w hSw; (try dsimp only at hSw); go_simp; (try with_reducible rfl)
                  (try simp only [Act.put, List.getElem_toArray, List.getElem_cons_zero, List.getElem_cons_succ, List.setIfInBounds_toArray, List.set_cons_zero, List.set_cons_succ])
                  refine wpAnyH_take (i := 14) (v := ?_) rfl (by kernel_rfl) (by kernel_rfl) (by kernel_rfl) (fun _ _ _ h => h) (Or.inl ⟨by rfl, ?_⟩) hHeld ?_
                  rotate_left
                  · intro w hSw; (try dsimp only at hSw); go_simp; (try with_reducible rfl)
                  (try simp only [Act.put, List.getElem_toArray, List.getElem_cons_zero, List.getElem_cons_succ, List.setIfInBounds_toArray, List.set_cons_zero, List.set_cons_succ])
                  refine wpAnyH_take (i := 15) (v := ?_) rfl (by kernel_rfl) (by kernel_rfl) (by kernel_rfl) (fun _ _ _ h => h) (Or.inl ⟨by rfl, ?_⟩) hHeld ?_
                  rotate_left
                  · intro w hSw; (try dsimp only at hSw); go_simp; (try with_reducible rfl)
                  (try simp only [Act.put, List.getElem_toArray, List.getElem_cons_zero, List.getElem_cons_succ, List.setIfInBounds_toArray, List.set_cons_zero, List.set_cons_succ])
                  refine wpAnyH_take (i := 16) (v := ?_) rfl (by kernel_rfl) (by kernel_rfl) (by kernel_rfl) (fun _ _ _ h => h) (Or.inl ⟨by rfl, ?_⟩) hHeld ?_
                  rotate_left
                  · intro w hSw; (try dsimp only at hSw); go_simp; (try with_reducible rfl)
                  (try simp only [Act.put, List.getElem_toArray, List.getElem_cons_zero, List.getElem_cons_succ, List.setIfInBounds_toArray, List.set_cons_zero, List.set_cons_succ])
                  refine wpAnyH_ready (rs := [17]) (by kernel_rfl) (by simp) (AllReadyH.cons rfl (fun K hK => ?_) AllReadyH.nil)
                  go_simp
                  refine ((unhide HRd) _ (Fr.refl _ _).drew).mono ?_
                  rintro e w9 ⟨rfl, f9⟩
                  have F9 := hide ((Fr.refl (fun _ => False) W8).drew.trans f9 (fun _ _ h => h))
                  clear f9
                  go_simp
                  refine hK.out _ _ ((unhide HS3) _ (unhide F9)) (fun hHeld => ?_)
                  clear hK K
                  (try simp only [Act.put, List.getElem_toArray, List.getElem_cons_zero, List.getElem_cons_succ, List.setIfInBounds_toArray, List.set_cons_zero, List.set_cons_succ])
                  refine wpAnyH_take (i := 18) (v := ?_) rfl (by kernel_rfl) (by kernel_rfl) (by kernel_rfl) (fun _ _ _ h => h) (Or.inl ⟨by rfl, ?_⟩) hHeld ?_
                  rotate_left
                  · intro w hSw; (try dsimp only at hSw); go_simp; (try with_reducible rfl)
                  (try simp only [Act.put, List.getElem_toArray, List.getElem_cons_zero, List.getElem_cons_succ, List.setIfInBounds_toArray, List.set_cons_zero, List.set_cons_succ])
                  refine wpAnyH_take (i := 19) (v := ?_) rfl (by kernel_rfl) (by kernel_rfl) (by kernel_rfl) (fun _ _ _ h => h) (Or.inl ⟨by rfl, ?_⟩) hHeld ?_
                  rotate_left
                  · intro w hSw; (try dsimp only at hSw); go_simp; (try with_reducible rfl)
                  (try simp only [Act.put, List.getElem_toArray, List.getElem_cons_zero, List.getElem_cons_succ, List.setIfInBounds_toArray, List.set_cons_zero, List.set_cons_succ])
                  refine wpAnyH_take (i := 20) (v := ?_) rfl (by kernel_rfl) (by kernel_rfl) (by kernel_rfl) (fun _ _ _ h => h) (Or.inl ⟨by rfl, ?_⟩) hHeld ?_
                  rotate_left
                  · intro w hSw; (try dsimp only at hSw); go_simp; (try with_reducible rfl)
                  (try simp only [Act.put, List.getElem_toArray, List.getElem_cons_zero, List.getElem_cons_succ, List.setIfInBounds_toArray, List.set_cons_zero, List.set_cons_succ])
                  refine wpAnyH_done (by kernel_rfl) ?_ _
                  refine NoPanic.normal ?_
                  clear HS3 HRd
                  go_wp2_with fail
                  go_roundw
                  case rel =>
                    obtain ⟨o6, o7⟩ := unhide O67
                    obtain ⟨hx, hxc, hc, hC, hFr, hgb⟩ := unhide HB
                    have h5 := (unhide HM).1.set k (c := ⟨c.wa, c.ow, c.sl, c.G, V⟩) (x := x) hxc
                    rw [set_id hx] at h5
                    refine ⟨j + 1, hlt, by go_num, T', X.1, _, _, L, rfl, (unhide G8).j.p.fr (unhide F9), ((unhide G8).j.sh.fr (unhide F9)).more (by omega), ?_, (unhide HX).1, by rw [(unhide HD).1]; exact (unhide HM).2.2.1, by rw [hC]; simp [(unhide HM).2.2.2]⟩
                    rw [hC]
                    simpa [o6, o7] using h5
                  case measure => simp [intOf]; omega
        · have hz2 : ¬ ((X.2.co : Nat) : Int) = 0 := by omega
          have HE := hide ((unhide HX).2.1 hz)
          clear hz
          go_wp2_with fail
          go_roundw
          case rel => exact ⟨j + 1, hlt, by go_num, T', X.1, vo, vc, L, rfl, (unhide G8).j.p, (unhide G8).j.sh.more (by omega), by rw [unhide HE]; exact (unhide HM).1, (unhide HX).1, by rw [unhide HE]; exact (unhide HM).2.2.1, by rw [unhide HE]; exact (unhide HM).2.2.2⟩
          case measure => simp [intOf]; omega
    · obtain rfl : j = l.length := by omega
      have b1 : wr.cell? ⟨w.heap.size, 1, none⟩ = some (.slice ro l.length rc0) := by simp [World.cell?, hi.b]
      have HI := hide hi
      clear hi hsh hm hok heS hLl
      go_wp2_with fail
      go_ret
      exact ⟨rfl, (unhide HI).f⟩
end Go.Proofs.YtciblhmmpamjoaaDoor

namespace Go.Proofs.YtciblhmmpamjoaaDoor
open Go.ChangeShapes Go.WideShapes Go.ChangeAt Go.RowKit
set_option maxRecDepth 100000

theorem rhid_contract (H : Type) (enc : TypeId × Value → H) (W : World) (base : Nat) (args : Array Value) (ds gs : List (DataW H)) (before : List MemPlace)
    (hval : ∀ (j : Nat) t v, Tryd.f3.params[j]? = some t → args[j]? = some v → Value.okWide Tryd.prog W .any base t v)
    (hW : DataW.Whole enc Tryd.prog Tryd.f3.params.toList Rows.recordHiddenSpec.vars false W args.toList ds gs before) (hk : Rows.uptoSmall H (ds ++ gs) = true) (hL : laidMetH Tryd.prog Rows.recordHiddenUptoRow.laid W) :
    Calls Tryd.prog 3 args W fun e W' => ∃ v, e = .returned v ∧ Rows.recordHiddenSpec.post enc Tryd.prog Tryd.f3 false true false false W args v W' := by
  have hW' := hW
  obtain ⟨p, q, hA0, hV, rfl, hfz, hnd⟩ := hW
  have hA : DataW.TrodAll enc Tryd.prog W 0 (fun _ => true) true Tryd.f3.params.toList args.toList ds p := hA0
  rw [Tryd.params3] at hA hval
  obtain ⟨v0, vs0, d0, ds0, p0, q0, hargs, rfl, rfl, h0, r0⟩ := trodAll_cons hA
  obtain ⟨rfl, rfl, rfl⟩ := trodAll_nil r0
  obtain rfl : args = #[v0] := by cases args; simp_all
  obtain ⟨rfl, rfl⟩ := trodVars_none hV
  have hbulk : Rows.uptoBulk d0 + 0 ≤ 1048576 := by
    have h := of_decide_eq_true hk
    simpa only [List.append_nil, Rows.uptoBulkAll] using h
  have hL2 : laidMet Tryd.prog [("almoner/quant.units", Rows.laid_almoner_quant_units)] W := hL
  have hg := gu_of_laid hL2 (.head _)
  obtain ⟨sv, rv, pv, S, l, pl, rfl, hS, hq, hu, hp, bS, bl⟩ := play_of_reading (hval 0 26 v0 rfl rfl) h0 (by omega)
  refine (rhidden_any sv rv pv S l pl W hS (by omega) hq (by omega) hu hg hp).mono fun e W' ⟨he, hf⟩ => ?_
  subst he
  have hlt : ∀ x ∈ p0 ++ [], x.block < W.heap.size := fun x hx => hW'.lt x (by simpa using hx)
  have hb := hf.below
  refine ⟨_, rfl, _, _, _, [], p0 ++ [], [], hW', ?_, ?_, ?_, hb.frame _, fun h => by cases h⟩
  · exact trodAll_cons_mk (shut_bool Tryd.underlying4 true) trodAll_mk0
  · exact trodAll_cons_mk (Below.trod (by kernel_rfl) (by kernel_rfl) (by decide +kernel) h0 hb (fun x hx => hlt x (by simp [hx]))) trodAll_mk0
  · rfl
theorem rhid_laid_met (os : Os) : laidMetH Tryd.prog Rows.recordHiddenUptoRow.laid ((uWorld os).forCall (fun _ _ => 0) ⟨#[], #[.agg #[.slice none 0 0, .slice none 0 0, .slice none 0 0]], []⟩).memory :=
  laidMetH_of_parts (laidMet_of_run' 8 (by kernel_rfl) (by kernel_rfl)) (by kernel_rfl)
theorem rhid_reads (os : Os) {H : Type} (enc : TypeId × Value → H) : ∃ places, DataW.whole enc Tryd.prog ((uWorld os).forCall (fun _ _ => 0) ⟨#[], #[.agg #[.slice none 0 0, .slice none 0 0, .slice none 0 0]], []⟩).memory Tryd.f3.params.toList Rows.recordHiddenSpec.vars false #[Value.agg #[.slice none 0 0, .slice none 0 0, .slice none 0 0]].toList 8 = some ([.agg [.nil, .nil, .nil]], [], places) :=
  ⟨[], by kernel_rfl⟩
theorem rhid_lifted (os : Os) (started : os.Started) (H : Type) (enc : TypeId × Value → H) (F : Stop.Interp) :
    ReturnsInHanded {} Tryd.checked os 3 .any ((Rows.OpenSpec.upto Rows.recordHiddenSpec).preRow enc Tryd.prog Tryd.f3 Rows.recordHiddenUptoRow.domain false Rows.recordHiddenUptoRow.laid) (((Rows.OpenSpec.upto Rows.recordHiddenSpec).at F).post enc Tryd.prog Tryd.f3 false true false false) := by
  obtain ⟨places, hx⟩ := rhid_reads os enc
  refine returnsInHanded_of_row (C := Tryd.checked) (s := Rows.OpenSpec.upto Rows.recordHiddenSpec) Tryd.ownKnob started (by kernel_rfl) Tryd.func3
    (witness_row_atRef (enc := enc) (C := Tryd.checked) false (uWorld os) #[.agg #[.slice none 0 0, .slice none 0 0, .slice none 0 0]] rfl (by kernel_rfl) (by kernel_rfl) (by kernel_rfl)
      (OpenSpec.preRow_of_cond 8 hx (by kernel_rfl) (fun k hk => by cases hk; kernel_rfl) (by kernel_rfl) (rhid_laid_met os))) ?_
  intro W base args ds gs before hval hW _ hcond _ hL _ _
  exact rhid_contract H enc W base args ds gs before hval hW (hcond _ rfl) hL
theorem rhid_said : Rows.RecordHiddenUptoSaid :=
  OpenClaim.holds_of_cond 3 Tryd.f3 rfl rfl rfl rfl rfl rfl rfl ⟨rfl, rfl, rfl, rfl, rfl⟩ rfl rfl rfl rfl rfl (by kernel_rfl) Tryd.func3 (by kernel_rfl)
    (of_decide_eq_true (by kernel_rfl)) (by unfold Func.isWrapper; first | (rw [if_pos (by decide +kernel)]; kernel_rfl) | (rw [if_neg (by decide +kernel)]; exact ⟨rfl, rfl⟩))
    (fun os started H enc _ F => by rw [OpenClaim.pre_eq_preRow]; exact rhid_lifted os started H enc F)
theorem rhid_plain (f : FuncId) (fn : Func) (hf : Tryd.pinned.checked.prog.funcNamed Rows.recordHiddenUptoRow.func = some f) (hfn : Tryd.pinned.checked.prog.funcs[f]? = some fn) :
    false = Tryd.pinned.checked.prog.looks [] ∧ ∀ (j : Nat) t, fn.params[j]? = some t → Tryd.pinned.checked.prog.wantsStandIn t = false := by
  obtain rfl : f = 3 := Option.some.inj ((show Tryd.prog.funcNamed Rows.recordHiddenUptoRow.func = some 3 by kernel_rfl).symm.trans hf) |>.symm
  obtain rfl : fn = Tryd.f3 := (Option.some.inj (Tryd.func3.symm.trans hfn)).symm
  refine ⟨by kernel_rfl, fun j t ht => ?_⟩
  rw [Tryd.params3] at ht
  have ht' : t = 26 := by
    have h := Array.mem_of_getElem? ht
    simpa using h
  subst ht'
  exact (show Tryd.prog.wantsStandIn 26 = false by kernel_rfl)
/-- THE SECOND FORM's CARD. -/
theorem rhid_card : Rows.RecordHiddenUptoCardSaid :=
  Claim7.holds_tied_plain_at .later [] _ _ _ _ rhid_said (fun _ h => by cases h) (by kernel_rfl) (fun _ h => by cases h) recordHiddenUpto_row_tie rfl ⟨rfl, rfl⟩ (by kernel_rfl) rfl rhid_plain (by kernel_rfl)
#print axioms rhid_card
end Go.Proofs.YtciblhmmpamjoaaDoor

