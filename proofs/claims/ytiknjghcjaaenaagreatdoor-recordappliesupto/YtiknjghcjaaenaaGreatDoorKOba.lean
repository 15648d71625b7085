import Derived.Test.YtiknjghcjaaenaaGreatDoorKOay
namespace Go.Proofs.YtiknjghcjaaenaaGreatDoor
open Go.RowKit Go.Shelf
theorem nrm {α : Type} : (∀ (l : List α) (i : Nat) (h : i < l.toArray.size), l.toArray[i]'h = l[i]'(by simpa using h)) ∧ (∀ (a : α) (l : List α) (h : 0 < (a :: l).length), (a :: l)[0]'h = a) ∧ (∀ (a : α) (l : List α) (i : Nat) (h : i + 1 < (a :: l).length), (a :: l)[i + 1]'h = l[i]'(by simpa using h)) ∧ (∀ (l : List α) (i : Nat) (v : α), l.toArray.setIfInBounds i v = (l.set i v).toArray) ∧ (∀ (a b : α) (l : List α), (a :: l).set 0 b = b :: l) ∧ (∀ (a b : α) (l : List α) (i : Nat), (a :: l).set (i + 1) b = a :: l.set i b) :=
 ⟨fun _ _ _ => rfl, fun _ _ _ => rfl, fun _ _ _ _ => rfl, fun _ _ _ => List.setIfInBounds_toArray .., fun _ _ _ => rfl, fun _ _ _ _ => rfl⟩
theorem wtk {P : Program} {md : Region.Mode} {ops : Array Oper} {Q : Exit → Act → World → Prop} {S : World → Prop} {i : Nat} {oi : Oper} {v : Value} {fuel : Nat} {listed : Array Bool} {a : Act} {w : World} (hi : ops[i]? = some oi) (hy : YieldsIf P ops S oi v a) (hS : S w)
  (h : wpAnyH P md ops Q S fuel (listed.setIfInBounds i true) (a.put oi.dst v) w) (hs : Region.noSelect ops = true := by kernel_rfl) (hf : Region.free md ops listed i = true := by kernel_rfl) (hr : (Region.ready md ops listed).contains i = true := by kernel_rfl) (hQ : ∀ c a w, Q (.panic c) (a.put oi.dst v) w → Q (.panic c) a w := by exact fun _ _ _ h => h) : wpAnyH P md ops Q S (fuel + 1) listed a w := wpAnyH_take hi hs hf hr hQ hy hS h
theorem wtk2 {P : Program} {md : Region.Mode} {ops : Array Oper} {Q : Exit → Act → World → Prop} {S : World → Prop} {i : Nat} {oi : Oper} {v : Value} {fuel : Nat} {listed : Array Bool} {a : Act} {w : World} (hi : ops[i]? = some oi) (hS : S w)
  (h : wpAnyH P md ops Q S fuel (listed.setIfInBounds i true) (a.put oi.dst v) w) (hy : YieldsIf P ops S oi v a := by refine Or.inl ⟨by rfl, ?_⟩; intro w hSw; (try dsimp only at hSw); go_simp; (try with_reducible rfl)) (hs : Region.noSelect ops = true := by kernel_rfl) (hf : Region.free md ops listed i = true := by kernel_rfl) (hr : (Region.ready md ops listed).contains i = true := by kernel_rfl) (hQ : ∀ c a w, Q (.panic c) (a.put oi.dst v) w → Q (.panic c) a w := by exact fun _ _ _ h => h) : wpAnyH P md ops Q S (fuel + 1) listed a w := wpAnyH_take hi hs hf hr hQ hy hS h
section
variable {P : Program} {ops : Array Oper} {Q : Exit → Act → World → Prop} {md : Region.Mode} {S : World → Prop}
theorem Oper.wp_impQ {o : Oper} {a : Act} {w : World} {K : Act → World → Prop} {Q1 Q2 : Exit → Act → World → Prop} (hp : ∀ e a w, e ≠ Exit.normal → Q1 e a w → Q2 e a w) (hh : o.wp P a w K Q1) : o.wp P a w K Q2 := by
 have hl : LetsOut Q1 → LetsOut Q2 := fun ⟨a, w, h⟩ => ⟨a, w, hp _ _ _ (by intro h; cases h) h⟩
 unfold Oper.wp at *
 generalize (execOp a.eval o).run P w = r at *
 cases r with
 | ok n w' =>
  cases n <;> simp only [Oper.upon] at hh ⊢ <;>
   first
    | exact hh
    | exact Calls.mono hh (fun e w'' he => by cases e <;> first | exact he | exact hp _ _ _ (by intro h; cases h) he | exact hl he)
 | halt x w' => cases x <;> simp only [Oper.upon] at hh ⊢ <;> first | exact hh | exact hp _ _ _ (by intro h; cases h) hh
theorem wpOp_imp {Q1 Q2 : Exit → Act → World → Prop} (hp : ∀ e a w, e ≠ Exit.normal → Q1 e a w → Q2 e a w) {i : Nat} {K : Act → World → Prop} {a : Act} {w : World} (h : wpOp P ops Q1 i K a w) : wpOp P ops Q2 i K a w := by
 have hl : LetsOut Q1 → LetsOut Q2 := fun ⟨a, w, h⟩ => ⟨a, w, hp _ _ _ (by intro h; cases h) h⟩
 unfold wpOp at *
 split
 ·simpa [*] using h
 ·rename_i o ho
  simp only [ho] at h
  split
  ·rename_i hw
   simp only [hw, if_true] at h
   exact h.imp (Oper.wp_impQ hp) (fun ⟨h1, h2⟩ => ⟨h1, hl h2⟩)
  ·rename_i hw
   simp only [hw] at h
   exact h
def lastQ (P : Program) (om : Oper) (Q : Exit → Act → World → Prop) : Exit → Act → World → Prop
 | .normal, a, w => om.wp P a w (fun a' w' => Q .normal a' w') Q
 | e, a, w => Q e a w
def covB (md : Region.Mode) (ops : Array Oper) (m : Nat) (om : Oper) : Bool := (List.range ops.size).all fun j => j == m || om.after.any fun e => Region.binds md e && (e.on == j || match ops[e.on]? with
 | some o => o.after.any fun e2 => Region.binds md e2 && e2.on == j
 | none => false)
def ordB (ops : Array Oper) : Bool := (List.range ops.size).all fun j => match ops[j]? with
 | some o => o.after.all fun e => decide (e.on < j)
 | none => true
theorem lastQ_imp {om : Oper} : ∀ (e : Exit) (a : Act) (w : World), e ≠ Exit.normal → lastQ P om Q e a w → Q e a w := fun e a w hn h => by
 cases e <;> first | exact absurd rfl hn | exact h
theorem getD_both {l : Array Bool} {j : Nat} (h : l.getD j true = false) : l.getD j false = false := by
 rcases Nat.lt_or_ge j l.size with hj | hj
 ·simp [hj] at h ⊢; exact h
 ·simp [Array.getElem?_eq_none hj] at h
def Shut2 (md : Region.Mode) (ops : Array Oper) (l : Array Bool) : Prop := ∀ j oj, ops[j]? = some oj → l.getD j false = true → ∀ e ∈ oj.after, Region.binds md e = true → l.getD e.on false = true
theorem Shut2.set {l : Array Bool} (h : Shut2 md ops l) {i : Nat} (hi : i ∈ Region.ready md ops l) : Shut2 md ops (l.setIfInBounds i true) := fun j oj hj hl e he hb => by
 by_cases hji : j = i
 ·subst hji
  obtain ⟨_, o, ho, h1⟩ := mem_ready.1 hi
  rw [hj] at ho
  cases ho
  exact getD_set_true (h1 e he hb)
 ·rw [getD_set_ne false (Ne.symm hji)] at hl
  exact getD_set_true (h j oj hj hl e he hb)
theorem any_of_last {m : Nat} {om : Oper} (hm : ops[m]? = some om) (hgd : om.guard = none) (hcov : covB md ops m om = true) (hord : ordB ops = true) :
  ∀ (fuel : Nat) (listed : Array Bool) (a : Act) (w : World), listed.size = ops.size → Shut2 md ops listed → listed.getD m true = false → wpAnyH P md ops (lastQ P om Q) S fuel (listed.setIfInBounds m true) a w → wpAny P md ops Q (fuel + 1) listed a w := by
 have hne : ∀ listed : Array Bool, listed.size = ops.size → listed.getD m true = false → Region.ready md ops listed ≠ [] := fun listed hsz hun h0 => by
  have hall : ∀ j, listed.getD j true = true := fun j => by
   induction j using Nat.strongRecOn with
   | _ j ih =>
    cases hj : listed.getD j true with
    | true => rfl
    | false =>
     have hjl : j < ops.size := by
      rcases Nat.lt_or_ge j listed.size with h | h
      ·omega
      ·simp [Array.getElem?_eq_none h] at hj
     have hr : j ∈ Region.ready md ops listed := mem_ready.2 ⟨hj, ops[j], Array.getElem?_eq_getElem hjl, fun e he _ => by
      have h1 := List.all_eq_true.1 hord j (List.mem_range.2 hjl)
      rw [Array.getElem?_eq_getElem hjl] at h1
      have h2 := of_decide_eq_true (Array.all_eq_true_iff_forall_mem.1 h1 e he)
      have h3 := ih e.on h2
      have h4 : e.on < listed.size := by omega
      simp [h4] at h3 ⊢
      exact h3⟩
     rw [h0] at hr
     cases hr
  rw [hall m] at hun
  cases hun
 have hend : ∀ listed : Array Bool, Shut2 md ops listed → m ∈ Region.ready md ops listed → Region.ready md ops (listed.setIfInBounds m true) = [] := fun listed hsh hr => by
  apply List.eq_nil_iff_forall_not_mem.2
  intro k hk
  obtain ⟨h1, ok, hok, _⟩ := mem_ready.1 hk
  obtain ⟨h3, om', hom', h4⟩ := mem_ready.1 hr
  rw [hm] at hom'
  cases hom'
  have hkl : k < ops.size := (Array.getElem?_eq_some_iff.1 hok).1
  by_cases hkm : k = m
  ·subst hkm
   rcases Nat.lt_or_ge k listed.size with h | h
   ·simp [h] at h1
   ·simp [Array.getElem?_eq_none h] at h3
  ·rw [getD_set_ne true (Ne.symm hkm)] at h1
   have h5 := List.all_eq_true.1 hcov k (List.mem_range.2 hkl)
   simp only [Bool.or_eq_true, beq_iff_eq, hkm, false_or] at h5
   obtain ⟨e, he, hb⟩ := Array.any_eq_true'.1 h5
   simp only [Bool.and_eq_true, Bool.or_eq_true, beq_iff_eq] at hb
   have h6 := h4 e he hb.1
   rcases hb.2 with h7 | h7
   ·rw [h7, getD_both h1] at h6
    cases h6
   ·split at h7
    ·rename_i o2 ho2
     obtain ⟨e2, he2, hb2⟩ := Array.any_eq_true'.1 h7
     simp only [Bool.and_eq_true, beq_iff_eq] at hb2
     have h8 := hsh e.on o2 ho2 h6 e2 he2 hb2.1
     rw [hb2.2, getD_both h1] at h8
     cases h8
    ·cases h7
 have hop : ∀ (K : Act → World → Prop) (a : Act) (w : World), om.wp P a w K Q → wpOp P ops Q m K a w := fun K a w h => by
  unfold wpOp
  have hw : Region.wanted om (yielded ops a.tmps) = true := by simp [Region.wanted, hgd]
  simp only [hm, hw, if_true]
  exact .inl h
 intro fuel
 induction fuel with
 | zero =>
  intro listed a w hsz hsh hun H
  refine ⟨fun h0 => absurd h0 (hne listed hsz hun), fun j hj => ?_⟩
  by_cases hjm : j = m
  ·subst hjm
   exact hop _ a w (Oper.wp_mono (fun a' w' h => ⟨hend listed hsh hj, h⟩) H.2)
  ·have := ready_mono hj hjm
   rw [H.1] at this
   cases this
 | succ fuel ih =>
  intro listed a w hsz hsh hun H
  refine ⟨fun h0 => absurd h0 (hne listed hsz hun), fun j hj => ?_⟩
  by_cases hjm : j = m
  ·subst hjm
   exact hop _ a w (Oper.wp_mono (fun a' w' h => ⟨fun _ => h, by rw [hend listed hsh hj]; simp⟩) (H.1 (hend listed hsh hj)))
  ·refine wpOp_mono (fun a' w' h => ih (listed.setIfInBounds j true) a' w' (by simpa using hsz) (hsh.set hj) (by rw [getD_set_ne true hjm]; exact hun) ?_) (wpOp_imp lastQ_imp (H.2 j (ready_mono hj hjm)))
   rw [Array.setIfInBounds_comm _ _ hjm]
   exact h.2
theorem wp_region_last {id n m : Nat} {om : Oper} {a : Act} {w : World} (hP : P.follows .mixedOrders = true) (hn : ops.size = n + 1) (hm : ops[m]? = some om) (hgd : om.guard = none) (hcov : covB .any ops m om = true) (hord : ordB ops = true) (hS : S w.drew)
  (h : S w.drew → wpAnyH P .any ops (lastQ P om Q) S n ((Array.replicate ops.size false).setIfInBounds m true) a w.drew) : (Code.region id ops true).wp P Q a w := by
 refine wp_region_any hP ?_
 rw [hn]
 have hml : m < ops.size := (Array.getElem?_eq_some_iff.1 hm).1
 have h1 := h hS
 rw [hn] at h1
 have hml2 : m < n + 1 := by omega
 exact any_of_last hm hgd hcov hord n (Array.replicate (n + 1) false) a w.drew (by simp [hn]) (fun j oj _ hl => by
  rcases Nat.lt_or_ge j (n + 1) with h3 | h3 <;> simp [h3] at hl) (by simp [hml2]) h1
end
end Go.Proofs.YtiknjghcjaaenaaGreatDoor
