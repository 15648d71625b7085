import Derived.Test.YtkiepcdncegniaaZai
import Derived.Deep.MidRow
import Derived.Deep.RegionHeld3
namespace Go.Proofs.Ytkiepcdncegniaa
open Go.RowKit

/-- What Act.put leaves of lists written out. -/
theorem nrm {α : Type} : (∀ (l : List α) (i : Nat) (h : i < l.toArray.size), l.toArray[i]'h = l[i]'(by simpa using h)) ∧ (∀ (a : α) (l : List α) (h : 0 < (a :: l).length), (a :: l)[0]'h = a) ∧ (∀ (a : α) (l : List α) (i : Nat) (h : i + 1 < (a :: l).length), (a :: l)[i + 1]'h = l[i]'(by simpa using h)) ∧ (∀ (l : List α) (i : Nat) (v : α), l.toArray.setIfInBounds i v = (l.set i v).toArray) ∧ (∀ (a b : α) (l : List α), (a :: l).set 0 b = b :: l) ∧ (∀ (a b : α) (l : List α) (i : Nat), (a :: l).set (i + 1) b = a :: l.set i b) :=
  ⟨fun _ _ _ => rfl, fun _ _ _ => rfl, fun _ _ _ _ => rfl, fun _ _ _ => List.setIfInBounds_toArray .., fun _ _ _ => rfl, fun _ _ _ _ => rfl⟩
/-- An operation of a region that only reads, taken first. -/
theorem wtk {P : Program} {md : Region.Mode} {ops : Array Oper} {Q : Exit → Act → World → Prop} {S : World → Prop} {i : Nat} {oi : Oper} {v : Value} {fuel : Nat} {listed : Array Bool} {a : Act} {w : World} (hi : ops[i]? = some oi) (hy : YieldsIf P ops S oi v a) (hS : S w)
    (h : wpAnyH P md ops Q S fuel (listed.setIfInBounds i true) (a.put oi.dst v) w) (hs : Region.noSelect ops = true := by kernel_rfl) (hf : Region.free md ops listed i = true := by kernel_rfl) (hr : (Region.ready md ops listed).contains i = true := by kernel_rfl) (hQ : ∀ c a w, Q (.panic c) (a.put oi.dst v) w → Q (.panic c) a w := by exact fun _ _ _ h => h) : wpAnyH P md ops Q S (fuel + 1) listed a w := wpAnyH_take hi hs hf hr hQ hy hS h
/-- The same, its value reckoned by the way. -/
theorem wtk2 {P : Program} {md : Region.Mode} {ops : Array Oper} {Q : Exit → Act → World → Prop} {S : World → Prop} {i : Nat} {oi : Oper} {v : Value} {fuel : Nat} {listed : Array Bool} {a : Act} {w : World} (hi : ops[i]? = some oi) (hS : S w)
    (h : wpAnyH P md ops Q S fuel (listed.setIfInBounds i true) (a.put oi.dst v) w) (hy : YieldsIf P ops S oi v a := by refine Or.inl ⟨by rfl, ?_⟩; intro w hSw; (try dsimp only at hSw); go_simp; (try with_reducible rfl)) (hs : Region.noSelect ops = true := by kernel_rfl) (hf : Region.free md ops listed i = true := by kernel_rfl) (hr : (Region.ready md ops listed).contains i = true := by kernel_rfl) (hQ : ∀ c a w, Q (.panic c) (a.put oi.dst v) w → Q (.panic c) a w := by exact fun _ _ _ h => h) : wpAnyH P md ops Q S (fuel + 1) listed a w := wpAnyH_take hi hs hf hr hQ hy hS h
section
variable {P : Program} {ops : Array Oper} {Q : Exit → Act → World → Prop} {md : Region.Mode} {S : World → Prop}
theorem Oper.wp_impQ {o : Oper} {a : Act} {w : World} {K : Act → World → Prop} {Q1 Q2 : Exit → Act → World → Prop} (hp : ∀ e a w, e ≠ Exit.normal → Q1 e a w → Q2 e a w) (hh : o.wp P a w K Q1) : o.wp P a w K Q2 := by
  have hl : LetsOut Q1 → LetsOut Q2 := fun ⟨a, w, h⟩ => ⟨a, w, hp _ _ _ (by intro h; cases h) h⟩
  unfold Oper.wp at *
  generalize (execOp a.eval o).run P w = r at *
  cases r with
  | ok n w' =>
    cases n <;> simp only [Oper.upon] at hh ⊢ <;>
      first
        | exact hh
        | exact Calls.mono hh (fun e w'' he => by cases e <;> first | exact he | exact hp _ _ _ (by intro h; cases h) he | exact hl he)
  | halt x w' => cases x <;> simp only [Oper.upon] at hh ⊢ <;> first | exact hh | exact hp _ _ _ (by intro h; cases h) hh
theorem wpOp_imp {Q1 Q2 : Exit → Act → World → Prop} (hp : ∀ e a w, e ≠ Exit.normal → Q1 e a w → Q2 e a w) {i : Nat} {K : Act → World → Prop} {a : Act} {w : World} (h : wpOp P ops Q1 i K a w) : wpOp P ops Q2 i K a w := by
  have hl : LetsOut Q1 → LetsOut Q2 := fun ⟨a, w, h⟩ => ⟨a, w, hp _ _ _ (by intro h; cases h) h⟩
  unfold wpOp at *
  split
  · simpa [*] using h
  · rename_i o ho
    simp only [ho] at h
    split
    · rename_i hw
      simp only [hw, if_true] at h
      exact h.imp (Oper.wp_impQ hp) (fun ⟨h1, h2⟩ => ⟨h1, hl h2⟩)
    · rename_i hw
      simp only [hw] at h
      exact h
/-- What is asked behind a region without its last operation. -/
def lastQ (P : Program) (om : Oper) (Q : Exit → Act → World → Prop) : Exit → Act → World → Prop
  | .normal, a, w => om.wp P a w (fun a' w' => Q .normal a' w') Q
  | e, a, w => Q e a w
/-- Does operation i wait for j, by others too? -/
def reachB (md : Region.Mode) (ops : Array Oper) : Nat → Nat → Nat → Bool
  | 0, _, _ => false
  | n + 1, i, j => match ops[i]? with
    | some o => o.after.any fun e => Region.binds md e && (e.on == j || reachB md ops n e.on j)
    | none => false
/-- Does operation m wait for all others? -/
def covB (md : Region.Mode) (ops : Array Oper) (m : Nat) : Bool := (List.range ops.size).all fun j => j == m || reachB md ops 9 m j
/-- Does each operation wait for those ahead of it alone? -/
def ordB (ops : Array Oper) : Bool := (List.range ops.size).all fun j => match ops[j]? with
  | some o => o.after.all fun e => decide (e.on < j)
  | none => true
theorem lastQ_imp {om : Oper} : ∀ (e : Exit) (a : Act) (w : World), e ≠ Exit.normal → lastQ P om Q e a w → Q e a w := fun e a w hn h => by
  cases e <;> first | exact absurd rfl hn | exact h
theorem getD_both {l : Array Bool} {j : Nat} (h : l.getD j true = false) : l.getD j false = false := by
  rcases Nat.lt_or_ge j l.size with hj | hj
  · simp [hj] at h ⊢; exact h
  · simp [Array.getElem?_eq_none hj] at h
/-- What is waited for has come up. -/
def Shut2 (md : Region.Mode) (ops : Array Oper) (l : Array Bool) : Prop := ∀ j oj, ops[j]? = some oj → l.getD j false = true → ∀ e ∈ oj.after, Region.binds md e = true → l.getD e.on false = true
theorem Shut2.set {l : Array Bool} (h : Shut2 md ops l) {i : Nat} (hi : i ∈ Region.ready md ops l) : Shut2 md ops (l.setIfInBounds i true) := fun j oj hj hl e he hb => by
  by_cases hji : j = i
  · subst hji
    obtain ⟨_, o, ho, h1⟩ := mem_ready.1 hi
    rw [hj] at ho
    cases ho
    exact getD_set_true (h1 e he hb)
  · rw [getD_set_ne false (Ne.symm hji)] at hl
    exact getD_set_true (h j oj hj hl e he hb)
theorem reach_listed {l : Array Bool} (h : Shut2 md ops l) : ∀ (n i j : Nat) (o : Oper), ops[i]? = some o → (∀ e ∈ o.after, Region.binds md e = true → l.getD e.on false = true) → reachB md ops n i j = true → l.getD j false = true
  | 0, _, _, _, _, _, hr => by cases hr
  | n + 1, i, j, o, ho, hd, hr => by
    simp only [reachB, ho] at hr
    obtain ⟨e, he, hb⟩ := Array.any_eq_true'.1 hr
    simp only [Bool.and_eq_true, Bool.or_eq_true, beq_iff_eq] at hb
    have h6 := hd e he hb.1
    rcases hb.2 with h7 | h7
    · rw [← h7]; exact h6
    · cases ho2 : ops[e.on]? with
      | none =>
        cases n with
        | zero => cases h7
        | succ n => simp only [reachB, ho2] at h7; cases h7
      | some o2 => exact reach_listed h n e.on j o2 ho2 (fun e2 he2 hb2 => h e.on o2 ho2 h6 e2 he2 hb2) h7
/-- Behind all others comes the one that waits for them all; S need not hold behind it. -/
theorem any_of_last {m : Nat} {om : Oper} (hm : ops[m]? = some om) (hgd : om.guard = none) (hcov : covB md ops m = true) (hord : ordB ops = true) :
    ∀ (fuel : Nat) (listed : Array Bool) (a : Act) (w : World), listed.size = ops.size → Shut2 md ops listed → listed.getD m true = false → wpAnyH P md ops (lastQ P om Q) S fuel (listed.setIfInBounds m true) a w → wpAny P md ops Q (fuel + 1) listed a w := by
  have hne : ∀ listed : Array Bool, listed.size = ops.size → listed.getD m true = false → Region.ready md ops listed ≠ [] := fun listed hsz hun h0 => by
    have hall : ∀ j, listed.getD j true = true := fun j => by
      induction j using Nat.strongRecOn with
      | _ j ih =>
        cases hj : listed.getD j true with
        | true => rfl
        | false =>
          have hjl : j < ops.size := by
            rcases Nat.lt_or_ge j listed.size with h | h
            · omega
            · simp [Array.getElem?_eq_none h] at hj
          have hr : j ∈ Region.ready md ops listed := mem_ready.2 ⟨hj, ops[j], Array.getElem?_eq_getElem hjl, fun e he _ => by
            have h1 := List.all_eq_true.1 hord j (List.mem_range.2 hjl)
            rw [Array.getElem?_eq_getElem hjl] at h1
            have h2 := of_decide_eq_true (Array.all_eq_true_iff_forall_mem.1 h1 e he)
            have h3 := ih e.on h2
            have h4 : e.on < listed.size := by omega
            simp [h4] at h3 ⊢
            exact h3⟩
          rw [h0] at hr
          cases hr
    rw [hall m] at hun
    cases hun
  have hend : ∀ listed : Array Bool, Shut2 md ops listed → m ∈ Region.ready md ops listed → Region.ready md ops (listed.setIfInBounds m true) = [] := fun listed hsh hr => by
    apply List.eq_nil_iff_forall_not_mem.2
    intro k hk
    obtain ⟨h1, ok, hok, _⟩ := mem_ready.1 hk
    obtain ⟨h3, om', hom', h4⟩ := mem_ready.1 hr
    rw [hm] at hom'
    cases hom'
    have hkl : k < ops.size := (Array.getElem?_eq_some_iff.1 hok).1
    by_cases hkm : k = m
    · subst hkm
      rcases Nat.lt_or_ge k listed.size with h | h
      · simp [h] at h1
      · simp [Array.getElem?_eq_none h] at h3
    · rw [getD_set_ne true (Ne.symm hkm)] at h1
      have h5 := List.all_eq_true.1 hcov k (List.mem_range.2 hkl)
      simp only [Bool.or_eq_true, beq_iff_eq, hkm, false_or] at h5
      have h8 := reach_listed hsh 9 m k om hm (fun e he hb => h4 e he hb) h5
      rw [getD_both h1] at h8
      cases h8
  have hop : ∀ (K : Act → World → Prop) (a : Act) (w : World), om.wp P a w K Q → wpOp P ops Q m K a w := fun K a w h => by
    unfold wpOp
    have hw : Region.wanted om (yielded ops a.tmps) = true := by simp [Region.wanted, hgd]
    simp only [hm, hw, if_true]
    exact .inl h
  intro fuel
  induction fuel with
  | zero =>
    intro listed a w hsz hsh hun H
    refine ⟨fun h0 => absurd h0 (hne listed hsz hun), fun j hj => ?_⟩
    by_cases hjm : j = m
    · subst hjm
      exact hop _ a w (Oper.wp_mono (fun a' w' h => ⟨hend listed hsh hj, h⟩) H.2)
    · have := ready_mono hj hjm
      rw [H.1] at this
      cases this
  | succ fuel ih =>
    intro listed a w hsz hsh hun H
    refine ⟨fun h0 => absurd h0 (hne listed hsz hun), fun j hj => ?_⟩
    by_cases hjm : j = m
    · subst hjm
      exact hop _ a w (Oper.wp_mono (fun a' w' h => ⟨fun _ => h, by rw [hend listed hsh hj]; simp⟩) (H.1 (hend listed hsh hj)))
    · refine wpOp_mono (fun a' w' h => ih (listed.setIfInBounds j true) a' w' (by simpa using hsz) (hsh.set hj) (by rw [getD_set_ne true hjm]; exact hun) ?_) (wpOp_imp lastQ_imp (H.2 j (ready_mono hj hjm)))
      rw [Array.setIfInBounds_comm _ _ hjm]
      exact h.2
/-- A region whose last operation waits for all others: S holds behind each of the others. -/
theorem wp_region_last {id n m : Nat} {om : Oper} {a : Act} {w : World} (hP : P.follows .mixedOrders = true) (hn : ops.size = n + 1) (hm : ops[m]? = some om) (hgd : om.guard = none) (hcov : covB .any ops m = true) (hord : ordB ops = true) (hS : S w.drew)
    (h : S w.drew → wpAnyH P .any ops (lastQ P om Q) S n ((Array.replicate ops.size false).setIfInBounds m true) a w.drew) : (Code.region id ops true).wp P Q a w := by
  refine wp_region_any hP ?_
  rw [hn]
  have hml : m < ops.size := (Array.getElem?_eq_some_iff.1 hm).1
  have h1 := h hS
  rw [hn] at h1
  have hml2 : m < n + 1 := by omega
  exact any_of_last hm hgd hcov hord n (Array.replicate (n + 1) false) a w.drew (by simp [hn]) (fun j oj _ hl => by
    rcases Nat.lt_or_ge j (n + 1) with h3 | h3 <;> simp [h3] at hl) (by simp [hml2]) h1
/-- The same for several: those of pl come behind all. -/
def reachC (md : Region.Mode) (ops : Array Oper) (pl : List Nat) : Nat → Nat → Nat → Bool
  | 0, _, _ => false
  | n + 1, i, j => match ops[i]? with
    | some o => o.after.any fun e => Region.binds md e && (e.on == j || (!pl.contains e.on && reachC md ops pl n e.on j))
    | none => false
def covC (md : Region.Mode) (ops : Array Oper) (pl : List Nat) (m : Nat) : Bool := (List.range ops.size).all fun j => j == m || (pl.contains j || reachC md ops pl 9 m j)
def Shut3 (pl : List Nat) (md : Region.Mode) (ops : Array Oper) (l : Array Bool) : Prop := ∀ j oj, ops[j]? = some oj → pl.contains j = false → l.getD j false = true → ∀ e ∈ oj.after, Region.binds md e = true → l.getD e.on false = true
theorem Shut3.set {pl : List Nat} {l : Array Bool} (h : Shut3 pl md ops l) {i : Nat} (hi : i ∈ Region.ready md ops l) : Shut3 pl md ops (l.setIfInBounds i true) := fun j oj hj hp hl e he hb => by
  by_cases hji : j = i
  · subst hji
    obtain ⟨_, o, ho, h1⟩ := mem_ready.1 hi
    rw [hj] at ho
    cases ho
    exact getD_set_true (h1 e he hb)
  · rw [getD_set_ne false (Ne.symm hji)] at hl
    exact getD_set_true (h j oj hj hp hl e he hb)
theorem reachC_listed {pl : List Nat} {l : Array Bool} (h : Shut3 pl md ops l) : ∀ (n i j : Nat) (o : Oper), ops[i]? = some o → (∀ e ∈ o.after, Region.binds md e = true → l.getD e.on false = true) → reachC md ops pl n i j = true → l.getD j false = true
  | 0, _, _, _, _, _, hr => by cases hr
  | n + 1, i, j, o, ho, hd, hr => by
    simp only [reachC, ho] at hr
    obtain ⟨e, he, hb⟩ := Array.any_eq_true'.1 hr
    simp only [Bool.and_eq_true, Bool.or_eq_true, beq_iff_eq] at hb
    have h6 := hd e he hb.1
    rcases hb.2 with h7 | ⟨h9, h7⟩
    · rw [← h7]; exact h6
    · cases ho2 : ops[e.on]? with
      | none =>
        cases n with
        | zero => cases h7
        | succ n => simp only [reachC, ho2] at h7; cases h7
      | some o2 => exact reachC_listed h n e.on j o2 ho2 (fun e2 he2 hb2 => h e.on o2 ho2 (by simpa using h9) h6 e2 he2 hb2) h7
theorem any_of_lastA {pl : List Nat} {m : Nat} {om : Oper} (hm : ops[m]? = some om) (hgd : om.guard = none) (hcov : covC md ops pl m = true) (hord : ordB ops = true) :
    ∀ (fuel : Nat) (listed : Array Bool) (a : Act) (w : World), listed.size = ops.size → Shut3 pl md ops listed → (∀ j, pl.contains j = true → j < ops.size → listed.getD j true = true) → listed.getD m true = false → wpAny P md ops (lastQ P om Q) fuel (listed.setIfInBounds m true) a w → wpAny P md ops Q (fuel + 1) listed a w := by
  have hne : ∀ listed : Array Bool, listed.size = ops.size → listed.getD m true = false → Region.ready md ops listed ≠ [] := fun listed hsz hun h0 => by
    have hall : ∀ j, listed.getD j true = true := fun j => by
      induction j using Nat.strongRecOn with
      | _ j ih =>
        cases hj : listed.getD j true with
        | true => rfl
        | false =>
          have hjl : j < ops.size := by
            rcases Nat.lt_or_ge j listed.size with h | h
            · omega
            · simp [Array.getElem?_eq_none h] at hj
          have hr : j ∈ Region.ready md ops listed := mem_ready.2 ⟨hj, ops[j], Array.getElem?_eq_getElem hjl, fun e he _ => by
            have h1 := List.all_eq_true.1 hord j (List.mem_range.2 hjl)
            rw [Array.getElem?_eq_getElem hjl] at h1
            have h2 := of_decide_eq_true (Array.all_eq_true_iff_forall_mem.1 h1 e he)
            have h3 := ih e.on h2
            have h4 : e.on < listed.size := by omega
            simp [h4] at h3 ⊢
            exact h3⟩
          rw [h0] at hr
          cases hr
    rw [hall m] at hun
    cases hun
  have hend : ∀ listed : Array Bool, Shut3 pl md ops listed → (∀ j, pl.contains j = true → j < ops.size → listed.getD j true = true) → m ∈ Region.ready md ops listed → Region.ready md ops (listed.setIfInBounds m true) = [] := fun listed hsh hpl hr => by
    apply List.eq_nil_iff_forall_not_mem.2
    intro k hk
    obtain ⟨h1, ok, hok, _⟩ := mem_ready.1 hk
    obtain ⟨h3, om', hom', h4⟩ := mem_ready.1 hr
    rw [hm] at hom'
    cases hom'
    have hkl : k < ops.size := (Array.getElem?_eq_some_iff.1 hok).1
    by_cases hkm : k = m
    · subst hkm
      rcases Nat.lt_or_ge k listed.size with h | h
      · simp [h] at h1
      · simp [Array.getElem?_eq_none h] at h3
    · rw [getD_set_ne true (Ne.symm hkm)] at h1
      have h5 := List.all_eq_true.1 hcov k (List.mem_range.2 hkl)
      rw [Bool.or_eq_true, Bool.or_eq_true, beq_iff_eq] at h5
      rcases h5 with h5 | h5 | h5
      · exact absurd h5 hkm
      · rw [hpl k h5 hkl] at h1
        cases h1
      · have h8 := reachC_listed hsh 9 m k om hm (fun e he hb => h4 e he hb) h5
        rw [getD_both h1] at h8
        cases h8
  have hop : ∀ (K : Act → World → Prop) (a : Act) (w : World), om.wp P a w K Q → wpOp P ops Q m K a w := fun K a w h => by
    unfold wpOp
    have hw : Region.wanted om (yielded ops a.tmps) = true := by simp [Region.wanted, hgd]
    simp only [hm, hw, if_true]
    exact .inl h
  intro fuel
  induction fuel with
  | zero =>
    intro listed a w hsz hsh hpl hun H
    refine ⟨fun h0 => absurd h0 (hne listed hsz hun), fun j hj => ?_⟩
    by_cases hjm : j = m
    · subst hjm
      exact hop _ a w (Oper.wp_mono (fun a' w' h => ⟨hend listed hsh hpl hj, h⟩) H.2)
    · have := ready_mono hj hjm
      rw [H.1] at this
      cases this
  | succ fuel ih =>
    intro listed a w hsz hsh hpl hun H
    refine ⟨fun h0 => absurd h0 (hne listed hsz hun), fun j hj => ?_⟩
    by_cases hjm : j = m
    · subst hjm
      exact hop _ a w (Oper.wp_mono (fun a' w' h => ⟨fun _ => h, by rw [hend listed hsh hpl hj]; simp⟩) (H.1 (hend listed hsh hpl hj)))
    · refine wpOp_mono (fun a' w' h => ih (listed.setIfInBounds j true) a' w' (by simpa using hsz) (hsh.set hj) (fun k hk hkl => ?_) (by rw [getD_set_ne true hjm]; exact hun) ?_) (wpOp_imp lastQ_imp (H.2 j (ready_mono hj hjm)))
      · have h3 := hpl k hk hkl
        have hks : k < listed.size := by omega
        rw [Array.getD_eq_getD_getElem?, Array.getElem?_setIfInBounds]
        by_cases e : j = k
        · subst e; simp [hks]
        · rw [if_neg e, ← Array.getD_eq_getD_getElem?]; exact h3
      · rw [Array.setIfInBounds_comm _ _ hjm]
        exact h
theorem shut_none {pl : List Nat} {l : Array Bool} (h : ∀ j, pl.contains j = false → l.getD j false = false) : Shut3 pl md ops l := fun j oj _ hp hl => by rw [h j hp] at hl; cases hl
/-- A region whose last three operations come behind all others, one behind the other: S holds behind each of the others. -/
theorem wp_region_last3 {id n m1 m2 m3 : Nat} {o1 o2 o3 : Oper} {a : Act} {w : World} (hP : P.follows .mixedOrders = true) (hn : ops.size = n + 3) (h1 : ops[m1]? = some o1) (h2 : ops[m2]? = some o2) (h3 : ops[m3]? = some o3)
    (g1 : o1.guard = none) (g2 : o2.guard = none) (g3 : o3.guard = none) (c1 : covC .any ops [m2, m3] m1 = true) (c2 : covC .any ops [m3] m2 = true) (c3 : covC .any ops [] m3 = true) (hord : ordB ops = true) (hd : m1 ≠ m2 ∧ m1 ≠ m3 ∧ m2 ≠ m3)
    (hS : S w.drew) (h : S w.drew → wpAnyH P .any ops (lastQ P o1 (lastQ P o2 (lastQ P o3 Q))) S n ((((Array.replicate ops.size false).setIfInBounds m3 true).setIfInBounds m2 true).setIfInBounds m1 true) a w.drew) : (Code.region id ops true).wp P Q a w := by
  refine wp_region_any hP ?_
  have hl1 : m1 < ops.size := (Array.getElem?_eq_some_iff.1 h1).1
  have hl2 : m2 < ops.size := (Array.getElem?_eq_some_iff.1 h2).1
  have hl3 : m3 < ops.size := (Array.getElem?_eq_some_iff.1 h3).1
  obtain ⟨hd1, hd2, hd3⟩ := hd
  have hA := wpAny_of_held _ _ _ _ (h hS)
  rw [hn] at hA hl1 hl2 hl3 ⊢
  have e0 : ∀ j, (Array.replicate (n + 3) false).getD j false = false := fun j => by
    rcases Nat.lt_or_ge j (n + 3) with h3 | h3 <;> simp [h3]
  have B1 := any_of_lastA (pl := [m2, m3]) h1 g1 c1 hord n _ a w.drew (by simp [hn]) (shut_none fun j hj => by
      simp only [List.contains_cons, List.contains_nil, Bool.or_false, Bool.or_eq_false_iff, beq_eq_false_iff_ne] at hj
      rw [getD_set_ne false (fun e => hj.1 e.symm), getD_set_ne false (fun e => hj.2 e.symm)]; exact e0 j) (fun j hj hjl => by
      simp only [List.contains_cons, List.contains_nil, Bool.or_false, Bool.or_eq_true, beq_iff_eq] at hj
      rcases hj with rfl | rfl
      · simp [hl2]
      · rw [getD_set_ne true hd3]; simp [hl3]) (by rw [getD_set_ne true (fun e => hd1 e.symm), getD_set_ne true (fun e => hd2 e.symm)]; simp [hl1]) hA
  have B2 := any_of_lastA (pl := [m3]) h2 g2 c2 hord (n + 1) _ a w.drew (by simp [hn]) (shut_none fun j hj => by
      simp only [List.contains_cons, List.contains_nil, Bool.or_false, beq_eq_false_iff_ne] at hj
      rw [getD_set_ne false (fun e => hj e.symm)]; exact e0 j) (fun j hj hjl => by
      simp only [List.contains_cons, List.contains_nil, Bool.or_false, beq_iff_eq] at hj
      subst hj
      simp [hl3]) (by rw [getD_set_ne true (fun e => hd3 e.symm)]; simp [hl2]) B1
  exact any_of_lastA (pl := []) h3 g3 c3 hord (n + 2) _ a w.drew (by simp [hn]) (shut_none fun j hj => e0 j) (fun j hj hjl => by simp at hj) (by simp [hl3]) B2
end

theorem blkset {w : World} {b t : Nat} {cs : Array Value} (h : w.heap[b]? = some (.cells cs t)) (o : Nat) (v : Value) : (w.setCell ⟨b, o, none⟩ v).heap[b]? = some (.cells (cs.setIfInBounds o v) t) := by
  simp [World.setCell, Array.getElem?_modify, h]
/-- A whole struct is stored into its box. -/
theorem setCells_blk (g t : Nat) : ∀ (vs olds pre : List Value) (o : Nat) (w : World), w.heap[g]? = some (.cells (pre ++ olds).toArray t) → olds.length = vs.length → pre.length = o → (w.setCells g o vs).heap[g]? = some (.cells (pre ++ vs).toArray t)
  | [], olds, pre, o, w, h, hl, _ => by
    obtain rfl := List.eq_nil_of_length_eq_zero hl
    exact h
  | v :: vs, [], pre, o, w, h, hl, _ => by cases hl
  | v :: vs, a :: olds, pre, o, w, h, hl, ho => by
    rw [World.setCells]
    have := setCells_blk g t vs olds (pre ++ [v]) (o + 1) (w.setCell ⟨g, o, none⟩ v) (by rw [blkset h]; subst ho; simp) (by simpa using hl) (by simp [ho])
    simpa using this
theorem setCells_fr (g : Nat) : ∀ (vs : List Value) (o : Nat) (w : World), Fr (fun k => k = g) w (w.setCells g o vs)
  | [], o, w => Fr.refl _ _
  | v :: vs, o, w => by
    rw [World.setCells]
    exact ((Fr.refl (fun k => k = g) w).setCell (p := ⟨g, o, none⟩) (.inl rfl) v).trans (setCells_fr g vs (o + 1) _) (fun _ _ h => h)
theorem st_all {P : Program} {W : World} {g t ty : Nat} (olds news : List Value) (hb : W.heap[g]? = some (.cells olds.toArray t)) (hl : olds.length = news.length) (hi : (P.info? ty).map (·.size) = some news.length) (h1 : ∀ v ∈ news, v.oneCell' = true) :
    ∃ W8, (Instr.storeAt ty (.pointer (some ⟨g, 0, none⟩)) (.agg news.toArray)).run P W = .ok () W8 ∧ W8.heap[g]? = some (.cells news.toArray t) ∧ Fr (fun k => k = g) W W8 := by
  refine ⟨W.setCells g 0 news, run_storeAt_mid W g 0 ty news.toArray (fun j hj => ?_) (by simpa using hi) (all_oneCell_toArray h1), ?_, setCells_fr g news 0 W⟩
  · have hj : j < news.length := by simpa using hj
    have hj2 : j < olds.length := by omega
    refine ⟨?_, by simp [World.frozen?, hb]⟩
    simp [World.cell?, hb, hj2]
  · have := setCells_blk g t news olds [] 0 W (by simpa using hb) hl rfl
    simpa using this
theorem wpList_stN {P : Program} {w w' : World} {ops : Array Oper} {rest : List Oper} {op : Oper} {a : Act} {Q : Exit → Act → World → Prop} (hgd : op.guard = none) (ty : TypeId) (x y : Operand) (ho : op.op = .store ty x y)
    (p v : Value) (hx : a.eval x = p) (hy : a.eval y = v) (hr : (Instr.storeAt ty p v).run P w = .ok () w')
    (h : wpList P ops Q rest (a.put op.dst undef) w') : wpList P ops Q (op :: rest) a w :=
  wpList_plain hgd fun _ hK => by
    unfold Oper.wp execOp
    simp only [ho, hx, hy, Sem.run_bind, hr, Result.andThen_ok, Sem.run_pure]
    exact hK _ _ h
theorem range_of_block {W : World} {b : Nat} {cs : List Value} {t : TypeId} (h : W.heap[b]? = some (.cells cs.toArray t)) : W.rangeAt b 0 cs := by
  intro j v hv
  simp only [World.cell?, h]
  simpa using hv
theorem results_cellt {P : Program} {fn : Func} {p u : Tmp} {ty : TypeId} (h : fn.results = #[.cell p ty, .tmp u]) (tmps : Array Value) (w : World) (b o : Nat) (cs : List Value) (d : TypeDesc) (x : Value)
    (hp : tmps.getD p undef = .pointer (some ⟨b, o, none⟩)) (hx : tmps.getD u undef = x) (hc : w.rangeAt b o cs)
    (hu : P.underlying ty = some d) (hd : d.isRow = true) (hi : (P.info? ty).map (·.size) = some cs.length) :
    (results fn tmps).run P w = .ok (.tuple #[.agg cs.toArray, x]) w := by
  have hp' : tmps[p]?.getD undef = .pointer (some ⟨b, o, none⟩) := by simpa using hp
  have hx' : tmps[u]?.getD undef = x := by simpa using hx
  simp [results, h, hp', hx', asAddr, run_loadVar_mid w b o ty cs d hc hu hd hi]
theorem results4 {fn : Func} {t u v x : Tmp} (h : fn.results = #[.tmp t, .tmp u, .tmp v, .tmp x]) (tmps : Array Value) (P : Program) (w : World) :
    (results fn tmps).run P w = .ok (.tuple #[tmps.getD t undef, tmps.getD u undef, tmps.getD v undef, tmps.getD x undef]) w := by
  simp [results, h]
theorem wp_stN {P : Program} {w w' : World} {op : Oper} {a : Act} {K : Act → World → Prop} {Q : Exit → Act → World → Prop} (ty : TypeId) (x y : Operand) (ho : op.op = .store ty x y)
    (p v : Value) (hx : a.eval x = p) (hy : a.eval y = v) (hr : (Instr.storeAt ty p v).run P w = .ok () w')
    (h : K (a.put op.dst undef) w') : op.wp P a w K Q := by
  unfold Oper.wp execOp
  simp only [ho, hx, hy, Sem.run_bind, hr, Result.andThen_ok, Sem.run_pure]
  exact h
/-- A store whose run is known, as a step of a region. -/
theorem step_stN {P : Program} {w w' : World} {ops : Array Oper} {op : Oper} {a : Act} {K : Act → World → Prop} {Q : Exit → Act → World → Prop} {E : Prop} (hgd : op.guard = none) (ty : TypeId) (x y : Operand) (ho : op.op = .store ty x y)
    (p v : Value) (hx : a.eval x = p) (hy : a.eval y = v) (hr : (Instr.storeAt ty p v).run P w = .ok () w')
    (h : K (a.put op.dst undef) w') : if Region.wanted op (yielded ops a.tmps) = true then Oper.wp P op a w K Q else E := by
  have hw : Region.wanted op (yielded ops a.tmps) = true := by simp [Region.wanted, hgd]
  rw [if_pos hw]
  unfold Oper.wp execOp
  simp only [ho, hx, hy, Sem.run_bind, hr, Result.andThen_ok, Sem.run_pure]
  exact h
end Go.Proofs.Ytkiepcdncegniaa
