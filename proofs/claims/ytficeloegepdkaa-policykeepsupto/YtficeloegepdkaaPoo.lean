import Derived.Test.YtficeloegepdkaaPon
namespace Go.Proofs.Ytficeloegepdkaa
open Go.RowKit

theorem ansv_congr {S : List P3} {k : Nat} {f g : P3 → Nat} (h : ∀ p : P3, p.a = k → f p = g p) : ansv S k f = ansv S k g := by
  rcases fnd_cases S k with ⟨_, h2⟩ | ⟨j, hj, _, h2, h3⟩
  · simp only [ansv, h2]
  · simp only [ansv, h2]
    exact h _ h3
theorem eq_read (sv gv fv : Value) (rs : ByteArray) (p : P3) (k wd ow : Nat) (sl : Bool) (G : List Nat) (hp : p.a = k) : (if rdF (⟨sv, p, wd, ow, sl, gv, fv, rs⟩ : QM) G then 0 else whyRd (⟨sv, p, wd, ow, sl, gv, fv, rs⟩ : QM)) = gRd p k wd ow sl G := by
  subst hp
  unfold rdF whyRd gRd QM.own QM.near QM.role
  by_cases h1 : p.a = ow <;> by_cases h2 : p.w = wd <;> by_cases h3 : p.r = 3 <;> by_cases h4 : p.r = 2 <;> by_cases h5 : p.r = 1 <;> cases sl <;> by_cases h6 : p.a ∈ G <;> simp_all
theorem eq_hist (sv gv fv : Value) (rs : ByteArray) (p : P3) (k wd ow : Nat) (sl : Bool) (G : List Nat) (hp : p.a = k) : (if hiF (⟨sv, p, wd, ow, sl, gv, fv, rs⟩ : QM) G then 0 else whyRd (⟨sv, p, wd, ow, sl, gv, fv, rs⟩ : QM)) = gHi p k wd ow sl G := by
  have e := eq_read sv gv fv rs p k wd ow sl G hp
  unfold hiF gHi
  rw [← e]
  by_cases h4 : p.r = 4
  · simp [QM.role, h4]
  · simp [QM.role, h4]
theorem eq_amend (sv gv fv : Value) (rs : ByteArray) (p : P3) (k wd ow : Nat) (sl : Bool) (G : List Nat) (F : List F5) (hp : p.a = k) : (if amF (⟨sv, p, wd, ow, sl, gv, fv, rs⟩ : QM) G F then 0 else whyAm (⟨sv, p, wd, ow, sl, gv, fv, rs⟩ : QM) G) = gAm p k wd ow sl G F := by
  have e := eq_read sv gv fv rs p k wd ow sl G hp
  have hw : whyRd (⟨sv, p, wd, ow, sl, gv, fv, rs⟩ : QM) ≠ 0 := by unfold whyRd; split <;> decide
  unfold amF whyAm gAm
  rw [← e]
  cases hr : rdF (⟨sv, p, wd, ow, sl, gv, fv, rs⟩ : QM) G
  · simp [hw]
  · by_cases h3 : p.r = 3 <;> by_cases h4 : p.r = 2 <;> by_cases h5 : p.r = 1 <;> cases txts F <;> simp_all [QM.role]
theorem eq_redact (sv gv fv : Value) (rs : ByteArray) (p : P3) (k wd ow : Nat) (sl : Bool) (hp : p.a = k) : (if reF (⟨sv, p, wd, ow, sl, gv, fv, rs⟩ : QM) then 0 else 5) = gRe p k wd ow := by
  subst hp
  unfold reF gRe QM.own QM.near QM.role
  by_cases h1 : p.a = ow <;> by_cases h2 : p.w = wd <;> by_cases h3 : p.r = 3 <;> simp_all
theorem eq_seal (sv gv fv : Value) (rs : ByteArray) (p : P3) (k wd ow : Nat) (sl : Bool) (hp : p.a = k) : (if seF (⟨sv, p, wd, ow, sl, gv, fv, rs⟩ : QM) then 0 else 5) = gSe p k ow := by
  subst hp
  unfold seF gSe QM.own
  by_cases h1 : p.a = ow <;> simp_all
theorem eq_break (sv gv fv : Value) (rs : ByteArray) (p : P3) (wd ow : Nat) (sl : Bool) : (if brF (⟨sv, p, wd, ow, sl, gv, fv, rs⟩ : QM) then 0 else 5) = gBr p rs := by
  unfold brF gBr QM.role
  cases rs.toList.isEmpty <;> by_cases h3 : p.r = 3 <;> by_cases h4 : p.r = 2 <;> simp_all
theorem eq_create (sv gv fv : Value) (rs : ByteArray) (S : List P3) (p : P3) (wd ow : Nat) (sl : Bool) : (if crF (⟨sv, p, wd, ow, sl, gv, fv, rs⟩ : QM) S then 0 else whyCr (⟨sv, p, wd, ow, sl, gv, fv, rs⟩ : QM) S) = gCr S p wd ow := by
  unfold crF whyCr gCr QM.near QM.role ownP
  rcases perso S ow with _ | o
  · simp
  · by_cases h5 : o.r = 5 <;> by_cases h2 : p.w = wd <;> by_cases h3 : p.r = 3 <;> by_cases h4 : p.r = 2 <;> by_cases h6 : p.r = 1 <;> simp_all
theorem pcells_len (l : List P3) : (pcells l).length = l.length * 3 := by
  induction l with
  | nil => rfl
  | cons a r ih => simp only [pcells, P3.cells, List.flatMap_cons, List.length_append, List.length_cons, List.length_nil] at ih ⊢; omega
theorem pcells_cons (a : P3) (r : List P3) : pcells (a :: r) = [.int .u32 (a.a : Nat), .int .u32 (a.r : Nat), .int .u32 (a.w : Nat)] ++ pcells r := rfl
theorem pcells_app (a b : List P3) : pcells (a ++ b) = pcells a ++ pcells b := by simp [pcells]
theorem pcells_at (l : List P3) : ∀ (k : Nat) (hk : k < l.length), (pcells l)[k * 3]? = some (.int .u32 (l[k].a : Nat)) ∧ (pcells l)[k * 3 + 1]? = some (.int .u32 (l[k].r : Nat)) ∧ (pcells l)[k * 3 + 2]? = some (.int .u32 (l[k].w : Nat)) := by
  induction l with
  | nil => intro k hk; simp at hk
  | cons a r ih =>
    intro k hk
    match k, hk with
    | 0, _ => exact ⟨rfl, rfl, rfl⟩
    | k + 1, hk =>
      obtain ⟨h1, h2, h3⟩ := ih k (by simpa using hk)
      have e : ∀ j, (pcells (a :: r))[(k + 1) * 3 + j]? = (pcells r)[k * 3 + j]? := fun j => by
        rw [pcells_cons, List.getElem?_append_right (by simp; omega)]
        congr 1
        simp
        omega
      have e0 := e 0
      simp only [Nat.add_zero] at e0
      exact ⟨e0.trans h1, (e 1).trans h2, (e 2).trans h3⟩
theorem own_formX {w : World} {base e size n : Nat} {v : Value} {xs : List Value} (h : w.ownsRow base e size v n xs) : ∃ ao cap, v = .slice ao n cap := by
  rcases h.2 with ⟨rfl, rfl⟩ | ⟨g, cap, cur, rfl, _⟩
  · exact ⟨none, 0, rfl⟩
  · exact ⟨some ⟨g, 0, none⟩, cap, rfl⟩
theorem addr_add (g o j : Nat) : (⟨g, o, none⟩ : Addr).add j = ⟨g, o + j, none⟩ := by unfold Addr.add; split <;> simp_all
theorem ownsRow_of_block {w w' : World} {base e size n : Nat} {v : Value} {xs : List Value} (h : w.ownsRow base e size v n xs) (hb : ∀ g, v.ownBlock = some g → w'.heap[g]? = w.heap[g]?) : w'.ownsRow base e size v n xs := by
  refine ⟨h.1, ?_⟩
  rcases h.2 with h0 | ⟨g, cap, cur, e1, e2, e3, e4⟩
  · exact .inl h0
  · exact .inr ⟨g, cap, cur, e1, e2, (hb g (by rw [e1]; rfl)).trans e3, e4⟩
theorem Try.infoSt : (Try.prog.info? 40).map (fun i => (i.zero, i.size, i.bytes)) = some (some (.agg #[.int .u32 0, .int .u32 0, .int .u32 0]), 3, 12) := by kernel_rfl
/-- append(a, p) of one of the staff. -/
theorem app_st (w : World) (base : Nat) (v : Value) (l : List P3) (o : P3) (h : w.ownsRow base 40 3 v l.length (pcells l)) (hb : base ≤ w.heap.size) (hl : l.length ≤ 1048576) :
    ∃ ao cap w', (Builtin.append_ #[22, 22] 22 #[v, .slice (some ⟨w.heap.size, 0, none⟩) 1 1]).run Try.prog (w.alloc (.cells #[.int .u32 (o.a : Nat), .int .u32 (o.r : Nat), .int .u32 (o.w : Nat)] 40)) = .ok (.slice ao (l.length + 1) cap) w' ∧ w'.ownsRow base 40 3 (.slice ao (l.length + 1) cap) (l.length + 1) (pcells (l ++ [o])) ∧ Fr (fun g => v.ownBlock = some g) w w' := by
  obtain ⟨i0, hi, hz0, hz1, hz2⟩ := info_parts Try.infoSt
  have hb' := ownsRow_of_block (w' := w.alloc (.cells #[.int .u32 (o.a : Nat), .int .u32 (o.r : Nat), .int .u32 (o.w : Nat)] 40)) h (fun g hg => Below.heap_alloc _ _ _ (h.lt g hg).2)
  obtain ⟨v', w', hr, h2, h3, _, h5⟩ := run_append_own_at (P := Try.prog) (w := w.alloc (.cells #[.int .u32 (o.a : Nat), .int .u32 (o.r : Nat), .int .u32 (o.w : Nat)] 40)) base 22 22 40 i0 (.agg #[.int .u32 0, .int .u32 0, .int .u32 0]) 3 12 Try.underlying22 hi hz0 hz1 hz2 rfl (by decide) v l.length (pcells l) hb' ⟨w.heap.size, 0, none⟩ 1 1 o.cells rfl (fun j u hu => by
    rw [addr_add, World.cell?_alloc_at _ _ _ _ rfl]; simpa [P3.cells] using hu) (fun u hu => by simp [P3.cells] at hu; rcases hu with rfl | rfl | rfl <;> rfl) (by simp only [maxLen]; omega) (by omega) (by simp; omega)
  obtain ⟨ao, cap, rfl⟩ := own_formX h2
  refine ⟨ao, cap, w', hr, by rw [pcells_app]; exact h2, ((((Fr.refl (fun _ => False) w).alloc _)).mono (fun _ _ h => h.elim)).grown h3 (fun g hg => .inl hg)⟩
end Go.Proofs.Ytficeloegepdkaa
