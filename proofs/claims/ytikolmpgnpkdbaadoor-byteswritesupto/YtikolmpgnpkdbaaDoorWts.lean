import Derived.Test.YtikolmpgnpkdbaaDoorApt
namespace Go.Proofs.YtikolmpgnpkdbaaDoor
open Go.RowKit

theorem pcells_at (L : List Pt) : ∀ (j : Nat) (h : j < L.length), (pcells L)[j * 5]? = some (.int .i64 L[j].k) ∧ (pcells L)[j * 5 + 1]? = some (.int .u64 L[j].u) ∧ (pcells L)[j * 5 + 2]? = some (.string L[j].s) ∧ (pcells L)[j * 5 + 3]? = some (.int .i64 L[j].n) ∧ (pcells L)[j * 5 + 4]? = some (.int .i64 L[j].m) := by
  induction L with
  | nil => intro j h; simp at h
  | cons p r ih =>
    intro j h
    have e : pcells (p :: r) = .int .i64 p.k :: .int .u64 p.u :: .string p.s :: .int .i64 p.n :: .int .i64 p.m :: pcells r := by simp [pcells]
    cases j with
    | zero => simp [e]
    | succ j =>
      have hj : j < r.length := by simpa using h
      obtain ⟨h0, h1, h2, h3, h4⟩ := ih j hj
      have e5 : (j + 1) * 5 = j * 5 + 5 := by omega
      rw [e, e5]
      simp only [List.getElem_cons_succ]
      exact ⟨by simpa using h0, by simpa using h1, by simpa using h2, by simpa using h3, by simpa using h4⟩
theorem own_psrc {w : World} {base : Nat} {v : Value} {L : List Pt} (h : w.ownsRow base 31 5 v L.length (pcells L)) : PSrc w v L := by
  rcases h.2 with ⟨rfl, e⟩ | ⟨g, cap, cur, rfl, _⟩
  · exact .inl ⟨none, 0, rfl, List.eq_nil_of_length_eq_zero e⟩
  · refine .inr ⟨g, 0, cap, rfl, fun j hj => ?_⟩
    have key : ∀ i u, (pcells L)[i]? = some u → w.cell? ⟨g, 0 + i, none⟩ = some u := fun i u hu => by
      have := h.cells (g := g) rfl i u hu
      have e : (⟨g, 0, none⟩ : Addr).add i = ⟨g, 0 + i, none⟩ := by unfold Addr.add; split <;> simp_all
      rw [e] at this; exact this
    obtain ⟨h0, h1, h2, h3, h4⟩ := pcells_at L j hj
    exact ⟨key _ _ h0, by simpa [Nat.add_assoc] using key _ _ h1, by simpa [Nat.add_assoc] using key _ _ h2, by simpa [Nat.add_assoc] using key _ _ h3, by simpa [Nat.add_assoc] using key _ _ h4⟩

theorem layW_any (p : Pt) (b : Nat) (F : Nat → Prop) (st : Wst) (E : Nat → Addr) (w : World) (hp : p.fitted) (hu : p.u < 18446744073709551616) (hn : p.n < 9223372036854775808) (hg : G7 w E) (h : W w b F st) (hl : st.l.length + 8 + p.s.size ≤ 140737488355328) :
    Calls Tryd.prog 13 #[.pointer (some ⟨b, 0, none⟩), .agg #[.int .i64 p.k, .int .u64 p.u, .string p.s, .int .i64 p.n, .int .i64 p.m]] w fun e w' => e = .returned (.tuple #[]) ∧ ∃ F', W w' b F' (st.layW p E) ∧ Ch w w' F F' := by
  by_cases h9 : p.k = 9
  · obtain ⟨a, c⟩ := hp.2.1 h9
    obtain ⟨q, hq⟩ := Int.eq_ofNat_of_zero_le a
    rw [Wst.layW, if_pos h9, h9, hq, Int.toNat_natCast]
    exact lay9_any b p.u q p.s p.m F st E w (by omega) hg h
  · rw [Wst.layW, if_neg h9]
    exact layA_any p b F st E (E 4) w hp.1 h9 hu hn hg.gl hg.e4 h (by have := hp.2.2; omega) hl
theorem fit_fitted (p : Pt) (h : p.s.size < 4294967296) : p.fit.fitted := by
  refine ⟨fk_mem p.k, fun h9 => ?_, h⟩
  have h9' : fk p.k = 9 := h9
  show 0 ≤ fn p.k p.n ∧ fn p.k p.n ≤ 7
  unfold fn
  split <;> omega
end Go.Proofs.YtikolmpgnpkdbaaDoor
