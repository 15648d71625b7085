import Derived.Test.YtkiepcdncegniaaZfp
namespace Go.Proofs.Ytkiepcdncegniaa
open Go.RowKit Go.Maps

/-- The requests among the first m that wait. -/
def wlm (cs : List SC) (m : Nat) : List Nat := (List.range m).filterMap fun j => if (cs[j]?.any fun q => q.d.isNone) then some (j + 1) else none
theorem wlm_all (cs : List SC) : wlm cs cs.length = wl cs := rfl
theorem wlm_wait {cs : List SC} {m : Nat} {q : SC} (hq : cs[m]? = some q) (hd : q.d = none) : wlm cs (m + 1) = wlm cs m ++ [m + 1] := by
  unfold wlm
  rw [List.range_succ, List.filterMap_append]
  simp [hq, hd]
theorem wlm_done {cs : List SC} {m : Nat} {q : SC} {y : AD} (hq : cs[m]? = some q) (hd : q.d = some y) : wlm cs (m + 1) = wlm cs m := by
  unfold wlm
  rw [List.range_succ, List.filterMap_append]
  simp [hq, hd]
theorem wlm_more (cs : List SC) (m : Nat) : ∀ n, ∃ r, wlm cs (m + n) = wlm cs m ++ r
  | 0 => ⟨[], by simp⟩
  | n + 1 => by
    obtain ⟨r, hr⟩ := wlm_more cs m n
    have : ∃ s, wlm cs (m + (n + 1)) = wlm cs (m + n) ++ s := by
      unfold wlm
      rw [← Nat.add_assoc, List.range_succ, List.filterMap_append]
      exact ⟨_, rfl⟩
    obtain ⟨s, hs⟩ := this
    exact ⟨r ++ s, by rw [hs, hr, List.append_assoc]⟩
/-- Where a request that waits stands among those that do. -/
theorem wl_at {cs : List SC} {m : Nat} {q : SC} (hq : cs[m]? = some q) (hd : q.d = none) : (wl cs)[(wlm cs m).length]? = some (m + 1) := by
  have hm := (List.getElem?_eq_some_iff.1 hq).1
  obtain ⟨r, hr⟩ := wlm_more cs (m + 1) (cs.length - (m + 1))
  rw [show m + 1 + (cs.length - (m + 1)) = cs.length by omega, wlm_all, wlm_wait hq hd] at hr
  rw [hr, List.append_assoc, List.getElem?_append_right (Nat.le_refl _), Nat.sub_self]
  rfl
theorem wlm_le (cs : List SC) (m : Nat) (hm : m ≤ cs.length) : (wlm cs m).length ≤ (wl cs).length := by
  obtain ⟨r, hr⟩ := wlm_more cs m (cs.length - m)
  rw [show m + (cs.length - m) = cs.length by omega, wlm_all] at hr
  rw [hr, List.length_append]
  omega
theorem wl_small (cs : List SC) (k : Nat) (h : k ∈ wl cs) : k ≤ cs.length := by
  unfold wl at h
  rw [List.mem_filterMap] at h
  obtain ⟨j, hj, e⟩ := h
  have := List.mem_range.1 hj
  split at e
  · cases e; omega
  · cases e
/-- Numbers of one's own. -/
def OwN (w : World) (base : Nat) (v : Value) (l : List Nat) : Prop := w.ownsRow base 3 1 v l.length (l.map fun k : Nat => .int .i64 (k : Nat))
theorem Try.infoNu : (Try.prog.info? 3).map (fun i => (i.zero, i.size, i.bytes)) = some (some (.int .i64 0), 1, 8) := by kernel_rfl
/-- append(l, k). -/
theorem app_num (w : World) (base : Nat) (v : Value) (l : List Nat) (k : Nat) (h : OwN w base v l) (hb : base ≤ w.heap.size) (hl : l.length ≤ 1000000000) :
    ∃ ao cap w', (Builtin.append_ #[38, 38] 38 #[v, .slice (some ⟨w.heap.size, 0, none⟩) 1 1]).run Try.prog (w.alloc (.cells #[.int .i64 (k : Nat)] 3)) = .ok (.slice ao (l.length + 1) cap) w' ∧ OwN w' base (.slice ao (l.length + 1) cap) (l ++ [k]) ∧ Fr (fun g => v.ownBlock = some g) w w' ∧
      ∀ g, (Value.slice ao (l.length + 1) cap).ownBlock = some g → v.ownBlock = some g ∨ w.heap.size ≤ g := by
  obtain ⟨i0, hi, hz0, hz1, hz2⟩ := info_parts Try.infoNu
  have hb' := ownsRow_of_block (w' := w.alloc (.cells #[.int .i64 (k : Nat)] 3)) h (fun g hg => Below.heap_alloc _ _ _ (h.lt g hg).2)
  obtain ⟨v', w', hr, h2, h3, _, h5⟩ := run_append_own_at (P := Try.prog) (w := w.alloc (.cells #[.int .i64 (k : Nat)] 3)) base 38 38 3 i0 (.int .i64 0) 1 8 Try.underlying38 hi hz0 hz1 hz2 rfl (by decide) v l.length (l.map fun k : Nat => .int .i64 (k : Nat)) hb' ⟨w.heap.size, 0, none⟩ 1 1 [.int .i64 (k : Nat)] rfl (fun j u hu => by
    rw [addr_add, World.cell?_alloc_at _ _ _ _ rfl]; simpa using hu) (fun u hu => by simp at hu; subst hu; rfl) (by simp only [maxLen]; omega) (by omega) (by simp; omega)
  obtain ⟨ao, cap, rfl⟩ := own_formX h2
  refine ⟨ao, cap, w', hr, by unfold OwN; rw [List.map_append, List.length_append, List.length_singleton]; exact h2, ((box1 w _).mono (fun _ _ h => h.elim)).grown h3 (fun g hg => .inl hg), fun g hg => ?_⟩
  rcases h5 with e | e
  · rw [e] at hg; exact .inl hg
  · rw [e] at hg; cases hg; exact .inr (by simp)
end Go.Proofs.Ytkiepcdncegniaa
