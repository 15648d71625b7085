import Derived.Test.YtkiepcdncegniaaZfq
import Derived.Test.YtkiepcdncegniaaZfs
import Derived.Test.YtkiepcdncegniaaPk4
namespace Go.Proofs.Ytkiepcdncegniaa
open Go.RowKit Go.Maps

/-- SessionPlays, between two rounds: the session, the document's own in its box. -/
structure PJ (w wr : World) (d B c k : Nat) (cs : List SC) (dn : List Nat) (T : Nat → Prop) (v : Value) (l : List RC) : Prop where
  s : SS wr d c cs dn T
  f : Fr (fun _ => False) w wr
  t : ∀ g, T g → w.heap.size ≤ g ∧ g ≠ B ∧ v.ownBlock ≠ some g
  o : OwC wr w.heap.size v l
  vb : v.ownBlock ≠ some B
  R : Rel w c cs dn l
  n : ∀ q ∈ cs, q.n ≤ k
  dl : dn.length ≤ k
  b : wr.heap[B]? = some (.cells #[.int .u32 (c : Nat), v, .int .i64 (dn.length : Nat)] 60)
  bw : w.heap.size ≤ B
theorem PJ.fr0 {w wr wr' : World} {d B c k : Nat} {cs : List SC} {dn : List Nat} {T : Nat → Prop} {v : Value} {l : List RC} (h : PJ w wr d B c k cs dn T v l) (hf : Fr (fun _ => False) wr wr') : PJ w wr' d B c k cs dn T v l :=
  ⟨h.s.fr0 hf, h.f.trans0 hf, h.t, h.o.fr0 hf, h.vb, h.R, h.n, h.dl, (hf.block B (lt_of_block h.b) (fun h => h)).trans h.b, h.bw⟩
theorem PJ.up {w wr : World} {d B c k : Nat} {cs : List SC} {dn : List Nat} {T : Nat → Prop} {v : Value} {l : List RC} (h : PJ w wr d B c k cs dn T v l) : PJ w wr d B c (k + 1) cs dn T v l :=
  ⟨h.s, h.f, h.t, h.o, h.vb, h.R, fun q hq => by have := h.n q hq; omega, by have := h.dl; omega, h.b, h.bw⟩
theorem PJ.len {w wr : World} {d B c k : Nat} {cs : List SC} {dn : List Nat} {T : Nat → Prop} {v : Value} {l : List RC} (h : PJ w wr d B c k cs dn T v l) : l.length ≤ 4096 := by rw [h.R.n]; exact h.s.len
/-- The box stored anew. -/
theorem PJ.box {w wr W : World} {d B c k : Nat} {cs : List SC} {dn : List Nat} {T : Nat → Prop} {v : Value} {l : List RC} (hs : SS wr d c cs dn T) (hf : Fr (fun _ => False) w wr) (ht : ∀ g, T g → w.heap.size ≤ g ∧ g ≠ B ∧ v.ownBlock ≠ some g) (ho : OwC wr w.heap.size v l) (hvb : v.ownBlock ≠ some B) (hR : Rel w c cs dn l) (hn : ∀ q ∈ cs, q.n ≤ k) (hdl : dn.length ≤ k) (hbw : w.heap.size ≤ B)
    (hfW : Fr (fun g => g = B) wr W) (hb : W.heap[B]? = some (.cells #[.int .u32 (c : Nat), v, .int .i64 (dn.length : Nat)] 60)) : PJ w W d B c k cs dn T v l :=
  ⟨hs.fr hfW (fun g hg => (ht g hg).2.1), hf.trans hfW (fun g hg e => by omega), ht, ho.fr hfW (fun g hg e => hvb (by rw [hg, e])), hvb, hR, hn, hdl, hb, hbw⟩
/-- append(nothing, l...). -/
theorem app_cls (w : World) (base : Nat) (v : Value) (l : List RC) (hok : ∀ y ∈ l, ∀ u ∈ y.cs, u.oneCell' = true) (h : OwC w base v l) (hl : l.length ≤ 4096) :
    ∃ ao cap w', (Builtin.append_ #[58, 58] 58 #[.slice none 0 0, v]).run Try.prog w = .ok (.slice ao l.length cap) w' ∧ OwC w' w.heap.size (.slice ao l.length cap) l ∧ Fr (fun _ => False) w w' := by
  obtain ⟨i0, hi, hz0, hz1, hz2⟩ := info_parts Try.infoCl
  have hone : ∀ u ∈ l.flatMap RC.cs, u.oneCell' = true := fun u hu => by
    obtain ⟨y, hy, hu⟩ := List.mem_flatMap.1 hu
    exact hok y hy u hu
  rcases Nat.eq_zero_or_pos l.length with h0 | h0
  · obtain rfl : l = [] := List.eq_nil_of_length_eq_zero h0
    obtain ⟨ao, cap, rfl⟩ := own_formX h
    refine ⟨none, 0, w, ?_, World.ownsRow_nil _ _ _ _, Fr.refl _ _⟩
    cases ao <;> simp [Builtin.append_, go_sem]
  · have hrow := h
    unfold OwC at hrow
    obtain ⟨g, cp, eg, _, hg⟩ := own_one_form hrow h0
    subst eg
    obtain ⟨v', w', hr, h2, h3, _, h5⟩ := run_append_own_at (P := Try.prog) (w := w) w.heap.size 58 58 66 i0 (.agg #[.int .u32 0, .int .u32 0, .int .u32 0, .int .u8 0, .int .u32 0, .int .u32 0, .int .u32 0, .int .u32 0, .slice none 0 0, .string ⟨#[]⟩, .int .i64 0, .int .u32 0, .int .u32 0, .int .u8 0, .int .u32 0, .int .u32 0, .slice none 0 0, .slice none 0 0, .int .u8 0, .int .i64 0]) 20 168 Try.underlying58 hi hz0 hz1 hz2 rfl (by decide) (.slice none 0 0) 0 [] (World.ownsRow_nil _ _ _ _) ⟨g, 0, none⟩ l.length cp (l.flatMap RC.cs) (ccells_len l) (fun j u hu => by
      rw [addr_add]; simpa using hg j u hu) hone (by simp only [maxLen]; omega) (by omega) (Nat.le_refl _)
    rw [Nat.zero_add, List.nil_append] at h2
    obtain ⟨ao, cap, rfl⟩ := own_formX h2
    exact ⟨ao, cap, w', hr, h2, (Fr.refl _ _).grown h3 (fun k hk => by cases hk)⟩
end Go.Proofs.Ytkiepcdncegniaa

