import Derived.Test.YtkiepcdncegniaaZad
namespace Go.Proofs.Ytkiepcdncegniaa
open Go.RowKit

/-- A row of cells that may be read: n elements of z cells each. -/
structure Rd (w : World) (x : Value) (n z : Nat) (cs : List Value) : Prop where
  f : ∃ xo c, x = .slice xo n c ∧ n ≤ c ∧ (xo = none → c = 0) ∧ ∀ j u, cs[j]? = some u → ∃ g o, xo = some ⟨g, o, none⟩ ∧ w.cell? ⟨g, o + j, none⟩ = some u
  len : cs.length = n * z
  one : ∀ u ∈ cs, u.oneCell' = true
theorem Rd.fr {w w' : World} {x : Value} {n z : Nat} {cs : List Value} {S : Nat → Prop} (h : Rd w x n z cs) (hf : Fr S w w') (hS : ∀ g o n c, x = .slice (some ⟨g, o, none⟩) n c → 0 < cs.length → ¬ S g) : Rd w' x n z cs := by
  obtain ⟨xo, c, rfl, h1, h2, h3⟩ := h.f
  refine ⟨⟨xo, c, rfl, h1, h2, fun j u hu => ?_⟩, h.len, h.one⟩
  obtain ⟨g, o, rfl, hc⟩ := h3 j u hu
  have hp : 0 < cs.length := by have := (List.getElem?_eq_some_iff.1 hu).1; omega
  exact ⟨g, o, rfl, (hf.cell (p := ⟨g, o + j, none⟩) (lt_of_cell hc) (hS g o _ _ rfl hp)).trans hc⟩
theorem Rd.fr0 {w w' : World} {x : Value} {n z : Nat} {cs : List Value} (h : Rd w x n z cs) (hf : Fr (fun _ => False) w w') : Rd w' x n z cs := h.fr hf (fun _ _ _ _ _ _ h => h)
theorem Rd.nil (w : World) (z : Nat) : Rd w (.slice none 0 0) 0 z [] := ⟨⟨none, 0, rfl, Nat.le_refl _, fun _ => rfl, fun j u hu => by simp at hu⟩, by simp, fun u hu => by simp at hu⟩
/-- What one owns may be read. -/
theorem own_rd {w : World} {base e z n : Nat} {v : Value} {cs : List Value} (h : w.ownsRow base e z v n cs) (ho : ∀ u ∈ cs, u.oneCell' = true) : Rd w v n z cs := by
  have hl := h.1
  rcases h.2 with ⟨rfl, rfl⟩ | ⟨g, cap, cur, rfl, h1, h2, h3, h4, h5, h6⟩
  · refine ⟨⟨none, 0, rfl, Nat.le_refl _, fun _ => rfl, fun j u hu => ?_⟩, hl, ho⟩
    have := (List.getElem?_eq_some_iff.1 hu).1
    omega
  · refine ⟨⟨some ⟨g, 0, none⟩, cap, rfl, h3, fun e => (by cases e), fun j u hu => ⟨g, 0, rfl, ?_⟩⟩, hl, ho⟩
    rw [Nat.zero_add]
    have hj := (List.getElem?_eq_some_iff.1 hu).1
    rw [h.cellAt j (by omega)]
    exact hu
theorem scells_one (l : List SM) : ∀ u ∈ scells l, u.oneCell' = true := by
  intro u hu
  simp only [scells, List.mem_flatMap] at hu
  obtain ⟨f, _, hu⟩ := hu
  simp at hu
  rcases hu with rfl | rfl | rfl | rfl <;> rfl
theorem Try.infoSm : (Try.prog.info? 81).map (fun i => (i.zero, i.size, i.bytes)) = some (some (.agg #[.int .u32 0, .int .u32 0, .int .u32 0, .bool false]), 4, 16) := by kernel_rfl
theorem Try.infoIx : (Try.prog.info? 29).map (fun i => (i.zero, i.size, i.bytes)) = some (some (.agg #[.int .u32 0, .int .u32 0]), 2, 8) := by kernel_rfl
theorem Try.eq1Field (a : Addr) (n c : Nat) (w : World) : (binOp .eql 32 (.slice (some a) n c) (.slice none 0 0)).run Try.prog w = .ok (.bool false) w := by kernel_rfl
theorem Try.eq0Field (n c : Nat) (w : World) : (binOp .eql 32 (.slice none n c) (.slice none 0 0)).run Try.prog w = .ok (.bool true) w := by kernel_rfl
set_option maxRecDepth 100000 in
/-- slices.Clone. -/
theorem cloneField (x : Value) (n : Nat) (cs : List Value) (w : World) (hx : Rd w x n 5 cs) (hl : n ≤ 1048576) :
    Calls Try.prog 42 #[x] w fun e w' => ∃ v, e = .returned v ∧ w'.ownsRow w.heap.size 79 5 v n cs ∧ Fr (fun _ => False) w w' := by
  have hlen := hx.len
  have hone := hx.one
  obtain ⟨xo, xc, rfl, h1, h2, h3⟩ := hx.f
  cases xo with
  | none =>
    obtain rfl : n = 0 := by have := h2 rfl; omega
    obtain rfl : cs = [] := List.eq_nil_of_length_eq_zero (by omega)
    have n0 := Try.eq0Field
    clear hx h1 h2 h3 hlen hone
    go_enter Try.func42, Try.ntmps42
    go_wp2_with fail
    go_ret
    exact ⟨_, rfl, World.ownsRow_nil _ _ _ _, Fr.refl _ _⟩
  | some a =>
    obtain ⟨i0, hi, hz0, hz1, hz2⟩ := info_parts Try.infoFl
    have hcs : ∀ j u, cs[j]? = some u → (w.alloc (.cells #[] 79)).cell? (a.add j) = some u := fun j u hu => by
      obtain ⟨g, o, e, hc⟩ := h3 j u hu
      cases e
      rw [addr_add]
      exact ((box1 w _).cell (p := ⟨g, o + j, none⟩) (lt_of_cell hc) (fun h => h)).trans hc
    have hmk : (w.alloc (.cells #[] 79)).ownsRow w.heap.size 79 5 (.slice (some ⟨w.heap.size, 0, none⟩) 0 0) 0 [] := World.ownsRow_made w #[] 0 (Nat.le_refl _) (Nat.zero_le _) rfl
    obtain ⟨v', w2, hr, hw2, hg2, _, hh⟩ := run_append_own_at (P := Try.prog) (w := w.alloc (.cells #[] 79)) w.heap.size 32 32 79 i0 (.agg #[.string ⟨#[]⟩, .int .u8 0, .string ⟨#[]⟩, .float .f32 0, .int .u8 0]) 5 48 Try.underlying32 hi hz0 hz1 hz2 rfl (by decide) _ 0 [] hmk a n xc cs (by omega) hcs hone (by simp only [maxLen]; omega) (by omega) (by simp)
    obtain ⟨ao, cap, rfl⟩ := own_formX hw2
    have HR := hide hr
    have HA := hide (And.intro hw2 hg2)
    clear hr hw2 hg2 hx h1 h2 h3 hcs hmk hh hlen hone hi hz0 hz1 hz2
    have n1 := Try.eq1Field
    go_enter Try.func42, Try.ntmps42
    go_wp2_with (at_builtin; refine wpList_app rfl _ _ 32 32 rfl _ _ _ rfl rfl (unhide HR) ?_)
    go_ret
    obtain ⟨hw2, hg2⟩ := unhide HA
    exact ⟨_, rfl, by simpa using hw2, (box1 w _).grown hg2 (fun k hk => .inr (by simp [Value.ownBlock] at hk; omega))⟩
theorem Try.eq1Summary (a : Addr) (n c : Nat) (w : World) : (binOp .eql 42 (.slice (some a) n c) (.slice none 0 0)).run Try.prog w = .ok (.bool false) w := by kernel_rfl
theorem Try.eq0Summary (n c : Nat) (w : World) : (binOp .eql 42 (.slice none n c) (.slice none 0 0)).run Try.prog w = .ok (.bool true) w := by kernel_rfl
set_option maxRecDepth 100000 in
/-- slices.Clone. -/
theorem cloneSummary (x : Value) (n : Nat) (cs : List Value) (w : World) (hx : Rd w x n 4 cs) (hl : n ≤ 1048576) :
    Calls Try.prog 48 #[x] w fun e w' => ∃ v, e = .returned v ∧ w'.ownsRow w.heap.size 81 4 v n cs ∧ Fr (fun _ => False) w w' := by
  have hlen := hx.len
  have hone := hx.one
  obtain ⟨xo, xc, rfl, h1, h2, h3⟩ := hx.f
  cases xo with
  | none =>
    obtain rfl : n = 0 := by have := h2 rfl; omega
    obtain rfl : cs = [] := List.eq_nil_of_length_eq_zero (by omega)
    have n0 := Try.eq0Summary
    clear hx h1 h2 h3 hlen hone
    go_enter Try.func48, Try.ntmps48
    go_wp2_with fail
    go_ret
    exact ⟨_, rfl, World.ownsRow_nil _ _ _ _, Fr.refl _ _⟩
  | some a =>
    obtain ⟨i0, hi, hz0, hz1, hz2⟩ := info_parts Try.infoSm
    have hcs : ∀ j u, cs[j]? = some u → (w.alloc (.cells #[] 81)).cell? (a.add j) = some u := fun j u hu => by
      obtain ⟨g, o, e, hc⟩ := h3 j u hu
      cases e
      rw [addr_add]
      exact ((box1 w _).cell (p := ⟨g, o + j, none⟩) (lt_of_cell hc) (fun h => h)).trans hc
    have hmk : (w.alloc (.cells #[] 81)).ownsRow w.heap.size 81 4 (.slice (some ⟨w.heap.size, 0, none⟩) 0 0) 0 [] := World.ownsRow_made w #[] 0 (Nat.le_refl _) (Nat.zero_le _) rfl
    obtain ⟨v', w2, hr, hw2, hg2, _, hh⟩ := run_append_own_at (P := Try.prog) (w := w.alloc (.cells #[] 81)) w.heap.size 42 42 81 i0 (.agg #[.int .u32 0, .int .u32 0, .int .u32 0, .bool false]) 4 16 Try.underlying42 hi hz0 hz1 hz2 rfl (by decide) _ 0 [] hmk a n xc cs (by omega) hcs hone (by simp only [maxLen]; omega) (by omega) (by simp)
    obtain ⟨ao, cap, rfl⟩ := own_formX hw2
    have HR := hide hr
    have HA := hide (And.intro hw2 hg2)
    clear hr hw2 hg2 hx h1 h2 h3 hcs hmk hh hlen hone hi hz0 hz1 hz2
    have n1 := Try.eq1Summary
    go_enter Try.func48, Try.ntmps48
    go_wp2_with (at_builtin; refine wpList_app rfl _ _ 42 42 rfl _ _ _ rfl rfl (unhide HR) ?_)
    go_ret
    obtain ⟨hw2, hg2⟩ := unhide HA
    exact ⟨_, rfl, by simpa using hw2, (box1 w _).grown hg2 (fun k hk => .inr (by simp [Value.ownBlock] at hk; omega))⟩
theorem Try.eq1Id (a : Addr) (n c : Nat) (w : World) : (binOp .eql 37 (.slice (some a) n c) (.slice none 0 0)).run Try.prog w = .ok (.bool false) w := by kernel_rfl
theorem Try.eq0Id (n c : Nat) (w : World) : (binOp .eql 37 (.slice none n c) (.slice none 0 0)).run Try.prog w = .ok (.bool true) w := by kernel_rfl
set_option maxRecDepth 100000 in
/-- slices.Clone. -/
theorem cloneId (x : Value) (n : Nat) (cs : List Value) (w : World) (hx : Rd w x n 2 cs) (hl : n ≤ 1048576) :
    Calls Try.prog 32 #[x] w fun e w' => ∃ v, e = .returned v ∧ w'.ownsRow w.heap.size 29 2 v n cs ∧ Fr (fun _ => False) w w' := by
  have hlen := hx.len
  have hone := hx.one
  obtain ⟨xo, xc, rfl, h1, h2, h3⟩ := hx.f
  cases xo with
  | none =>
    obtain rfl : n = 0 := by have := h2 rfl; omega
    obtain rfl : cs = [] := List.eq_nil_of_length_eq_zero (by omega)
    have n0 := Try.eq0Id
    clear hx h1 h2 h3 hlen hone
    go_enter Try.func32, Try.ntmps32
    go_wp2_with fail
    go_ret
    exact ⟨_, rfl, World.ownsRow_nil _ _ _ _, Fr.refl _ _⟩
  | some a =>
    obtain ⟨i0, hi, hz0, hz1, hz2⟩ := info_parts Try.infoIx
    have hcs : ∀ j u, cs[j]? = some u → (w.alloc (.cells #[] 29)).cell? (a.add j) = some u := fun j u hu => by
      obtain ⟨g, o, e, hc⟩ := h3 j u hu
      cases e
      rw [addr_add]
      exact ((box1 w _).cell (p := ⟨g, o + j, none⟩) (lt_of_cell hc) (fun h => h)).trans hc
    have hmk : (w.alloc (.cells #[] 29)).ownsRow w.heap.size 29 2 (.slice (some ⟨w.heap.size, 0, none⟩) 0 0) 0 [] := World.ownsRow_made w #[] 0 (Nat.le_refl _) (Nat.zero_le _) rfl
    obtain ⟨v', w2, hr, hw2, hg2, _, hh⟩ := run_append_own_at (P := Try.prog) (w := w.alloc (.cells #[] 29)) w.heap.size 37 37 29 i0 (.agg #[.int .u32 0, .int .u32 0]) 2 8 Try.underlying37 hi hz0 hz1 hz2 rfl (by decide) _ 0 [] hmk a n xc cs (by omega) hcs hone (by simp only [maxLen]; omega) (by omega) (by simp)
    obtain ⟨ao, cap, rfl⟩ := own_formX hw2
    have HR := hide hr
    have HA := hide (And.intro hw2 hg2)
    clear hr hw2 hg2 hx h1 h2 h3 hcs hmk hh hlen hone hi hz0 hz1 hz2
    have n1 := Try.eq1Id
    go_enter Try.func32, Try.ntmps32
    go_wp2_with (at_builtin; refine wpList_app rfl _ _ 37 37 rfl _ _ _ rfl rfl (unhide HR) ?_)
    go_ret
    obtain ⟨hw2, hg2⟩ := unhide HA
    exact ⟨_, rfl, by simpa using hw2, (box1 w _).grown hg2 (fun k hk => .inr (by simp [Value.ownBlock] at hk; omega))⟩
end Go.Proofs.Ytkiepcdncegniaa
