import Derived.Test.YtoflkfnmbighaaaDkn
import Derived.Lib.SliceRun
namespace Go.Proofs.Ytoflkfnmbighaaa
open Go.RowKit Go.ChangeShapes Go.WideShapes Go.Maps Go.Sort

/-- A file cut at n. -/
def FM.cut (f : FM) (n : Nat) : FM := ⟨f.b.take n, min f.safe n, dropP f.ps (f.b.length - n)⟩
theorem setCells_fr (g : Nat) : ∀ (vs : List Value) (o : Nat) (w : World), Fr (fun k => k = g) w (w.setCells g o vs)
  | [], _, _ => Fr.refl _ _
  | v :: r, o, _ => ((Fr.refl _ _).at1 o v).trans (setCells_fr g r (o + 1) _) (fun _ _ h => h)
theorem setCells_row {base e g n cap : Nat} {zs : List Value} : ∀ (vs : List Value) (o : Nat) (w : World), n ≤ o → w.ownsRow base e 1 (.slice (some ⟨g, 0, none⟩) n cap) n zs → (w.setCells g o vs).ownsRow base e 1 (.slice (some ⟨g, 0, none⟩) n cap) n zs
  | [], _, _, _, h => h
  | v :: r, o, w, ho, h => by
    refine setCells_row r (o + 1) _ (by omega) ?_
    have := own_setP h o v
    rwa [List.set_eq_of_length_le (by have := h.1; omega)] at this
theorem Try.zeroB (w : World) : (zeroValue 5).run Try.prog w = .ok (.int .u8 0) w := by kernel_rfl
/-- clear of the bytes from n on. -/
theorem clear_any (w : World) (bo : Option Addr) (N n bc : Nat) (l : List Nat) (h : w.ownsRow 0 5 1 (.slice bo N bc) N (cellsOf l)) (hn : n ≤ N) : ∃ w', (∀ ty, (Builtin.clear_ #[36] ty #[.slice (bo.map fun x => x.add n) (N - n) (bc - n)]).run Try.prog w = .ok (.tuple #[]) w') ∧ (bc = n → ∀ ty, (Builtin.clear_ #[36] ty #[.slice bo (N - n) 0]).run Try.prog w = .ok (.tuple #[]) w') ∧ w'.ownsRow 0 5 1 (.slice bo n bc) n (cellsOf (l.take n)) ∧ Fr (fun k => (Value.slice bo N bc).ownBlock = some k) w w' := by
  have hlN : l.length = N := by have := h.1; simpa [cellsOf] using this
  rcases h.2 with ⟨e, rfl⟩ | ⟨g, cap, cur, e, hg, hb, hc, hm, hs, ht⟩
  · simp only [Value.slice.injEq] at e
    obtain ⟨rfl, -, rfl⟩ := e
    obtain rfl : n = 0 := by omega
    refine ⟨w, fun ty => by simp [Builtin.clear_, run_underlying Try.underlying36], fun _ ty => by simp [Builtin.clear_, run_underlying Try.underlying36], ?_, Fr.refl _ _⟩
    exact World.ownsRow_nil _ _ _ _
  · simp only [Value.slice.injEq, true_and] at e
    obtain ⟨rfl, rfl⟩ := e
    have hpre := own_preP h hn
    rw [Nat.mul_one, cellsOf, ← List.map_take] at hpre
    by_cases h0 : N - n = 0
    · refine ⟨w, fun ty => ?_, fun _ ty => ?_, hpre, Fr.refl _ _⟩
      · rw [h0]
        simp [Builtin.clear_, run_underlying Try.underlying36]
      · rw [h0]
        simp [Builtin.clear_, run_underlying Try.underlying36]
    · refine ⟨w.setCells g n (List.replicate (N - n) (.int .u8 0)), fun ty => ?_, fun e => (by omega), setCells_row _ _ _ (Nat.le_refl _) hpre, (setCells_fr g _ _ _).mono (fun k _ e => by rw [e]; rfl)⟩
      have ha : (⟨g, 0, none⟩ : Addr).add n = ⟨g, n, none⟩ := by rw [addr_add, Nat.zero_add]
      rw [Option.map_some, ha]
      exact Lib.run_clear_slice w 36 5 ty (.int .u8 0) Try.underlying36 Try.zeroB rfl rfl g n (N - n) (bc - n) (by omega) (fun j hj => by
        rw [h.cellAt (n + j) (by omega)]
        simp [cellsOf, show n + j < l.length by omega]) (fun j _ => by simp [World.frozen?, hb])
set_option maxRecDepth 100000 in
theorem cut_any (fb n : Nat) (f : FM) (bv pv : Value) (w : World) (h : FAt w fb f bv pv) (hn : n ≤ f.b.length) (hb : f.b.length ≤ 1048576) (hp : f.ps.length ≤ 1000000000) (hsz : ∀ p ∈ f.ps, p.2 ≤ 1048576) :
    Calls Try.prog 58 #[.pointer (some ⟨fb, 0, none⟩), .int .i64 (n : Nat)] w fun e w' => e = .returned (.tuple #[]) ∧ ∃ bv' pv', FAt w' fb (f.cut n) bv' pv' ∧ Fr (fun k => k = fb ∨ bv.ownBlock = some k ∨ pv.ownBlock = some k) w w' ∧ (∀ k, bv'.ownBlock = some k → bv.ownBlock = some k) ∧ (∀ k, pv'.ownBlock = some k → pv.ownBlock = some k) := by
  obtain ⟨c0, c1, c2, fz⟩ := h.cells
  clear fz
  obtain ⟨bo, bc, rfl⟩ := own_form h.bo
  have hcap : f.b.length ≤ bc := by
    rcases h.bo.2 with ⟨_, e2⟩ | ⟨g, c, cur, e2, _, _, hc, _⟩
    · omega
    · simp only [Value.slice.injEq] at e2; omega
  obtain ⟨w1, hclr, hclb, hrow, hf1⟩ := clear_any w bo f.b.length n bc f.b h.bo hn
  have hb1 : w1.heap[fb]? = _ := (hf1.block fb h.lt.1 (fun e => (h.kinds.1 fb e).1 rfl)).trans h.blk
  have d0 : w1.cell? ⟨fb, 0, none⟩ = some (.slice bo f.b.length bc) := by simp [World.cell?, hb1]
  have d1 : w1.cell? ⟨fb, 1, none⟩ = some (.int .i64 (f.safe : Nat)) := by simp [World.cell?, hb1]
  have e0 : w1.frozen? ⟨fb, 0, none⟩ = false := by simp [World.frozen?, hb1]
  have e1 : w1.frozen? ⟨fb, 1, none⟩ = false := by simp [World.frozen?, hb1]
  have hclr0 := hclr 0
  have hclr1 : bc = n → (Builtin.clear_ #[36] 0 #[.slice bo (f.b.length - n) 0]).run Try.prog w = .ok (.tuple #[]) w1 := fun e => hclb e 0
  obtain ⟨W, hW⟩ : ∃ W, W = (w1.setCell ⟨fb, 0, none⟩ (.slice bo n bc)).setCell ⟨fb, 1, none⟩ (.int .i64 (min (f.safe : Int) (n : Int))) := ⟨_, rfl⟩
  have hWA : FAt W fb ⟨f.b.take n, min f.safe n, f.ps⟩ (.slice bo n bc) pv := by
    have hmn : min (f.safe : Int) (n : Int) = ((min f.safe n : Nat) : Int) := by omega
    rw [hW]
    refine ⟨?_, ?_, ?_⟩
    · rw [blkset (blkset hb1 0 _) 1 _, hmn]
      simp
    · rw [List.length_take, Nat.min_eq_left hn]
      exact ownsRow_of_block hrow (fun g hg => by
        have hne : g ≠ fb := fun e => by
          obtain ⟨cur, hc⟩ := own_blk hrow hg
          rw [e, hb1] at hc; simp at hc
        rw [Below.heap_setCell _ _ _ _ hne, Below.heap_setCell _ _ _ _ hne])
    · exact ownsRow_of_block h.po (fun g hg => by
        have hne : g ≠ fb := h.kinds.2 g hg
        rw [Below.heap_setCell _ _ _ _ hne, Below.heap_setCell _ _ _ _ hne]
        exact hf1.block g (h.lt.2.2 g hg) (fun e => (h.kinds.1 g e).2 hg))
  have hWf : Fr (fun k => k = fb ∨ (Value.slice bo f.b.length bc).ownBlock = some k ∨ pv.ownBlock = some k) w W := by
    have q1 : Fr (fun k => k = fb ∨ (Value.slice bo f.b.length bc).ownBlock = some k ∨ pv.ownBlock = some k) w w1 := hf1.mono (fun _ _ h => Or.inr (Or.inl h))
    rw [hW]
    exact (q1.setCell (p := ⟨fb, 0, none⟩) (.inl (.inl rfl)) _).setCell (p := ⟨fb, 1, none⟩) (.inl (.inl rfl)) _
  have hgl : ((f.b.length - n : Nat) : Int) = (f.b.length : Int) - (n : Int) := by omega
  have HD := hide (drop_any fb (f.b.length - n) _ _ _ W hWA hp (by omega) hsz)
  rw [hgl] at HD
  have HW := hide (And.intro hW hWf)
  clear hW hWA hWf hclb hgl
  have H := hide (And.intro h (And.intro hrow (And.intro hf1 hb1)))
  clear h hrow hf1 hb1 hclr
  go_enter Try.func58, Try.ntmps58
  by_cases hbc : bc = n
  all_goals
    first | (subst hbc; have hclr2 := hclr1 rfl; rw [show f.b.length - bc = 0 by omega] at hclr2) | skip
    go_wp2_with fail
    rw [← (unhide HW).1]
    refine (unhide HD).mono ?_
    rintro e w2 ⟨rfl, pv', hA2, hf2, hb2⟩
    have HF := hide (And.intro hA2 (And.intro ((unhide HW).2.trans hf2 (fun k _ hk => hk.elim .inl (fun h => .inr (.inr h)))) hb2))
    clear hA2 hf2 hb2
    go_wp2_with fail
    go_end0
    exact ⟨rfl, _, pv', (unhide HF).1, (unhide HF).2.1, fun k hk => by cases bo with | none => cases hk | some a => exact hk, (unhide HF).2.2⟩
end Go.Proofs.Ytoflkfnmbighaaa
