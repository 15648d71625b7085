import Derived.Test.YtedmhpplhbaglaaNtb
namespace Go.Proofs.Ytedmhpplhbaglaa
open Go.RowKit Go.ChangeShapes Go.WideShapes Go.Maps

theorem Fr.turned {w w' : World} {b : Nat} (h : w.mapTurned w' b) : Fr (fun k => k = b) w w' := (Fr.refl _ _).grown h.grown (fun k hk => .inl (by injection hk with hk; exact hk.symm))
/-- A new net. -/
theorem new_any (pl : Int) (w : World) (h1 : 1 ≤ pl) (h2 : pl ≤ 64) :
    Calls Try.prog 7 #[.int .i64 pl] w fun e w' => ∃ d m, e = .returned (.tuple #[.pointer (some ⟨d, 0, none⟩), .int .i64 0]) ∧ NtAt w' d m pl [] (fun _ => (none, 0)) (fun _ => False) ∧ Fr (fun _ => False) w w' ∧ w.heap.size ≤ d ∧ w.heap.size ≤ m := by
  have hmk : ∀ w' : World, (Instr.makeMap 56 none).run Try.prog w' = .ok (.map (some w'.heap.size)) (w'.alloc (.map #[] 0)) := fun _ => rfl
  go_enter Try.func7, Try.ntmps7
  go_wp2
  go_ret2
  refine ⟨w.heap.size + 1, w.heap.size, rfl, ⟨?_, ⟨.map [], ?_, ⟨fun z => ?_, fun k p hk => (by simp at hk)⟩⟩, fun k p hk => (by simp at hk), fun k p hk => (by simp at hk), fun g hg => hg.elim, fun p hp => (by simp at hp)⟩, box2 _ _ _, by omega, Nat.le_refl _⟩
  · have := heap_alloc_new (w.alloc (.map #[] 0)) (.cells #[.int .i64 pl, .map (some w.heap.size), .int .i64 0, .int .i64 0, .int .i64 0, .int .i64 0] 58)
    simpa [NC, cS, cC, cD, cL] using this
  · exact (World.ownsMap_made w Try.prog 3 RV).alloc _
  · simp [und]; rfl
theorem new_bad (pl : Int) (w : World) (h : pl < 1 ∨ 64 < pl) :
    Calls Try.prog 7 #[.int .i64 pl] w fun e w' => e = .returned (.tuple #[.pointer none, .int .i64 1]) ∧ w' = w := by
  by_cases h1 : pl < 1
  · go_enter Try.func7, Try.ntmps7
    go_wp2
    go_ret2
    exact ⟨rfl, rfl⟩
  · have h2 : pl > 64 := by omega
    clear h
    go_enter Try.func7, Try.ntmps7
    go_wp2
    go_ret2
    exact ⟨rfl, rfl⟩
def isP (pl z : Int) : Bool := decide (0 ≤ z) && decide (z < pl)
theorem place_any (d : Nat) (pl z : Int) (w : World) (c0 : w.cell? ⟨d, 0, none⟩ = some (.int .i64 pl)) :
    Calls Try.prog 19 #[.pointer (some ⟨d, 0, none⟩), .int .i64 z] w fun e w' => e = .returned (.bool (isP pl z)) ∧ w' = w := by
  by_cases h1 : 0 ≤ z
  · have e : isP pl z = decide (z < pl) := by simp [isP, h1]
    rw [e]
    have h2 : z ≥ 0 := h1
    go_enter Try.func19, Try.ntmps19
    go_wp2
    go_ret
    exact ⟨rfl, rfl⟩
  · have e : isP pl z = false := by simp [isP, h1]
    rw [e]
    have h2 : ¬ z ≥ 0 := h1
    go_enter Try.func19, Try.ntmps19
    go_wp2
    go_ret
    exact ⟨rfl, rfl⟩
set_option maxRecDepth 100000 in
theorem nput_any (d m n s c : Nat) (p : PV) (D : DataW PV) (w : World) (c1 : w.cell? ⟨d, 1, none⟩ = some (.map (some m))) (c2 : w.cell? ⟨d, 2, none⟩ = some (.int .i64 (s : Nat))) (c3 : w.cell? ⟨d, 3, none⟩ = some (.int .i64 (c : Nat)))
    (hown : w.ownsMap Try.prog 3 RV m n D) (hn : n ≤ 1048576) (hsc : s + c ≤ 1048577) (h1 : 1 ≤ s + c) :
    Calls Try.prog 20 #[.pointer (some ⟨d, 0, none⟩), .agg #[.int .i64 p.n, .int .i64 p.f, .int .i64 p.t, .slice p.a p.l p.c]] w fun e w' => e = .returned (.int .i64 ((s : Int) + c)) ∧ w'.ownsMap Try.prog 3 RV m (n + 1) (D.put (.int .i64 ((s : Int) + c)) (.held { p with n := (s : Int) + c })) ∧ Fr (fun k => k = m) w w' := by
  have hm : m < w.heap.size := hown.lt
  have hd : d < w.heap.size := lt_of_cell c1
  obtain ⟨W, hW⟩ : ∃ W, W = (w.alloc (.cells #[.int .i64 p.n, .int .i64 p.f, .int .i64 p.t, .slice p.a p.l p.c] 34)) := ⟨_, rfl⟩
  have HP : Hid (∀ W', Fr (fun _ => False) w W' → ∃ W2, (Instr.mapUpdate 56 (.map (some m)) (.int .i64 ((s : Int) + c)) (.agg #[.int .i64 ((s : Int) + c), .int .i64 p.f, .int .i64 p.t, .slice p.a p.l p.c])).run Try.prog W' = .ok () W2 ∧ W2.ownsMap Try.prog 3 RV m (n + 1) (D.put (.int .i64 ((s : Int) + c)) (.held { p with n := (s : Int) + c })) ∧ Fr (fun k => k = m) w W2 ∧ Fr (fun k => k = m) W' W2) := fun W' hf => by
    obtain ⟨W2, hr, ho, ht⟩ := (ownsMap_keep hown (hf.block m hm (fun h => h))).store Try.iK (t := 56) Try.underlying56 (by simp only [maxLen]; omega) (key_int ((s : Int) + c) (by have := wf_nat (s + c - 1) (by omega); rw [show (((s + c - 1 : Nat) : Int) + 1) = (s : Int) + c by omega] at this; exact this)) (RV_v { p with n := (s : Int) + c })
    exact ⟨W2, hr, ho, (hf.mono (fun _ _ h => h.elim)).trans (Fr.turned ht) (fun _ _ h => h), Fr.turned ht⟩
  clear hown hW W
  go_enter Try.func20, Try.ntmps20
  go_wp2_with fail
  go_region
  all_goals
    have hf0 : Fr (fun _ => False) w (((w.alloc (.cells #[.int .i64 ((s : Int) + c), .int .i64 p.f, .int .i64 p.t, .slice p.a p.l p.c] 34)).drew).drew) := (box1 w _).drew.drew
    obtain ⟨W2, hup, ho, hf, hf2⟩ := (unhide HP) _ hf0
    have hb : W2.cell? ⟨w.heap.size, 0, none⟩ = some (.int .i64 ((s : Int) + c)) := (hf2.cell (p := ⟨w.heap.size, 0, none⟩) (by simp [World.drew]) (by show ¬ w.heap.size = m; omega)).trans (World.cell?_alloc_at _ _ _ _ rfl)
    have H2 := hide (And.intro ho hf)
    clear ho hf hf2 hf0 HP
    go_wp2_with fail
    go_region
    all_goals
      go_wp2_with fail
      go_ret
      exact ⟨rfl, unhide H2⟩
end Go.Proofs.Ytedmhpplhbaglaa
