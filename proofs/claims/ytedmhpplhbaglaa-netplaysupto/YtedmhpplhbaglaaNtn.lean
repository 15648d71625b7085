import Derived.Test.YtedmhpplhbaglaaNtj
namespace Go.Proofs.Ytedmhpplhbaglaa
open Go.RowKit Go.ChangeShapes Go.WideShapes Go.Maps

/-- A packet of the document's own net, with where its bytes lie. -/
abbrev RK := PK × Option Addr × Nat
def rc5 (x : RK) : List Value := [.int .i64 x.1.f, .int .i64 x.1.t, .slice x.2.1 x.1.b.length x.2.2, .int .i64 (x.1.gone : Nat), .bool x.1.cp]
def rcells (Rs : List RK) : List Value := Rs.flatMap rc5
theorem rcells_app (A B : List RK) : rcells (A ++ B) = rcells A ++ rcells B := by simp [rcells]
theorem rcells_len (A : List RK) : (rcells A).length = A.length * 5 := by
  induction A with
  | nil => rfl
  | cons a A ih =>
    rw [show rcells (a :: A) = rc5 a ++ rcells A by simp [rcells], List.length_append, ih, List.length_cons]
    simp [rc5]
    omega
theorem rcells_at {A : List RK} {i : Nat} {x : RK} (h : A[i]? = some x) : (rcells A)[i * 5]? = some (.int .i64 x.1.f) ∧ (rcells A)[i * 5 + 1]? = some (.int .i64 x.1.t) ∧ (rcells A)[i * 5 + 2]? = some (.slice x.2.1 x.1.b.length x.2.2) ∧ (rcells A)[i * 5 + 3]? = some (.int .i64 (x.1.gone : Nat)) ∧ (rcells A)[i * 5 + 4]? = some (.bool x.1.cp) := by
  induction A generalizing i with
  | nil => simp at h
  | cons y A ih =>
    have e : rcells (y :: A) = rc5 y ++ rcells A := by simp [rcells]
    rcases i with _ | i
    · simp at h
      subst h
      simp [e, rc5]
    · obtain ⟨i0, i1, i2, i3, i4⟩ := ih (i := i) (by simpa using h)
      rw [e, show (i + 1) * 5 = i * 5 + 5 by omega]
      have hl : (rc5 y).length = 5 := rfl
      refine ⟨?_, ?_, ?_, ?_, ?_⟩
      · rw [List.getElem?_append_right (by omega), hl, show i * 5 + 5 - 5 = i * 5 by omega]; exact i0
      · rw [List.getElem?_append_right (by omega), hl, show i * 5 + 5 + 1 - 5 = i * 5 + 1 by omega]; exact i1
      · rw [List.getElem?_append_right (by omega), hl, show i * 5 + 5 + 2 - 5 = i * 5 + 2 by omega]; exact i2
      · rw [List.getElem?_append_right (by omega), hl, show i * 5 + 5 + 3 - 5 = i * 5 + 3 by omega]; exact i3
      · rw [List.getElem?_append_right (by omega), hl, show i * 5 + 5 + 4 - 5 = i * 5 + 4 by omega]; exact i4
theorem rcells_set (A : List RK) (i : Nat) (x : RK) (h : A[i]? = some x) (g : Nat) : (rcells A).set (i * 5 + 3) (.int .i64 (g : Nat)) = rcells (A.set i ({ x.1 with gone := g }, x.2)) := by
  induction A generalizing i with
  | nil => simp at h
  | cons y A ih =>
    have e : ∀ (y : RK) A, rcells (y :: A) = rc5 y ++ rcells A := fun y A => by simp [rcells]
    rcases i with _ | i
    · simp at h
      subst h
      rw [List.set_cons_zero, e, e]
      simp [rc5]
    · rw [List.set_cons_succ, e, e, ← ih i (by simpa using h), show (i + 1) * 5 + 3 = (rc5 y).length + (i * 5 + 3) by simp [rc5]; omega, List.set_append_right _ _ (by omega)]
      congr 2
      omega
theorem rc5_one (x : RK) : ∀ u ∈ rc5 x, u.oneCell' = true := by
  intro u hu
  simp [rc5] at hu
  rcases hu with rfl | rfl | rfl | rfl | rfl <;> rfl
theorem rcells_one (A : List RK) : ∀ u ∈ rcells A, u.oneCell' = true := by
  intro u hu
  simp only [rcells, List.mem_flatMap] at hu
  obtain ⟨x, _, h⟩ := hu
  exact rc5_one x u h
theorem Try.infoRk : (Try.prog.info? 71).map (fun i => (i.zero, i.size, i.bytes)) = some (some (.agg #[.int .i64 0, .int .i64 0, .slice none 0 0, .int .i64 0, .bool false]), 5, 56) := by kernel_rfl
theorem make_rk (x : Nat) (w : World) (hx : x ≤ 3000000) : ∃ w', (Instr.makeSlice 43 (.int .i64 0) (.int .i64 (x : Int))).run Try.prog w = .ok (.slice (some ⟨w.heap.size, 0, none⟩) 0 x) w' ∧ w'.ownsRow w.heap.size 71 5 (.slice (some ⟨w.heap.size, 0, none⟩) 0 x) 0 [] ∧ Fr (fun _ => False) w w' := by
  obtain ⟨i, hi, hz, hs, hb⟩ := info_parts Try.infoRk
  obtain ⟨w', hr, ho, hg⟩ := run_makeSlice_owned (P := Try.prog) w w.heap.size 43 71 i (.agg #[.int .i64 0, .int .i64 0, .slice none 0 0, .int .i64 0, .bool false]) 5 Try.underlying43 hi hz hs .i64 .i64 x (by omega) (by rw [hb]; omega) (by simp only [maxLen]; omega) (Nat.le_refl _)
  exact ⟨w', hr, ho, (Fr.refl _ _).grown hg (fun k hk => by cases hk)⟩
/-- append(l, all...) and append(l, p). -/
theorem app_rk (w : World) (base b2 : Nat) (v x : Value) (A B : List RK) (h : w.ownsRow base 71 5 v A.length (rcells A)) (hx : w.ownsRow b2 71 5 x B.length (rcells B)) (hl : A.length + B.length ≤ 3000000) (hb0 : base ≤ w.heap.size) :
    ∃ ao cap w', (Builtin.append_ #[43, 43] 43 #[v, x]).run Try.prog w = .ok (.slice ao (A.length + B.length) cap) w' ∧ w'.ownsRow base 71 5 (.slice ao (A.length + B.length) cap) (A.length + B.length) (rcells (A ++ B)) ∧ Fr (fun g => v.ownBlock = some g) w w' := by
  obtain ⟨i0, hi, hz0, hz1, hz2⟩ := info_parts Try.infoRk
  have hx2 := hx.2
  rcases hx2 with ⟨rfl, e⟩ | ⟨g, cap, cur, rfl, _⟩
  · obtain rfl := List.eq_nil_of_length_eq_zero e
    have hr := run_append_owned_none (P := Try.prog) w base 43 43 71 i0 5 Try.underlying43 hi v A.length (rcells A) h
    obtain ⟨ao, cap, rfl⟩ := own_formX h
    exact ⟨ao, cap, w, by simpa using hr, by simpa using h, Fr.refl _ _⟩
  · obtain ⟨v', w', hr, h2, h3, _, h5⟩ := run_append_own_at (P := Try.prog) w base 43 43 71 i0 (.agg #[.int .i64 0, .int .i64 0, .slice none 0 0, .int .i64 0, .bool false]) 5 56 Try.underlying43 hi hz0 hz1 hz2 rfl (by decide) v A.length (rcells A) h ⟨g, 0, none⟩ B.length cap (rcells B) (rcells_len B) (fun j u hu => hx.cells (g := g) rfl j u hu) (rcells_one B) (by simp only [maxLen]; omega) (by omega) hb0
    obtain ⟨ao, cap', rfl⟩ := own_formX h2
    exact ⟨ao, cap', w', hr, by rw [rcells_app]; exact h2, (Fr.refl _ _).grown h3 (fun g hg => .inl hg)⟩
/-- The document's own net in memory: its list is one's own, its bytes came in. -/
structure RfAt (w0 W : World) (v : Value) (Rs : List RK) : Prop where
  row : W.ownsRow w0.heap.size 71 5 v Rs.length (rcells Rs)
  src : ∀ x ∈ Rs, Src w0 (.slice x.2.1 x.1.b.length x.2.2) x.1.b ∧ x.1.b.length ≤ 1048576
theorem RfAt.fr {w0 W W' : World} {v : Value} {Rs : List RK} {S : Nat → Prop} (h : RfAt w0 W v Rs) (hf : Fr S W W') (hS : ∀ k, v.ownBlock = some k → ¬ S k) : RfAt w0 W' v Rs := ⟨ownsRow_of_block h.row (fun g hg => hf.block g (h.row.lt g hg).2 (hS g hg)), h.src⟩
theorem RfAt.fr0 {w0 W W' : World} {v : Value} {Rs : List RK} (h : RfAt w0 W v Rs) (hf : Fr (fun _ => False) W W') : RfAt w0 W' v Rs := h.fr hf (fun _ _ h => h)
/-- The packets without where they lie. -/
def pks (Rs : List RK) : List PK := Rs.map (·.1)
theorem pks_len (Rs : List RK) : (pks Rs).length = Rs.length := by simp [pks]
theorem RfAt.at_ {w0 W : World} {ao : Option Addr} {c : Nat} {Rs : List RK} (h : RfAt w0 W (.slice ao Rs.length c) Rs) {i : Nat} {x : RK} (hx : Rs[i]? = some x) : ∃ g, ao = some ⟨g, 0, none⟩ ∧ W.cell? ⟨g, i * 5, none⟩ = some (.int .i64 x.1.f) ∧ W.cell? ⟨g, i * 5 + 1, none⟩ = some (.int .i64 x.1.t) ∧ W.cell? ⟨g, i * 5 + 2, none⟩ = some (.slice x.2.1 x.1.b.length x.2.2) ∧ W.cell? ⟨g, i * 5 + 3, none⟩ = some (.int .i64 (x.1.gone : Nat)) ∧ W.cell? ⟨g, i * 5 + 4, none⟩ = some (.bool x.1.cp) ∧ ∀ j, W.frozen? ⟨g, j, none⟩ = false := by
  have hlt := (List.getElem?_eq_some_iff.1 hx).1
  obtain ⟨g, rfl⟩ : ∃ g, ao = some ⟨g, 0, none⟩ := by
    rcases h.row.2 with ⟨_, e⟩ | ⟨g, c', cur, e, _⟩
    · omega
    · simp only [Value.slice.injEq] at e; exact ⟨g, e.1⟩
  obtain ⟨i0, i1, i2, i3, i4⟩ := rcells_at hx
  refine ⟨g, rfl, (h.row.cellAt _ (by omega)).trans i0, (h.row.cellAt _ (by omega)).trans i1, (h.row.cellAt _ (by omega)).trans i2, (h.row.cellAt _ (by omega)).trans i3, (h.row.cellAt _ (by omega)).trans i4, fun j => ?_⟩
  obtain ⟨cur, hb⟩ := own_blk h.row rfl
  simp [World.frozen?, hb]
set_option maxRecDepth 100000 in
/-- Under. -/
theorem gunder_any (w0 W : World) (pl z : Int) (ao : Option Addr) (c : Nat) (Rs : List RK) (h : RfAt w0 W (.slice ao Rs.length c) Rs) (hl : Rs.length ≤ 1048576) :
    Calls Try.prog 27 #[.agg #[.int .i64 pl, .slice ao Rs.length c], .int .i64 z] W fun e w' => e = .returned (.bool (und (pks Rs) z)) ∧ Fr (fun _ => False) W w' := by
  by_cases h1 : 1 ≤ z
  · by_cases h2 : z ≤ Rs.length
    · obtain ⟨k, rfl⟩ : ∃ k : Nat, z = (k : Int) + 1 := ⟨(z - 1).toNat, by omega⟩
      have hk : k < Rs.length := by omega
      obtain ⟨g, rfl, _, _, _, hc, _⟩ := h.at_ (List.getElem?_eq_getElem hk)
      have hgl : g < W.heap.size := lt_of_cell hc
      have e : und (pks Rs) ((k : Int) + 1) = decide (Rs[k].1.gone = 0) := by
        rw [und_nat, pks, List.getElem?_map, List.getElem?_eq_getElem hk]
        by_cases hG : Rs[k].1.gone = 0 <;> simp [hG]
      rw [e]
      generalize Rs[k].1.gone = G at *
      have h1' : (k : Int) + 1 ≥ 1 := h1
      clear h e
      go_enter Try.func27, Try.ntmps27
      go_wp2_with fail
      go_ret
      refine ⟨?_, box1 _ _⟩
      first
        | (congr 2; by_cases hG : G = 0 <;> simp [hG])
    · have e : und (pks Rs) z = false := by
        have : (pks Rs)[(z - 1).toNat]? = none := List.getElem?_eq_none (by rw [pks_len]; omega)
        unfold und
        rw [this]
        simp
      rw [e]
      have h1' : z ≥ 1 := h1
      clear h e
      go_enter Try.func27, Try.ntmps27
      go_wp2_with fail
      go_ret
      exact ⟨rfl, box1 _ _⟩
  · have e : und (pks Rs) z = false := und_neg _ _ (by omega)
    rw [e]
    have h1' : ¬ z ≥ 1 := h1
    clear h e
    go_enter Try.func27, Try.ntmps27
    go_wp2_with fail
    go_ret
    exact ⟨rfl, box1 _ _⟩
end Go.Proofs.Ytedmhpplhbaglaa
