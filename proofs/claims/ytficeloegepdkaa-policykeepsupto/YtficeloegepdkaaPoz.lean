import Derived.Test.YtficeloegepdkaaPow
namespace Go.Proofs.Ytficeloegepdkaa
open Go.RowKit

/-- append(v, x ..) of numbers that lie somewhere. -/
theorem app_x (w : World) (base : Nat) (v : Value) (l ys : List Nat) (g c : Nat) (h : w.ownsRow base 26 1 v l.length (ucells l)) (hx : ∀ j u, (ucells ys)[j]? = some u → w.cell? ⟨g, j, none⟩ = some u) (hb : base ≤ w.heap.size) (hl : l.length + ys.length ≤ 1048580) :
    ∃ ao cap w', (Builtin.append_ #[27, 27] 27 #[v, .slice (some ⟨g, 0, none⟩) ys.length c]).run Try.prog w = .ok (.slice ao (l.length + ys.length) cap) w' ∧ w'.ownsRow base 26 1 (.slice ao (l.length + ys.length) cap) (l.length + ys.length) (ucells (l ++ ys)) ∧ Fr (fun k => v.ownBlock = some k) w w' ∧ ((Value.slice ao (l.length + ys.length) cap).ownBlock = v.ownBlock ∨ (Value.slice ao (l.length + ys.length) cap).ownBlock = some w.heap.size) := by
  obtain ⟨i0, hi, hz0, hz1, hz2⟩ := info_parts Try.infoU32
  obtain ⟨v', w', hr, h2, h3, _, h5⟩ := run_append_own_at (P := Try.prog) (w := w) base 27 27 26 i0 (.int .u32 0) 1 4 Try.underlying27 hi hz0 hz1 hz2 rfl (by decide) v l.length (ucells l) h ⟨g, 0, none⟩ ys.length c (ucells ys) (by simp [ucells]) (fun j u hu => by
    rw [addr_add, Nat.zero_add]; exact hx j u hu) (fun u hu => by simp [ucells] at hu; obtain ⟨_, _, rfl⟩ := hu; rfl) (by simp only [maxLen]; omega) (by omega) hb
  obtain ⟨ao, cap, rfl⟩ := own_formX h2
  exact ⟨ao, cap, w', hr, by rw [ucells_app]; exact h2, (Fr.refl _ _).grown h3 (fun g hg => .inl hg), h5⟩
/-- append([]uint32{more}, x ..), wherever its first lies. -/
theorem app_one (w X : World) (bx : Obj) (more m : Nat) (G : List Nat) (va : Option Addr) (ca : Nat) (hU : MkU w (.slice va G.length ca) G) (hl : G.length ≤ 1048575) (hFX : Fr (fun _ => False) w X) (hm : w.heap.size + 1 ≤ m) (hmX : m < X.heap.size) (hown : X.ownsRow (w.heap.size + 1) 26 1 (.slice (some ⟨m, 0, none⟩) 1 1) [more].length (ucells [more])) (hbx : X.heap[w.heap.size]? = some bx) :
    ∃ a1 c1 wA, (Builtin.append_ #[27, 27] 27 #[.slice (some ⟨m, 0, none⟩) 1 1, .slice va G.length ca]).run Try.prog X = .ok (.slice a1 (1 + G.length) c1) wA ∧ wA.ownsRow (w.heap.size + 1) 26 1 (.slice a1 (1 + G.length) c1) ([more] ++ G).length (ucells ([more] ++ G)) ∧ Fr (fun _ => False) w wA ∧ wA.heap[w.heap.size]? = some bx ∧ X.heap.size ≤ wA.heap.size ∧ ∀ k, k < X.heap.size → k ≠ m → wA.heap[k]? = X.heap[k]? := by
  obtain ⟨g, c, e, h1, h2, h3⟩ := hU.at_
  simp only [Value.slice.injEq] at e
  obtain ⟨rfl, -, rfl⟩ := e
  obtain ⟨a1, c1, wA, hr1, ho1, hf1, _⟩ := app_x X (w.heap.size + 1) _ [more] G g ca hown (fun j u hu => (hFX.cell (p := ⟨g, j, none⟩) h2 (fun h => h)).trans (h3 j u (by rw [ucells_app, List.getElem?_append_left (List.getElem?_eq_some_iff.1 hu).1]; exact hu))) (by omega) (by simp; omega)
  have hne : ∀ k, k ≠ m → ¬ (Value.slice (some ⟨m, 0, none⟩) 1 1).ownBlock = some k := fun k hk e => by
    have e' := e
    simp [Value.ownBlock] at e'
    omega
  refine ⟨a1, c1, wA, hr1, ?_, ⟨hf1.os.trans hFX.os, hf1.tape.trans hFX.tape, hf1.output.trans hFX.output, Nat.le_trans hFX.size hf1.size, fun k hk _ => (hf1.block k (Nat.lt_of_lt_of_le hk hFX.size) (hne k (by omega))).trans (hFX.block k hk (fun h => h))⟩, (hf1.block w.heap.size (by omega) (hne _ (by omega))).trans hbx, hf1.size, fun k hk hkm => hf1.block k hk (hne k hkm)⟩
  rw [List.length_append]
  exact ho1
/-- What both appends leave. -/
def Two (w : World) (bx : Obj) (more : Nat) (G : List Nat) (ao : Option Addr) (cap : Nat) (wA wB : World) : Prop :=
  Fr (fun _ => False) w wA ∧ Fr (fun _ => False) w wB ∧ G.length + 2 ≤ cap ∧ (∃ g, ao = some ⟨g, 0, none⟩ ∧ w.heap.size + 1 ≤ g ∧ g < wB.heap.size ∧ ∀ j u, (ucells (more :: G))[j]? = some u → wB.cell? ⟨g, j, none⟩ = some u) ∧ wB.heap[w.heap.size]? = some bx
theorem two_end {w wA wB : World} {bx : Obj} {more : Nat} {G : List Nat} {a1 : Option Addr} {c1 : Nat} {ao : Option Addr} {cap : Nat} (hFA : Fr (fun _ => False) w wA) (hbA : wA.heap[w.heap.size]? = some bx) (ho1 : wA.ownsRow (w.heap.size + 1) 26 1 (.slice a1 (1 + G.length) c1) ([more] ++ G).length (ucells ([more] ++ G)))
    (ho2 : wB.ownsRow (w.heap.size + 1) 26 1 (.slice ao (([more] ++ G).length + [5].length) cap) (([more] ++ G).length + [5].length) (ucells (([more] ++ G) ++ [5]))) (hf2 : Fr (fun k => (Value.slice a1 (1 + G.length) c1).ownBlock = some k) wA wB) : Two w bx more G ao cap wA wB := by
  have hlA : w.heap.size < wA.heap.size := by
    rcases Nat.lt_or_ge w.heap.size wA.heap.size with h | h
    · exact h
    · rw [Array.getElem?_eq_none h] at hbA; cases hbA
  have hb1 : ∀ k, (Value.slice a1 (1 + G.length) c1).ownBlock = some k → w.heap.size + 1 ≤ k := fun k hk => (ho1.lt k hk).1
  refine ⟨hFA, ⟨hf2.os.trans hFA.os, hf2.tape.trans hFA.tape, hf2.output.trans hFA.output, Nat.le_trans hFA.size hf2.size, fun k hk _ => (hf2.block k (by omega) (fun e => by have := hb1 k e; omega)).trans (hFA.block k hk (fun h => h))⟩, ?_, ?_, (hf2.block w.heap.size hlA (fun e => by have := hb1 _ e; omega)).trans hbA⟩
  · rcases ho2.2 with ⟨_, e0⟩ | ⟨g2, cap', cur, e, hlt2, hrest⟩
    · simp at e0
    · simp only [Value.slice.injEq] at e
      obtain ⟨_, _, rfl⟩ := e
      have := hrest.2.1
      simp at this
      omega
  · rcases ho2.2 with ⟨_, e0⟩ | ⟨g2, cap', cur, e, hlt2, hrest⟩
    · simp at e0
    · simp only [Value.slice.injEq] at e
      obtain ⟨rfl, _, rfl⟩ := e
      refine ⟨g2, rfl, hlt2, (ho2.lt g2 rfl).2, fun j u hu => ?_⟩
      have := ho2.cells (g := g2) rfl j u (by
        rw [ucells_app]
        exact (List.getElem?_append_left (show j < (ucells ([more] ++ G)).length from (List.getElem?_eq_some_iff.1 hu).1)).trans hu)
      rw [addr_add, Nat.zero_add] at this
      exact this
/-- append(append([]uint32{more}, x ..), 5), behind a box: 5 is laid last. -/
theorem two_a (w : World) (bx : Obj) (more : Nat) (G : List Nat) (va : Option Addr) (ca : Nat) (hU : MkU w (.slice va G.length ca) G) (hl : G.length ≤ 1048575) :
    ∃ ao1 cap1 ao cap wA wB, (Builtin.append_ #[27, 27] 27 #[.slice (some ⟨w.heap.size + 1, 0, none⟩) 1 1, .slice va G.length ca]).run Try.prog ((w.alloc bx).alloc (.cells #[.int .u32 (more : Nat)] 26)).drew = .ok (.slice ao1 (1 + G.length) cap1) wA ∧
      (Builtin.append_ #[27, 27] 27 #[.slice ao1 (1 + G.length) cap1, .slice (some ⟨wA.heap.size, 0, none⟩) 1 1]).run Try.prog (wA.alloc (.cells #[.int .u32 5] 26)) = .ok (.slice ao (1 + G.length + 1) cap) wB ∧ Two w bx more G ao cap wA wB := by
  have s1 : (w.alloc bx).heap.size = w.heap.size + 1 := by simp
  have h0 := World.ownsRow_lit (e := 26) (size := 1) (w.alloc bx) #[.int .u32 (more : Nat)] 1 (Nat.le_refl _) (by simp only [maxLen]; omega) rfl
  rw [s1] at h0
  obtain ⟨a1, c1, wA, hr1, ho1, hFA, hbA, hlA, _⟩ := app_one w ((w.alloc bx).alloc (.cells #[.int .u32 (more : Nat)] 26)).drew bx more (w.heap.size + 1) G va ca hU hl (((((Fr.refl _ _).alloc _).alloc _)).drew) (Nat.le_refl _) (by show w.heap.size + 1 < ((w.alloc bx).alloc _).heap.size; simp) h0 ((Below.heap_alloc _ _ _ (by rw [s1]; omega)).trans Array.getElem?_push_size)
  have el : ([more] ++ G).length = 1 + G.length := by simp; omega
  have hA1 : w.heap.size + 1 ≤ wA.heap.size := by
    have h4 : ((w.alloc bx).alloc (.cells #[.int .u32 (more : Nat)] 26)).drew.heap.size = w.heap.size + 1 + 1 := by
      show ((w.alloc bx).alloc _).heap.size = _
      simp
    omega
  obtain ⟨a2, c2, wB, hr2, ho2, hf2⟩ := app_us wA (w.heap.size + 1) (.slice a1 (1 + G.length) c1) ([more] ++ G) [5] ho1 hA1 (by simp; omega)
  refine ⟨a1, c1, a2, c2, wA, wB, hr1, ?_, two_end hFA hbA ho1 ho2 hf2⟩
  rw [el] at hr2
  exact hr2
/-- The same, 5 laid ahead of the first append (b: behind more; c: ahead of it). -/
theorem two_bc (w X : World) (bx : Obj) (more m f : Nat) (G : List Nat) (va : Option Addr) (ca : Nat) (hU : MkU w (.slice va G.length ca) G) (hl : G.length ≤ 1048575) (hFX : Fr (fun _ => False) w X) (hm : w.heap.size + 1 ≤ m) (hmX : m < X.heap.size) (hfm : f ≠ m) (hown : X.ownsRow (w.heap.size + 1) 26 1 (.slice (some ⟨m, 0, none⟩) 1 1) [more].length (ucells [more])) (hbx : X.heap[w.heap.size]? = some bx) (h5 : X.cell? ⟨f, 0, none⟩ = some (.int .u32 5)) :
    ∃ ao1 cap1 ao cap wA wB, (Builtin.append_ #[27, 27] 27 #[.slice (some ⟨m, 0, none⟩) 1 1, .slice va G.length ca]).run Try.prog X = .ok (.slice ao1 (1 + G.length) cap1) wA ∧
      (Builtin.append_ #[27, 27] 27 #[.slice ao1 (1 + G.length) cap1, .slice (some ⟨f, 0, none⟩) 1 1]).run Try.prog wA = .ok (.slice ao (1 + G.length + 1) cap) wB ∧ Two w bx more G ao cap wA wB := by
  obtain ⟨a1, c1, wA, hr1, ho1, hFA, hbA, hlA, hkp⟩ := app_one w X bx more m G va ca hU hl hFX hm hmX hown hbx
  have el : ([more] ++ G).length = 1 + G.length := by simp; omega
  have h5A : wA.cell? ⟨f, 0, none⟩ = some (.int .u32 5) := (World.cell?_of_block (w := X) (hkp f (lt_of_cell h5) hfm)).trans h5
  obtain ⟨a2, c2, wB, hr2, ho2, hf2, _⟩ := app_x wA (w.heap.size + 1) (.slice a1 (1 + G.length) c1) ([more] ++ G) [5] f 1 ho1 (fun j u hu => by
    rcases j with _ | j
    · simp [ucells] at hu; subst hu; exact h5A
    · simp [ucells] at hu) (by omega) (by simp; omega)
  refine ⟨a1, c1, a2, c2, wA, wB, hr1, ?_, two_end hFA hbA ho1 ho2 hf2⟩
  rw [el] at hr2
  exact hr2
theorem two_b (w : World) (bx : Obj) (more : Nat) (G : List Nat) (va : Option Addr) (ca : Nat) (hU : MkU w (.slice va G.length ca) G) (hl : G.length ≤ 1048575) :
    ∃ ao1 cap1 ao cap wA wB, (Builtin.append_ #[27, 27] 27 #[.slice (some ⟨w.heap.size + 1, 0, none⟩) 1 1, .slice va G.length ca]).run Try.prog (((w.alloc bx).alloc (.cells #[.int .u32 (more : Nat)] 26)).alloc (.cells #[.int .u32 5] 26)).drew = .ok (.slice ao1 (1 + G.length) cap1) wA ∧
      (Builtin.append_ #[27, 27] 27 #[.slice ao1 (1 + G.length) cap1, .slice (some ⟨w.heap.size + 1 + 1, 0, none⟩) 1 1]).run Try.prog wA = .ok (.slice ao (1 + G.length + 1) cap) wB ∧ Two w bx more G ao cap wA wB := by
  have s1 : (w.alloc bx).heap.size = w.heap.size + 1 := by simp
  have s2 : ((w.alloc bx).alloc (.cells #[.int .u32 (more : Nat)] 26)).heap.size = w.heap.size + 1 + 1 := by simp
  have h0 := World.ownsRow_lit (e := 26) (size := 1) (w.alloc bx) #[.int .u32 (more : Nat)] 1 (Nat.le_refl _) (by simp only [maxLen]; omega) rfl
  rw [s1] at h0
  refine two_bc w (((w.alloc bx).alloc (.cells #[.int .u32 (more : Nat)] 26)).alloc (.cells #[.int .u32 5] 26)).drew bx more (w.heap.size + 1) (w.heap.size + 1 + 1) G va ca hU hl ((((((Fr.refl _ _).alloc _).alloc _)).alloc _).drew) (Nat.le_refl _) (by show w.heap.size + 1 < (((w.alloc bx).alloc _).alloc _).heap.size; simp) (by omega) ?_ ((Below.heap_alloc _ _ _ (by rw [s2]; omega)).trans ((Below.heap_alloc _ _ _ (by rw [s1]; omega)).trans Array.getElem?_push_size)) ?_
  · exact ownsRow_of_block (w' := (((w.alloc bx).alloc (.cells #[.int .u32 (more : Nat)] 26)).alloc (.cells #[.int .u32 5] 26)).drew) h0 (fun k hk => by
      have hk' : w.heap.size + 1 = k := by simpa [Value.ownBlock] using hk
      subst hk'
      exact Below.heap_alloc _ _ _ (by rw [s2]; omega))
  · show (((w.alloc bx).alloc _).alloc _).cell? _ = _
    rw [World.cell?_alloc_at _ _ _ _ s2.symm]
    rfl
theorem two_c (w : World) (bx : Obj) (more : Nat) (G : List Nat) (va : Option Addr) (ca : Nat) (hU : MkU w (.slice va G.length ca) G) (hl : G.length ≤ 1048575) :
    ∃ ao1 cap1 ao cap wA wB, (Builtin.append_ #[27, 27] 27 #[.slice (some ⟨w.heap.size + 1 + 1, 0, none⟩) 1 1, .slice va G.length ca]).run Try.prog (((w.alloc bx).alloc (.cells #[.int .u32 5] 26)).alloc (.cells #[.int .u32 (more : Nat)] 26)).drew = .ok (.slice ao1 (1 + G.length) cap1) wA ∧
      (Builtin.append_ #[27, 27] 27 #[.slice ao1 (1 + G.length) cap1, .slice (some ⟨w.heap.size + 1, 0, none⟩) 1 1]).run Try.prog wA = .ok (.slice ao (1 + G.length + 1) cap) wB ∧ Two w bx more G ao cap wA wB := by
  have s1 : (w.alloc bx).heap.size = w.heap.size + 1 := by simp
  have s2 : ((w.alloc bx).alloc (.cells #[.int .u32 5] 26)).heap.size = w.heap.size + 1 + 1 := by simp
  have h0 := World.ownsRow_lit (e := 26) (size := 1) (base := w.heap.size + 1) ((w.alloc bx).alloc (.cells #[.int .u32 5] 26)) #[.int .u32 (more : Nat)] 1 (by rw [s2]; omega) (by simp only [maxLen]; omega) rfl
  rw [s2] at h0
  refine two_bc w (((w.alloc bx).alloc (.cells #[.int .u32 5] 26)).alloc (.cells #[.int .u32 (more : Nat)] 26)).drew bx more (w.heap.size + 1 + 1) (w.heap.size + 1) G va ca hU hl ((((((Fr.refl _ _).alloc _).alloc _)).alloc _).drew) (by omega) (by show w.heap.size + 1 + 1 < (((w.alloc bx).alloc _).alloc _).heap.size; simp) (by omega) h0 ((Below.heap_alloc _ _ _ (by rw [s2]; omega)).trans ((Below.heap_alloc _ _ _ (by rw [s1]; omega)).trans Array.getElem?_push_size)) ?_
  show (((w.alloc bx).alloc _).alloc _).cell? _ = _
  rw [World.cell?_alloc_past _ _ _ (by rw [s2]; omega), World.cell?_alloc_at _ _ _ _ s1.symm]
  rfl
theorem keep_am {S : List P3} {k wd ow : Nat} {sl : Bool} {G : List Nat} {F : List F5} : (ansv S k fun p => gAm p k wd ow sl G F) = 0 → (ansv S k fun p => gRd p k wd ow sl G) = 0 := by
  unfold ansv
  rcases perso S k with _ | p
  · exact fun h => h
  · simp only [gAm]
    split
    · exact fun h => h
    · rename_i h
      exact fun _ => by simpa using h
theorem keep_seal {S : List P3} {k wd ow : Nat} {G : List Nat} : (ansv S k fun p => gRd p k wd ow true G) = 0 → (ansv S k fun p => gRd p k wd ow false G) = 0 := by
  unfold ansv
  rcases perso S k with _ | p
  · exact fun h => h
  · simp only [gRd]
    by_cases h1 : k = ow <;> by_cases h2 : p.w = wd <;> by_cases h3 : p.r = 3 <;> by_cases h4 : p.r = 2 <;> by_cases h5 : p.r = 1 <;> by_cases h6 : k ∈ G <;> simp_all
theorem keep_more {S : List P3} {k wd ow more : Nat} {sl : Bool} {G : List Nat} : ((ansv S k fun p => gRd p k wd ow sl G) = 0 → (ansv S k fun p => gRd p k wd ow sl (more :: G)) = 0) ∧ ((ansv S k fun p => gRd p k wd ow sl G) = (ansv S k fun p => gRd p k wd ow sl (more :: G)) ∨ k = more ∧ (ansv S k fun p => gRd p k wd ow sl (more :: G)) = 0) := by
  unfold ansv
  rcases perso S k with _ | p
  · exact ⟨fun h => h, .inl rfl⟩
  · simp only [gRd]
    by_cases h1 : k = ow <;> by_cases h2 : p.w = wd <;> by_cases h3 : p.r = 3 <;> by_cases h4 : p.r = 2 <;> by_cases h5 : p.r = 1 <;> cases sl <;> by_cases h6 : k ∈ G <;> by_cases h7 : k = more <;> simp_all
end Go.Proofs.Ytficeloegepdkaa
