import Derived.Test.YtoflkfnmbighaaaDks
namespace Go.Proofs.Ytoflkfnmbighaaa
open Go.RowKit Go.ChangeShapes Go.WideShapes Go.Maps Go.Sort

theorem ranges_keep {w w' : World} {m r n cnt : Nat} {D : DataW Unit} {left : Lit → Bool} (h : w.ranges Try.prog 9 Rp m r n D left cnt) (hb : w'.heap[m]? = w.heap[m]?) (hr : w'.heap[r]? = w.heap[r]?) : w'.ranges Try.prog 9 Rp m r n D left cnt := by
  obtain ⟨es, clock, since, seen, c0, h1, F, hs, hD, h2, h3, h4, h5, h6, h7, h8⟩ := h
  exact ⟨es, clock, since, seen, c0, hb.trans h1, F, hs, hD, hr.trans h2, h3, h4, h5, h6, h7, h8⟩
theorem ranges_objs {w : World} {m r n cnt : Nat} {D : DataW Unit} {left : Lit → Bool} (h : w.ranges Try.prog 9 Rp m r n D left cnt) : (∃ es c, w.heap[m]? = some (.map es c)) ∧ ∃ a b c d, w.heap[r]? = some (.mapIter a b c d) := by
  obtain ⟨es, clock, since, seen, c0, h1, F, hs, hD, h2, _⟩ := h
  exact ⟨⟨_, _, h1⟩, _, _, _, _, h2⟩
theorem pcs_at (ps : List (Nat × Nat)) (k : Nat) (p : Nat × Nat) (h : ps[k]? = some p) : (pcells ps)[k * 2]? = some (.int .i64 (p.1 : Nat)) ∧ (pcells ps)[k * 2 + 1]? = some (.int .i64 (p.2 : Nat)) := by
  induction ps generalizing k with
  | nil => simp at h
  | cons x r ih =>
    have e : pcells (x :: r) = .int .i64 (x.1 : Nat) :: .int .i64 (x.2 : Nat) :: pcells r := rfl
    cases k with
    | zero => simp at h; subst h; rw [e]; simp
    | succ k =>
      simp at h
      obtain ⟨h1, h2⟩ := ih k h
      rw [e]
      exact ⟨by rw [show (k + 1) * 2 = k * 2 + 1 + 1 by omega]; simpa using h1, by rw [show (k + 1) * 2 + 1 = k * 2 + 1 + 1 + 1 by omega]; simpa using h2⟩
theorem size_alloc1 (w : World) (o : Obj) : (w.alloc o).heap.size = w.heap.size + 1 := by simp
/-- A row of one's own stays, where the walk over a map goes on. -/
theorem own_over {w w' : World} {base e size n : Nat} {v : Value} {xs : List Value} {m r nn cnt : Nat} {D : DataW Unit} {left : Lit → Bool} (h : w.ownsRow base e size v n xs) (hr : w.ranges Try.prog 9 Rp m r nn D left cnt) (hg : w.grownBy w' (some r)) : w'.ownsRow base e size v n xs := by
  refine ownsRow_of_block h (fun g hgb => ?_)
  refine ((Fr.refl (fun k => k = r) w).grown hg (fun k hk => .inl (by cases hk; rfl))).block g (h.lt g hgb).2 (fun e => ?_)
  subst e
  obtain ⟨_, a, b, c, d, h2⟩ := ranges_objs hr
  rcases h.2 with ⟨e1, _⟩ | ⟨g', cap', cur, e1, h1, h3, _⟩
  · rw [e1] at hgb; cases hgb
  · rw [e1] at hgb; cases hgb
    rw [h2] at h3; cases h3
/-- What the sort by the writes' numbers tells. -/
def SortC : Prop := ∀ (w : World) (base : Nat) (L : List Own3) (ao : Option Addr) (cap : Nat), w.ownsRow base 102 3 (.slice ao L.length cap) L.length (ocells L) → L.length ≤ 1000000 →
  Calls Try.prog 62 #[.slice ao L.length cap, .func (.func 63) #[] #[]] w fun e w' => e = .returned (.tuple #[]) ∧ ∃ L' : List Own3, L'.Perm L ∧ L'.Pairwise (fun a b => a.wr ≤ b.wr) ∧ w'.ownsRow base 102 3 (.slice ao L.length cap) L.length (ocells L') ∧ Fr (fun g => (Value.slice ao L.length cap).ownBlock = some g) w w'
set_option maxHeartbeats 2000000 in
set_option maxRecDepth 100000 in
/-- The pieces of all files, gathered and sorted. -/
theorem gather_any (d m : Nat) (s : DM) (q : DW) (O : Nat → Prop) (w : World) (h : DkAt w d m s q O) (htot : (s.allp q).length ≤ 1000000) (hpl0 : ∀ k, Maps.has s.D (.string k) = true → (s.F k).ps.length ≤ 1000000) (hsort : SortC) :
    Calls Try.prog 57 #[.pointer (some ⟨d, 0, none⟩)] w fun e w' => ∃ (ao : Option Addr) (cap : Nat) (L : List Own3), e = .returned (.slice ao L.length cap) ∧ L.Perm (s.allp q) ∧ L.Pairwise (fun a b => a.wr ≤ b.wr) ∧ w'.ownsRow w.heap.size 102 3 (.slice ao L.length cap) L.length (ocells L) ∧ Fr (fun _ => False) w w' := by
  obtain ⟨c0, c1, c2, c3, c4, c5, c6, c7, fz⟩ := h.cells
  clear c0 c2 c3 c4 c5 c6 c7 fz
  obtain ⟨es, hes, hpw, hkl⟩ := h.map.entries Try.sK
  have hmap := h.map
  have hml := hmap.lt
  have H := hide h
  clear h
  go_enter Try.func57, Try.ntmps57
  go_wp2_with (first
    | (at_range; refine wpList_range_own _ rfl _ 46 rfl 9 69 Try.sK Try.underlying46 _ m _ _ rfl hmap ?_; intro w0 hrg0 hg0 hs0)
    | go_in)
  go_frame
  have hall : s.allp q = catA (s.pcs q) es := by rw [DM.allp, hes]; rfl
  have hcat0 : catL (s.pcs q) (Maps.has s.D) es = s.allp q := by
    rw [hall]
    refine catL_all _ _ _ (fun p hp => ?_)
    rw [hes]
    exact List.any_eq_true.2 ⟨p, hp, WideAt.sameKey_self (hkl p hp)⟩
  have HR0 := hide (And.intro hrg0 (And.intro hg0 (And.intro hs0 hcat0)))
  have HH := hide (And.intro hes hpw)
  have HP : Hid (∀ k, Maps.has s.D (.string k) = true → (s.F k).ps.length ≤ 1000000) := hide hpl0
  clear hrg0 hg0 hs0 hcat0 hall hes hpw hkl hmap
  go_loopw [3, 5, 7] (fun av _ _ wr => ∃ (left : Lit → Bool) (cnt : Nat) (L : List Own3) (ao : Option Addr) (cap : Nat), av = .slice ao L.length cap ∧ wr.ranges Try.prog 9 Rp m w.heap.size (Maps.size s.D) s.D left cnt ∧ (L ++ catL (s.pcs q) left es).Perm (s.allp q) ∧ wr.ownsRow w.heap.size 102 3 (.slice ao L.length cap) L.length (ocells L) ∧ Fr (fun _ => False) w wr) (fun _ _ _ wr => wr.rangeLeft m w.heap.size)
  case atStart => exact ⟨_, _, [], none, 0, rfl, (unhide HR0).1, by rw [List.nil_append, (unhide HR0).2.2.2], World.ownsRow_nil _ _ _ _, (Fr.refl _ _).grown (unhide HR0).2.1 (fun k hk => by cases hk)⟩
  case round =>
    obtain ⟨left, cnt, L, ao, cap, rfl, hrg, hpm, hrow, hfr⟩ := hrel
    have HZ := hide (And.intro hpm (And.intro hrow hfr))
    clear hpm hrow hfr
    go_wp2_with (first
      | (at_next; refine wpList_next_ranges (α := ByteArray) (β := Option Nat) _ rfl _ rfl 9 Try.sK Rp Value.string (fun o => .pointer (o.map fun b => ⟨b, 0, none⟩)) (fun key kl hk => Maps.keyOf_string_inv Try.underlying9 hk) (fun v y hv => by
          rcases Rp_inv hv with ⟨rfl, _⟩ | ⟨b, rfl, _⟩
          · exact ⟨none, rfl⟩
          · exact ⟨some b, rfl⟩) m w.heap.size (Maps.size s.D) _ _ _ rfl hrg ?_ ?_)
      | go_in)
    · intro hc0 hl0
      have hpm := (unhide HZ).1
      rw [catL_none _ _ hl0, List.append_nil] at hpm
      have hS := hsort wr w.heap.size L ao cap (unhide HZ).2.1 (by rw [hpm.length_eq]; exact htot)
      have HS := hide hS
      have HM := hide hpm
      clear hS hpm hsort
      go_wp2_with (go_at_call 62; refine (unhide HS).mono ?_; clear HS; rintro e w2 ⟨rfl, L2, hpm2, hpw2, hrow2, hfr2⟩)
      go_ret
      refine ⟨ao, cap, L2, by rw [hpm2.length_eq]; rfl, hpm2.trans (unhide HM), hpw2, by rw [hpm2.length_eq]; exact hrow2, (unhide HZ).2.2.absorb hfr2 (fun g hg => ((unhide HZ).2.1.lt g hg).1)⟩
    · intro x c kl y1 y2 w1 cnt1 hkx hlx hcy hat hrg1 hlt hg1 hs1 hen
      have hkl : kl = .string (nm x) := by
        obtain ⟨x', ex, rfl, _⟩ := Maps.keyOf_str Try.underlying9 hkx
        have := key_nm x (by
          by_cases hx : x.size ≤ maxLen
          · exact hx
          · simp [keyOf, mapKey, Try.underlying9, hx] at hkx)
        rw [hkx] at this
        exact Option.some.inj this
      subst hkl
      have hhas : Maps.has s.D (.string (nm x)) = true := Maps.has_true_of_atKey hat
      have hA := (unhide H).at_ _ hhas
      have hy1 : y1 = .lit (.int .i64 (q.fb (nm x) : Nat)) := by rw [← hat .nil]; exact hA.1
      have hc : c = some (q.fb (nm x)) := by
        rcases Rp_inv hcy with ⟨hv, hy⟩ | ⟨b, hv, hy⟩
        · rw [hy1] at hy; cases hy
        · have hb' : (q.fb (nm x) : Int) = b := by rw [hy1] at hy; injection hy with h1 _; injection h1 with h1; injection h1
          cases c with
          | none => cases hv
          | some c => simp at hv; rw [hv]; congr 1; omega
      subst hc
      have hf1 : Fr (fun _ => False) w w1 := (unhide HZ).2.2.grown hg1 (fun k hk => .inr (by cases hk; exact Nat.le_refl _))
      have hA1 := hA.2.keep (hf1.block _ hA.2.lt.1 (fun h => h)) (fun g hg => hf1.block g (hA.2.lt.2.1 g hg) (fun h => h)) (fun g hg => hf1.block g (hA.2.lt.2.2 g hg) (fun h => h))
      obtain ⟨a0, a1, a2, _⟩ := hA1.cells
      obtain ⟨po, pc, ep⟩ := own_formX hA1.po
      rw [ep] at a2
      simp only [Option.map_some] at hen ⊢
      have hpl : (s.F (nm x)).ps.length ≤ 1000000 := by
        have := (unhide HP) (nm x) hhas
        omega
      have hpo := hA.2.po
      rw [ep] at hpo
      have hLp : L.length + (s.F (nm x)).ps.length ≤ 1000000 := by
        have h1 := (unhide HZ).1.length_eq
        have h2 := (catL_step (s.pcs q) left (.string (nm x)) ((Try.sK).key hkx) hlx es (unhide HH).2 (by rw [(unhide HH).1] at hhas; exact hhas)).length_eq
        simp only [List.length_append, DM.pcs, List.length_map] at h1 h2
        omega
      have HR := hide (And.intro hrg1 (And.intro hlt (And.intro hf1 (And.intro hrg (And.intro hlx (And.intro hhas (And.intro hkx hpo)))))))
      have hr1 : w1.ownsRow w.heap.size 102 3 (.slice ao L.length cap) L.length (ocells L) := own_over (unhide HZ).2.1 hrg hg1
      have HO := hide hr1
      clear hr1 hpo hrg1 hlt hf1 hg1 hs1 hrg hlx hhas hat hcy hkx hA hA1 ep hy1 a0 a1
      have e5 : (s.F (nm x)).ps = (s.F (nm x)).ps := rfl
      generalize hps : (s.F (nm x)).ps = ps at *
      generalize hfb : q.fb (nm x) = fb at *
      have HQ := hide (And.intro hps hfb)
      clear hps hfb e5
      go_wp2_with fail
      go_loopw [3, 7, 22] (fun av _ iv wi => ∃ (k : Nat) (L' : List Own3) (ao' : Option Addr) (cap' : Nat), av = .slice ao' L'.length cap' ∧ iv = .int .i64 (k : Nat) ∧ k ≤ ps.length ∧ L' = L ++ (ps.take k).map (fun p => Own3.mk p.1 p.2 fb) ∧ wi.ownsRow w.heap.size 102 3 (.slice ao' L'.length cap') L'.length (ocells L') ∧ wi.ranges Try.prog 9 Rp m w.heap.size (Maps.size s.D) s.D (fun z => left z && !z.sameKey (.string (nm x))) cnt1 ∧ Fr (fun _ => False) w wi) (fun _ _ iv _ => ps.length - (intOf iv).toNat)
      case atStart => exact ⟨0, L, ao, cap, rfl, rfl, Nat.zero_le _, by simp, unhide HO, (unhide HR).1, (unhide HR).2.2.1⟩
      case round =>
        obtain ⟨k, L', ao', cap', rfl, rfl, hk, hL, hrow', hrg', hfr'⟩ := hrel
        have hL'l : L'.length = L.length + k := by rw [hL]; simp; omega
        by_cases hkl : k < ps.length
        · have hpw := ownsRow_of_block (unhide HR).2.2.2.2.2.2.2 (fun g hg => hfr'.block g ((unhide HR).2.2.2.2.2.2.2.lt g hg).2 (fun h => h))
          obtain ⟨gb, cb, eb, _, _⟩ := hpw.form (by omega)
          simp only [Value.slice.injEq, true_and] at eb
          obtain ⟨rfl, rfl⟩ := eb
          have hkp := pcs_at ps k (ps[k]) (List.getElem?_eq_getElem hkl)
          have hc1 : wr.cell? ⟨gb, k * 2, none⟩ = some (.int .i64 ((ps[k]).1 : Nat)) := (hpw.cellAt (k * 2) (by omega)).trans hkp.1
          have hc2 : wr.cell? ⟨gb, k * 2 + 1, none⟩ = some (.int .i64 ((ps[k]).2 : Nat)) := (hpw.cellAt (k * 2 + 1) (by omega)).trans hkp.2
          have hgbl : gb < wr.heap.size := (hpw.lt gb rfl).2
          have HW := hide (And.intro hL (And.intro hrow' (And.intro hrg' hfr')))
          clear hL hrow' hrg' hfr' hkp hpw
          generalize hpk : ps[k] = pk at *
          have HPK := hide hpk
          clear hpk
          have hsz : (wr.alloc (.cells #[.int .i64 (pk.1 : Nat), .int .i64 (pk.2 : Nat)] 98)).heap.size = wr.heap.size + 1 := size_alloc1 _ _
          have hrow2 : (wr.alloc (.cells #[.int .i64 (pk.1 : Nat), .int .i64 (pk.2 : Nat)] 98)).ownsRow w.heap.size 102 3 (.slice ao' L'.length cap') L'.length (ocells L') := ownsRow_of_block (unhide HW).2.1 (fun g hg => Below.heap_alloc _ _ _ ((unhide HW).2.1.lt g hg).2)
          obtain ⟨ao2, cap2, w3, hr3, hown3, hf3, hat3⟩ := app_owned _ w.heap.size _ L' ⟨pk.1, pk.2, fb⟩ hrow2 (by rw [hsz]; exact Nat.le_succ_of_le (unhide HW).2.2.2.size) (by omega)
          rw [hsz] at hr3
          have HR3 := hide hr3
          have hf4 : Fr (fun g => (Value.slice ao' L'.length cap').ownBlock = some g) wr w3 := ((box1 wr _).mono (fun _ _ h => h.elim)).trans hf3 (fun _ _ h => h)
          have hF3 : Fr (fun _ => False) w w3 := (unhide HW).2.2.2.absorb hf4 (fun g hg => ((unhide HW).2.1.lt g hg).1)
          have hG3 : w3.ranges Try.prog 9 Rp m w.heap.size (Maps.size s.D) s.D (fun z => left z && !z.sameKey (.string (nm x))) cnt1 := by
            refine ranges_keep (unhide HW).2.2.1 (hf4.block m (Nat.lt_of_lt_of_le hml (unhide HW).2.2.2.size) (fun e => ?_)) ?_
            · have := ((unhide HW).2.1.lt m e).1
              omega
            · obtain ⟨_, a, b, c, d', h2⟩ := ranges_objs (unhide HW).2.2.1
              refine hf4.block _ (lt_of_block h2) (fun e => ?_)
              obtain ⟨cur, hc⟩ := own_blk (unhide HW).2.1 e
              rw [h2] at hc; cases hc
          have HE : Hid (L' ++ [Own3.mk pk.1 pk.2 fb] = L ++ (ps.take (k + 1)).map (fun p => Own3.mk p.1 p.2 fb)) := hide (by
            rw [(unhide HW).1, List.take_succ_eq_append_getElem hkl, List.map_append, List.map_cons, List.map_nil, unhide HPK, List.append_assoc])
          have HX := hide (And.intro hown3 (And.intro hG3 hF3))
          clear hsz hrow2 hr3 hf4 hF3 hG3 hown3 hf3 hat3
          have HLL := hide hL'l
          have hLL : L'.length ≤ 1000000 := by omega
          clear hL'l
          go_wp2_with (at_builtin; refine wpList_app rfl _ _ 99 99 rfl _ _ _ rfl rfl (unhide HR3) ?_; clear HR3)
          exact ⟨⟨k + 1, L' ++ [Own3.mk pk.1 pk.2 fb], ao2, cap2, by rw [List.length_append]; rfl, by simp, hkl, unhide HE, by rw [List.length_append]; exact (unhide HX).1, (unhide HX).2.1, (unhide HX).2.2⟩, by simp only [intOf]; omega⟩
        · have hke : k = ps.length := by omega
          subst hke
          have HW := hide (And.intro hL (And.intro hrow' (And.intro hrg' hfr')))
          clear hL hrow' hrg' hfr'
          go_wp2_with fail
          refine ⟨⟨_, cnt1, L', ao', cap', rfl, (unhide HW).2.2.1, ?_, (unhide HW).2.1, (unhide HW).2.2.2⟩, by rw [(unhide HW).2.2.1.left_eq, (unhide HR).2.2.2.1.left_eq]; exact (unhide HR).2.1⟩
          have h2 := catL_step (s.pcs q) left (.string (nm x)) ((Try.sK).key (unhide HR).2.2.2.2.2.2.1) (unhide HR).2.2.2.2.1 es (unhide HH).2 (by have := (unhide HR).2.2.2.2.2.1; rw [(unhide HH).1] at this; exact this)
          have e3 : s.pcs q (.string (nm x)) = ps.map (fun p => Own3.mk p.1 p.2 fb) := by rw [DM.pcs, (unhide HQ).1, (unhide HQ).2]
          rw [e3] at h2
          rw [(unhide HW).1, List.take_length, List.append_assoc]
          exact (List.Perm.append_left L h2.symm).trans (unhide HZ).1
end Go.Proofs.Ytoflkfnmbighaaa
