import Derived.Test.YtoflkfnmbighaaaDkg
import Derived.Sort.KeysCollected
namespace Go.Proofs.Ytoflkfnmbighaaa
open Go.RowKit Go.ChangeShapes Go.WideShapes Go.Maps Go.Sort

/-- The entries of a map. -/
def ents : DataW Unit → List (Lit × DataW Unit)
  | .map es => es
  | _ => []
/-- How many bytes of a file are pending, by its key. -/
def DM.pd (s : DM) : Lit → Int
  | .string x => ((s.F x).b.length : Int) - ((s.F x).safe : Int)
  | _ => 0
def sumL (g : Lit → Int) (left : Lit → Bool) : List (Lit × DataW Unit) → Int
  | [] => 0
  | p :: r => (if left p.1 then g p.1 else 0) + sumL g left r
def sumA (g : Lit → Int) : List (Lit × DataW Unit) → Int
  | [] => 0
  | p :: r => g p.1 + sumA g r
theorem sumL_all (g : Lit → Int) (left : Lit → Bool) : ∀ l : List (Lit × DataW Unit), (∀ p ∈ l, left p.1 = true) → sumL g left l = sumA g l
  | [], _ => rfl
  | p :: r, h => by
    simp only [sumL, sumA, h p (List.mem_cons_self ..), if_true]
    rw [sumL_all g left r (fun x hx => h x (List.mem_cons_of_mem _ hx))]
theorem sumL_none (g : Lit → Int) (left : Lit → Bool) (hl : ∀ k, left k = false) : ∀ l : List (Lit × DataW Unit), sumL g left l = 0
  | [] => rfl
  | p :: r => by
    simp only [sumL, hl p.1]
    rw [sumL_none g left hl r]
    rfl
theorem sumL_same (g : Lit → Int) (left : Lit → Bool) (k : Lit) : ∀ l : List (Lit × DataW Unit), (∀ p ∈ l, p.1 ≠ k) → sumL g (fun z => left z && !z.sameKey k) l = sumL g left l
  | [], _ => rfl
  | p :: r, h => by
    have e : p.1.sameKey k = false := Maps.sameKey_ne (h p (List.mem_cons_self ..))
    simp only [sumL, e, Bool.not_false, Bool.and_true]
    rw [sumL_same g left k r (fun x hx => h x (List.mem_cons_of_mem _ hx))]
theorem sumL_step (g : Lit → Int) (left : Lit → Bool) (k : Lit) (hk : WideAt.IsKeyLit k) (hl : left k = true) : ∀ l : List (Lit × DataW Unit), l.Pairwise (fun p q => p.1 ≠ q.1) → l.any (fun p => p.1.sameKey k) = true → sumL g left l = sumL g (fun z => left z && !z.sameKey k) l + g k
  | [], _, h => by simp at h
  | p :: r, hp, h => by
    rw [List.pairwise_cons] at hp
    by_cases e : p.1 = k
    · have e2 := sumL_same g left k r (fun x hx e3 => hp.1 x hx (e.trans e3.symm))
      simp only [sumL, e, WideAt.sameKey_self hk, hl, Bool.not_true, Bool.and_false, if_true]
      rw [e2]
      simp
      omega
    · have e1 : p.1.sameKey k = false := Maps.sameKey_ne e
      have h' : r.any (fun p => p.1.sameKey k) = true := by simpa [e1] using h
      have ih := sumL_step g left k hk hl r hp.2 h'
      simp only [sumL, e1, Bool.not_false, Bool.and_true]
      rw [ih]
      omega
theorem sumL_pos (g : Lit → Int) (left : Lit → Bool) : ∀ l : List (Lit × DataW Unit), (∀ p ∈ l, 0 ≤ g p.1) → 0 ≤ sumL g left l
  | [], _ => Int.le_refl _
  | p :: r, h => by
    have h1 := h p (List.mem_cons_self ..)
    have h2 := sumL_pos g left r (fun x hx => h x (List.mem_cons_of_mem _ hx))
    simp only [sumL]
    split <;> omega
theorem sumA_le (g : Lit → Int) (M : Nat) : ∀ l : List (Lit × DataW Unit), (∀ p ∈ l, g p.1 ≤ M) → sumA g l ≤ l.length * M
  | [], _ => by simp [sumA]
  | p :: r, h => by
    have h1 := h p (List.mem_cons_self ..)
    have h2 := sumA_le g M r (fun x hx => h x (List.mem_cons_of_mem _ hx))
    simp only [sumA, List.length_cons]
    have e : ((r.length + 1 : Nat) : Int) * (M : Int) = (r.length : Int) * (M : Int) + (M : Int) := by rw [Int.natCast_add, Int.add_mul]; simp
    rw [e]
    omega
theorem ranges_drewN {w : World} {m r n cnt : Nat} {D : DataW Unit} {left : Lit → Bool} (h : w.ranges Try.prog 9 Rp m r n D left cnt) (k : Nat) : (w.drewN k).ranges Try.prog 9 Rp m r n D left cnt := h
/-- How many bytes are pending. -/
def DM.pend (s : DM) : Int := sumA s.pd (ents s.D)
set_option maxHeartbeats 1000000 in
set_option maxRecDepth 100000 in
theorem pending_any (d m : Nat) (s : DM) (q : DW) (O : Nat → Prop) (w : World) (h : DkAt w d m s q O) (hb : ∀ x, 0 ≤ s.pd (.string x) ∧ s.pd (.string x) ≤ 1048576) (hs : Maps.size s.D ≤ 256) (hlen : ∀ x, (s.F x).b.length ≤ 1048576 ∧ (s.F x).safe ≤ 1048576) :
    Calls Try.prog 11 #[.pointer (some ⟨d, 0, none⟩)] w fun e w' => e = .returned (.int .i64 s.pend) ∧ Fr (fun _ => False) w w' := by
  obtain ⟨c0, c1, c2, c3, c4, c5, c6, c7, fz⟩ := h.cells
  clear c0 c2 c3 c4 c5 c6 c7 fz
  obtain ⟨es, hes, hpw, hkl⟩ := h.map.entries Try.sK
  have hmap := h.map
  have hml := hmap.lt
  have H := hide h
  clear h
  go_enter Try.func11, Try.ntmps11
  go_wp2_with (first
    | (at_range; refine wpList_range_own _ rfl _ 46 rfl 9 69 Try.sK Try.underlying46 _ m _ _ rfl hmap ?_; intro w0 hrg0 hg0 hs0)
    | go_in)
  go_frame
  have hpos : ∀ p ∈ es, 0 ≤ s.pd p.1 ∧ s.pd p.1 ≤ (1048576 : Nat) := fun p _ => by
    rcases p with ⟨k, dd⟩
    cases k with
    | string x => exact hb x
    | _ => simp [DM.pd]
  have hel : es.length ≤ 256 := by rw [hes] at hs; exact hs
  have hpe : s.pend = sumA s.pd es := by rw [DM.pend, hes]; rfl
  have htot : s.pend ≤ 268435456 := by
    have h1 := sumA_le s.pd 1048576 es (fun p hp => (hpos p hp).2)
    rw [hpe]
    omega
  have HH := hide (And.intro hpos (And.intro hpe (And.intro hes (And.intro hpw (And.intro hlen hb)))))
  have hsum0 : sumL s.pd (Maps.has s.D) es = s.pend := by
    rw [hpe]
    refine sumL_all _ _ _ (fun p hp => ?_)
    rw [hes]
    exact List.any_eq_true.2 ⟨p, hp, WideAt.sameKey_self (hkl p hp)⟩
  have HR0 := hide (And.intro hrg0 (And.intro hg0 (And.intro hs0 hsum0)))
  clear hrg0 hg0 hs0 hsum0 hpos hpe hes hpw hlen hb hkl hmap
  go_loopw [3, 5] (fun nv _ wr => ∃ (left : Lit → Bool) (cnt : Nat) (z : Int), nv = .int .i64 z ∧ wr.ranges Try.prog 9 Rp m w.heap.size (Maps.size s.D) s.D left cnt ∧ z + sumL s.pd left es = s.pend ∧ 0 ≤ z ∧ Fr (fun _ => False) w wr) (fun _ _ wr => wr.rangeLeft m w.heap.size)
  case atStart => exact ⟨_, _, 0, rfl, (unhide HR0).1, by rw [(unhide HR0).2.2.2]; omega, Int.le_refl _, (Fr.refl _ _).grown (unhide HR0).2.1 (fun k hk => by cases hk)⟩
  case round =>
    obtain ⟨left, cnt, z, rfl, hrg, hz, hz0, hfr⟩ := hrel
    have hzle : z ≤ 268435456 := by
      have := sumL_pos s.pd left es (fun p hp => ((unhide HH).1 p hp).1)
      omega
    have HZ := hide (And.intro hz hfr)
    clear hz hfr
    go_wp2_with (first
      | (at_next; refine wpList_next_ranges (α := ByteArray) (β := Option Nat) _ rfl _ rfl 9 Try.sK Rp Value.string (fun o => .pointer (o.map fun b => ⟨b, 0, none⟩)) (fun key kl hk => Maps.keyOf_string_inv Try.underlying9 hk) (fun v y hv => by
          rcases Rp_inv hv with ⟨rfl, _⟩ | ⟨b, rfl, _⟩
          · exact ⟨none, rfl⟩
          · exact ⟨some b, rfl⟩) m w.heap.size (Maps.size s.D) _ _ _ rfl hrg ?_ ?_)
      | go_in)
    · intro hc0 hl0
      have hzp : z = s.pend := by
        have := (unhide HZ).1
        rw [sumL_none s.pd left hl0] at this
        omega
      subst hzp
      have HF := hide (unhide HZ).2
      clear HZ
      go_wp2
      go_ret
      exact ⟨rfl, unhide HF⟩
    · intro x c kl y1 y2 w1 cnt1 hkx hlx hcy hat hrg1 hlt hg1 hs1 hen
      have hkl : kl = .string (nm x) := by
        obtain ⟨x', ex, rfl, _⟩ := Maps.keyOf_str Try.underlying9 hkx
        have := key_nm x (by
          by_cases hx : x.size ≤ maxLen
          · exact hx
          · simp [keyOf, mapKey, Try.underlying9, hx] at hkx)
        rw [hkx] at this
        exact Option.some.inj this
      subst hkl
      have hhas : Maps.has s.D (.string (nm x)) = true := Maps.has_true_of_atKey hat
      have hA := (unhide H).at_ _ hhas
      have hy1 : y1 = .lit (.int .i64 (q.fb (nm x) : Nat)) := by rw [← hat .nil]; exact hA.1
      have hc : c = some (q.fb (nm x)) := by
        rcases Rp_inv hcy with ⟨hv, hy⟩ | ⟨b, hv, hy⟩
        · rw [hy1] at hy; cases hy
        · have hb' : (q.fb (nm x) : Int) = b := by rw [hy1] at hy; injection hy with h1 _; injection h1 with h1; injection h1
          cases c with
          | none => cases hv
          | some c => simp at hv; rw [hv]; congr 1; omega
      subst hc
      have hf1 : Fr (fun _ => False) w w1 := (unhide HZ).2.grown hg1 (fun k hk => .inr (by cases hk; exact Nat.le_refl _))
      have hA1 := hA.2.keep (hf1.block _ hA.2.lt.1 (fun h => h)) (fun g hg => hf1.block g (hA.2.lt.2.1 g hg) (fun h => h)) (fun g hg => hf1.block g (hA.2.lt.2.2 g hg) (fun h => h))
      obtain ⟨a0, a1, a2, _⟩ := hA1.cells
      obtain ⟨bo, bc, eb⟩ := own_form hA1.bo
      rw [eb] at a0
      have hb1 := (unhide HH).2.2.2.2.1 (nm x)
      have hb2 := (unhide HH).2.2.2.2.2 (nm x)
      have hpd : s.pd (.string (nm x)) = ((s.F (nm x)).b.length : Int) - ((s.F (nm x)).safe : Int) := rfl
      have hstep := sumL_step s.pd left (.string (nm x)) ((Try.sK).key hkx) hlx es (unhide HH).2.2.2.1 (by rw [(unhide HH).2.2.1] at hhas; exact hhas)
      have hz' := (unhide HZ).1
      have HN : Hid (z + (((s.F (nm x)).b.length : Int) - ((s.F (nm x)).safe : Int)) + sumL s.pd (fun zz => left zz && !zz.sameKey (.string (nm x))) es = s.pend ∧ 0 ≤ z + (((s.F (nm x)).b.length : Int) - ((s.F (nm x)).safe : Int))) := hide ⟨by omega, by omega⟩
      have HR := hide (And.intro hrg1 (And.intro hlt (And.intro hf1 hrg)))
      have hbl := hb1.1
      have hbs := hb1.2
      clear hb2 hpd hstep hz' hA hA1 eb hy1 hhas hat hcy hrg1 hlt hf1 hg1 hs1 hrg hb1 a2
      generalize (s.F (nm x)).b.length = BL at *
      generalize (s.F (nm x)).safe = SF at *
      simp only [Option.map_some] at hen ⊢
      go_wp2_with fail
      go_quiet (fail)
      go_wp2_with fail
      exact ⟨⟨_, cnt1, _, rfl, ranges_drewN (unhide HR).1 _, (unhide HN).1, (unhide HN).2, (unhide HR).2.2.1.drewN _⟩, by rw [(ranges_drewN (unhide HR).1 _).left_eq, (unhide HR).2.2.2.left_eq]; exact (unhide HR).2.1⟩
end Go.Proofs.Ytoflkfnmbighaaa
