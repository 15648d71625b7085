import Derived.Test.YtoflkfnmbighaaaDky
namespace Go.Proofs.Ytoflkfnmbighaaa
open Go.RowKit Go.ChangeShapes Go.WideShapes Go.Maps Go.Sort

/-- How long a file is, by its key. -/
def DM.ln (s : DM) : Lit → Int
  | .string x => ((s.F x).b.length : Int)
  | _ => 0
/-- A file behind a crash: what was safe. -/
def FM.crash (f : FM) : FM := ⟨f.b.take f.safe, (f.b.take f.safe).length, []⟩
theorem FM.crash_cut (f : FM) : (f.cut f.safe).synced = f.crash := rfl
theorem sumA_sub (f g : Lit → Int) : ∀ l : List (Lit × DataW Unit), sumA (fun k => f k - g k) l = sumA f l - sumA g l
  | [] => rfl
  | p :: r => by simp only [sumA, sumA_sub f g r]; omega
theorem sumA_pos (g : Lit → Int) : ∀ l : List (Lit × DataW Unit), (∀ p ∈ l, 0 ≤ g p.1) → 0 ≤ sumA g l
  | [], _ => Int.le_refl _
  | p :: r, h => by
    have h1 := h p (List.mem_cons_self ..)
    have h2 := sumA_pos g r (fun x hx => h x (List.mem_cons_of_mem _ hx))
    simp only [sumA]
    omega
theorem sumA_ge (g : Lit → Int) : ∀ (l : List (Lit × DataW Unit)) (p : Lit × DataW Unit), p ∈ l → (∀ p ∈ l, 0 ≤ g p.1) → g p.1 ≤ sumA g l
  | [], _, h, _ => by cases h
  | x :: r, p, hp, h => by
    have h1 := h x (List.mem_cons_self ..)
    have h2 := sumA_pos g r (fun x hx => h x (List.mem_cons_of_mem _ hx))
    simp only [sumA]
    rcases List.mem_cons.1 hp with rfl | hp
    · omega
    · have := sumA_ge g r p hp (fun x hx => h x (List.mem_cons_of_mem _ hx))
      omega
theorem sumL_le (g : Lit → Int) (left : Lit → Bool) : ∀ l : List (Lit × DataW Unit), (∀ p ∈ l, 0 ≤ g p.1) → sumL g left l ≤ sumA g l
  | [], _ => Int.le_refl _
  | p :: r, h => by
    have h1 := h p (List.mem_cons_self ..)
    have h2 := sumL_le g left r (fun x hx => h x (List.mem_cons_of_mem _ hx))
    simp only [sumL, sumA]
    split <;> omega
theorem sync_step {w w' : World} {d m : Nat} {s : DM} {q : DW} {O : Nat → Prop} (hD : DkAt w d m s q O) (x : List UInt8) (hx : Maps.has s.D (.string x) = true) (hA : FAt w' (q.fb x) (s.F x).synced (q.bv x) (.slice none 0 0)) (hf : Fr (fun g => g = q.fb x) w w') : ∃ q2 : DW, q2.fb = q.fb ∧ DkAt w' d m { s with F := fun k => if k = x then (s.F x).synced else s.F k } q2 O := by
  refine ⟨_, ?_, (hD.file x hx (s.F x).synced (q.bv x) (.slice none 0 0) (hf.mono (fun _ _ h => .inl h)) hA (fun g hg => .inl hg) (fun g hg => by cases hg)).reO (fun k hk => ?_) (fun k hk => Nat.lt_of_lt_of_le (hD.lt k hk) hf.size)⟩
  · rfl
  · rcases hk with hk | hk | hk
    · exact hk
    · exact (hD.own x hx).2.1 k hk
    · cases hk
def DM.offd (s : DM) : DM := { s with off := true, left := 0, tear := 0 }
/-- A disk within a crash: so far the files that are not left. -/
def DM.mid (t : DM) (z : Nat) (left : Lit → Bool) : DM := { t with used := z, F := fun k => if left (.string k) then t.F k else (t.F k).crash }
/-- A disk behind a crash. -/
def DM.crashT (t : DM) : DM := { t with used := ((t.used : Int) - sumA t.pd (ents t.D)).toNat, F := fun k => (t.F k).crash }
set_option maxHeartbeats 2000000 in
set_option maxRecDepth 100000 in
theorem crash_any (d m : Nat) (keep : Int) (s : DM) (q : DW) (O : Nat → Prop) (w : World) (h : DkAt w d m s q O) (htot : (s.allp q).length ≤ 1000000) (hpl0 : ∀ k, Maps.has s.D (.string k) = true → (s.F k).ps.length ≤ 1000000) (hkp : keep ≤ 9223372036854775807) (hsf : ∀ k, Maps.has s.D (.string k) = true → (s.F k).safe ≤ 1048576 ∧ ∀ p ∈ (s.F k).ps, p.2 ≤ 1048576) (hln : ∀ k, Maps.has s.D (.string k) = true → (s.F k).safe + sumP (s.F k).ps ≤ (s.F k).b.length ∧ (s.F k).b.length ≤ 1048576) (hus : (s.used : Int) = sumA s.ln (ents s.D)) (hu2 : s.used ≤ 1048576) :
    Calls Try.prog 17 #[.pointer (some ⟨d, 0, none⟩), .int .i64 keep] w fun e w' => e = .returned (.tuple #[]) ∧ ∃ (L : List Own3) (q' : DW), L.Perm (s.allp q) ∧ L.Pairwise (fun a b => a.wr ≤ b.wr) ∧ DkAt w' d m ((s.offd).plus q L keep.toNat).crashT q' O ∧ q'.fb = q.fb ∧ Fr O w w' := by
  obtain ⟨c0, c1, c2, c3, c4, c5, c6, c7, fz⟩ := h.cells
  have f4 := fz 4
  have f6 := fz 6
  have f7 := fz 7
  clear fz c0 c2 c3 c5
  have hml := h.map.lt
  have hr : ∀ W, W.heap[d]? = some (.cells ((s.offd).cells m) 48) → Fr (fun k => k = d) w W → Calls Try.prog 48 #[.pointer (some ⟨d, 0, none⟩), .int .i64 ((keep.toNat : Nat) : Int)] W fun e w' => e = .returned (.tuple #[]) ∧ ∃ L : List Own3, L.Perm (s.allp q) ∧ L.Pairwise (fun a b => a.wr ≤ b.wr) ∧ DkAt w' d m ((s.offd).plus q L keep.toNat) q O ∧ Fr O w w' := fun W hb hf => by
    have h1 : DkAt W d m s.offd q O := h.upd s.offd rfl rfl hb hf
    refine (rescue_any d m keep.toNat s.offd q O W h1 htot hpl0 (by omega) hsf).mono ?_
    rintro e w' ⟨rfl, L, hp1, hp2, hD, hfr⟩
    exact ⟨rfl, L, hp1, hp2, hD, (hf.mono (fun k _ e => by rw [e]; exact h.od)).trans hfr (fun _ _ h => h)⟩
  have HR := hide hr
  have H := hide h
  have HS := hide (And.intro hsf (And.intro hln (And.intro hus hpl0)))
  have HE : Hid (max keep 0 = ((keep.toNat : Nat) : Int)) := hide (by omega)
  have hb0 := hide h.blk
  clear h hr hsf hln hus hpl0 htot
  go_enter Try.func17, Try.ntmps17
  have HW : Hid (∀ W, W = (((w.setCell ⟨d, 4, none⟩ (.bool true)).setCell ⟨d, 6, none⟩ (.int .i64 0)).setCell ⟨d, 7, none⟩ (.int .i64 0)) → W.heap[d]? = some (.cells ((s.offd).cells m) 48) ∧ Fr (fun k => k = d) w W) := hide (fun W e => by
    subst e
    refine ⟨?_, (((Fr.refl (fun k => k = d) w).at1 _ _).at1 _ _).at1 _ _⟩
    rw [blkset (blkset (blkset (unhide hb0) 4 _) 6 _)]
    simp [DM.cells, DM.offd])
  go_wp2_with (first
    | (go_at_call 48; rw [unhide HE]; refine ((unhide HR) _ ((unhide HW) _ rfl).1 ((unhide HW) _ rfl).2).mono ?_; clear HR; rintro e w2 ⟨rfl, L, hpm, hpw, hD2, hfr2⟩; have g1 := hD2.cells.2.1; have hmp := hD2.map; have HD2 := hide (And.intro hpm (And.intro hpw (And.intro hD2 hfr2))); clear hpm hpw hD2 hfr2)
    | (at_range; refine wpList_range_own _ rfl _ 46 rfl 9 69 Try.sK Try.underlying46 _ m _ _ rfl hmp ?_; intro w0 hrg0 hg0 hs0)
    | go_in)
  go_frame
  obtain ⟨t, ht⟩ : ∃ t, t = (s.offd).plus q L keep.toNat := ⟨_, rfl⟩
  rw [← ht] at hrg0
  have hD2 := (unhide HD2).2.2.1
  rw [← ht] at hD2
  have hO := hD2.lt
  obtain ⟨es, hes, hesp, hkl⟩ := (unhide H).map.entries Try.sK
  have hsD : t.D = s.D := by rw [ht]; rfl
  have hsU : t.used = s.used := by rw [ht]; rfl
  have T2 : ∀ k, Maps.has s.D (.string k) = true → (t.F k).safe ≤ (t.F k).b.length ∧ (t.F k).b.length ≤ 1048576 ∧ (t.F k).ps.length ≤ 1000000 ∧ ∀ p ∈ (t.F k).ps, p.2 ≤ 1048576 := fun k hk => by
    obtain ⟨hsf, hln, hus, hpl0⟩ := unhide HS
    have h1 := gain_file (keep := keep.toNat) (unhide H) k hk L (unhide HD2).1
    have h2 := (hln k hk).1
    rw [ht]
    refine ⟨?_, (hln k hk).2, hpl0 k hk, (hsf k hk).2⟩
    show (s.F k).safe + gain L keep.toNat (q.fb k) ≤ (s.F k).b.length
    omega
  have hhas : ∀ p ∈ es, Maps.has s.D p.1 = true := fun p hp => by
    rw [hes]
    exact List.any_eq_true.2 ⟨p, hp, WideAt.sameKey_self (hkl p hp)⟩
  have T3 : (s.used : Int) = sumA t.ln es := by
    have e1 : t.ln = s.ln := by rw [ht]; exact funext fun k => by cases k <;> rfl
    have h1 := (unhide HS).2.2.1
    rw [hes] at h1
    rw [e1]
    exact h1
  have T4 : ∀ p ∈ es, 0 ≤ t.pd p.1 ∧ 0 ≤ t.ln p.1 - t.pd p.1 := fun p hp => by
    have h1 := hhas p hp
    rcases p with ⟨k, dd⟩
    cases k with
    | string y =>
      have h2 := (T2 y h1).1
      simp only [DM.pd, DM.ln]
      omega
    | _ => simp [DM.pd, DM.ln]
  have hstart : sumL t.pd (Maps.has s.D) es = sumA t.pd es := sumL_all _ _ _ hhas
  have HT := hide (And.intro T2 (And.intro T3 (And.intro T4 (And.intro hes (And.intro hesp (And.intro hO (And.intro hsD (And.intro hsU ht))))))))
  have HR0 := hide (And.intro hrg0 (And.intro hg0 (And.intro hD2 hstart)))
  clear T2 T3 T4 hes hesp hkl hhas hstart hrg0 hg0 hs0 hD2 hO hmp hsD hsU ht g1 c1 c4 c6 c7 f4 f6 f7
  go_loopw [5] (fun _ wr => ∃ (left : Lit → Bool) (cnt z : Nat) (qL : DW), wr.ranges Try.prog 9 Rp m w2.heap.size (Maps.size s.D) s.D left cnt ∧ (z : Int) = (s.used : Int) - sumA t.pd es + sumL t.pd left es ∧ DkAt wr d m (t.mid z left) qL O ∧ qL.fb = q.fb ∧ Fr O w wr) (fun _ wr => wr.rangeLeft m w2.heap.size)
  case atStart =>
    have hrg := (unhide HR0).1
    rw [(unhide HT).2.2.2.2.2.2.1] at hrg
    have hfr0 : Fr (fun _ => False) w2 w0 := (Fr.refl _ _).grown (unhide HR0).2.1 (fun k hk => by cases hk)
    refine ⟨_, _, s.used, q, hrg, by rw [(unhide HR0).2.2.2]; omega, ?_, rfl, (unhide HD2).2.2.2.trans hfr0 (fun _ _ h => h.elim)⟩
    have h1 := ((unhide HR0).2.2.1.fr hfr0 (fun _ _ h => h)).reF (fun k => if Maps.has s.D (.string k) then t.F k else (t.F k).crash) (fun k hk => by rw [(unhide HT).2.2.2.2.2.2.1] at hk; rw [if_pos hk])
    have e2 : t.mid s.used (Maps.has s.D) = { t with F := fun k => if Maps.has s.D (.string k) then t.F k else (t.F k).crash } := by rw [DM.mid, ← (unhide HT).2.2.2.2.2.2.2.1]
    rw [e2]
    exact h1
  case round =>
    obtain ⟨left, cnt, z, qL, hrg, hz, hD, hq, hfr⟩ := hrel
    have HZ := hide (And.intro hz (And.intro hD (And.intro hq hfr)))
    clear hz hD hq hfr
    go_wp2_with (first
      | (at_next; refine wpList_next_ranges (α := ByteArray) (β := Option Nat) _ rfl _ rfl 9 Try.sK Rp Value.string (fun o => .pointer (o.map fun b => ⟨b, 0, none⟩)) (fun key kl hk => Maps.keyOf_string_inv Try.underlying9 hk) (fun v y hv => by
          rcases Rp_inv hv with ⟨rfl, _⟩ | ⟨b, rfl, _⟩
          · exact ⟨none, rfl⟩
          · exact ⟨some b, rfl⟩) m w2.heap.size (Maps.size s.D) _ _ _ rfl hrg ?_ ?_)
      | go_in)
    · intro hc0 hl0
      go_wp2_with fail
      go_end0
      obtain ⟨hz, hD, hq, hfr⟩ := unhide HZ
      obtain ⟨T2, T3, T4, hes, hesp, hO, hsD, hsU, ht⟩ := unhide HT
      rw [sumL_none t.pd left hl0] at hz
      have e : t.mid z left = t.crashT := by
        have ez : z = ((t.used : Int) - sumA t.pd (ents t.D)).toNat := by
          rw [hsU, hsD, hes]
          show z = ((s.used : Int) - sumA t.pd es).toNat
          omega
        rw [DM.mid, DM.crashT, ← ez]
        simp [hl0]
      rw [e] at hD
      exact ⟨rfl, L, qL, (unhide HD2).1, (unhide HD2).2.1, by rw [← ht]; exact hD, hq, hfr⟩
    · intro x c kl y1 y2 w1 cnt1 hkx hlx hcy hat hrg1 hlt hg1 hs1 hen
      have hkl : kl = .string (nm x) := by
        obtain ⟨x', ex, rfl, _⟩ := Maps.keyOf_str Try.underlying9 hkx
        have := key_nm x (by
          by_cases hx : x.size ≤ maxLen
          · exact hx
          · simp [keyOf, mapKey, Try.underlying9, hx] at hkx)
        rw [hkx] at this
        exact Option.some.inj this
      subst hkl
      have hhas : Maps.has s.D (.string (nm x)) = true := Maps.has_true_of_atKey hat
      obtain ⟨hz, hD, hq, hfr⟩ := unhide HZ
      obtain ⟨T2, T3, T4, hes, hesp, hO, hsD, hsU, ht⟩ := unhide HT
      have hh1 : Maps.has (t.mid z left).D (.string (nm x)) = true := by
        show Maps.has t.D _ = true
        rw [hsD]
        exact hhas
      have hA := hD.at_ (nm x) hh1
      have hy1 : y1 = .lit (.int .i64 (qL.fb (nm x) : Nat)) := by rw [← hat .nil, ← hsD]; exact hA.1
      have hc : c = some (qL.fb (nm x)) := by
        rcases Rp_inv hcy with ⟨hv, hy⟩ | ⟨b, hv, hy⟩
        · rw [hy1] at hy; cases hy
        · have hb' : (qL.fb (nm x) : Int) = b := by rw [hy1] at hy; injection hy with h1 _; injection h1 with h1; injection h1
          cases c with
          | none => cases hv
          | some c => simp at hv; rw [hv]; congr 1; omega
      subst hc
      have hfw : Fr (fun k => k = w2.heap.size) wr w1 := (Fr.refl _ _).grown hg1 (fun k hk => .inl (by cases hk; rfl))
      have hD1 : DkAt w1 d m (t.mid z left) qL O := hD.fr hfw (fun k hk e => by have := hO k hk; omega)
      have eF : (t.mid z left).F (nm x) = t.F (nm x) := if_pos hlx
      obtain ⟨a0, a1, a2, _⟩ := (hD1.at_ (nm x) hh1).2.cells
      rw [eF] at a1
      obtain ⟨t1, t2, t3, t4⟩ := T2 (nm x) hhas
      have hstep := sumL_step t.pd left (.string (nm x)) ((Try.sK).key hkx) hlx es hesp (by rw [hes] at hhas; exact hhas)
      have hpos := sumL_pos t.pd (fun zz => left zz && !zz.sameKey (.string (nm x))) es (fun p hp => (T4 p hp).1)
      have hle := sumL_le t.pd left es (fun p hp => (T4 p hp).1)
      have hge : t.ln (.string (nm x)) - t.pd (.string (nm x)) ≤ sumA t.ln es - sumA t.pd es := by
        have h1 := hhas
        rw [hes] at h1
        obtain ⟨p, hp, hs⟩ := List.any_eq_true.1 h1
        have ep : p.1 = .string (nm x) := Classical.byContradiction (fun e => by rw [Maps.sameKey_ne e] at hs; cases hs)
        have h2 := sumA_ge (fun k => t.ln k - t.pd k) es p hp (fun p hp => (T4 p hp).2)
        rw [sumA_sub, ep] at h2
        exact h2
      have epd : t.pd (.string (nm x)) = ((t.F (nm x)).b.length : Int) - ((t.F (nm x)).safe : Int) := rfl
      have eln : t.ln (.string (nm x)) = ((t.F (nm x)).b.length : Int) := rfl
      have HSH := hide (shorten_anyM d m (t.mid z left) qL O (nm x) (t.F (nm x)).safe w1 hD1 hh1 (by rw [eF]; exact t1) (by rw [eF]; exact t2) (by rw [eF]; omega) (by rw [eF]; exact t4) (by rw [eF]; show (t.F (nm x)).b.length ≤ z; omega) (by show z ≤ 1048576; omega))
      have hz2 : ((z - (((t.mid z left).F (nm x)).b.length - (t.F (nm x)).safe) : Nat) : Int) = (s.used : Int) - sumA t.pd es + sumL t.pd (fun zz => left zz && !zz.sameKey (.string (nm x))) es := by
        rw [eF]
        omega
      have HN := hide (And.intro hz2 (And.intro eF (And.intro hh1 (And.intro hrg1 (And.intro hrg (And.intro hlt (And.intro hfw (And.intro hlx ((Try.sK).key hkx)))))))))
      clear hz2 eF hrg1 hrg hlt hfw hlx hhas hat hcy hkx hA hy1 a0 a2 t1 t2 t3 t4 hstep hpos hle hge epd eln hz hD hq hfr T2 T3 T4 hes hesp hsD hsU ht hg1 hs1 hD1
      simp only [Option.map_some] at hen ⊢
      go_wp2_with (first
        | (go_at_call 49; refine (unhide HSH).mono ?_; clear HSH; rintro e w3 ⟨rfl, bv3, pv3, hD3, hf3⟩)
        | (go_at_call 50; refine (fsync_any _ _ _ _ w3 (hD3.at_ (nm x) hh1).2).mono ?_; rintro e w4 ⟨rfl, hA4, hf4⟩))
      obtain ⟨hz2, eF, _, hrg1, hrg, hlt, hfw, hlx, hkey⟩ := unhide HN
      obtain ⟨q4, hq4, hD4⟩ := sync_step hD3 (nm x) hh1 (by simpa using hA4) hf4
      have hfbO : O (qL.fb (nm x)) := (hD3.own (nm x) hh1).1
      have hfbm : qL.fb (nm x) ≠ m := hD3.mne (hD3.at_ (nm x) hh1).2.blk
      have hrgN : w4.ranges Try.prog 9 Rp m w2.heap.size (Maps.size s.D) s.D (fun zz => left zz && !zz.sameKey (.string (nm x))) cnt1 := by
        obtain ⟨⟨_, _, h1⟩, _, _, _, _, h2⟩ := ranges_objs hrg1
        have hr2 := lt_of_block h2
        have hm2 := lt_of_block h1
        refine ranges_keep hrg1 ?_ ?_
        · exact (hf4.block m (Nat.lt_of_lt_of_le hm2 hf3.size) (fun e => hfbm e.symm)).trans (hf3.block m hm2 (fun e => e.2 rfl))
        · exact (hf4.block _ (Nat.lt_of_lt_of_le hr2 hf3.size) (fun e => by have h3 := hO _ hfbO; have e' : w2.heap.size = qL.fb (nm x) := e; omega)).trans (hf3.block _ hr2 (fun e => by have := hO _ e.1; omega))
      have hfrN : Fr O w w4 := by
        have h1 : Fr O w w1 := (unhide HZ).2.2.2.trans hfw (fun k hk e => by have h2 := (unhide HD2).2.2.2.size; omega)
        exact (h1.trans hf3 (fun _ _ h => h.1)).trans hf4 (fun k _ e => by rw [e]; exact hfbO)
      refine ⟨⟨_, cnt1, _, q4, hrgN, hz2, ?_, hq4.trans (unhide HZ).2.2.1, hfrN⟩, by rw [hrgN.left_eq, hrg.left_eq]; exact hlt⟩
      refine hD4.reF (t.mid 0 (fun zz => left zz && !zz.sameKey (.string (nm x)))).F (fun k _ => ?_)
      show (if (left (.string k) && !(Lit.string k).sameKey (.string (nm x))) then t.F k else (t.F k).crash) = if k = nm x then ((if nm x = nm x then ((t.mid z left).F (nm x)).cut (t.F (nm x)).safe else (t.mid z left).F (nm x))).synced else (if k = nm x then ((t.mid z left).F (nm x)).cut (t.F (nm x)).safe else (t.mid z left).F k)
      by_cases e : k = nm x
      · subst e
        rw [if_pos rfl, if_pos rfl, eF, WideAt.sameKey_self hkey]
        simp [FM.crash_cut]
      · rw [if_neg e, if_neg e, Maps.sameKey_ne (fun e2 => e (by injection e2))]
        simp [DM.mid]
end Go.Proofs.Ytoflkfnmbighaaa
