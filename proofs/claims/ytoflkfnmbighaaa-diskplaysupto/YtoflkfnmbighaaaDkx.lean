import Derived.Test.YtoflkfnmbighaaaDkw
namespace Go.Proofs.Ytoflkfnmbighaaa
open Go.RowKit Go.ChangeShapes Go.WideShapes Go.Maps Go.Sort

/-- What a file gets safe, of the first so many bytes. -/
def gain : List Own3 → Nat → Nat → Nat
  | [], _, _ => 0
  | o :: r, keep, fb => (if o.fb = fb then min o.sz keep else 0) + gain r (keep - min o.sz keep) fb
def restK : List Own3 → Nat → Nat
  | [], keep => keep
  | o :: r, keep => restK r (keep - min o.sz keep)
theorem gain_app (o : Own3) (fb : Nat) : ∀ (l : List Own3) (keep : Nat), gain (l ++ [o]) keep fb = gain l keep fb + (if o.fb = fb then min o.sz (restK l keep) else 0)
  | [], keep => by simp [gain, restK]
  | p :: r, keep => by
    simp only [List.cons_append, gain, restK]
    rw [gain_app o fb r]
    omega
theorem restK_app (o : Own3) : ∀ (l : List Own3) (keep : Nat), restK (l ++ [o]) keep = restK l keep - min o.sz (restK l keep)
  | [], keep => by simp [restK]
  | p :: r, keep => by
    simp only [List.cons_append, restK]
    rw [restK_app o r]
theorem restK_le : ∀ (l : List Own3) (keep : Nat), restK l keep ≤ keep
  | [], _ => Nat.le_refl _
  | _ :: r, _ => Nat.le_trans (restK_le r _) (Nat.sub_le _ _)
theorem gain_le (fb : Nat) : ∀ (l : List Own3) (keep : Nat), gain l keep fb + restK l keep ≤ keep
  | [], _ => by simp [gain, restK]
  | p :: r, keep => by
    simp only [gain, restK]
    have := gain_le fb r (keep - min p.sz keep)
    split <;> omega
theorem gain_le2 (fb M : Nat) : ∀ (l : List Own3) (keep : Nat), (∀ o ∈ l, o.sz ≤ M) → gain l keep fb ≤ l.length * M
  | [], _, _ => by simp [gain]
  | p :: r, keep, h => by
    simp only [gain, List.length_cons]
    have h1 := gain_le2 fb M r (keep - min p.sz keep) (fun o ho => h o (List.mem_cons_of_mem _ ho))
    have h2 := h p (List.mem_cons_self ..)
    rw [Nat.add_mul]
    split <;> omega
def DM.plus (s : DM) (q : DW) (l : List Own3) (keep : Nat) : DM := { s with F := fun k => { s.F k with safe := (s.F k).safe + gain l keep (q.fb k) } }
theorem DM.plus_nil (s : DM) (q : DW) (keep : Nat) : s.plus q [] keep = s := rfl
theorem ocells_at (l : List Own3) (k : Nat) (o : Own3) (h : l[k]? = some o) : (ocells l)[k * 3]? = some (.int .i64 (o.wr : Nat)) ∧ (ocells l)[k * 3 + 1]? = some (.int .i64 (o.sz : Nat)) ∧ (ocells l)[k * 3 + 2]? = some (.pointer (some ⟨o.fb, 0, none⟩)) := by
  induction l generalizing k with
  | nil => simp at h
  | cons x r ih =>
    rw [ocells_cons]
    cases k with
    | zero => simp at h; subst h; exact ⟨rfl, rfl, rfl⟩
    | succ k =>
      simp at h
      obtain ⟨h1, h2, h3⟩ := ih k h
      refine ⟨?_, ?_, ?_⟩
      · rw [show (k + 1) * 3 = k * 3 + 1 + 1 + 1 by omega]; exact h1
      · rw [show (k + 1) * 3 + 1 = k * 3 + 1 + 1 + 1 + 1 by omega]; exact h2
      · rw [show (k + 1) * 3 + 2 = k * 3 + 2 + 1 + 1 + 1 by omega]; exact h3
theorem DkAt.reF {w : World} {d m : Nat} {s : DM} {q : DW} {O : Nat → Prop} (h : DkAt w d m s q O) (F : List UInt8 → FM) (hF : ∀ k, Maps.has s.D (.string k) = true → F k = s.F k) : DkAt w d m { s with F := F } q O :=
  ⟨h.blk, h.map, fun k hk => by
    have hk' : Maps.has s.D (.string k) = true := hk
    rw [show ({ s with F := F } : DM).F k = s.F k from hF k hk']
    exact h.at_ k hk', h.own, h.ap, h.od, h.om, h.lt⟩
/-- How many bytes of a file are safe, turned. -/
theorem DkAt.safe {w : World} {d m : Nat} {s : DM} {q : DW} {O : Nat → Prop} (h : DkAt w d m s q O) (x : List UInt8) (hx : Maps.has s.D (.string x) = true) (z : Nat) : DkAt (w.setCell ⟨q.fb x, 1, none⟩ (.int .i64 (z : Nat))) d m { s with F := fun k => if k = x then { s.F x with safe := z } else s.F k } q O := by
  have hA := (h.at_ x hx).2
  have hf : Fr (fun g => g = q.fb x ∨ (q.bv x).ownBlock = some g ∨ (q.pv x).ownBlock = some g) w (w.setCell ⟨q.fb x, 1, none⟩ (.int .i64 (z : Nat))) := (Fr.refl _ _).setCell (p := ⟨q.fb x, 1, none⟩) (.inl (.inl rfl)) _
  have hA' : FAt (w.setCell ⟨q.fb x, 1, none⟩ (.int .i64 (z : Nat))) (q.fb x) { s.F x with safe := z } (q.bv x) (q.pv x) :=
    ⟨(blkset hA.blk 1 _).trans (by simp), ownsRow_of_block hA.bo (fun g hg => Below.heap_setCell _ _ _ _ (hA.kinds.1 g hg).1), ownsRow_of_block hA.po (fun g hg => Below.heap_setCell _ _ _ _ (hA.kinds.2 g hg))⟩
  have h1 := h.file x hx { s.F x with safe := z } (q.bv x) (q.pv x) hf hA' (fun g hg => .inl hg) (fun g hg => .inl hg)
  have e1 : ({ q with bv := fun k => if k = x then q.bv x else q.bv k, pv := fun k => if k = x then q.pv x else q.pv k } : DW) = q := by
    have a : (fun k => if k = x then q.bv x else q.bv k) = q.bv := funext fun k => by by_cases e : k = x <;> simp [e]
    have b : (fun k => if k = x then q.pv x else q.pv k) = q.pv := funext fun k => by by_cases e : k = x <;> simp [e]
    rw [a, b]
  rw [e1] at h1
  refine h1.reO (fun k hk => ?_) (fun k hk => Nat.lt_of_lt_of_le (h.lt k hk) hf.size)
  rcases hk with hk | hk | hk
  · exact hk
  · exact (h.own x hx).2.1 k hk
  · exact (h.own x hx).2.2 k hk
theorem catA_mem (g : Lit → List Own3) (o : Own3) : ∀ l : List (Lit × DataW Unit), o ∈ catA g l → ∃ p ∈ l, o ∈ g p.1
  | [], h => by simp [catA] at h
  | p :: r, h => by
    simp only [catA, List.mem_append] at h
    rcases h with h | h
    · exact ⟨p, List.mem_cons_self .., h⟩
    · obtain ⟨p', h1, h2⟩ := catA_mem g o r h
      exact ⟨p', List.mem_cons_of_mem _ h1, h2⟩
/-- Each piece is a piece of a file of the disk's. -/
theorem allp_mem {w : World} {d m : Nat} {s : DM} {q : DW} {O : Nat → Prop} (h : DkAt w d m s q O) (o : Own3) (ho : o ∈ s.allp q) : ∃ x, Maps.has s.D (.string x) = true ∧ o.fb = q.fb x ∧ (o.wr, o.sz) ∈ (s.F x).ps := by
  obtain ⟨es, hes, hpw, hkl⟩ := h.map.entries Try.sK
  rw [DM.allp, hes] at ho
  obtain ⟨p, hp, hg⟩ := catA_mem _ _ _ ho
  rcases p with ⟨k, dd⟩
  cases k with
  | string x =>
    simp only [DM.pcs, List.mem_map] at hg
    obtain ⟨y, hy, rfl⟩ := hg
    refine ⟨x, ?_, rfl, hy⟩
    rw [hes]
    exact List.any_eq_true.2 ⟨_, hp, WideAt.sameKey_self (hkl _ hp)⟩
  | _ => simp [DM.pcs] at hg
set_option maxHeartbeats 2000000 in
set_option maxRecDepth 100000 in
theorem rescue_any (d m keep : Nat) (s : DM) (q : DW) (O : Nat → Prop) (w : World) (h : DkAt w d m s q O) (htot : (s.allp q).length ≤ 1000000) (hpl0 : ∀ k, Maps.has s.D (.string k) = true → (s.F k).ps.length ≤ 1000000) (hkp : keep ≤ 9223372036854775807) (hsf : ∀ k, Maps.has s.D (.string k) = true → (s.F k).safe ≤ 1048576 ∧ ∀ p ∈ (s.F k).ps, p.2 ≤ 1048576) :
    Calls Try.prog 48 #[.pointer (some ⟨d, 0, none⟩), .int .i64 (keep : Nat)] w fun e w' => e = .returned (.tuple #[]) ∧ ∃ L : List Own3, L.Perm (s.allp q) ∧ L.Pairwise (fun a b => a.wr ≤ b.wr) ∧ DkAt w' d m (s.plus q L keep) q O ∧ Fr O w w' := by
  have HI := hide (inOrder_any d m s q O w h htot hpl0)
  have H := hide h
  have HS := hide hsf
  clear h hsf
  go_enter Try.func48, Try.ntmps48
  go_wp2_with (go_at_call 57; refine (unhide HI).mono ?_; clear HI; rintro e w1 ⟨ao, cap, L, rfl, hpm, hpw, hrow, hfr⟩)
  have hLl : L.length ≤ 1000000 := by rw [hpm.length_eq]; exact htot
  have HP := hide (And.intro hpm hpw)
  have HR0 := hide (And.intro hrow hfr)
  clear hpm hpw hrow hfr
  go_loopw [1, 5, 6, 10] (fun kv _ _ iv wr => ∃ (k : Nat), kv = .int .i64 ((restK (L.take k) keep : Nat) : Int) ∧ iv = .int .i64 (k : Nat) ∧ k ≤ L.length ∧ wr.ownsRow w.heap.size 102 3 (.slice ao L.length cap) L.length (ocells L) ∧ DkAt wr d m (s.plus q (L.take k) keep) q O ∧ Fr O w wr) (fun _ _ _ iv _ => L.length - (intOf iv).toNat)
  case atStart => exact ⟨0, rfl, rfl, Nat.zero_le _, (unhide HR0).1, by rw [List.take_zero, DM.plus_nil]; exact (unhide H).fr (unhide HR0).2 (fun _ _ h => h), (unhide HR0).2.mono (fun _ _ h => h.elim)⟩
  case round =>
    obtain ⟨k, rfl, rfl, hk, hrow, hD, hfr⟩ := hrel
    by_cases hkl : k < L.length
    · obtain ⟨gb, cb, eb, _, _⟩ := hrow.form (by omega)
      simp only [Value.slice.injEq, true_and] at eb
      obtain ⟨rfl, rfl⟩ := eb
      obtain ⟨x, hx, hfb, hpx⟩ := allp_mem (unhide H) L[k] ((unhide HP).1.mem_iff.1 (List.getElem_mem hkl))
      have hoc := ocells_at L k _ (List.getElem?_eq_getElem hkl)
      have hc0 : wr.cell? ⟨gb, k * 3, none⟩ = some (.int .i64 ((L[k]).wr : Nat)) := (hrow.cellAt (k * 3) (by omega)).trans hoc.1
      have hc1 : wr.cell? ⟨gb, k * 3 + 1, none⟩ = some (.int .i64 ((L[k]).sz : Nat)) := (hrow.cellAt (k * 3 + 1) (by omega)).trans hoc.2.1
      have hc2 : wr.cell? ⟨gb, k * 3 + 2, none⟩ = some (.pointer (some ⟨(L[k]).fb, 0, none⟩)) := (hrow.cellAt (k * 3 + 2) (by omega)).trans hoc.2.2
      have hA := (hD.at_ x hx).2
      obtain ⟨a0, a1, a2, fz⟩ := hA.cells
      have f1 := fz 1
      rw [← hfb] at a1 f1
      have hgbl : gb < wr.heap.size := (hrow.lt gb rfl).2
      have hfbl : (L[k]).fb < wr.heap.size := by rw [hfb]; exact hA.lt.1
      have hgain := gain_le2 (q.fb x) 1048576 (L.take k) keep (fun o ho => by
        obtain ⟨x', hx', _, hp'⟩ := allp_mem (unhide H) o ((unhide HP).1.mem_iff.1 (List.mem_of_mem_take ho))
        exact ((unhide HS) x' hx').2 _ hp')
      rw [List.length_take, Nat.min_eq_left hk] at hgain
      have hs1 := ((unhide HS) x hx).1
      have hs2 := ((unhide HS) x hx).2 _ hpx
      have esf : ((s.plus q (L.take k) keep).F x).safe = (s.F x).safe + gain (L.take k) keep (q.fb x) := rfl
      have hkr := restK_le (L.take k) keep
      rw [esf] at a1
      have HW := hide (And.intro hrow (And.intro hD (And.intro hfr (And.intro hx hfb))))
      simp only at hs2
      clear hrow hD hfr hoc hpx hA esf a0 a2 fz hx hfb
      generalize ho : L[k] = o at *
      have HO := hide ho
      clear ho
      go_wp2_with fail
      have etk : L.take (k + 1) = L.take k ++ [o] := by rw [List.take_succ_eq_append_getElem hkl, unhide HO]
      have ev : (((s.F x).safe : Nat) : Int) + ((gain (L.take k) keep (q.fb x) : Nat) : Int) + min (o.sz : Int) ((restK (L.take k) keep : Nat) : Int) = (((s.F x).safe + gain (L.take k) keep (q.fb x) + min o.sz (restK (L.take k) keep) : Nat) : Int) := by omega
      rw [ev]
      obtain ⟨hrow, hD, hfr, hx, hfb⟩ := unhide HW
      have hgo : gb ≠ o.fb := fun e => by
        have h1 := (hrow.lt gb rfl).1
        have h2 := ((unhide H).at_ x hx).2.lt.1
        omega
      refine ⟨⟨k + 1, ?_, by simp, hkl, ?_, ?_, ?_⟩, by simp only [intOf]; omega⟩
      · rw [etk, restK_app]
        congr 1
        omega
      · refine ownsRow_of_block hrow (fun g hg => ?_)
        cases hg
        exact (Below.heap_alloc _ _ _ (by simpa using hgbl)).trans (Below.heap_setCell _ _ _ _ hgo)
      · have h1 : ∀ z : Nat, DkAt (wr.setCell ⟨o.fb, 1, none⟩ (.int .i64 (z : Nat))) d m { s.plus q (L.take k) keep with F := fun k' => if k' = x then { (s.plus q (L.take k) keep).F x with safe := z } else (s.plus q (L.take k) keep).F k' } q O := fun z => by rw [hfb]; exact hD.safe x hx z
        refine ((h1 _).fr (box1 _ _) (fun _ _ h => h)).reF ((s.plus q (L.take (k + 1)) keep).F) (fun k' hk' => ?_)
        have hk2 : Maps.has s.D (.string k') = true := hk'
        show (s.plus q (L.take (k + 1)) keep).F k' = if k' = x then _ else _
        by_cases e : k' = x
        · subst e
          rw [if_pos rfl]
          simp only [DM.plus]
          rw [etk, gain_app, if_pos hfb, Nat.add_assoc]
        · rw [if_neg e]
          have hne := (hD.ap k' x hk2 hx e).1
          simp only [DM.plus]
          rw [etk, gain_app, if_neg (fun e2 => hne (by rw [← e2, hfb])), Nat.add_zero]
      · exact (hfr.setCell (p := ⟨o.fb, 1, none⟩) (.inl (by rw [hfb]; exact (hD.own x hx).1)) _).alloc _
    · have hke : k = L.length := by omega
      subst hke
      rw [List.take_length] at *
      have HW := hide (And.intro hrow (And.intro hD hfr))
      clear hrow hD hfr
      go_wp2_with fail
      go_end0
      exact ⟨rfl, L, (unhide HP).1, (unhide HP).2, (unhide HW).2.1, (unhide HW).2.2⟩
end Go.Proofs.Ytoflkfnmbighaaa
