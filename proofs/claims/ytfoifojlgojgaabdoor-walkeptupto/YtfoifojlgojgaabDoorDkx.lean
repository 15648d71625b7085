import Derived.Test.YtfoifojlgojgaabDoorDkw
namespace Go.Proofs.YtfoifojlgojgaabDoor
open Go.RowKit Go.ChangeShapes Go.WideShapes Go.Maps Go.Sort

/-- What a file gets safe, of the first so many bytes. -/
def gain : List Own3 → Nat → Nat → Nat
  | [], _, _ => 0
  | o :: r, keep, fb => (if o.fb = fb then min o.sz keep else 0) + gain r (keep - min o.sz keep) fb
def restK : List Own3 → Nat → Nat
  | [], keep => keep
  | o :: r, keep => restK r (keep - min o.sz keep)
theorem gain_app (o : Own3) (fb : Nat) : ∀ (l : List Own3) (keep : Nat), gain (l ++ [o]) keep fb = gain l keep fb + (if o.fb = fb then min o.sz (restK l keep) else 0)
  | [], keep => by simp [gain, restK]
  | p :: r, keep => by
    simp only [List.cons_append, gain, restK]
    rw [gain_app o fb r]
    omega
theorem restK_app (o : Own3) : ∀ (l : List Own3) (keep : Nat), restK (l ++ [o]) keep = restK l keep - min o.sz (restK l keep)
  | [], keep => by simp [restK]
  | p :: r, keep => by
    simp only [List.cons_append, restK]
    rw [restK_app o r]
theorem restK_le : ∀ (l : List Own3) (keep : Nat), restK l keep ≤ keep
  | [], _ => Nat.le_refl _
  | _ :: r, _ => Nat.le_trans (restK_le r _) (Nat.sub_le _ _)
theorem gain_le (fb : Nat) : ∀ (l : List Own3) (keep : Nat), gain l keep fb + restK l keep ≤ keep
  | [], _ => by simp [gain, restK]
  | p :: r, keep => by
    simp only [gain, restK]
    have := gain_le fb r (keep - min p.sz keep)
    split <;> omega
theorem gain_le2 (fb M : Nat) : ∀ (l : List Own3) (keep : Nat), (∀ o ∈ l, o.sz ≤ M) → gain l keep fb ≤ l.length * M
  | [], _, _ => by simp [gain]
  | p :: r, keep, h => by
    simp only [gain, List.length_cons]
    have h1 := gain_le2 fb M r (keep - min p.sz keep) (fun o ho => h o (List.mem_cons_of_mem _ ho))
    have h2 := h p (List.mem_cons_self ..)
    rw [Nat.add_mul]
    split <;> omega
def DM.plus (s : DM) (q : DW) (l : List Own3) (keep : Nat) : DM := { s with F := fun k => { s.F k with safe := (s.F k).safe + gain l keep (q.fb k) } }
theorem DM.plus_nil (s : DM) (q : DW) (keep : Nat) : s.plus q [] keep = s := rfl
theorem ocells_at (l : List Own3) (k : Nat) (o : Own3) (h : l[k]? = some o) : (ocells l)[k * 3]? = some (.int .i64 (o.wr : Nat)) ∧ (ocells l)[k * 3 + 1]? = some (.int .i64 (o.sz : Nat)) ∧ (ocells l)[k * 3 + 2]? = some (.pointer (some ⟨o.fb, 0, none⟩)) := by
  induction l generalizing k with
  | nil => simp at h
  | cons x r ih =>
    rw [ocells_cons]
    cases k with
    | zero => simp at h; subst h; exact ⟨rfl, rfl, rfl⟩
    | succ k =>
      simp at h
      obtain ⟨h1, h2, h3⟩ := ih k h
      refine ⟨?_, ?_, ?_⟩
      · rw [show (k + 1) * 3 = k * 3 + 1 + 1 + 1 by omega]; exact h1
      · rw [show (k + 1) * 3 + 1 = k * 3 + 1 + 1 + 1 + 1 by omega]; exact h2
      · rw [show (k + 1) * 3 + 2 = k * 3 + 2 + 1 + 1 + 1 by omega]; exact h3
theorem DkAt.reF {w : World} {d m : Nat} {s : DM} {q : DW} {O : Nat → Prop} (h : DkAt w d m s q O) (F : List UInt8 → FM) (hF : ∀ k, Maps.has s.D (.string k) = true → F k = s.F k) : DkAt w d m { s with F := F } q O :=
  ⟨h.blk, h.map, fun k hk => by
    have hk' : Maps.has s.D (.string k) = true := hk
    rw [show ({ s with F := F } : DM).F k = s.F k from hF k hk']
    exact h.at_ k hk', h.own, h.ap, h.od, h.om, h.lt⟩
/-- How many bytes of a file are safe, turned. -/
theorem DkAt.safe {w : World} {d m : Nat} {s : DM} {q : DW} {O : Nat → Prop} (h : DkAt w d m s q O) (x : List UInt8) (hx : Maps.has s.D (.string x) = true) (z : Nat) : DkAt (w.setCell ⟨q.fb x, 1, none⟩ (.int .i64 (z : Nat))) d m { s with F := fun k => if k = x then { s.F x with safe := z } else s.F k } q O := by
  have hA := (h.at_ x hx).2
  have hf : Fr (fun g => g = q.fb x ∨ (q.bv x).ownBlock = some g ∨ (q.pv x).ownBlock = some g) w (w.setCell ⟨q.fb x, 1, none⟩ (.int .i64 (z : Nat))) := (Fr.refl _ _).setCell (p := ⟨q.fb x, 1, none⟩) (.inl (.inl rfl)) _
  have hA' : FAt (w.setCell ⟨q.fb x, 1, none⟩ (.int .i64 (z : Nat))) (q.fb x) { s.F x with safe := z } (q.bv x) (q.pv x) :=
    ⟨(blkset hA.blk 1 _).trans (by simp), ownsRow_of_block hA.bo (fun g hg => Below.heap_setCell _ _ _ _ (hA.kinds.1 g hg).1), ownsRow_of_block hA.po (fun g hg => Below.heap_setCell _ _ _ _ (hA.kinds.2 g hg))⟩
  have h1 := h.file x hx { s.F x with safe := z } (q.bv x) (q.pv x) hf hA' (fun g hg => .inl hg) (fun g hg => .inl hg)
  have e1 : ({ q with bv := fun k => if k = x then q.bv x else q.bv k, pv := fun k => if k = x then q.pv x else q.pv k } : DW) = q := by
    have a : (fun k => if k = x then q.bv x else q.bv k) = q.bv := funext fun k => by by_cases e : k = x <;> simp [e]
    have b : (fun k => if k = x then q.pv x else q.pv k) = q.pv := funext fun k => by by_cases e : k = x <;> simp [e]
    rw [a, b]
  rw [e1] at h1
  refine h1.reO (fun k hk => ?_) (fun k hk => Nat.lt_of_lt_of_le (h.lt k hk) hf.size)
  rcases hk with hk | hk | hk
  · exact hk
  · exact (h.own x hx).2.1 k hk
  · exact (h.own x hx).2.2 k hk
theorem catA_mem (g : Lit → List Own3) (o : Own3) : ∀ l : List (Lit × DataW Unit), o ∈ catA g l → ∃ p ∈ l, o ∈ g p.1
  | [], h => by simp [catA] at h
  | p :: r, h => by
    simp only [catA, List.mem_append] at h
    rcases h with h | h
    · exact ⟨p, List.mem_cons_self .., h⟩
    · obtain ⟨p', h1, h2⟩ := catA_mem g o r h
      exact ⟨p', List.mem_cons_of_mem _ h1, h2⟩
/-- Each piece is a piece of a file of the disk's. -/
theorem allp_mem {w : World} {d m : Nat} {s : DM} {q : DW} {O : Nat → Prop} (h : DkAt w d m s q O) (o : Own3) (ho : o ∈ s.allp q) : ∃ x, Maps.has s.D (.string x) = true ∧ o.fb = q.fb x ∧ (o.wr, o.sz) ∈ (s.F x).ps := by
  obtain ⟨es, hes, hpw, hkl⟩ := h.map.entries Tryd.sK
  rw [DM.allp, hes] at ho
  obtain ⟨p, hp, hg⟩ := catA_mem _ _ _ ho
  rcases p with ⟨k, dd⟩
  cases k with
  | string x =>
    simp only [DM.pcs, List.mem_map] at hg
    obtain ⟨y, hy, rfl⟩ := hg
    refine ⟨x, ?_, rfl, hy⟩
    rw [hes]
    exact List.any_eq_true.2 ⟨_, hp, WideAt.sameKey_self (hkl _ hp)⟩
  | _ => simp [DM.pcs] at hg
end Go.Proofs.YtfoifojlgojgaabDoor
