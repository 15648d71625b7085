import Derived.Test.YtlphcgfmjhbeoaaGreatDoorPw6
import Derived.Lib.AppendStr
import Derived.Test.YtlphcgfmjhbeoaaGreatDoorPw7
import Derived.Test.YtlphcgfmjhbeoaaGreatDoorPw5
namespace Go.Proofs.YtlphcgfmjhbeoaaGreatDoor
open Go.RowKit
def Meet (a b : List Nat) : Prop := ∀ (i : Nat) (x y : Nat), a[i]? = some x → b[i]? = some y → x % 256 = y % 256
theorem Meet.shrink {a b c : List Nat} (h : Meet a (b ++ c)) : Meet a b := fun i x y hx hy => h i x y hx (by rw [List.getElem?_append_left (List.getElem?_eq_some_iff.1 hy).1]; exact hy)
theorem Meet.part {a l x : List Nat} (h : Meet a (l ++ x)) (hl : l.length + x.length ≤ a.length) : norm ((a.drop l.length).take x.length) = norm x := by
 apply List.ext_getElem?
 intro i
 by_cases hi : i < x.length
 ·have h1 : a[l.length + i]? = some a[l.length + i] := List.getElem?_eq_getElem (by omega)
  have h2 : x[i]? = some x[i] := List.getElem?_eq_getElem hi
  have h3 := h (l.length + i) _ _ h1 (by rw [List.getElem?_append_right (by omega), Nat.add_sub_cancel_left]; exact h2)
  simp only [norm, List.getElem?_map, List.getElem?_take_of_lt hi, List.getElem?_drop, h1, h2, Option.map_some, h3]
 ·rw [List.getElem?_eq_none (by simp [norm]; omega), List.getElem?_eq_none (by simp [norm]; omega)]
theorem val_normN (l : List Nat) : val (norm l) = val l := by simp [val, norm, List.foldl_map]
theorem val_of_normN {a b : List Nat} (h : norm a = norm b) : val a = val b := by rw [← val_normN a, h, val_normN]
theorem val_be1N (v : Nat) (h : v < 256) : val (be 1 v) = v := by simp [val, be, List.range, List.range.loop]; omega
theorem val_be4N (v : Nat) (h : v < 4294967296) : val (be 4 v) = v := by
 simp only [val, be, List.range, List.range.loop, List.map_cons, List.map_nil, List.foldl_cons, List.foldl_nil]
 omega
theorem be_len (n v : Nat) : (be n v).length = n := by simp [be]
def CS.later (c c' : CS) : Prop := match c, c' with
 | .rd q, .rd q' => q'.all = q.all ∧ ∀ x, q.f = some x → q'.f = some x
 | .wr s, .wr s' => s'.f = none → s.f = none ∧ ∃ y, s'.l = s.l ++ y
 | _, _ => False
theorem CS.later_refl (c : CS) : c.later c := by
 cases c with
 | wr s => exact fun h => ⟨h, [], by simp⟩
 | rd q => exact ⟨rfl, fun _ h => h⟩
theorem CS.later_trans {a b c : CS} (h : a.later b) (k : b.later c) : a.later c := by
 cases a <;> cases b <;> cases c <;> first | exact h.elim | exact k.elim | skip
 ·intro hf
  obtain ⟨h1, y, e1⟩ := k hf
  obtain ⟨h2, z, e2⟩ := h h1
  exact ⟨h2, z ++ y, by rw [e1, e2, List.append_assoc]⟩
 ·exact ⟨k.1.trans h.1, fun x hx => k.2 x (h.2 x hx)⟩
def Rdg (A : List Nat) (c d : CS) : Prop := ∃ q s, c = .rd q ∧ d = .wr s ∧ q.all = A ∧ (s.f = none → Meet A s.l → (q.f = none ∧ q.place = s.l.length ∧ s.l.length ≤ A.length) ∨ (A.length < s.l.length ∧ ∃ x, q.f = some x ∧ x.2.2 = 1))
def Fine (A : List Nat) (d : CS) : Prop := ∃ s, d = .wr s ∧ s.f = none ∧ Meet A s.l ∧ s.l.length ≤ A.length
theorem Fine.back {A : List Nat} {d d' : CS} (h : Fine A d') (hl : d.later d') : Fine A d := by
 obtain ⟨s', rfl, h1, h2, h3⟩ := h
 cases d with
 | rd q => exact hl.elim
 | wr s =>
  obtain ⟨h4, y, e⟩ := hl h1
  rw [e] at h2 h3
  exact ⟨s, rfl, h4, h2.shrink, by simp at h3; omega⟩
theorem Rdg.stuck {A : List Nat} {c d c' d' : CS} (h : Rdg A c d) (hn : ¬ Fine A d) (hc : c.later c') (hd : d.later d') : Rdg A c' d' := by
 obtain ⟨q, s, rfl, rfl, ha, h⟩ := h
 cases c' with
 | wr _ => exact hc.elim
 | rd q' =>
  cases d' with
  | rd _ => exact hd.elim
  | wr s' =>
   refine ⟨q', s', rfl, rfl, hc.1.trans ha, fun hf hm => .inr ?_⟩
   obtain ⟨h1, y, e⟩ := hd hf
   have hm1 : Meet A s.l := (e ▸ hm).shrink
   rcases h h1 hm1 with h2 | ⟨h2, x, hx, hx1⟩
   ·exact absurd ⟨s, rfl, h1, hm1, h2.2.2⟩ hn
   ·exact ⟨by rw [e]; simp; omega, x, hc.2 x hx, hx1⟩
theorem Q.go_later (q : Q) (nm : ByteArray) (k m : Int) (hk : k ≠ 9) (hk2 : k ≠ 10) (n : Nat) : (CS.rd q).later (.rd (((q.named nm).go k m).1.failN n)) := by
 have ha : ((q.named nm).go k m).1.all = q.all := by
  unfold Q.go Q.step Q.fail Q.named
  repeat' split
  all_goals rfl
 have hf : ∀ x, q.f = some x → ((q.named nm).go k m).1.f = some x := fun x hx => by
  unfold Q.go Q.step Q.named
  simp [hk2, hx]
 refine ⟨?_, fun x hx => ?_⟩
 ·unfold Q.failN
  split
  ·exact ha
  ·exact ha
 ·unfold Q.failN
  rw [if_pos (.inr (by rw [hf x hx]; simp))]
  exact hf x hx
theorem Wq.failN_later (s : Wq) (nm : ByteArray) (n : Nat) (h : ((s.named nm).failN n).f = none) : n = 0 ∧ s.f = none := by
 unfold Wq.failN Wq.named at h
 split at h
 ·rename_i hx
  rcases hx with hx | hx
  ·exact ⟨hx, h⟩
  ·exact absurd h hx
 ·cases h
theorem Wq.putB_f {s : Wq} {x : List Nat} (h : (s.putB x).f = none) : s.f = none ∧ (s.putB x).l = s.l ++ x := by
 unfold Wq.putB at *
 by_cases hs : s.f = none
 ·simp only [hs, if_true] at h ⊢
  exact ⟨trivial, trivial⟩
 ·simp only [hs, if_false] at h
theorem put_fine {s : Wq} {nm : ByteArray} {n : Nat} {x : List Nat} (h : (((s.named nm).failN n).putB x).f = none) : n = 0 ∧ s.f = none ∧ (((s.named nm).failN n).putB x).l = s.l ++ x := by
 obtain ⟨h1, h2⟩ := Wq.putB_f h
 obtain ⟨h3, h4⟩ := Wq.failN_later s nm n h1
 refine ⟨h3, h4, ?_⟩
 rw [h2, h3, Wq.failN_0]
 rfl
theorem rd_numN {A : List Nat} {q : Q} {l x : List Nat} {k m : Int} (hk : k = 1 ∨ k = 4 ∨ k = 5 ∨ k = 7) (ha : q.all = A) (hf : q.f = none) (hp : q.place = l.length) (hm : Meet A (l ++ x)) (hx : x.length = wid k) (h5 : k = 5 → quantB (val x) = true) (h7 : k = 7 → (val x : Int) ≤ m) (nm : ByteArray) :
  ((l ++ x).length ≤ A.length → ((q.named nm).go k m).1.f = none ∧ ((q.named nm).go k m).1.place = (l ++ x).length ∧ ((q.named nm).go k m).2.1 = val x) ∧ (A.length < (l ++ x).length → ∃ y, ((q.named nm).go k m).1.f = some y ∧ y.2.2 = 1) := by
 have k10 : ¬ k = 10 := by omega
 have k9 : ¬ k = 9 := by omega
 have k6 : k ≠ 6 := by omega
 have hw : (l ++ x).length = l.length + wid k := by rw [List.length_append, hx]
 unfold Q.go Q.step
 have hall : (q.named nm).all = A := ha
 have hff : (q.named nm).f = none := hf
 have hpl : (q.named nm).place = l.length := hp
 simp only [k10, k9, if_false, k6, ne_eq, not_false_iff, if_true, false_or, hff, not_true, hall, hpl]
 refine ⟨fun hle => ?_, fun hlt => ?_⟩
 ·have hnum : (q.named nm).num (wid k) = val x := by
   unfold Q.num
   rw [hall, hpl]
   have := Meet.part hm (by rw [← List.length_append]; exact hle)
   rw [hx] at this
   exact val_of_normN this
  have hn4 : k ≠ 1 → (q.named nm).num 4 = val x := fun h1 => by
   have : wid k = 4 := by rcases hk with rfl | rfl | rfl | rfl <;> first | exact absurd rfl h1 | rfl
   rw [← this]; exact hnum
  rw [if_neg (by omega), if_neg (fun h => by
   have := h5 h.1
   rw [← hn4 (by omega), h.2] at this
   cases this), if_neg (fun h => by
   have := h7 h.1
   rw [← hn4 (by omega)] at this
   omega)]
  exact ⟨rfl, by dsimp only; omega, hnum⟩
 ·rw [if_pos (by omega)]
  exact ⟨_, rfl, rfl⟩
theorem rdg_mk {A : List Nat} {q q1 : Q} {s s' : Wq} {x : List Nat} {n : Nat} (h : Rdg A (.rd q) (.wr s)) (hall : q1.all = A) (hl : s'.f = none → s.f = none ∧ s'.l = s.l ++ x)
  (h1 : s'.f = none → q.f = none → q.place = s.l.length → Meet A (s.l ++ x) → (s.l ++ x).length ≤ A.length → q1.f = none ∧ q1.place = (s.l ++ x).length ∧ n = 0)
  (h2 : s'.f = none → q.f = none → q.place = s.l.length → Meet A (s.l ++ x) → A.length < (s.l ++ x).length → ∃ y, q1.f = some y ∧ y.2.2 = 1)
  (h3 : ∀ y, q.f = some y → q1.f = some y) : Rdg A (.rd (q1.failN n)) (.wr s') := by
 obtain ⟨q', s1, e1, e2, ha, h⟩ := h
 cases e1; cases e2
 refine ⟨_, _, rfl, rfl, ?_, fun hf hm => ?_⟩
 ·unfold Q.failN; split <;> exact hall
 ·obtain ⟨hs, e⟩ := hl hf
  rw [e] at hm
  have keep : ∀ y, q1.f = some y → (q1.failN n).f = some y := fun y hy => by unfold Q.failN; rw [if_pos (.inr (by rw [hy]; simp))]; exact hy
  rcases h hs hm.shrink with ⟨g1, g2, g3⟩ | ⟨g1, y, g2, g3⟩
  ·by_cases hle : (s.l ++ x).length ≤ A.length
   ·obtain ⟨r1, r2, r3⟩ := h1 hf g1 g2 hm hle
    rw [r3, Q.failN_0, e]
    exact .inl ⟨r1, r2, hle⟩
   ·obtain ⟨y, r1, r2⟩ := h2 hf g1 g2 hm (by omega)
    exact .inr ⟨by rw [e]; omega, y, keep y r1, r2⟩
  ·exact .inr ⟨by rw [e, List.length_append]; omega, y, keep y (h3 y g2), g3⟩
theorem go_all (q : Q) (nm : ByteArray) (k m : Int) : ((q.named nm).go k m).1.all = q.all := by
 unfold Q.go Q.step Q.fail Q.named
 repeat' split
 all_goals rfl
theorem go_keep (q : Q) (nm : ByteArray) (k m : Int) (hk : k ≠ 10) : ∀ y, q.f = some y → ((q.named nm).go k m).1.f = some y := fun y hy => by
 unfold Q.go Q.step Q.named
 simp [hk, hy]
theorem Fine.at_ {A : List Nat} {c d : CS} (h : Rdg A c d) (hf : Fine A d) : ∃ q s, c = .rd q ∧ d = .wr s ∧ q.all = A ∧ q.f = none ∧ q.place = s.l.length ∧ s.f = none := by
 obtain ⟨q, s, rfl, rfl, ha, h⟩ := h
 obtain ⟨s', e, f1, f2, f3⟩ := hf
 cases e
 rcases h f1 f2 with h | h
 ·exact ⟨q, s, rfl, rfl, ha, h.1, h.2.1, f1⟩
 ·omega
theorem back_num {A : List Nat} {q : Q} {s : Wq} {x : List Nat} {k m : Int} {n : Nat} (nm : ByteArray) (hR : Rdg A (.rd q) (.wr s)) (hk : k = 1 ∨ k = 4 ∨ k = 5 ∨ k = 7) (hx : x.length = wid k) (h5 : k = 5 → quantB (val x) = true) (h7 : k = 7 → (val x : Int) ≤ m) (N : Nat → Nat) (hN : n = N (val x)) :
  Rdg A (.rd (((q.named nm).go k m).1.failN (N ((q.named nm).go k m).2.1))) (.wr (((s.named nm).failN n).putB x)) ∧ (Fine A (.wr (((s.named nm).failN n).putB x)) → ((q.named nm).go k m).2.1 = val x) := by
 have ha : q.all = A := by obtain ⟨q', s', e1, _, ha, _⟩ := hR; cases e1; exact ha
 have key : q.f = none → q.place = s.l.length → Meet A (s.l ++ x) → _ := fun q1 q2 q3 => rd_numN (m := m) hk ha q1 q2 q3 hx h5 h7 nm
 refine ⟨rdg_mk (s' := ((s.named nm).failN n).putB x) (x := x) hR (by rw [go_all]; exact ha) (fun hf => (put_fine hf).2) (fun hf q1 q2 q3 q4 => ?_) (fun hf q1 q2 q3 q4 => (key q1 q2 q3).2 q4) (go_keep q nm k m (by omega)), fun hF => ?_⟩
 ·obtain ⟨r1, r2, r3⟩ := (key q1 q2 q3).1 q4
  exact ⟨r1, r2, by rw [r3, ← hN]; exact (put_fine hf).1⟩
 ·obtain ⟨s', e, f1, f2, f3⟩ := hF
  have e' : ((s.named nm).failN n).putB x = s' := by injection e
  subst e'
  have hl := (put_fine f1).2.2
  rw [hl] at f2 f3
  obtain ⟨q', s1, e1, e2, _, g1, g2, _⟩ := Fine.at_ hR ⟨s, rfl, (put_fine f1).2.1, f2.shrink, by rw [List.length_append] at f3; omega⟩
  cases e1; cases e2
  exact ((key g1 g2 f2).1 f3).2.2
theorem later_U8 (c : CS) (nm : ByteArray) (rs : List (Nat → Nat)) (v : Nat) : c.later (c.pU8 nm rs v).1 := by
 cases c with
 | wr s => intro h; obtain ⟨_, h2, h3⟩ := put_fine h; exact ⟨h2, _, h3⟩
 | rd q => exact Q.go_later q nm 1 0 (by decide) (by decide) _
theorem later_U32 (c : CS) (nm : ByteArray) (rs : List (Nat → Nat)) (v : Nat) : c.later (c.pU32 nm rs v).1 := by
 cases c with
 | wr s => intro h; obtain ⟨_, h2, h3⟩ := put_fine h; exact ⟨h2, _, h3⟩
 | rd q => exact Q.go_later q nm 4 0 (by decide) (by decide) _
theorem back_U8 {A : List Nat} {c d : CS} (h : Rdg A c d) (nm : ByteArray) (rs : List (Nat → Nat)) (v0 v : Nat) (hv : v < 256) : Rdg A (c.pU8 nm rs v0).1 (d.pU8 nm rs v).1 ∧ (Fine A (d.pU8 nm rs v).1 → (c.pU8 nm rs v0).2 = v) := by
 have hR := h
 obtain ⟨q, s, rfl, rfl, _, _⟩ := h
 have := back_num (x := be 1 v) (k := 1) (m := 0) nm hR (.inl rfl) (be_len 1 v) (fun e => by omega) (fun e => by omega) (fb rs) (n := fb rs v) (by rw [val_be1N v hv])
 rw [val_be1N v hv] at this
 exact this
theorem back_U32 {A : List Nat} {c d : CS} (h : Rdg A c d) (nm : ByteArray) (rs : List (Nat → Nat)) (v0 v : Nat) (hv : v < 4294967296) : Rdg A (c.pU32 nm rs v0).1 (d.pU32 nm rs v).1 ∧ (Fine A (d.pU32 nm rs v).1 → (c.pU32 nm rs v0).2 = v) := by
 have hR := h
 obtain ⟨q, s, rfl, rfl, _, _⟩ := h
 have := back_num (x := be 4 v) (k := 4) (m := 0) nm hR (.inr (.inl rfl)) (be_len 4 v) (fun e => by omega) (fun e => by omega) (fb rs) (n := fb rs v) (by rw [val_be4N v hv])
 rw [val_be4N v hv] at this
 exact this
theorem rdg_given {A : List Nat} {c d : CS} {c' : CS} {s' : Wq} (h : Rdg A c d) (hc : c.later c') (hf : s'.f ≠ none) : Rdg A c' (.wr s') := by
 obtain ⟨q, s, rfl, rfl, ha, _⟩ := h
 cases c' with
 | wr _ => exact hc.elim
 | rd q' => exact ⟨q', s', rfl, rfl, hc.1.trans ha, fun h => absurd h hf⟩
theorem Wq.failN_pos (s : Wq) (n : Nat) (hn : n ≠ 0) : (s.failN n).f ≠ none := by
 unfold Wq.failN
 split
 ·rename_i h
  rcases h with h | h
  ·exact absurd h hn
  ·exact h
 ·simp
theorem later_F32 (c : CS) (nm : ByteArray) (rs : List (Nat → Nat)) (v : Nat) : c.later (c.pF32 nm rs v).1 := by
 cases c with
 | wr s =>
  intro h
  have h' : (((s.named nm).failN (fb rs v)).flt v).f = none := h
  show s.f = none ∧ ∃ y, (((s.named nm).failN (fb rs v)).flt v).l = s.l ++ y
  unfold Wq.flt at h' ⊢
  by_cases hq : quantB v = true
  ·rw [if_pos hq] at h' ⊢
   obtain ⟨_, h2, h3⟩ := put_fine h'
   exact ⟨h2, _, h3⟩
  ·rw [if_neg hq] at h'
   exact absurd h' (Wq.failN_pos _ _ (by decide))
 | rd q => exact Q.go_later q nm 5 0 (by decide) (by decide) _
theorem not_fine {A : List Nat} {s : Wq} (h : s.f ≠ none) : ¬ Fine A (.wr s) := fun ⟨s', e, f, _⟩ => by cases e; exact h f
theorem back_F32 {A : List Nat} {c d : CS} (h : Rdg A c d) (nm : ByteArray) (rs : List (Nat → Nat)) (v0 v : Nat) (hv : v < 4294967296) : Rdg A (c.pF32 nm rs v0).1 (d.pF32 nm rs v).1 ∧ (Fine A (d.pF32 nm rs v).1 → (c.pF32 nm rs v0).2 = v) := by
 have hR := h
 have hlc := later_F32 c nm rs v0
 obtain ⟨q, s, rfl, rfl, _, _⟩ := h
 have e : ((CS.wr s).pF32 nm rs v).1 = .wr (((s.named nm).failN (fb rs v)).flt v) := rfl
 rw [e]
 unfold Wq.flt
 by_cases hq : quantB v = true
 ·rw [if_pos hq]
  have := back_num (x := be 4 v) (k := 5) (m := 0) nm hR (.inr (.inr (.inl rfl))) (be_len 4 v) (fun e => by rw [val_be4N v hv]; exact hq) (fun e => by omega) (fb rs) (n := fb rs v) (by rw [val_be4N v hv])
  rw [val_be4N v hv] at this
  exact this
 ·rw [if_neg hq]
  have hn : (((s.named nm).failN (fb rs v)).failN 4).f ≠ none := Wq.failN_pos _ _ (by decide)
  exact ⟨rdg_given hR hlc hn, fun h => absurd h (not_fine hn)⟩
theorem later_Int (c : CS) (nm : ByteArray) (m : Int) (rs : List (Int → Nat)) (v : Int) : c.later (c.pInt nm m rs v).1 := by
 cases c with
 | wr s =>
  intro h
  have h' : (((s.named nm).failN (fb rs v)).cnt v m).f = none := h
  show s.f = none ∧ ∃ y, (((s.named nm).failN (fb rs v)).cnt v m).l = s.l ++ y
  unfold Wq.cnt Wq.lim at h' ⊢
  by_cases h0 : v < 0
  ·rw [if_pos h0] at h'
   exact absurd h' (Wq.failN_pos _ _ (by decide))
  ·rw [if_neg h0] at h' ⊢
   by_cases h1 : (v.toNat : Int) ≤ m ∧ v.toNat < 4294967296
   ·rw [if_pos h1] at h' ⊢
    obtain ⟨_, h2, h3⟩ := put_fine h'
    exact ⟨h2, _, h3⟩
   ·rw [if_neg h1] at h'
    exact absurd h' (Wq.failN_pos _ _ (by decide))
 | rd q => exact Q.go_later q nm 7 m (by decide) (by decide) _
theorem back_Int {A : List Nat} {c d : CS} (h : Rdg A c d) (nm : ByteArray) (m : Int) (rs : List (Int → Nat)) (v0 v : Int) : Rdg A (c.pInt nm m rs v0).1 (d.pInt nm m rs v).1 ∧ (Fine A (d.pInt nm m rs v).1 → (c.pInt nm m rs v0).2 = v) := by
 have hR := h
 have hlc := later_Int c nm m rs v0
 obtain ⟨q, s, rfl, rfl, _, _⟩ := h
 have e : ((CS.wr s).pInt nm m rs v).1 = .wr (((s.named nm).failN (fb rs v)).cnt v m) := rfl
 rw [e]
 unfold Wq.cnt Wq.lim
 by_cases h0 : v < 0
 ·rw [if_pos h0]
  have hn : (((s.named nm).failN (fb rs v)).failN 4).f ≠ none := Wq.failN_pos _ _ (by decide)
  exact ⟨rdg_given hR hlc hn, fun h => absurd h (not_fine hn)⟩
 ·rw [if_neg h0]
  by_cases h1 : (v.toNat : Int) ≤ m ∧ v.toNat < 4294967296
  ·rw [if_pos h1]
   have hv : val (be 4 v.toNat) = v.toNat := val_be4N _ h1.2
   have := back_num (x := be 4 v.toNat) (k := 7) (m := m) nm hR (.inr (.inr (.inr rfl))) (be_len 4 _) (fun e => by omega) (fun e => by rw [hv]; exact h1.1) (fun n => fb rs (n : Int)) (n := fb rs v) (by rw [hv, Int.toNat_of_nonneg (by omega)])
   refine ⟨this.1, fun hF => ?_⟩
   have h2 := this.2 hF
   show (((q.named nm).go 7 m).2.1 : Int) = v
   rw [h2, hv, Int.toNat_of_nonneg (by omega)]
  ·rw [if_neg h1]
   have hn : (((s.named nm).failN (fb rs v)).failN 2).f ≠ none := Wq.failN_pos _ _ (by decide)
   exact ⟨rdg_given hR hlc hn, fun h => absurd h (not_fine hn)⟩
theorem rd_byt {A : List Nat} {q : Q} {l y : List Nat} {m : Int} (ha : q.all = A) (hf : q.f = none) (hp : q.place = l.length) (hm : Meet A (l ++ (be 4 y.length ++ y))) (hn : y.length < 4294967296) (hmm : (y.length : Int) ≤ m) (nm : ByteArray) :
  ((l ++ (be 4 y.length ++ y)).length ≤ A.length → ((q.named nm).go 6 m).1.f = none ∧ ((q.named nm).go 6 m).1.place = (l ++ (be 4 y.length ++ y)).length ∧ norm ((q.named nm).go 6 m).2.2 = norm y) ∧ (A.length < (l ++ (be 4 y.length ++ y)).length → ∃ z, ((q.named nm).go 6 m).1.f = some z ∧ z.2.2 = 1) := by
 have hw : (l ++ (be 4 y.length ++ y)).length = l.length + 4 + y.length := by rw [List.length_append, List.length_append, be_len]; omega
 have hall : (q.named nm).all = A := ha
 have hff : (q.named nm).f = none := hf
 have hpl : (q.named nm).place = l.length := hp
 have hnum : l.length + 4 ≤ A.length → (q.named nm).num 4 = y.length := fun hle => by
  unfold Q.num
  rw [hall, hpl]
  have hm4 : Meet A (l ++ be 4 y.length) := by rw [← List.append_assoc] at hm; exact hm.shrink
  have := Meet.part hm4 (by rw [be_len]; exact hle)
  rw [be_len] at this
  rw [val_of_normN this, val_be4N _ hn]
 unfold Q.go Q.step
 simp only [show ¬ (6 : Int) = 10 by decide, show ¬ (6 : Int) = 9 by decide, show ¬ (6 : Int) = 5 by decide, if_false, ne_eq, not_true, false_and, true_or, true_and, hff, hall, hpl]
 refine ⟨fun hle => ?_, fun hlt => ?_⟩
 ·have h4 := hnum (by omega)
  rw [if_neg (by show ¬ A.length < 4 + l.length; omega), if_neg (by rw [h4]; omega), if_neg (by rw [h4]; omega)]
  refine ⟨rfl, by dsimp only; rw [h4]; omega, ?_⟩
  dsimp only
  rw [h4]
  have hm4 : Meet A ((l ++ be 4 y.length) ++ y) := by rw [List.append_assoc]; exact hm
  have := Meet.part hm4 (by rw [List.length_append, be_len]; omega)
  rwa [List.length_append, be_len] at this
 ·by_cases h0 : A.length < 4 + l.length
  ·rw [if_pos (by show A.length < 4 + l.length; exact h0)]
   exact ⟨_, rfl, rfl⟩
  ·have h4 := hnum (by omega)
   rw [if_neg (by show ¬ A.length < 4 + l.length; exact h0), if_neg (by rw [h4]; omega), if_pos (by rw [h4]; omega)]
   exact ⟨_, rfl, rfl⟩
theorem later_Byt (c : CS) (nm : ByteArray) (m : Int) (rs : List (List Nat → Nat)) (v : List Nat) : c.later (c.pByt nm m rs v).1 := by
 cases c with
 | wr s =>
  intro h
  have h' : (((s.named nm).failN (fb rs v)).lim v.length m (be 4 v.length ++ v)).f = none := h
  show s.f = none ∧ ∃ y, (((s.named nm).failN (fb rs v)).lim v.length m (be 4 v.length ++ v)).l = s.l ++ y
  unfold Wq.lim at h' ⊢
  by_cases h1 : (v.length : Int) ≤ m ∧ v.length < 4294967296
  ·rw [if_pos h1] at h' ⊢
   obtain ⟨_, h2, h3⟩ := put_fine h'
   exact ⟨h2, _, h3⟩
  ·rw [if_neg h1] at h'
   exact absurd h' (Wq.failN_pos _ _ (by decide))
 | rd q => exact Q.go_later q nm 6 m (by decide) (by decide) _
theorem later_Str (c : CS) (nm : ByteArray) (m : Int) (rs : List (ByteArray → Nat)) (v : ByteArray) : c.later (c.pStr nm m rs v).1 := by
 cases c with
 | wr s =>
  intro h
  have h' : (((s.named nm).failN (fb rs v)).lim v.size m (be 4 v.size ++ bytesOf v)).f = none := h
  show s.f = none ∧ ∃ y, (((s.named nm).failN (fb rs v)).lim v.size m (be 4 v.size ++ bytesOf v)).l = s.l ++ y
  unfold Wq.lim at h' ⊢
  by_cases h1 : (v.size : Int) ≤ m ∧ v.size < 4294967296
  ·rw [if_pos h1] at h' ⊢
   obtain ⟨_, h2, h3⟩ := put_fine h'
   exact ⟨h2, _, h3⟩
  ·rw [if_neg h1] at h'
   exact absurd h' (Wq.failN_pos _ _ (by decide))
 | rd q => exact Q.go_later q nm 6 m (by decide) (by decide) _
theorem back_bytes {A : List Nat} {q : Q} {s : Wq} {y : List Nat} {m : Int} {n : Nat} (nm : ByteArray) (hR : Rdg A (.rd q) (.wr s)) (hn : y.length < 4294967296) (hm : (y.length : Int) ≤ m) (N : List Nat → Nat) (hN : ∀ z, norm z = norm y → N z = n) :
  Rdg A (.rd (((q.named nm).go 6 m).1.failN (N ((q.named nm).go 6 m).2.2))) (.wr (((s.named nm).failN n).putB (be 4 y.length ++ y))) ∧ (Fine A (.wr (((s.named nm).failN n).putB (be 4 y.length ++ y))) → norm ((q.named nm).go 6 m).2.2 = norm y) := by
 have ha : q.all = A := by obtain ⟨q', s', e1, _, ha, _⟩ := hR; cases e1; exact ha
 have key : q.f = none → q.place = s.l.length → Meet A (s.l ++ (be 4 y.length ++ y)) → _ := fun q1 q2 q3 => rd_byt (m := m) ha q1 q2 q3 hn hm nm
 refine ⟨rdg_mk (s' := ((s.named nm).failN n).putB (be 4 y.length ++ y)) (x := be 4 y.length ++ y) hR (by rw [go_all]; exact ha) (fun hf => (put_fine hf).2) (fun hf q1 q2 q3 q4 => ?_) (fun hf q1 q2 q3 q4 => (key q1 q2 q3).2 q4) (go_keep q nm 6 m (by decide)), fun hF => ?_⟩
 ·obtain ⟨r1, r2, r3⟩ := (key q1 q2 q3).1 q4
  exact ⟨r1, r2, by rw [hN _ r3]; exact (put_fine hf).1⟩
 ·obtain ⟨s', e, f1, f2, f3⟩ := hF
  have e' : ((s.named nm).failN n).putB (be 4 y.length ++ y) = s' := by injection e
  subst e'
  have hl := (put_fine f1).2.2
  rw [hl] at f2 f3
  obtain ⟨q', s1, e1, e2, _, g1, g2, _⟩ := Fine.at_ hR ⟨s, rfl, (put_fine f1).2.1, f2.shrink, by rw [List.length_append] at f3; omega⟩
  cases e1; cases e2
  exact ((key g1 g2 f2).1 f3).2.2
theorem back_Byt {A : List Nat} {c d : CS} (h : Rdg A c d) (nm : ByteArray) (m : Int) (r : Nat → Nat) (v0 v : List Nat) : Rdg A (c.pByt nm m [fun v => r v.length] v0).1 (d.pByt nm m [fun v => r v.length] v).1 ∧ (Fine A (d.pByt nm m [fun v => r v.length] v).1 → norm (c.pByt nm m [fun v => r v.length] v0).2 = norm v) := by
 have hR := h
 have hlc := later_Byt c nm m [fun v => r v.length] v0
 obtain ⟨q, s, rfl, rfl, _, _⟩ := h
 have e : ((CS.wr s).pByt nm m [fun v => r v.length] v).1 = .wr (((s.named nm).failN (fb [fun v => r v.length] v)).lim v.length m (be 4 v.length ++ v)) := rfl
 rw [e]
 unfold Wq.lim
 by_cases h1 : (v.length : Int) ≤ m ∧ v.length < 4294967296
 ·rw [if_pos h1]
  exact back_bytes nm hR h1.2 h1.1 (fb [fun v => r v.length]) (fun z hz => by
   have : z.length = v.length := by have := congrArg List.length hz; simpa [norm] using this
   simp [fb, this])
 ·rw [if_neg h1]
  have hn : (((s.named nm).failN (fb [fun v => r v.length] v)).failN 2).f ≠ none := Wq.failN_pos _ _ (by decide)
  exact ⟨rdg_given hR hlc hn, fun h => absurd h (not_fine hn)⟩
theorem strOf_norm {a b : List Nat} (h : norm a = norm b) : strOf a = strOf b := by
 have e : ∀ l : List Nat, strOf l = strOf (norm l) := fun l => by
  unfold strOf norm
  rw [List.map_map]
  congr 2
  apply List.map_congr_left
  intro x _
  show UInt8.ofNat x = UInt8.ofNat (x % 256)
  apply UInt8.toNat_inj.1
  simp
 rw [e a, h, ← e b]
theorem strOf_bytesOfN (v : ByteArray) : strOf (bytesOf v) = v := by
 unfold strOf bytesOf
 rw [List.map_map]
 have : (UInt8.ofNat ∘ UInt8.toNat) = id := by funext x; exact UInt8.ofNat_toNat
 rw [this, List.map_id]
theorem bytesOf_len (v : ByteArray) : (bytesOf v).length = v.size := by
 show (v.data.toList.map UInt8.toNat).length = v.data.size
 rw [List.length_map, Array.length_toList]
theorem back_Str {A : List Nat} {c d : CS} (h : Rdg A c d) (nm : ByteArray) (m : Int) (rs : List (ByteArray → Nat)) (v0 v : ByteArray) : Rdg A (c.pStr nm m rs v0).1 (d.pStr nm m rs v).1 ∧ (Fine A (d.pStr nm m rs v).1 → (c.pStr nm m rs v0).2 = v) := by
 have hR := h
 have hlc := later_Str c nm m rs v0
 obtain ⟨q, s, rfl, rfl, _, _⟩ := h
 have e : ((CS.wr s).pStr nm m rs v).1 = .wr (((s.named nm).failN (fb rs v)).lim v.size m (be 4 v.size ++ bytesOf v)) := rfl
 rw [e]
 unfold Wq.lim
 by_cases h1 : (v.size : Int) ≤ m ∧ v.size < 4294967296
 ·rw [if_pos h1]
  have := back_bytes (y := bytesOf v) nm hR (by rw [bytesOf_len]; exact h1.2) (by rw [bytesOf_len]; exact h1.1) (fun z => fb rs (strOf z)) (n := fb rs v) (fun z hz => by rw [strOf_norm hz, strOf_bytesOfN])
  rw [bytesOf_len] at this
  exact ⟨this.1, fun hF => by
   have h2 := this.2 hF
   show strOf ((q.named nm).go 6 m).2.2 = v
   rw [strOf_norm h2, strOf_bytesOfN]⟩
 ·rw [if_neg h1]
  have hn : (((s.named nm).failN (fb rs v)).failN 2).f ≠ none := Wq.failN_pos _ _ (by decide)
  exact ⟨rdg_given hR hlc hn, fun h => absurd h (not_fine hn)⟩
theorem later_Id (c : CS) (v : Nat × Nat) : c.later (c.pId v).1 := CS.later_trans (later_U32 _ _ _ _) (later_U32 _ _ _ _)
theorem back_Id {A : List Nat} {c d : CS} (h : Rdg A c d) (v0 v : Nat × Nat) (h1 : v.1 < 4294967296) (h2 : v.2 < 4294967296) : Rdg A (c.pId v0).1 (d.pId v).1 ∧ (Fine A (d.pId v).1 → (c.pId v0).2 = v) := by
 have a := back_U32 h n_client [] v0.1 v.1 h1
 have b := back_U32 a.1 n_number [] v0.2 v.2 h2
 refine ⟨b.1, fun hF => Prod.ext (a.2 (hF.back (later_U32 _ _ _ _))) (b.2 hF)⟩
theorem later_Hash (c : CS) (nm : ByteArray) (v : List Nat) : c.later (c.pHash nm v).1 := later_Byt _ _ _ _ _
theorem back_Hash {A : List Nat} {c d : CS} (h : Rdg A c d) (nm : ByteArray) (v0 v : List Nat) : Rdg A (c.pHash nm v0).1 (d.pHash nm v).1 ∧ (Fine A (d.pHash nm v).1 → norm (c.pHash nm v0).2 = norm v) := back_Byt h nm 32 (szN 1 32) v0 v
theorem back_Head {A : List Nat} {c d : CS} (h : Rdg A c d) (v0 v : Nat × List Nat) (h1 : v.1 < 4294967296) : Rdg A (c.pHead v0).1 (d.pHead v).1 ∧ (Fine A (d.pHead v).1 → (c.pHead v0).2.1 = v.1 ∧ norm (c.pHead v0).2.2 = norm v.2) := by
 have a := back_U32 h n_size [] v0.1 v.1 h1
 have b := back_Hash a.1 n_root v0.2 v.2
 exact ⟨b.1, fun hF => ⟨a.2 (hF.back (later_Hash _ _ _)), b.2 hF⟩⟩
theorem later_Head (c : CS) (v : Nat × List Nat) : c.later (c.pHead v).1 := CS.later_trans (later_U32 _ _ _ _) (later_Hash _ _ _)
theorem back_Signed {A : List Nat} {c d : CS} (h : Rdg A c d) (v0 v : (Nat × List Nat) × Nat × List Nat) (h1 : v.1.1 < 4294967296) (h2 : v.2.1 < 4294967296) : Rdg A (c.pSigned v0).1 (d.pSigned v).1 ∧ (Fine A (d.pSigned v).1 → (c.pSigned v0).2.1.1 = v.1.1 ∧ norm (c.pSigned v0).2.1.2 = norm v.1.2 ∧ (c.pSigned v0).2.2.1 = v.2.1 ∧ norm (c.pSigned v0).2.2.2 = norm v.2.2) := by
 have a := back_Head h v0.1 v.1 h1
 have b := back_U32 a.1 n_key [] v0.2.1 v.2.1 h2
 have e := back_Byt b.1 n_signature 32768 (szN 0 32768) v0.2.2 v.2.2
 refine ⟨e.1, fun hF => ?_⟩
 have f1 : Fine A ((d.pHead v.1).1.pU32 n_key [] v.2.1).1 := hF.back (later_Byt _ _ _ _ _)
 have f0 : Fine A (d.pHead v.1).1 := f1.back (later_U32 _ _ _ _)
 exact ⟨(a.2 f0).1, (a.2 f0).2, b.2 f1, e.2 hF⟩
theorem back_Form {A : List Nat} {c d : CS} (h : Rdg A c d) (k : Nat) (hk : k < 256) : Rdg A (c.pForm k) (d.pForm k) := (back_U8 h n_form [wiN k k 5] k k hk).1
structure Fld.fit (f : Fld) : Prop where
 kind : f.kind < 256
 value : f.value < 4294967296
 unit : f.unit < 256
theorem later_Field (c : CS) (last : Nat) (f : Fld) : c.later (c.pField last f).1 := by
 unfold CS.pField
 split
 ·exact CS.later_trans (later_U8 _ _ _ _) (later_Str _ _ _ _ _)
 split
 ·exact CS.later_trans (CS.later_trans (later_U8 _ _ _ _) (later_F32 _ _ _ _)) (later_U8 _ _ _ _)
 ·exact later_U8 _ _ _ _
theorem w_back {A : List Nat} {c d : CS} (h : Rdg A c d) : ∃ s, d = .wr s := by obtain ⟨_, s, _, e, _, _⟩ := h; exact ⟨s, e⟩
theorem later_given {s : Wq} {d' : CS} (hs : s.f ≠ none) (h : (CS.wr s).later d') : ∃ s', d' = .wr s' ∧ s'.f ≠ none := by
 cases d' with
 | rd _ => exact h.elim
 | wr s' => exact ⟨s', rfl, fun h' => hs (h h').1⟩
theorem rdg_later {A : List Nat} {c d : CS} {c' d' : CS} {s : Wq} (h : Rdg A c d) (hc : c.later c') (hs : s.f ≠ none) (hd : (CS.wr s).later d') : Rdg A c' d' := by
 obtain ⟨s', rfl, hf⟩ := later_given hs hd
 exact rdg_given h hc hf
theorem fine_later {A : List Nat} {s : Wq} {d' : CS} (hs : s.f ≠ none) (hd : (CS.wr s).later d') : ¬ Fine A d' := fun h => absurd (h.back hd) (not_fine hs)
theorem putB_f0 {s : Wq} {x : List Nat} (h : s.f ≠ none) : (s.putB x).f ≠ none := by
 unfold Wq.putB
 rw [if_neg h]
 exact h
theorem bare_of {b : ByteArray} (h : b.toList = []) : b = ⟨#[]⟩ := by
 have : b.data.toList = [] := by rw [← Lib.toList_data]; exact h
 cases b with
 | mk a => cases a; simp at this; subst this; rfl
def CS.pKind (c : CS) (k : Nat) (f : Fld) : CS × Fld :=
 if k = 1 then ((c.pStr n_text 64 [fun v => szN 0 64 v.size] f.text).1, { f with kind := 1, text := (c.pStr n_text 64 [fun v => szN 0 64 v.size] f.text).2 })
 else if k = 2 then (((c.pF32 n_value [] f.value).1.pU8 n_unit [wiN 1 21 4] f.unit).1, { f with kind := 2, value := (c.pF32 n_value [] f.value).2, unit := ((c.pF32 n_value [] f.value).1.pU8 n_unit [wiN 1 21 4] f.unit).2 })
 else (c, { f with kind := k })
theorem CS.pField_kind (c : CS) (last : Nat) (f : Fld) : c.pField last f = (c.pU8 n_kind [wiN 1 last 5, unN f.beside] f.kind).1.pKind (c.pU8 n_kind [wiN 1 last 5, unN f.beside] f.kind).2 f := rfl
theorem later_Kind (c : CS) (k : Nat) (f : Fld) : c.later (c.pKind k f).1 := by
 unfold CS.pKind
 split
 ·exact later_Str _ _ _ _ _
 split
 ·exact CS.later_trans (later_F32 _ _ _ _) (later_U8 _ _ _ _)
 ·exact CS.later_refl _
theorem back_Kind {A : List Nat} {c d : CS} (h : Rdg A c d) (k : Nat) (f0 f : Fld) (hk : f.kind = k) (ht : f0.text = ⟨#[]⟩) (hv : f0.value = 0) (hu : f0.unit = 0) (hf : f.fit) (hb : f.beside = false) : Rdg A (c.pKind k f0).1 (d.pKind k f).1 ∧ (Fine A (d.pKind k f).1 → (c.pKind k f0).2 = { f with name := f0.name }) := by
 have hb' := of_decide_eq_false hb
 have h1 : f.kind ≠ 1 → f.text = ⟨#[]⟩ := fun hk => by
  by_cases ht : f.text.toList = []
  ·exact bare_of ht
  ·exact absurd (.inl ⟨hk, ht⟩) hb'
 have h2 : f.kind ≠ 2 → f.value = 0 ∧ f.unit = 0 := fun hk => by
  by_cases hv : f.value = 0 ∧ f.unit = 0
  ·exact hv
  ·exact absurd (.inr ⟨hk, by omega⟩) hb'
 obtain ⟨n0, k0, t0, v0, u0⟩ := f0
 obtain ⟨n, k1, t, v, u⟩ := f
 dsimp only at ht hv hu hk h1 h2
 subst ht hv hu hk
 unfold CS.pKind
 by_cases e1 : k1 = 1
 ·rw [if_pos e1, if_pos e1]
  obtain ⟨rfl, rfl⟩ := h2 (by omega)
  have a := back_Str h n_text 64 [fun v => szN 0 64 v.size] ⟨#[]⟩ t
  exact ⟨a.1, fun hF => by dsimp only; rw [a.2 hF, e1]⟩
 ·rw [if_neg e1, if_neg e1]
  obtain rfl := h1 e1
  by_cases e2 : k1 = 2
  ·rw [if_pos e2, if_pos e2]
   have a := back_F32 h n_value [] 0 v hf.value
   have b := back_U8 a.1 n_unit [wiN 1 21 4] 0 u hf.unit
   exact ⟨b.1, fun hF => by dsimp only; rw [b.2 hF, a.2 (hF.back (later_U8 _ _ _ _)), e2]⟩
  ·rw [if_neg e2, if_neg e2]
   obtain ⟨rfl, rfl⟩ := h2 e2
   exact ⟨h, fun _ => rfl⟩
theorem back_Field {A : List Nat} {c d : CS} (h : Rdg A c d) (last : Nat) (f0 f : Fld) (ht : f0.text = ⟨#[]⟩) (hv : f0.value = 0) (hu : f0.unit = 0) (hf : f.fit) : Rdg A (c.pField last f0).1 (d.pField last f).1 ∧ (Fine A (d.pField last f).1 → (c.pField last f0).2 = { f with name := f0.name }) := by
 have hb0 : f0.beside = false := Fld.beside_new f0 (.inr (by rw [ht]; exact empty_toListN)) (.inr ⟨hv, hu⟩)
 have hR := h
 obtain ⟨q, s, rfl, rfl, _, _⟩ := h
 cases hb : f.beside
 ·rw [CS.pField_kind, CS.pField_kind, hb0, hb]
  have a := back_U8 hR n_kind [wiN 1 last 5, unN false] f0.kind f.kind hf.kind
  have w : ((CS.wr s).pU8 n_kind [wiN 1 last 5, unN false] f.kind).2 = f.kind := rfl
  rw [w]
  generalize (CS.rd q).pU8 n_kind [wiN 1 last 5, unN false] f0.kind = P at *
  generalize ((CS.wr s).pU8 n_kind [wiN 1 last 5, unN false] f.kind).1 = D at *
  have lD := later_Kind D f.kind f
  by_cases hF : Fine A D
  ·rw [a.2 hF]
   exact back_Kind a.1 f.kind f0 f rfl ht hv hu hf hb
  ·exact ⟨a.1.stuck hF (later_Kind _ _ _) lD, fun h => absurd (h.back lD) hF⟩
 ·have l1 := later_Field (.rd q) last f0
  have e : ((CS.wr s).pU8 n_kind [wiN 1 last 5, unN f.beside] f.kind).1 = .wr (((s.named n_kind).failN (fb [wiN 1 last 5, unN f.beside] f.kind)).putB (be 1 f.kind)) := rfl
  have hn : (((s.named n_kind).failN (fb [wiN 1 last 5, unN f.beside] f.kind)).putB (be 1 f.kind)).f ≠ none := putB_f0 (Wq.failN_pos _ _ (by
   rw [hb]
   simp only [fb, unN, if_true]
   split
   ·decide
   ·assumption))
  have l2 : (CS.wr (((s.named n_kind).failN (fb [wiN 1 last 5, unN f.beside] f.kind)).putB (be 1 f.kind))).later ((CS.wr s).pField last f).1 := by
   rw [CS.pField_kind, ← e]
   exact later_Kind _ _ _
  exact ⟨rdg_later hR l1 hn l2, fun h => absurd h (fine_later hn l2)⟩
theorem later_Named (c : CS) (ahead : ByteArray) (last : Nat) (f : Fld) : c.later (c.pNamed ahead last f).1 := CS.later_trans (later_Str _ _ _ _ _) (later_Field _ _ _)
theorem back_Named {A : List Nat} {c d : CS} (h : Rdg A c d) (ahead : ByteArray) (last : Nat) (f : Fld) (hf : f.fit) : Rdg A (c.pNamed ahead last zFd).1 (d.pNamed ahead last f).1 ∧ (Fine A (d.pNamed ahead last f).1 → (c.pNamed ahead last zFd).2 = f) := by
 have a := back_Str h n_name 64 [fun v => szN 1 64 v.size, abN ahead] zFd.name f.name
 obtain ⟨q, s, rfl, rfl, _, _⟩ := h
 unfold CS.pNamed
 have w : ((CS.wr s).pStr n_name 64 [fun v => szN 1 64 v.size, abN ahead] f.name).2 = f.name := rfl
 rw [w]
 generalize (CS.rd q).pStr n_name 64 [fun v => szN 1 64 v.size, abN ahead] zFd.name = P at *
 generalize ((CS.wr s).pStr n_name 64 [fun v => szN 1 64 v.size, abN ahead] f.name).1 = D at *
 have b := back_Field a.1 last { zFd with name := P.2 } { f with name := f.name } rfl rfl rfl ⟨hf.kind, hf.value, hf.unit⟩
 refine ⟨b.1, fun hF => ?_⟩
 rw [b.2 hF]
 dsimp only
 rw [a.2 (hF.back (later_Field _ _ _))]
theorem later_lpW (last : Nat) : ∀ (l : List Fld) (s : CS × ByteArray), s.1.later (lpW (eachF last) s l).1
 | [], _ => CS.later_refl _
 | f :: l, s => CS.later_trans (later_Named _ _ _ _) (later_lpW last l (eachF last s f).1)
theorem later_lpR (last : Nat) : ∀ (n : Nat) (s : CS × ByteArray), s.1.later (lpR (eachF last) zFd n s).1.1
 | 0, _ => CS.later_refl _
 | n + 1, s => CS.later_trans (later_lpR last n s) (later_Named _ _ _ _)
theorem w_named {A : List Nat} {c d : CS} (h : Rdg A c d) (ahead : ByteArray) (last : Nat) (f : Fld) : (d.pNamed ahead last f).2.name = f.name := by
 obtain ⟨s, rfl⟩ := w_back h
 have hn : ∀ (c : CS) (last : Nat) (f : Fld), (c.pField last f).2.name = f.name := fun c last f => by
  unfold CS.pField
  split
  ·rfl
  ·split <;> rfl
 unfold CS.pNamed
 rw [hn]
 rfl
theorem back_lp {A : List Nat} (last : Nat) (l : List Fld) (hl : ∀ f ∈ l, f.fit) (s t : CS × ByteArray) (h : Rdg A s.1 t.1) (hs : s.2 = t.2) : ∀ n, n ≤ l.length → Rdg A (lpR (eachF last) zFd n s).1.1 (lpW (eachF last) t (l.take n)).1 ∧ (Fine A (lpW (eachF last) t (l.take n)).1 → (lpR (eachF last) zFd n s).2 = l.take n ∧ (lpR (eachF last) zFd n s).1.2 = (lpW (eachF last) t (l.take n)).2)
 | 0, _ => ⟨h, fun _ => ⟨rfl, hs⟩⟩
 | n + 1, hn => by
  obtain ⟨i1, i2⟩ := back_lp last l hl s t h hs n (by omega)
  have hx : l[n]? = some (l[n]'(by omega)) := List.getElem?_eq_getElem _
  have hm : l[n]'(by omega) ∈ l := List.getElem_mem _
  generalize (l[n]'(by omega)) = f at hx hm
  have e1 : (lpR (eachF last) zFd (n + 1) s).1 = (eachF last (lpR (eachF last) zFd n s).1 zFd).1 := rfl
  have e2 : (lpR (eachF last) zFd (n + 1) s).2 = (lpR (eachF last) zFd n s).2 ++ [(eachF last (lpR (eachF last) zFd n s).1 zFd).2] := rfl
  rw [e1, e2, lpW_succ (eachF last) t l n f hx]
  generalize lpR (eachF last) zFd n s = P at *
  generalize lpW (eachF last) t (l.take n) = B at *
  by_cases hF : Fine A B.1
  ·obtain ⟨j1, j2⟩ := i2 hF
   have k := back_Named i1 P.1.2 last f (hl f hm)
   unfold eachF
   dsimp only
   rw [← j2]
   refine ⟨k.1, fun h2 => ⟨?_, ?_⟩⟩
   ·rw [k.2 h2, j1, List.take_add_one, hx]
    rfl
   ·rw [k.2 h2, w_named i1]
  ·exact ⟨i1.stuck hF (later_Named _ _ _ _) (later_Named _ _ _ _), fun h2 => absurd (h2.back (later_Named _ _ _ _)) hF⟩
theorem later_Fields (c : CS) (last : Nat) (rs : List (Int → Nat)) (l : List Fld) : c.later (c.pFields last rs l).1 := by
 cases c with
 | wr s => exact CS.later_trans (later_Int (.wr s) n_fields 32 (lrs 32 rs) l.length) (later_lpW last _ (((CS.wr s).pInt n_fields 32 (lrs 32 rs) l.length).1, ⟨#[]⟩))
 | rd q => exact CS.later_trans (later_Int (.rd q) n_fields 32 (lrs 32 rs) 0) (later_lpR last _ (((CS.rd q).pInt n_fields 32 (lrs 32 rs) 0).1, ⟨#[]⟩))
theorem int_fine {A : List Nat} {s : Wq} {nm : ByteArray} {m : Nat} {rs : List (Int → Nat)} {n : Nat} (h : Fine A ((CS.wr s).pInt nm m (lrs m rs) n).1) : n ≤ m := by
 obtain ⟨s', e, f1, _⟩ := h
 have e' : ((s.named nm).failN (fb (lrs m rs) (n : Int))).cnt n m = s' := by injection e
 subst e'
 by_cases hn : n ≤ m
 ·exact hn
 ·have h2 : (((s.named nm).failN (fb (lrs m rs) (n : Int))).cnt n m).f ≠ none := by
   unfold Wq.cnt Wq.lim
   rw [if_neg (by omega), if_neg (by simp only [Int.toNat_natCast]; omega)]
   exact Wq.failN_pos _ _ (by decide)
  exact absurd f1 h2
theorem back_Fields {A : List Nat} {c d : CS} (h : Rdg A c d) (last : Nat) (rs : List (Int → Nat)) (l : List Fld) (hl : ∀ f ∈ l, f.fit) : Rdg A (c.pFields last rs []).1 (d.pFields last rs l).1 ∧ (Fine A (d.pFields last rs l).1 → (c.pFields last rs []).2 = l) := by
 have a := back_Int h n_fields 32 (lrs 32 rs) 0 l.length
 obtain ⟨q, s, rfl, rfl, _, _⟩ := h
 have hv : ((CS.rd q).pInt n_fields 32 (lrs 32 rs) 0).2 = (((q.named n_fields).go 7 32).2.1 : Int) := rfl
 rw [hv] at a
 unfold CS.pFields
 dsimp only
 generalize hc1 : ((CS.rd q).pInt n_fields 32 (lrs 32 rs) 0).1 = c1 at *
 have hif : Fine A ((CS.wr s).pInt n_fields 32 (lrs 32 rs) l.length).1 → l.length ≤ 32 := fun h => int_fine (m := 32) h
 generalize ((CS.wr s).pInt n_fields 32 (lrs 32 rs) l.length).1 = D at *
 have lD := later_lpW last (l.take (min l.length 32)) (D, ⟨#[]⟩)
 by_cases hF : Fine A D
 ·have h32 := hif hF
  have hn : ((q.named n_fields).go 7 32).2.1 = l.length := by have := a.2 hF; omega
  rw [hn, show min l.length 32 = l.length by omega]
  have k := back_lp last l hl (c1, ⟨#[]⟩) (D, ⟨#[]⟩) a.1 rfl l.length (Nat.le_refl _)
  exact ⟨k.1, fun h2 => by rw [(k.2 h2).1, List.take_length]⟩
 ·exact ⟨a.1.stuck hF (later_lpR last _ (c1, ⟨#[]⟩)) lD, fun h2 => absurd (h2.back lD) hF⟩
theorem later_loopW {α : Type} {each : CS → α → CS × α} (hl : ∀ (c : CS) (v : α), c.later (each c v).1) : ∀ (l : List α) (c : CS), c.later (loopW each c l)
 | [], _ => CS.later_refl _
 | v :: l, c => CS.later_trans (hl c v) (later_loopW hl l (each c v).1)
theorem later_loopR {α : Type} {each : CS → α → CS × α} {z : α} (hl : ∀ (c : CS) (v : α), c.later (each c v).1) : ∀ (n : Nat) (c : CS), c.later (loopR each z n c).1
 | 0, _ => CS.later_refl _
 | n + 1, c => CS.later_trans (later_loopR hl n c) (hl _ _)
def Rel2 {α : Type} (R : α → α → Prop) (a b : List α) : Prop := a.length = b.length ∧ ∀ (i : Nat) (x y : α), a[i]? = some x → b[i]? = some y → R x y
theorem Rel2.snoc {α : Type} {R : α → α → Prop} {a b : List α} {x y : α} (h : Rel2 R a b) (hx : R x y) : Rel2 R (a ++ [x]) (b ++ [y]) := by
 refine ⟨by simp [h.1], fun i u v hu hv => ?_⟩
 by_cases hi : i < a.length
 ·rw [List.getElem?_append_left hi] at hu
  rw [List.getElem?_append_left (by rw [← h.1]; exact hi)] at hv
  exact h.2 i u v hu hv
 ·rw [List.getElem?_append_right (by omega)] at hu
  rw [List.getElem?_append_right (by rw [← h.1]; omega), ← h.1] at hv
  have hz : i - a.length = 0 := by
   have := (List.getElem?_eq_some_iff.1 hu).1
   simp at this
   omega
  rw [hz] at hu hv
  simp at hu hv
  rw [← hu, ← hv]; exact hx
theorem Rel2.eq {α : Type} {a b : List α} (h : Rel2 (fun x y : α => x = y) a b) : a = b := by
 apply List.ext_getElem?
 intro i
 by_cases hi : i < a.length
 ·have h1 : a[i]? = some (a[i]'hi) := List.getElem?_eq_getElem hi
  have h2 : b[i]? = some (b[i]'(by rw [← h.1]; exact hi)) := List.getElem?_eq_getElem _
  rw [h1, h2, h.2 i _ _ h1 h2]
 ·rw [List.getElem?_eq_none (by omega), List.getElem?_eq_none (by rw [← h.1]; omega)]
theorem back_loop {α : Type} {A : List Nat} {each : CS → α → CS × α} {z : α} {R : α → α → Prop} {P : α → Prop} (hl : ∀ (c : CS) (v : α), c.later (each c v).1) (he : ∀ {c d : CS} (v : α), P v → Rdg A c d → Rdg A (each c z).1 (each d v).1 ∧ (Fine A (each d v).1 → R (each c z).2 v))
  (l : List α) (hP : ∀ v ∈ l, P v) {c d : CS} (h : Rdg A c d) : ∀ n, n ≤ l.length → Rdg A (loopR each z n c).1 (loopW each d (l.take n)) ∧ (Fine A (loopW each d (l.take n)) → Rel2 R (loopR each z n c).2 (l.take n))
 | 0, _ => ⟨h, fun _ => ⟨rfl, fun i x y hx _ => by simp [loopR] at hx⟩⟩
 | n + 1, hn => by
  obtain ⟨i1, i2⟩ := back_loop hl he l hP h n (by omega)
  have hx : l[n]? = some (l[n]'(by omega)) := List.getElem?_eq_getElem _
  have hm : l[n]'(by omega) ∈ l := List.getElem_mem _
  generalize (l[n]'(by omega)) = f at hx hm
  have e1 : (loopR each z (n + 1) c).1 = (each (loopR each z n c).1 z).1 := rfl
  have e2 : (loopR each z (n + 1) c).2 = (loopR each z n c).2 ++ [(each (loopR each z n c).1 z).2] := rfl
  rw [e1, e2, loopW_succ each d l n f hx]
  have k := he (c := (loopR each z n c).1) (d := loopW each d (l.take n)) f (hP f hm) i1
  refine ⟨k.1, fun h2 => ?_⟩
  rw [List.take_add_one, hx]
  exact (i2 (h2.back (hl _ _))).snoc (k.2 h2)
theorem back_list {α : Type} {A : List Nat} {each : CS → α → CS × α} {z : α} {R : α → α → Prop} {P : α → Prop} (hl : ∀ (c : CS) (v : α), c.later (each c v).1) (he : ∀ {c d : CS} (v : α), P v → Rdg A c d → Rdg A (each c z).1 (each d v).1 ∧ (Fine A (each d v).1 → R (each c z).2 v))
  (l : List α) (hP : ∀ v ∈ l, P v) {q : Q} {s : Wq} (h : Rdg A (.rd q) (.wr s)) (nm : ByteArray) (m : Nat) :
  Rdg A (loopR each z (min ((q.named nm).go 7 m).2.1 m) ((CS.rd q).pInt nm m (lrs m []) 0).1).1 (loopW each ((CS.wr s).pInt nm m (lrs m []) l.length).1 (l.take (min l.length m))) ∧ (Fine A (loopW each ((CS.wr s).pInt nm m (lrs m []) l.length).1 (l.take (min l.length m))) → Rel2 R (loopR each z (min ((q.named nm).go 7 m).2.1 m) ((CS.rd q).pInt nm m (lrs m []) 0).1).2 l) := by
 have a := back_Int h nm m (lrs m []) 0 l.length
 have hv : ((CS.rd q).pInt nm m (lrs m []) 0).2 = (((q.named nm).go 7 m).2.1 : Int) := rfl
 rw [hv] at a
 generalize hc1 : ((CS.rd q).pInt nm m (lrs m []) 0).1 = c1 at *
 have hif : Fine A ((CS.wr s).pInt nm m (lrs m []) l.length).1 → l.length ≤ m := fun h => int_fine (m := m) h
 generalize ((CS.wr s).pInt nm m (lrs m []) l.length).1 = D at *
 have lD := later_loopW hl (l.take (min l.length m)) D
 by_cases hF : Fine A D
 ·have h32 := hif hF
  have hn : ((q.named nm).go 7 m).2.1 = l.length := by have := a.2 hF; omega
  rw [hn, show min l.length m = l.length by omega]
  have k := back_loop (z := z) (R := R) (P := P) hl he l hP a.1 l.length (Nat.le_refl _)
  refine ⟨k.1, fun h2 => ?_⟩
  have := k.2 h2
  rwa [List.take_length] at this
 ·exact ⟨a.1.stuck hF (later_loopR hl _ c1) lD, fun h2 => absurd (h2.back lD) hF⟩
theorem later_Summary (c : CS) (v : SuM) : c.later (c.pSummary v).1 := CS.later_trans (CS.later_trans (CS.later_trans (later_U32 _ _ _ _) (later_U32 _ _ _ _)) (later_U32 _ _ _ _)) (later_U8 _ _ _ _)
theorem back_Summary {A : List Nat} {c d : CS} (v : SuM) (hv : v.ok) (h : Rdg A c d) : Rdg A (c.pSummary zSu).1 (d.pSummary v).1 ∧ (Fine A (d.pSummary v).1 → (c.pSummary zSu).2 = v) := by
 have a1 := back_U32 h n_author [] 0 v.au hv.au
 have a2 := back_U32 a1.1 n_event [] 0 v.ev hv.ev
 have a3 := back_U32 a2.1 n_many [] 0 v.fi hv.fi
 have a4 := back_U8 a3.1 n_gone [wiN 0 1 4] 0 v.gone (by unfold SuM.gone; split <;> decide)
 refine ⟨a4.1, fun hF => ?_⟩
 have f3 : Fine A (d.s3 v).1 := hF.back (later_U8 _ _ _ _)
 have f2 : Fine A (d.s2 v).1 := f3.back (later_U32 _ _ _ _)
 have f1 : Fine A (d.s1 v).1 := f2.back (later_U32 _ _ _ _)
 have e4 : (c.s4 zSu).2 = v.gone := a4.2 hF
 have e3 : (c.s3 zSu).2 = v.fi := a3.2 f3
 have e2 : (c.s2 zSu).2 = v.ev := a2.2 f2
 have e1 : (c.s1 zSu).2 = v.au := a1.2 f1
 unfold CS.pSummary
 rw [e1, e2, e3, e4]
 obtain ⟨au, ev, fi, re⟩ := v
 cases re <;> rfl
theorem later_Hist (c : CS) (l : List SuM) : c.later (c.pHist l).1 := by
 cases c with
 | wr s => exact CS.later_trans (later_Int (.wr s) n_history 64 (lrs 64 []) l.length) (later_loopW later_Summary _ _)
 | rd q => exact CS.later_trans (later_Int (.rd q) n_history 64 (lrs 64 []) 0) (later_loopR later_Summary _ _)
theorem back_Hist {A : List Nat} {c d : CS} (h : Rdg A c d) (l : List SuM) (hl : ∀ v ∈ l, v.ok) : Rdg A (c.pHist []).1 (d.pHist l).1 ∧ (Fine A (d.pHist l).1 → (c.pHist []).2 = l) := by
 have hR := h
 obtain ⟨q, s, rfl, rfl, _, _⟩ := h
 have k := back_list (each := fun c v => c.pSummary v) (z := zSu) (R := fun x y => x = y) (P := SuM.ok) later_Summary (fun v hv h => back_Summary v hv h) l hl hR n_history 64
 exact ⟨k.1, fun hF => (k.2 hF).eq⟩
theorem later_Proof (c : CS) (l : List (List Nat)) : c.later (c.pProof l).1 := by
 cases c with
 | wr s => exact CS.later_trans (later_Int (.wr s) n_hashes (4096 : Nat) (lrs (4096 : Nat) []) l.length) (later_loopW (fun c v => later_Hash c n_hash v) _ _)
 | rd q => exact CS.later_trans (later_Int (.rd q) n_hashes (4096 : Nat) (lrs (4096 : Nat) []) 0) (later_loopR (fun c v => later_Hash c n_hash v) _ _)
theorem back_Proof {A : List Nat} {c d : CS} (h : Rdg A c d) (l : List (List Nat)) : Rdg A (c.pProof []).1 (d.pProof l).1 ∧ (Fine A (d.pProof l).1 → Rel2 (fun x y => norm x = norm y) (c.pProof []).2 l) := by
 have hR := h
 obtain ⟨q, s, rfl, rfl, _, _⟩ := h
 exact back_list (each := fun c v => c.pHash n_hash v) (z := []) (R := fun x y => norm x = norm y) (P := fun _ => True) (fun c v => later_Hash c n_hash v) (fun v _ h => back_Hash h n_hash [] v) l (fun _ _ => trivial) hR n_hashes 4096
theorem later_Answer (c : CS) (v : AnM) : c.later (c.pAnswer v).1 := CS.later_trans (CS.later_trans (CS.later_trans (CS.later_trans (CS.later_trans (later_Id _ _) (later_U8 _ _ _ _)) (later_U32 _ _ _ _)) (later_U32 _ _ _ _)) (later_Fields _ _ _ _)) (later_Hist _ _)
theorem back_Answer {A : List Nat} {c d : CS} (h : Rdg A c d) (v : AnM) (hv : v.ok) (hf : ∀ f ∈ v.fs, f.fit) (hh : ∀ f ∈ v.hi, f.ok) : Rdg A (c.pAnswer zAn).1 (d.pAnswer v).1 ∧ (Fine A (d.pAnswer v).1 → (c.pAnswer zAn).2 = v) := by
 have a1 := back_Id h (0, 0) (v.cl, v.nu) hv.cl hv.nu
 have a2 := back_U8 a1.1 n_code [wiN 0 10 5] 0 v.co hv.co
 have a3 := back_U32 a2.1 n_record [] 0 v.re hv.re
 have a4 := back_U32 a3.1 n_version [] 0 v.ve hv.ve
 have a5 := back_Fields a4.1 2 [] v.fs hf
 have a6 := back_Hist a5.1 v.hi hh
 refine ⟨a6.1, fun hF => ?_⟩
 have f5 : Fine A (d.a5 v).1 := hF.back (later_Hist _ _)
 have f4 : Fine A (d.a4 v).1 := f5.back (later_Fields _ _ _ _)
 have f3 : Fine A (d.a3 v).1 := f4.back (later_U32 _ _ _ _)
 have f2 : Fine A (d.a2 v).1 := f3.back (later_U32 _ _ _ _)
 have f1 : Fine A (d.a1 v).1 := f2.back (later_U8 _ _ _ _)
 have e6 : (c.a6 zAn).2 = v.hi := a6.2 hF
 have e5 : (c.a5 zAn).2 = v.fs := a5.2 f5
 have e4 : (c.a4 zAn).2 = v.ve := a4.2 f4
 have e3 : (c.a3 zAn).2 = v.re := a3.2 f3
 have e2 : (c.a2 zAn).2 = v.co := a2.2 f2
 have e1 : (c.a1 zAn).2 = (v.cl, v.nu) := a1.2 f1
 unfold CS.pAnswer
 rw [e1, e2, e3, e4, e5, e6]
def CS.pRest (c : CS) (op : Nat) (v : RqM) : CS × (Nat × Nat × Nat × Nat × List Fld × ByteArray) :=
 let a4 := c.pU32 n_record [wiN 0 (lims op).1 4] v.re
 let a5 := a4.1.pU32 n_version [wiN 0 (lims op).2.1 4] v.ve
 let a6 := a5.1.pU32 n_ward [wiN 0 (lims op).2.2.1 4] v.wa
 let a7 := a6.1.pU32 n_owner [wiN 0 (lims op).2.2.2.1 4] v.ow
 let a8 := a7.1.pFields (lims op).2.2.2.2.2.2 [wiI 0 (lims op).2.2.2.2.1 4] v.fs
 let a9 := a8.1.pStr n_reason 64 [fun v => szN 0 64 v.size, rsN (lims op).2.2.2.2.2.1] v.rs
 (a9.1, a4.2, a5.2, a6.2, a7.2, a8.2, a9.2)
theorem later_Rest (c : CS) (op : Nat) (v : RqM) : c.later (c.pRest op v).1 := CS.later_trans (CS.later_trans (CS.later_trans (CS.later_trans (CS.later_trans (later_U32 _ _ _ _) (later_U32 _ _ _ _)) (later_U32 _ _ _ _)) (later_U32 _ _ _ _)) (later_Fields _ _ _ _)) (later_Str _ _ _ _ _)
theorem back_Rest {A : List Nat} {c d : CS} (h : Rdg A c d) (op : Nat) (v : RqM) (hv : v.ok) (hf : ∀ f ∈ v.fs, f.fit) : Rdg A (c.pRest op zRq).1 (d.pRest op v).1 ∧ (Fine A (d.pRest op v).1 → (c.pRest op zRq).2 = (v.re, v.ve, v.wa, v.ow, v.fs, v.rs)) := by
 have a4 := back_U32 h n_record [wiN 0 (lims op).1 4] 0 v.re hv.re
 have a5 := back_U32 a4.1 n_version [wiN 0 (lims op).2.1 4] 0 v.ve hv.ve
 have a6 := back_U32 a5.1 n_ward [wiN 0 (lims op).2.2.1 4] 0 v.wa hv.wa
 have a7 := back_U32 a6.1 n_owner [wiN 0 (lims op).2.2.2.1 4] 0 v.ow hv.ow
 have a8 := back_Fields a7.1 (lims op).2.2.2.2.2.2 [wiI 0 (lims op).2.2.2.2.1 4] v.fs hf
 have a9 := back_Str a8.1 n_reason 64 [fun v => szN 0 64 v.size, rsN (lims op).2.2.2.2.2.1] ⟨#[]⟩ v.rs
 refine ⟨a9.1, fun hF => ?_⟩
 have f8 := Fine.back hF (later_Str _ n_reason 64 [fun v => szN 0 64 v.size, rsN (lims op).2.2.2.2.2.1] v.rs)
 have f7 := Fine.back f8 (later_Fields _ (lims op).2.2.2.2.2.2 [wiI 0 (lims op).2.2.2.2.1 4] v.fs)
 have f6 := Fine.back f7 (later_U32 _ n_owner [wiN 0 (lims op).2.2.2.1 4] v.ow)
 have f5 := Fine.back f6 (later_U32 _ n_ward [wiN 0 (lims op).2.2.1 4] v.wa)
 have f4 := Fine.back f5 (later_U32 _ n_version [wiN 0 (lims op).2.1 4] v.ve)
 show (_, _, _, _, _, _) = _
 rw [← a4.2 f4, ← a5.2 f5, ← a6.2 f6, ← a7.2 f7, ← a8.2 f8, ← a9.2 hF]
 rfl
theorem CS.pRequest_rest (c : CS) (v : RqM) : c.pRequest v = (((c.q3 v).1.pRest (c.q3 v).2 v).1, ⟨(c.q1 v).2.1, (c.q1 v).2.2, (c.q2 v).2, (c.q3 v).2, ((c.q3 v).1.pRest (c.q3 v).2 v).2.1, ((c.q3 v).1.pRest (c.q3 v).2 v).2.2.1, ((c.q3 v).1.pRest (c.q3 v).2 v).2.2.2.1, ((c.q3 v).1.pRest (c.q3 v).2 v).2.2.2.2.1, ((c.q3 v).1.pRest (c.q3 v).2 v).2.2.2.2.2.1, ((c.q3 v).1.pRest (c.q3 v).2 v).2.2.2.2.2.2⟩) := rfl
theorem later_q3 (c : CS) (v : RqM) : c.later (c.q3 v).1 := CS.later_trans (CS.later_trans (later_Id _ _) (later_U32 _ _ _ _)) (later_U8 _ _ _ _)
theorem later_Request (c : CS) (v : RqM) : c.later (c.pRequest v).1 := CS.later_trans (later_q3 c v) (later_Rest _ _ _)
theorem back_Request {A : List Nat} {c d : CS} (h : Rdg A c d) (v : RqM) (hv : v.ok) (hf : ∀ f ∈ v.fs, f.fit) : Rdg A (c.pRequest zRq).1 (d.pRequest v).1 ∧ (Fine A (d.pRequest v).1 → (c.pRequest zRq).2 = v) := by
 have a1 := back_Id h (0, 0) (v.cl, v.nu) hv.cl hv.nu
 have a2 := back_U32 a1.1 n_actor [] 0 v.ac hv.ac
 have a3 := back_U8 a2.1 n_op [wiN 1 7 5] 0 v.op hv.op
 have a3' : Rdg A (c.q3 zRq).1 (d.q3 v).1 ∧ (Fine A (d.q3 v).1 → (c.q3 zRq).2 = v.op) := a3
 have w : (d.q3 v).2 = v.op := by
  obtain ⟨s, e⟩ := w_back a2.1
  show (((d.pId (v.cl, v.nu)).1.pU32 n_actor [] v.ac).1.pU8 n_op [wiN 1 7 5] v.op).2 = v.op
  rw [e]; rfl
 rw [CS.pRequest_rest, CS.pRequest_rest, w]
 dsimp only
 by_cases hF : Fine A (d.q3 v).1
 ·rw [a3'.2 hF]
  have k := back_Rest a3'.1 v.op v hv hf
  refine ⟨k.1, fun h2 => ?_⟩
  rw [k.2 h2]
  have f2 : Fine A (d.q2 v).1 := hF.back (later_U8 _ _ _ _)
  have f1 : Fine A (d.q1 v).1 := f2.back (later_U32 _ _ _ _)
  have e2 : (c.q2 zRq).2 = v.ac := a2.2 f2
  have e1 : (c.q1 zRq).2 = (v.cl, v.nu) := a1.2 f1
  rw [e1, e2]
 ·exact ⟨a3'.1.stuck hF (later_Rest _ _ _) (later_Rest _ _ _), fun h2 => absurd (h2.back (later_Rest _ _ _)) hF⟩
def EvM.like (a b : EvM) : Prop := a.pl = b.pl ∧ a.rq = b.rq ∧ a.co = b.co ∧ norm a.dg = norm b.dg
theorem later_Event (c : CS) (v : EvM) : c.later (c.pEvent v).1 := CS.later_trans (CS.later_trans (CS.later_trans (later_U32 _ _ _ _) (later_Request _ _)) (later_U8 _ _ _ _)) (later_Hash _ _ _)
theorem back_Event {A : List Nat} {c d : CS} (h : Rdg A c d) (v : EvM) (hv : v.ok) (hf : ∀ f ∈ v.rq.fs, f.fit) : Rdg A (c.pEvent zEv).1 (d.pEvent v).1 ∧ (Fine A (d.pEvent v).1 → (c.pEvent zEv).2.like v) := by
 have a1 := back_U32 h n_place [] 0 v.pl hv.pl
 have a2 := back_Request a1.1 v.rq hv.rq hf
 have a3 := back_U8 a2.1 n_code [wiN 0 10 5] 0 v.co hv.co
 have a4 := back_Hash a3.1 n_digest [] v.dg
 refine ⟨a4.1, fun hF => ?_⟩
 have f3 : Fine A (d.e3 v).1 := hF.back (later_Hash _ _ _)
 have f2 : Fine A (d.e2 v).1 := f3.back (later_U8 _ _ _ _)
 have f1 : Fine A (d.e1 v).1 := f2.back (later_Request _ _)
 exact ⟨a1.2 f1, a2.2 f2, a3.2 f3, a4.2 hF⟩
theorem RqM.is_no {v : RqM} (h : v.is = false) : v = zRq := by
 obtain ⟨cl, nu, ac, op, re, ve, wa, ow, fs, rs⟩ := v
 unfold RqM.is at h
 simp only [Bool.or_eq_false_iff, Bool.not_eq_eq_eq_not, Bool.not_false, Bool.and_eq_true, beq_iff_eq, bne_eq_false_iff_eq] at h
 obtain ⟨⟨⟨⟨⟨⟨⟨⟨⟨rfl, rfl⟩, rfl⟩, rfl⟩, rfl⟩, rfl⟩, rfl⟩, rfl⟩, hf⟩, hr⟩ := h
 obtain rfl := List.length_eq_zero_iff.1 hf
 obtain rfl := bare_of (List.isEmpty_iff.1 hr)
 rfl
theorem AnM.is_no {v : AnM} (h : v.is = false) : v = zAn := by
 obtain ⟨cl, nu, co, re, ve, fs, hi⟩ := v
 unfold AnM.is at h
 simp only [Bool.or_eq_false_iff, Bool.not_eq_eq_eq_not, Bool.not_false, Bool.and_eq_true, beq_iff_eq, bne_eq_false_iff_eq] at h
 obtain ⟨⟨⟨⟨⟨⟨rfl, rfl⟩, rfl⟩, rfl⟩, rfl⟩, hf⟩, hh⟩ := h
 obtain rfl := List.length_eq_zero_iff.1 hf
 obtain rfl := List.length_eq_zero_iff.1 hh
 rfl
theorem EvM.is_no {v : EvM} (h : v.is = false) : v = zEv := by
 obtain ⟨pl, rq, co, dg⟩ := v
 unfold EvM.is at h
 simp only [Bool.or_eq_false_iff, bne_eq_false_iff_eq] at h
 obtain ⟨⟨⟨rfl, hr⟩, rfl⟩, hd⟩ := h
 obtain rfl := RqM.is_no hr
 obtain rfl := List.length_eq_zero_iff.1 hd
 rfl
theorem MsM.is_no {v : MsM} (h : v.is = false) : v = { zMs with kd := v.kd } := by
 obtain ⟨kd, rq, icl, inu, an, co, ev, le⟩ := v
 unfold MsM.is at h
 simp only [Bool.or_eq_false_iff, Bool.not_eq_eq_eq_not, Bool.not_false, Bool.and_eq_true, beq_iff_eq, bne_eq_false_iff_eq] at h
 obtain ⟨⟨⟨⟨⟨hr, rfl, rfl⟩, ha⟩, rfl⟩, he⟩, rfl⟩ := h
 obtain rfl := RqM.is_no hr
 obtain rfl := AnM.is_no ha
 obtain rfl := EvM.is_no he
 rfl
def MsM.like (a b : MsM) : Prop := a.kd = b.kd ∧ a.rq = b.rq ∧ a.icl = b.icl ∧ a.inu = b.inu ∧ a.an = b.an ∧ a.co = b.co ∧ a.ev.like b.ev ∧ a.le = b.le
theorem EvM.like_refl (a : EvM) : a.like a := ⟨rfl, rfl, rfl, rfl⟩
theorem later_M (c : CS) (k : Nat) (v : MsM) : c.later (c.pM k v).1 := by
 unfold CS.pM
 split
 ·exact later_Request _ _
 split
 ·exact later_Id _ _
 split
 ·exact later_Answer _ _
 split
 ·exact CS.later_trans (later_Id _ _) (later_U8 _ _ _ _)
 split
 ·exact later_Event _ _
 split
 ·exact later_U32 _ _ _ _
 ·exact CS.later_refl _
structure MsM.fit (v : MsM) : Prop where
 ok : v.ok
 rq : ∀ f ∈ v.rq.fs, f.fit
 an : ∀ f ∈ v.an.fs, f.fit
 hi : ∀ f ∈ v.an.hi, f.ok
 ev : ∀ f ∈ v.ev.rq.fs, f.fit
theorem back_M {A : List Nat} {c d : CS} (h : Rdg A c d) (v : MsM) (hv : v.fit) (hb : v.beside = false) : Rdg A (c.pM v.kd zMs).1 (d.pM v.kd v).1 ∧ (Fine A (d.pM v.kd v).1 → (c.pM v.kd zMs).2.like v) := by
 have hz := MsM.is_no (v := v.cut) hb
 have hk := hv.ok
 obtain ⟨kd, rq, icl, inu, an, co, ev, le⟩ := v
 unfold CS.pM
 dsimp only at *
 by_cases k1 : kd = 1
 ·subst k1
  rw [if_pos rfl, if_pos rfl]
  simp only [MsM.cut, zMs, MsM.mk.injEq, true_and] at hz
  obtain ⟨rfl, rfl, rfl, rfl, rfl, rfl⟩ := hz
  have k := back_Request h rq hk.rq hv.rq
  exact ⟨k.1, fun hF => ⟨rfl, k.2 hF, rfl, rfl, rfl, rfl, EvM.like_refl _, rfl⟩⟩
 rw [if_neg k1, if_neg k1]
 by_cases k2 : kd = 2
 ·subst k2
  rw [if_pos rfl, if_pos rfl]
  simp only [MsM.cut, zMs, MsM.mk.injEq, true_and] at hz
  obtain ⟨rfl, rfl, rfl, rfl, rfl⟩ := hz
  have k := back_Id h (0, 0) (icl, inu) hk.icl hk.inu
  exact ⟨k.1, fun hF => ⟨rfl, rfl, congrArg Prod.fst (k.2 hF), congrArg Prod.snd (k.2 hF), rfl, rfl, EvM.like_refl _, rfl⟩⟩
 rw [if_neg k2, if_neg k2]
 by_cases k3 : kd = 3
 ·subst k3
  rw [if_pos rfl, if_pos rfl]
  simp only [MsM.cut, zMs, MsM.mk.injEq, true_and] at hz
  obtain ⟨rfl, rfl, rfl, rfl, rfl, rfl⟩ := hz
  have k := back_Answer h an hk.an hv.an hv.hi
  exact ⟨k.1, fun hF => ⟨rfl, rfl, rfl, rfl, k.2 hF, rfl, EvM.like_refl _, rfl⟩⟩
 rw [if_neg k3, if_neg k3]
 by_cases k4 : kd = 4
 ·subst k4
  rw [if_pos rfl, if_pos rfl]
  simp only [MsM.cut, zMs, MsM.mk.injEq, true_and] at hz
  obtain ⟨rfl, rfl, rfl, rfl⟩ := hz
  have k := back_Id h (0, 0) (icl, inu) hk.icl hk.inu
  have k2 := back_U8 k.1 n_busy [wiN 1 15 4] 0 co hk.co
  refine ⟨k2.1, fun hF => ?_⟩
  have f1 := k.2 (Fine.back hF (later_U8 _ n_busy [wiN 1 15 4] co))
  exact ⟨rfl, rfl, congrArg Prod.fst f1, congrArg Prod.snd f1, rfl, k2.2 hF, EvM.like_refl _, rfl⟩
 rw [if_neg k4, if_neg k4]
 by_cases k5 : kd = 5
 ·subst k5
  rw [if_pos rfl, if_pos rfl]
  simp only [MsM.cut, zMs, MsM.mk.injEq, true_and] at hz
  obtain ⟨rfl, rfl, rfl, rfl, rfl, rfl⟩ := hz
  have k := back_Event h ev hk.ev hv.ev
  exact ⟨k.1, fun hF => ⟨rfl, rfl, rfl, rfl, rfl, rfl, k.2 hF, rfl⟩⟩
 rw [if_neg k5, if_neg k5]
 by_cases k6 : kd = 6
 ·subst k6
  rw [if_pos rfl, if_pos rfl]
  simp only [MsM.cut, zMs, MsM.mk.injEq, true_and] at hz
  obtain ⟨rfl, rfl, rfl, rfl, rfl, rfl, _⟩ := hz
  have k := back_U32 h n_length [] 0 le hk.le
  exact ⟨k.1, fun hF => ⟨rfl, rfl, rfl, rfl, rfl, rfl, EvM.like_refl _, k.2 hF⟩⟩
 rw [if_neg k6, if_neg k6]
 have e : MsM.cut ⟨kd, rq, icl, inu, an, co, ev, le⟩ = ⟨kd, rq, icl, inu, an, co, ev, le⟩ := by
  unfold MsM.cut
  split <;> first | rfl | (rename_i h; simp only at h; omega)
 rw [e] at hz
 simp only [zMs, MsM.mk.injEq, true_and] at hz
 obtain ⟨rfl, rfl, rfl, rfl, rfl, rfl, rfl⟩ := hz
 exact ⟨h, fun _ => ⟨rfl, rfl, rfl, rfl, rfl, rfl, EvM.like_refl _, rfl⟩⟩
theorem later_Message (c : CS) (v : MsM) : c.later (c.pMessage v).1 := CS.later_trans (later_U8 _ _ _ _) (later_M _ _ _)
theorem back_Message {A : List Nat} {c d : CS} (h : Rdg A c d) (v : MsM) (hv : v.fit) : Rdg A (c.pMessage zMs).1 (d.pMessage v).1 ∧ (Fine A (d.pMessage v).1 → (c.pMessage zMs).2.like v) := by
 have hb0 : zMs.beside = false := by decide +kernel
 have hR := h
 obtain ⟨q, s, rfl, rfl, _, _⟩ := h
 have l1 := later_Message (.rd q) zMs
 unfold CS.pMessage CS.m1 at l1 ⊢
 cases hb : v.beside
 ·have a := back_U8 hR n_kind [wiN 1 7 5, unN false] zMs.kd v.kd hv.ok.kd
  have w : ((CS.wr s).pU8 n_kind [wiN 1 7 5, unN false] v.kd).2 = v.kd := rfl
  rw [hb0, w]
  generalize (CS.rd q).pU8 n_kind [wiN 1 7 5, unN false] zMs.kd = P at *
  generalize ((CS.wr s).pU8 n_kind [wiN 1 7 5, unN false] v.kd).1 = D at *
  have lD := later_M D v.kd v
  by_cases hF : Fine A D
  ·rw [a.2 hF]
   exact back_M a.1 v hv hb
  ·exact ⟨a.1.stuck hF (later_M _ _ _) lD, fun h => absurd (h.back lD) hF⟩
 ·have e : ((CS.wr s).pU8 n_kind [wiN 1 7 5, unN true] v.kd).1 = .wr (((s.named n_kind).failN (fb [wiN 1 7 5, unN true] v.kd)).putB (be 1 v.kd)) := rfl
  have hn : (((s.named n_kind).failN (fb [wiN 1 7 5, unN true] v.kd)).putB (be 1 v.kd)).f ≠ none := putB_f0 (Wq.failN_pos _ _ (by
   simp only [fb, unN, if_true]
   split
   ·decide
   ·assumption))
  have l2 := later_M (CS.wr (((s.named n_kind).failN (fb [wiN 1 7 5, unN true] v.kd)).putB (be 1 v.kd))) ((CS.wr s).pU8 n_kind [wiN 1 7 5, unN true] v.kd).2 v
  rw [e]
  exact ⟨rdg_later hR l1 hn l2, fun h => absurd h (fine_later hn l2)⟩
theorem rdg_start (A : List Nat) : Rdg A (cr0 A) cw0 := ⟨_, _, rfl, rfl, rfl, fun _ _ => .inl ⟨rfl, rfl, Nat.zero_le _⟩⟩
theorem later_Signed (c : CS) (v : (Nat × List Nat) × Nat × List Nat) : c.later (c.pSigned v).1 := by
 unfold CS.pSigned
 exact CS.later_trans (CS.later_trans (later_Head c v.1) (later_U32 _ n_key [] v.2.1)) (later_Byt _ n_signature 32768 [fun v => szN 0 32768 v.length] v.2.2)
def csK (k : Nat) (A : List Nat) : CS :=
 if k = 1 then (requestR A).1 else if k = 2 then (answerR A).1 else if k = 3 then (eventR A).1 else if k = 4 then (headR A).1 else if k = 5 then (signedR A).1 else if k = 6 then (proofR A).1 else (messageR A).1
def finK (k : Nat) (A : List Nat) : ByteArray × Nat × Nat := (csK k A).rq.fin
theorem later_csK (k : Nat) (h1 : 1 ≤ k) (h7 : k ≤ 7) (A : List Nat) : ((cr0 A).pForm k).later (csK k A) := by
 match k, h1, h7 with
 | 1, _, _ => exact later_Request _ _
 | 2, _, _ => exact later_Answer _ _
 | 3, _, _ => exact later_Event _ _
 | 4, _, _ => exact later_Head _ _
 | 5, _, _ => exact later_Signed _ _
 | 6, _, _ => exact later_Proof _ _
 | 7, _, _ => exact later_Message _ _
structure Laid7 (k : Nat) (s : Wq) : Prop where
 rd : ∀ A, Rdg A (csK k A) (.wr s)
 hd : s.f = none → ∃ y, s.l = be 1 k ++ y
theorem wq_of {c : CS} {s : Wq} (h : c = .wr s) : c.wq = s := by rw [h]; rfl
theorem laid_of {k : Nat} {d : CS} (hl : (cw0.pForm k).later d) (h : ∀ A, Rdg A (csK k A) d) : Laid7 k d.wq := by
 obtain ⟨s, rfl⟩ := w_back (h [])
 refine ⟨h, fun hf => ?_⟩
 obtain ⟨_, y, e⟩ := hl hf
 refine ⟨y, e.trans ?_⟩
 congr 1
 have hz : fb [wiN k k 5] k = 0 := by simp [fb, wiN]
 show ((((⟨ByteArray.empty, [], none⟩ : Wq).named n_form).failN (fb [wiN k k 5] k)).putB (be 1 k)).l = be 1 k
 rw [hz, Wq.failN_0]
 rfl
theorem laid_Request (v : RqM) (hv : v.ok) (hf : ∀ f ∈ v.fs, f.fit) : Laid7 1 (requestW v) := laid_of (later_Request _ _) (fun A => (back_Request (back_Form (rdg_start A) 1 (by decide)) v hv hf).1)
theorem laid_Answer (v : AnM) (hv : v.ok) (hf : ∀ f ∈ v.fs, f.fit) (hh : ∀ f ∈ v.hi, f.ok) : Laid7 2 (answerW v) := laid_of (later_Answer _ _) (fun A => (back_Answer (back_Form (rdg_start A) 2 (by decide)) v hv hf hh).1)
theorem laid_Event (v : EvM) (hv : v.ok) (hf : ∀ f ∈ v.rq.fs, f.fit) : Laid7 3 (eventW v) := laid_of (later_Event _ _) (fun A => (back_Event (back_Form (rdg_start A) 3 (by decide)) v hv hf).1)
theorem laid_Head (n : Nat) (r : List Nat) (hv : n < 4294967296) : Laid7 4 (headW n r) := laid_of (later_Head _ (n, r)) (fun A => (back_Head (back_Form (rdg_start A) 4 (by decide)) (0, []) (n, r) hv).1)
theorem laid_Signed (v : (Nat × List Nat) × Nat × List Nat) (h1 : v.1.1 < 4294967296) (h2 : v.2.1 < 4294967296) : Laid7 5 (signedW v) := laid_of (later_Signed _ v) (fun A => (back_Signed (back_Form (rdg_start A) 5 (by decide)) ((0, []), 0, []) v h1 h2).1)
theorem laid_Proof (v : List (List Nat)) : Laid7 6 (proofW v) := laid_of (later_Proof _ _) (fun A => (back_Proof (back_Form (rdg_start A) 6 (by decide)) v).1)
theorem laid_Message (v : MsM) (hv : v.fit) : Laid7 7 (messageW v) := laid_of (later_Message _ _) (fun A => (back_Message (back_Form (rdg_start A) 7 (by decide)) v hv).1)
theorem meet_refl (l : List Nat) : Meet l l := fun i x y hx hy => by rw [hx] at hy; rw [Option.some.inj hy]
theorem meet_take (l : List Nat) (n : Nat) : Meet (l.take n) l := fun i x y hx hy => by
 have hi := (List.getElem?_eq_some_iff.1 hx).1
 rw [List.getElem?_take_of_lt (by simp at hi; omega), hy] at hx
 rw [Option.some.inj hx]
theorem meet_app (l m : List Nat) : Meet (l ++ m) l := fun i x y hx hy => by
 rw [List.getElem?_append_left (List.getElem?_eq_some_iff.1 hy).1, hy] at hx
 rw [Option.some.inj hx]
theorem fine_full {s : Wq} (hf : s.f = none) : Fine s.l (.wr s) := ⟨s, rfl, hf, meet_refl _, Nat.le_refl _⟩
theorem fin_some {q : Q} {x : ByteArray × Nat × Nat} (h : q.f = some x) : (CS.rd q).rq.fin.2.2 = x.2.2 := by
 show ((q.named n_end).ended).2.2 = x.2.2
 unfold Q.ended
 have h' : (q.named n_end).f = some x := h
 rw [if_neg (by rw [h']; simp), h']
 rfl
theorem Laid7.full {k : Nat} {s : Wq} (h : Laid7 k s) (hf : s.f = none) : (finK k s.l).2.2 = 0 := by
 obtain ⟨q, s', e1, e2, ha, hr⟩ := h.rd s.l
 cases e2
 unfold finK
 rw [e1]
 rcases hr hf (meet_refl _) with ⟨r1, r2, r3⟩ | ⟨r1, _⟩
 ·show ((q.named n_end).ended).2.2 = 0
  unfold Q.ended
  have h' : (q.named n_end).f = none := r1
  have hp : (q.named n_end).place = s.l.length := r2
  have hl : (q.named n_end).all = s.l := ha
  rw [if_neg (by rw [hp, hl]; omega), h']
  rfl
 ·omega
theorem Laid7.cut {k : Nat} {s : Wq} (h : Laid7 k s) (hf : s.f = none) (n : Nat) (hn : n < s.l.length) : (finK k (s.l.take n)).2.2 = 1 := by
 obtain ⟨q, s', e1, e2, ha, hr⟩ := h.rd (s.l.take n)
 cases e2
 unfold finK
 rw [e1]
 rcases hr hf (meet_take _ _) with ⟨_, _, r3⟩ | ⟨_, x, r2, r3⟩
 ·simp at r3; omega
 ·rw [fin_some r2, r3]
theorem Laid7.more {k : Nat} {s : Wq} (h : Laid7 k s) (hf : s.f = none) (m : List Nat) (hm : m ≠ []) : (finK k (s.l ++ m)).2.2 = 3 := by
 obtain ⟨q, s', e1, e2, ha, hr⟩ := h.rd (s.l ++ m)
 cases e2
 unfold finK
 rw [e1]
 have hp : 0 < m.length := List.length_pos_iff.2 hm
 rcases hr hf (meet_app _ _) with ⟨r1, r2, r3⟩ | ⟨r1, _⟩
 ·show ((q.named n_end).ended).2.2 = 3
  unfold Q.ended
  have h' : (q.named n_end).f = none := r1
  have hpl : (q.named n_end).place = s.l.length := r2
  have hl : (q.named n_end).all = s.l ++ m := ha
  rw [if_pos ⟨h', by rw [hpl, hl, List.length_append]; omega⟩]
 ·rw [List.length_append] at r1; omega
theorem form_no {k k' : Nat} {A y : List Nat} (hk : k < 256) (hne : k ≠ k') (hA : A = be 1 k ++ y) : ∃ q x, (cr0 A).pForm k' = .rd q ∧ q.f = some x ∧ x.2.2 = 5 := by
 have hl : A.length = 1 + y.length := by rw [hA, List.length_append, be_len]
 have hv : ((cr0 A).rq.named n_form).num 1 = k := by
  show val ((A.drop 0).take 1) = k
  rw [hA, List.drop_zero, List.take_append_of_le_length (by rw [be_len]; exact Nat.le_refl _), List.take_of_length_le (by rw [be_len]; exact Nat.le_refl _), val_be1N k hk]
 have hg : (((cr0 A).rq.named n_form).go 1 0) = ({ (cr0 A).rq.named n_form with place := 1, part := 0 }, k, []) := by
  rw [← hv]
  unfold Q.go Q.step
  have h0 : ((cr0 A).rq.named n_form).f = none := rfl
  have h1 : ((cr0 A).rq.named n_form).all = A := rfl
  have h2 : ((cr0 A).rq.named n_form).place = 0 := rfl
  have hw : wid 1 = 1 := rfl
  simp only [show ¬ (1 : Int) = 10 by decide, show ¬ (1 : Int) = 9 by decide, show ¬ (1 : Int) = 5 by decide, show ¬ (1 : Int) = 6 by decide, show ¬ (1 : Int) = 7 by decide, if_false, ne_eq, false_and, false_or, not_false_iff, if_true, h0, h1, h2, not_true, hw]
  rw [if_neg (by omega)]
 have hfb : fb [wiN k' k' 5] k = 5 := by
  have : wiN k' k' 5 k = 5 := by unfold wiN; rw [if_pos (by omega)]
  simp [fb, this]
 refine ⟨_, (n_form, 0, 5), rfl, ?_, rfl⟩
 show ((((cr0 A).rq.named n_form).go 1 0).1.failN (fb [wiN k' k' 5] (((cr0 A).rq.named n_form).go 1 0).2.1)).f = _
 rw [hg]
 dsimp only
 rw [hfb]
 rfl
theorem Laid7.other {k k' : Nat} {s : Wq} (h : Laid7 k s) (hf : s.f = none) (hk : k < 256) (h1 : 1 ≤ k') (h7 : k' ≤ 7) (hne : k ≠ k') : (finK k' s.l).2.2 = 5 := by
 obtain ⟨y, hy⟩ := h.hd hf
 obtain ⟨q, x, e, hx, h5⟩ := form_no hk hne hy
 have hl := later_csK k' h1 h7 s.l
 rw [e] at hl
 unfold finK
 cases hc : csK k' s.l with
 | wr _ => rw [hc] at hl; exact hl.elim
 | rd q' =>
  rw [hc] at hl
  rw [fin_some (hl.2 x hx), h5]
theorem Laid7.pos {k : Nat} {s : Wq} (h : Laid7 k s) (hf : s.f = none) : 0 < s.l.length := by
 obtain ⟨y, hy⟩ := h.hd hf
 rw [hy, List.length_append, be_len]; omega
theorem fine_wq {s : Wq} {d : CS} (hd : d = .wr s) (hf : s.f = none) : Fine s.l d := hd ▸ fine_full hf
theorem back_valR (v : RqM) (hv : v.ok) (hf : ∀ f ∈ v.fs, f.fit) (h : (requestW v).f = none) : (requestR (requestW v).l).2 = v := by
 obtain ⟨s, e⟩ := w_back (back_Request (back_Form (rdg_start []) 1 (by decide)) v hv hf).1
 have e' : requestW v = s := wq_of e
 exact (back_Request (back_Form (rdg_start _) 1 (by decide)) v hv hf).2 (fine_wq (e'.symm ▸ e) h)
theorem back_valA (v : AnM) (hv : v.ok) (hf : ∀ f ∈ v.fs, f.fit) (hh : ∀ f ∈ v.hi, f.ok) (h : (answerW v).f = none) : (answerR (answerW v).l).2 = v := by
 obtain ⟨s, e⟩ := w_back (back_Answer (back_Form (rdg_start []) 2 (by decide)) v hv hf hh).1
 have e' : answerW v = s := wq_of e
 exact (back_Answer (back_Form (rdg_start _) 2 (by decide)) v hv hf hh).2 (fine_wq (e'.symm ▸ e) h)
theorem back_valE (v : EvM) (hv : v.ok) (hf : ∀ f ∈ v.rq.fs, f.fit) (h : (eventW v).f = none) : (eventR (eventW v).l).2.like v := by
 obtain ⟨s, e⟩ := w_back (back_Event (back_Form (rdg_start []) 3 (by decide)) v hv hf).1
 have e' : eventW v = s := wq_of e
 exact (back_Event (back_Form (rdg_start _) 3 (by decide)) v hv hf).2 (fine_wq (e'.symm ▸ e) h)
theorem back_valH (n : Nat) (r : List Nat) (hv : n < 4294967296) (h : (headW n r).f = none) : (headR (headW n r).l).2.1 = n ∧ norm (headR (headW n r).l).2.2 = norm r := by
 obtain ⟨s, e⟩ := w_back (back_Head (back_Form (rdg_start []) 4 (by decide)) (0, []) (n, r) hv).1
 have e' : headW n r = s := wq_of e
 exact (back_Head (back_Form (rdg_start _) 4 (by decide)) (0, []) (n, r) hv).2 (fine_wq (e'.symm ▸ e) h)
theorem back_valS (v : (Nat × List Nat) × Nat × List Nat) (h1 : v.1.1 < 4294967296) (h2 : v.2.1 < 4294967296) (h : (signedW v).f = none) : (signedR (signedW v).l).2.1.1 = v.1.1 ∧ norm (signedR (signedW v).l).2.1.2 = norm v.1.2 ∧ (signedR (signedW v).l).2.2.1 = v.2.1 ∧ norm (signedR (signedW v).l).2.2.2 = norm v.2.2 := by
 obtain ⟨s, e⟩ := w_back (back_Signed (back_Form (rdg_start []) 5 (by decide)) ((0, []), 0, []) v h1 h2).1
 have e' : signedW v = s := wq_of e
 exact (back_Signed (back_Form (rdg_start _) 5 (by decide)) ((0, []), 0, []) v h1 h2).2 (fine_wq (e'.symm ▸ e) h)
theorem back_valP (v : List (List Nat)) (h : (proofW v).f = none) : Rel2 (fun x y => norm x = norm y) (proofR (proofW v).l).2 v := by
 obtain ⟨s, e⟩ := w_back (back_Proof (back_Form (rdg_start []) 6 (by decide)) v).1
 have e' : proofW v = s := wq_of e
 exact (back_Proof (back_Form (rdg_start _) 6 (by decide)) v).2 (fine_wq (e'.symm ▸ e) h)
theorem back_valM (v : MsM) (hv : v.fit) (h : (messageW v).f = none) : (messageR (messageW v).l).2.like v := by
 obtain ⟨s, e⟩ := w_back (back_Message (back_Form (rdg_start []) 7 (by decide)) v hv).1
 have e' : messageW v = s := wq_of e
 exact (back_Message (back_Form (rdg_start _) 7 (by decide)) v hv).2 (fine_wq (e'.symm ▸ e) h)
def GotN (fin : ByteArray × Nat × Nat) (E : Nat → Addr) (w : World) (e : Ending) (w' : World) (V : World → List Value → Prop) : Prop := ∃ (vs : List Value) (err : Value), e = .returned (.tuple #[.agg (List.toArray vs), err]) ∧ vs.length = 72 ∧ (∀ v ∈ vs, v.oneCell' = true) ∧ ErrV w' err fin E ∧ (fin.2.2 = 0 → V w' vs) ∧ Fr (fun _ => False) w w'
def GotF (k : Nat) (l : List Nat) (E : Nat → Addr) (w : World) (e : Ending) (w' : World) (V : World → List Value → Prop) : Prop := GotN (finK k l) E w e w' V
def VRequest (l : List Nat) (w' : World) (vs : List Value) : Prop := ∃ y, vs = anyL 0 ((requestR l).2.vals y).toList ∧ FdI w' y (requestR l).2.fs
def VAnswer (l : List Nat) (w' : World) (vs : List Value) : Prop := ∃ y z, vs = anyL 10 ((answerR l).2.vals y z).toList ∧ FdI w' y (answerR l).2.fs ∧ SuI w' z (answerR l).2.hi
def VEvent (l : List Nat) (w' : World) (vs : List Value) : Prop := ∃ y z, vs = anyL 17 ((eventR l).2.vals y z).toList ∧ FdI w' y (eventR l).2.rq.fs ∧ SlI w' z (eventR l).2.dg
def VHead (l : List Nat) (w' : World) (vs : List Value) : Prop := ∃ y, vs = anyL 30 [.int .u32 ((headR l).2.1 : Nat), y] ∧ SlI w' y (headR l).2.2
def VSigned (l : List Nat) (w' : World) (vs : List Value) : Prop := ∃ y z, vs = anyL 32 [.int .u32 ((signedR l).2.1.1 : Nat), y, .int .u32 ((signedR l).2.2.1 : Nat), z] ∧ SlI w' y (signedR l).2.1.2 ∧ SlI w' z (signedR l).2.2.2
def VProof (l : List Nat) (w' : World) (vs : List Value) : Prop := ∃ po pc, vs = anyL 36 [.slice po (proofR l).2.length pc] ∧ PcI w' po pc (proofR l).2
def VMessage (l : List Nat) (w' : World) (vs : List Value) : Prop := ∃ y0 y1 y2 y3 y4, vs = anyL 37 ((messageR l).2.vals y0 y1 y2 y3 y4).toList ∧ MsI w' (messageR l).2 y0 y1 y2 y3 y4
set_option maxRecDepth 100000 in
set_option maxHeartbeats 1000000 in
theorem lgetN_Request (x : Value) (l : List Nat) (E : Nat → Addr) (w : World) (hg : G6 w E) (hw : 9 ≤ w.heap.size) (hx : Src w x l) (hl : l.length ≤ 140737488355328) : Calls Tryz.prog 17 #[.int .i64 1, x] w fun e w' => GotN (requestR l).1.rq.fin E w e w' (VRequest l) := by
 obtain ⟨xo, xc, rfl⟩ := hx.form
 obtain ⟨wb, hwb⟩ : ∃ wb, (w.alloc (.cells zAL.toArray 44)).alloc (.cells zAL.toArray 44) = wb := ⟨_, rfl⟩
 have hbx : Fr (fun _ => False) w wb := by rw [← hwb]; exact box2 _ _ _
 have hsb : wb.heap.size = w.heap.size + 2 := by rw [← hwb]; simp
 have hp := getRequest (.slice xo l.length xc) l E wb (hg.fr hbx (fun _ h => h.elim)) (by omega) (hx.fr hbx (fun _ _ _ _ _ h => h)) hl
 rw [hsb] at hp
 refine (lget_Request_go xo l.length xc w (fun w2 vs err => ErrV w2 err (requestR l).1.rq.fin E ∧ ((requestR l).1.rq.fin.2.2 ≠ 0 → vs = (zAL.drop 0).take 10) ∧ ((requestR l).1.rq.fin.2.2 = 0 → ∃ y, vs = ((requestR l).2.vals y).toList ∧ OwV w2 (w.heap.size + 2) y (requestR l).2.fs (fun _ => False))) ?_).mono ?_
 ·rw [hwb]
  refine hp.mono ?_
  rintro e w' ⟨vs, err, rfl, hE, hz, hr, hf⟩
  by_cases h0 : (requestR l).1.rq.fin.2.2 = 0
  ·obtain ⟨y, rfl, o0⟩ := hr h0
   have e0 := own_one2 o0.row
   exact ⟨((requestR l).2.vals y).toList, err, rfl, rfl, List.all_eq_true.1 (show List.all (((requestR l).2.vals y).toList) (fun v => v.oneCell') = true by simp [RqM.vals, Value.oneCell']; exact e0), hf, hE, fun h => absurd h0 h, fun _ => ⟨y, rfl, o0⟩⟩
  ·obtain rfl := hz h0
   exact ⟨[.int .u32 0, .int .u32 0, .int .u32 0, .int .u8 0, .int .u32 0, .int .u32 0, .int .u32 0, .int .u32 0, .slice none 0 0, .string ⟨#[]⟩], err, rfl, rfl, List.all_eq_true.1 (show List.all ([.int .u32 0, .int .u32 0, .int .u32 0, .int .u8 0, .int .u32 0, .int .u32 0, .int .u32 0, .int .u32 0, .slice none 0 0, .string ⟨#[]⟩] : List Value) (fun v => v.oneCell') = true from rfl), hf, hE, fun _ => rfl, fun h => absurd h h0⟩
 ·rintro e w' ⟨vs, err, rfl, hln, hone, w2, ⟨hE, hz, hr⟩, hf2, hst, hf, hb4, hb6⟩
  refine ⟨anyL 0 vs, err, rfl, anyL_len hln (by decide), anyL_one hone, errV_fr2 hE hf2 hb4 hb6 (by decide), fun h0 => ?_, hf⟩
  obtain ⟨y, rfl, o0⟩ := hr h0
  have o0 := o0.stp (hst (fun _ => False)) (fun k j hb hk hp => by omega)
  exact ⟨y, rfl, o0.fdi (requestR_ok l).2⟩
theorem finK_1 (l : List Nat) : finK 1 l = (requestR l).1.rq.fin := by simp [finK, csK]
theorem lgetF_Request (x : Value) (l : List Nat) (E : Nat → Addr) (w : World) (hg : G6 w E) (hw : 9 ≤ w.heap.size) (hx : Src w x l) (hl : l.length ≤ 140737488355328) : Calls Tryz.prog 17 #[.int .i64 1, x] w fun e w' => GotF 1 l E w e w' (VRequest l) := by
 unfold GotF
 rw [finK_1]
 exact lgetN_Request x l E w hg hw hx hl
set_option maxRecDepth 100000 in
set_option maxHeartbeats 1000000 in
theorem lgetN_Answer (x : Value) (l : List Nat) (E : Nat → Addr) (w : World) (hg : G6 w E) (hw : 9 ≤ w.heap.size) (hx : Src w x l) (hl : l.length ≤ 140737488355328) : Calls Tryz.prog 17 #[.int .i64 2, x] w fun e w' => GotN (answerR l).1.rq.fin E w e w' (VAnswer l) := by
 obtain ⟨xo, xc, rfl⟩ := hx.form
 obtain ⟨wb, hwb⟩ : ∃ wb, (w.alloc (.cells zAL.toArray 44)).alloc (.cells zAL.toArray 44) = wb := ⟨_, rfl⟩
 have hbx : Fr (fun _ => False) w wb := by rw [← hwb]; exact box2 _ _ _
 have hsb : wb.heap.size = w.heap.size + 2 := by rw [← hwb]; simp
 have hp := getAnswer (.slice xo l.length xc) l E wb (hg.fr hbx (fun _ h => h.elim)) (by omega) (hx.fr hbx (fun _ _ _ _ _ h => h)) hl
 rw [hsb] at hp
 refine (lget_Answer_go xo l.length xc w (fun w2 vs err => ErrV w2 err (answerR l).1.rq.fin E ∧ ((answerR l).1.rq.fin.2.2 ≠ 0 → vs = (zAL.drop 10).take 7) ∧ ((answerR l).1.rq.fin.2.2 = 0 → ∃ y z, vs = ((answerR l).2.vals y z).toList ∧ OwV w2 (w.heap.size + 2) y (answerR l).2.fs (fun _ => False) ∧ OwZ w2 (w.heap.size + 2) z (answerR l).2.hi (fun _ => False))) ?_).mono ?_
 ·rw [hwb]
  refine hp.mono ?_
  rintro e w' ⟨vs, err, rfl, hE, hz, hr, hf⟩
  by_cases h0 : (answerR l).1.rq.fin.2.2 = 0
  ·obtain ⟨y, z, rfl, o0, o1⟩ := hr h0
   have e0 := own_one2 o0.row
   have e1 := own_one2 o1.row
   exact ⟨((answerR l).2.vals y z).toList, err, rfl, rfl, List.all_eq_true.1 (show List.all (((answerR l).2.vals y z).toList) (fun v => v.oneCell') = true by simp [AnM.vals, Value.oneCell']; exact ⟨e0, e1⟩), hf, hE, fun h => absurd h0 h, fun _ => ⟨y, z, rfl, o0, o1⟩⟩
  ·obtain rfl := hz h0
   exact ⟨[.int .u32 0, .int .u32 0, .int .u8 0, .int .u32 0, .int .u32 0, .slice none 0 0, .slice none 0 0], err, rfl, rfl, List.all_eq_true.1 (show List.all ([.int .u32 0, .int .u32 0, .int .u8 0, .int .u32 0, .int .u32 0, .slice none 0 0, .slice none 0 0] : List Value) (fun v => v.oneCell') = true from rfl), hf, hE, fun _ => rfl, fun h => absurd h h0⟩
 ·rintro e w' ⟨vs, err, rfl, hln, hone, w2, ⟨hE, hz, hr⟩, hf2, hst, hf, hb4, hb6⟩
  refine ⟨anyL 10 vs, err, rfl, anyL_len hln (by decide), anyL_one hone, errV_fr2 hE hf2 hb4 hb6 (by decide), fun h0 => ?_, hf⟩
  obtain ⟨y, z, rfl, o0, o1⟩ := hr h0
  have o0 := o0.stp (hst (fun _ => False)) (fun k j hb hk hp => by omega)
  have o1 := o1.stp (hst (fun _ => False)) (fun k j hb hk hp => by omega)
  exact ⟨y, z, rfl, o0.fdi (answerR_ok l).2.1, o1.sui (answerR_ok l).2.2⟩
theorem finK_2 (l : List Nat) : finK 2 l = (answerR l).1.rq.fin := by simp [finK, csK]
theorem lgetF_Answer (x : Value) (l : List Nat) (E : Nat → Addr) (w : World) (hg : G6 w E) (hw : 9 ≤ w.heap.size) (hx : Src w x l) (hl : l.length ≤ 140737488355328) : Calls Tryz.prog 17 #[.int .i64 2, x] w fun e w' => GotF 2 l E w e w' (VAnswer l) := by
 unfold GotF
 rw [finK_2]
 exact lgetN_Answer x l E w hg hw hx hl
set_option maxRecDepth 100000 in
set_option maxHeartbeats 1000000 in
theorem lgetN_Event (x : Value) (l : List Nat) (E : Nat → Addr) (w : World) (hg : G6 w E) (hw : 9 ≤ w.heap.size) (hx : Src w x l) (hl : l.length ≤ 140737488355328) : Calls Tryz.prog 17 #[.int .i64 3, x] w fun e w' => GotN (eventR l).1.rq.fin E w e w' (VEvent l) := by
 obtain ⟨xo, xc, rfl⟩ := hx.form
 obtain ⟨wb, hwb⟩ : ∃ wb, (w.alloc (.cells zAL.toArray 44)).alloc (.cells zAL.toArray 44) = wb := ⟨_, rfl⟩
 have hbx : Fr (fun _ => False) w wb := by rw [← hwb]; exact box2 _ _ _
 have hsb : wb.heap.size = w.heap.size + 2 := by rw [← hwb]; simp
 have hp := getEvent (.slice xo l.length xc) l E wb (hg.fr hbx (fun _ h => h.elim)) (by omega) (hx.fr hbx (fun _ _ _ _ _ h => h)) hl
 rw [hsb] at hp
 refine (lget_Event_go xo l.length xc w (fun w2 vs err => ErrV w2 err (eventR l).1.rq.fin E ∧ ((eventR l).1.rq.fin.2.2 ≠ 0 → vs = (zAL.drop 17).take 13) ∧ ((eventR l).1.rq.fin.2.2 = 0 → ∃ y z, vs = ((eventR l).2.vals y z).toList ∧ OwV w2 (w.heap.size + 2) y (eventR l).2.rq.fs (fun _ => False) ∧ OwB w2 (w.heap.size + 2) z (eventR l).2.dg (fun _ => False))) ?_).mono ?_
 ·rw [hwb]
  refine hp.mono ?_
  rintro e w' ⟨vs, err, rfl, hE, hz, hr, hf⟩
  by_cases h0 : (eventR l).1.rq.fin.2.2 = 0
  ·obtain ⟨y, z, rfl, o0, o1⟩ := hr h0
   have e0 := own_one2 o0.row
   have e1 := own_one2 o1.row
   exact ⟨((eventR l).2.vals y z).toList, err, rfl, rfl, List.all_eq_true.1 (show List.all (((eventR l).2.vals y z).toList) (fun v => v.oneCell') = true by simp [EvM.vals, Value.oneCell']; exact ⟨e0, e1⟩), hf, hE, fun h => absurd h0 h, fun _ => ⟨y, z, rfl, o0, o1⟩⟩
  ·obtain rfl := hz h0
   exact ⟨[.int .u32 0, .int .u32 0, .int .u32 0, .int .u32 0, .int .u8 0, .int .u32 0, .int .u32 0, .int .u32 0, .int .u32 0, .slice none 0 0, .string ⟨#[]⟩, .int .u8 0, .slice none 0 0], err, rfl, rfl, List.all_eq_true.1 (show List.all ([.int .u32 0, .int .u32 0, .int .u32 0, .int .u32 0, .int .u8 0, .int .u32 0, .int .u32 0, .int .u32 0, .int .u32 0, .slice none 0 0, .string ⟨#[]⟩, .int .u8 0, .slice none 0 0] : List Value) (fun v => v.oneCell') = true from rfl), hf, hE, fun _ => rfl, fun h => absurd h h0⟩
 ·rintro e w' ⟨vs, err, rfl, hln, hone, w2, ⟨hE, hz, hr⟩, hf2, hst, hf, hb4, hb6⟩
  refine ⟨anyL 17 vs, err, rfl, anyL_len hln (by decide), anyL_one hone, errV_fr2 hE hf2 hb4 hb6 (by decide), fun h0 => ?_, hf⟩
  obtain ⟨y, z, rfl, o0, o1⟩ := hr h0
  have o0 := o0.stp (hst (fun _ => False)) (fun k j hb hk hp => by omega)
  have o1 := o1.stp (hst (fun _ => False)) (fun k j hb hk hp => by omega)
  exact ⟨y, z, rfl, o0.fdi (eventR_ok l).2.1, own_sli o1.row (eventR_ok l).2.2⟩
theorem finK_3 (l : List Nat) : finK 3 l = (eventR l).1.rq.fin := by simp [finK, csK]
theorem lgetF_Event (x : Value) (l : List Nat) (E : Nat → Addr) (w : World) (hg : G6 w E) (hw : 9 ≤ w.heap.size) (hx : Src w x l) (hl : l.length ≤ 140737488355328) : Calls Tryz.prog 17 #[.int .i64 3, x] w fun e w' => GotF 3 l E w e w' (VEvent l) := by
 unfold GotF
 rw [finK_3]
 exact lgetN_Event x l E w hg hw hx hl
set_option maxRecDepth 100000 in
set_option maxHeartbeats 1000000 in
theorem lgetN_Head (x : Value) (l : List Nat) (E : Nat → Addr) (w : World) (hg : G6 w E) (hw : 9 ≤ w.heap.size) (hx : Src w x l) (hl : l.length ≤ 140737488355328) : Calls Tryz.prog 17 #[.int .i64 4, x] w fun e w' => GotN (headR l).1.rq.fin E w e w' (VHead l) := by
 obtain ⟨xo, xc, rfl⟩ := hx.form
 obtain ⟨wb, hwb⟩ : ∃ wb, (w.alloc (.cells zAL.toArray 44)).alloc (.cells zAL.toArray 44) = wb := ⟨_, rfl⟩
 have hbx : Fr (fun _ => False) w wb := by rw [← hwb]; exact box2 _ _ _
 have hsb : wb.heap.size = w.heap.size + 2 := by rw [← hwb]; simp
 have hp := getHead (.slice xo l.length xc) l E wb (hg.fr hbx (fun _ h => h.elim)) (by omega) (hx.fr hbx (fun _ _ _ _ _ h => h)) hl
 rw [hsb] at hp
 refine (lget_Head_go xo l.length xc w (fun w2 vs err => ErrV w2 err (headR l).1.rq.fin E ∧ ((headR l).1.rq.fin.2.2 ≠ 0 → vs = (zAL.drop 30).take 2) ∧ ((headR l).1.rq.fin.2.2 = 0 → ∃ y, vs = [.int .u32 ((headR l).2.1 : Nat), y] ∧ OwB w2 (w.heap.size + 2) y (headR l).2.2 (fun _ => False))) ?_).mono ?_
 ·rw [hwb]
  refine hp.mono ?_
  rintro e w' ⟨vs, err, rfl, hE, hz, hr, hf⟩
  by_cases h0 : (headR l).1.rq.fin.2.2 = 0
  ·obtain ⟨y, rfl, r0⟩ := hr h0
   have o0 : OwB w' (w.heap.size + 2) y (headR l).2.2 (fun _ => False) := ⟨fun _ _ h => h, r0⟩
   have e0 := own_one2 o0.row
   exact ⟨[.int .u32 ((headR l).2.1 : Nat), y], err, rfl, rfl, List.all_eq_true.1 (show List.all ([.int .u32 ((headR l).2.1 : Nat), y]) (fun v => v.oneCell') = true by simp [Value.oneCell']; exact e0), hf, hE, fun h => absurd h0 h, fun _ => ⟨y, rfl, o0⟩⟩
  ·obtain rfl := hz h0
   exact ⟨[.int .u32 0, .slice none 0 0], err, rfl, rfl, List.all_eq_true.1 (show List.all ([.int .u32 0, .slice none 0 0] : List Value) (fun v => v.oneCell') = true from rfl), hf, hE, fun _ => rfl, fun h => absurd h h0⟩
 ·rintro e w' ⟨vs, err, rfl, hln, hone, w2, ⟨hE, hz, hr⟩, hf2, hst, hf, hb4, hb6⟩
  refine ⟨anyL 30 vs, err, rfl, anyL_len hln (by decide), anyL_one hone, errV_fr2 hE hf2 hb4 hb6 (by decide), fun h0 => ?_, hf⟩
  obtain ⟨y, rfl, o0⟩ := hr h0
  have o0 := o0.stp (hst (fun _ => False)) (fun k j hb hk hp => by omega)
  exact ⟨y, rfl, own_sli o0.row (headR_ok l).2⟩
theorem finK_4 (l : List Nat) : finK 4 l = (headR l).1.rq.fin := by simp [finK, csK]
theorem lgetF_Head (x : Value) (l : List Nat) (E : Nat → Addr) (w : World) (hg : G6 w E) (hw : 9 ≤ w.heap.size) (hx : Src w x l) (hl : l.length ≤ 140737488355328) : Calls Tryz.prog 17 #[.int .i64 4, x] w fun e w' => GotF 4 l E w e w' (VHead l) := by
 unfold GotF
 rw [finK_4]
 exact lgetN_Head x l E w hg hw hx hl
set_option maxRecDepth 100000 in
set_option maxHeartbeats 1000000 in
theorem lgetN_Signed (x : Value) (l : List Nat) (E : Nat → Addr) (w : World) (hg : G6 w E) (hw : 9 ≤ w.heap.size) (hx : Src w x l) (hl : l.length ≤ 140737488355328) : Calls Tryz.prog 17 #[.int .i64 5, x] w fun e w' => GotN (signedR l).1.rq.fin E w e w' (VSigned l) := by
 obtain ⟨xo, xc, rfl⟩ := hx.form
 obtain ⟨wb, hwb⟩ : ∃ wb, (w.alloc (.cells zAL.toArray 44)).alloc (.cells zAL.toArray 44) = wb := ⟨_, rfl⟩
 have hbx : Fr (fun _ => False) w wb := by rw [← hwb]; exact box2 _ _ _
 have hsb : wb.heap.size = w.heap.size + 2 := by rw [← hwb]; simp
 have hp := getSigned (.slice xo l.length xc) l E wb (hg.fr hbx (fun _ h => h.elim)) (by omega) (hx.fr hbx (fun _ _ _ _ _ h => h)) hl
 rw [hsb] at hp
 refine (lget_Signed_go xo l.length xc w (fun w2 vs err => ErrV w2 err (signedR l).1.rq.fin E ∧ ((signedR l).1.rq.fin.2.2 ≠ 0 → vs = (zAL.drop 32).take 4) ∧ ((signedR l).1.rq.fin.2.2 = 0 → ∃ y z, vs = [.int .u32 ((signedR l).2.1.1 : Nat), y, .int .u32 ((signedR l).2.2.1 : Nat), z] ∧ OwB w2 (w.heap.size + 2) y (signedR l).2.1.2 (fun _ => False) ∧ OwB w2 (w.heap.size + 2) z (signedR l).2.2.2 (fun _ => False))) ?_).mono ?_
 ·rw [hwb]
  refine hp.mono ?_
  rintro e w' ⟨vs, err, rfl, hE, hz, hr, hf⟩
  by_cases h0 : (signedR l).1.rq.fin.2.2 = 0
  ·obtain ⟨y, z, rfl, r0, r1⟩ := hr h0
   have o0 : OwB w' (w.heap.size + 2) y (signedR l).2.1.2 (fun _ => False) := ⟨fun _ _ h => h, r0⟩
   have o1 : OwB w' (w.heap.size + 2) z (signedR l).2.2.2 (fun _ => False) := ⟨fun _ _ h => h, r1⟩
   have e0 := own_one2 o0.row
   have e1 := own_one2 o1.row
   exact ⟨[.int .u32 ((signedR l).2.1.1 : Nat), y, .int .u32 ((signedR l).2.2.1 : Nat), z], err, rfl, rfl, List.all_eq_true.1 (show List.all ([.int .u32 ((signedR l).2.1.1 : Nat), y, .int .u32 ((signedR l).2.2.1 : Nat), z]) (fun v => v.oneCell') = true by simp [Value.oneCell']; exact ⟨e0, e1⟩), hf, hE, fun h => absurd h0 h, fun _ => ⟨y, z, rfl, o0, o1⟩⟩
  ·obtain rfl := hz h0
   exact ⟨[.int .u32 0, .slice none 0 0, .int .u32 0, .slice none 0 0], err, rfl, rfl, List.all_eq_true.1 (show List.all ([.int .u32 0, .slice none 0 0, .int .u32 0, .slice none 0 0] : List Value) (fun v => v.oneCell') = true from rfl), hf, hE, fun _ => rfl, fun h => absurd h h0⟩
 ·rintro e w' ⟨vs, err, rfl, hln, hone, w2, ⟨hE, hz, hr⟩, hf2, hst, hf, hb4, hb6⟩
  refine ⟨anyL 32 vs, err, rfl, anyL_len hln (by decide), anyL_one hone, errV_fr2 hE hf2 hb4 hb6 (by decide), fun h0 => ?_, hf⟩
  obtain ⟨y, z, rfl, o0, o1⟩ := hr h0
  have o0 := o0.stp (hst (fun _ => False)) (fun k j hb hk hp => by omega)
  have o1 := o1.stp (hst (fun _ => False)) (fun k j hb hk hp => by omega)
  exact ⟨y, z, rfl, own_sli o0.row (signedR_ok l).2.1, own_sli o1.row (signedR_ok l).2.2.2⟩
theorem finK_5 (l : List Nat) : finK 5 l = (signedR l).1.rq.fin := by simp [finK, csK]
theorem lgetF_Signed (x : Value) (l : List Nat) (E : Nat → Addr) (w : World) (hg : G6 w E) (hw : 9 ≤ w.heap.size) (hx : Src w x l) (hl : l.length ≤ 140737488355328) : Calls Tryz.prog 17 #[.int .i64 5, x] w fun e w' => GotF 5 l E w e w' (VSigned l) := by
 unfold GotF
 rw [finK_5]
 exact lgetN_Signed x l E w hg hw hx hl
set_option maxRecDepth 100000 in
set_option maxHeartbeats 1000000 in
theorem lgetN_Proof (x : Value) (l : List Nat) (E : Nat → Addr) (w : World) (hg : G6 w E) (hw : 9 ≤ w.heap.size) (hx : Src w x l) (hl : l.length ≤ 140737488355328) : Calls Tryz.prog 17 #[.int .i64 6, x] w fun e w' => GotN (proofR l).1.rq.fin E w e w' (VProof l) := by
 obtain ⟨xo, xc, rfl⟩ := hx.form
 obtain ⟨wb, hwb⟩ : ∃ wb, (w.alloc (.cells zAL.toArray 44)).alloc (.cells zAL.toArray 44) = wb := ⟨_, rfl⟩
 have hbx : Fr (fun _ => False) w wb := by rw [← hwb]; exact box2 _ _ _
 have hsb : wb.heap.size = w.heap.size + 2 := by rw [← hwb]; simp
 have hp := getProof (.slice xo l.length xc) l E wb (hg.fr hbx (fun _ h => h.elim)) (by omega) (hx.fr hbx (fun _ _ _ _ _ h => h)) hl
 rw [hsb] at hp
 refine (lget_Proof_go xo l.length xc w (fun w2 vs err => ErrV w2 err (proofR l).1.rq.fin E ∧ ((proofR l).1.rq.fin.2.2 ≠ 0 → vs = (zAL.drop 36).take 1) ∧ ((proofR l).1.rq.fin.2.2 = 0 → ∃ y, vs = [y] ∧ OwP w2 (w.heap.size + 2) y (proofR l).2 (fun _ => False))) ?_).mono ?_
 ·rw [hwb]
  refine hp.mono ?_
  rintro e w' ⟨vs, err, rfl, hE, hz, hr, hf⟩
  by_cases h0 : (proofR l).1.rq.fin.2.2 = 0
  ·obtain ⟨y, rfl, o0⟩ := hr h0
   obtain ⟨us, _, hrow, _⟩ := o0.us
   have e0 := own_one2 hrow
   exact ⟨[y], err, rfl, rfl, List.all_eq_true.1 (show List.all ([y]) (fun v => v.oneCell') = true by simp [Value.oneCell']; exact e0), hf, hE, fun h => absurd h0 h, fun _ => ⟨y, rfl, o0⟩⟩
  ·obtain rfl := hz h0
   exact ⟨[.slice none 0 0], err, rfl, rfl, List.all_eq_true.1 (show List.all ([.slice none 0 0] : List Value) (fun v => v.oneCell') = true from rfl), hf, hE, fun _ => rfl, fun h => absurd h h0⟩
 ·rintro e w' ⟨vs, err, rfl, hln, hone, w2, ⟨hE, hz, hr⟩, hf2, hst, hf, hb4, hb6⟩
  refine ⟨anyL 36 vs, err, rfl, anyL_len hln (by decide), anyL_one hone, errV_fr2 hE hf2 hb4 hb6 (by decide), fun h0 => ?_, hf⟩
  obtain ⟨y, rfl, o0⟩ := hr h0
  have o0 := o0.stp (hst (fun _ => False)) (fun k j hb hk hp => by omega)
  obtain ⟨po, pc, rfl, hpc⟩ := o0.pci (proofR_ok l).1 (proofR_ok l).2
  exact ⟨po, pc, rfl, hpc⟩
theorem finK_6 (l : List Nat) : finK 6 l = (proofR l).1.rq.fin := by simp [finK, csK]
theorem lgetF_Proof (x : Value) (l : List Nat) (E : Nat → Addr) (w : World) (hg : G6 w E) (hw : 9 ≤ w.heap.size) (hx : Src w x l) (hl : l.length ≤ 140737488355328) : Calls Tryz.prog 17 #[.int .i64 6, x] w fun e w' => GotF 6 l E w e w' (VProof l) := by
 unfold GotF
 rw [finK_6]
 exact lgetN_Proof x l E w hg hw hx hl
set_option maxRecDepth 100000 in
set_option maxHeartbeats 1000000 in
theorem lgetN_Message (x : Value) (l : List Nat) (E : Nat → Addr) (w : World) (hg : G6 w E) (hw : 9 ≤ w.heap.size) (hx : Src w x l) (hl : l.length ≤ 140737488355328) : Calls Tryz.prog 17 #[.int .i64 7, x] w fun e w' => GotN (messageR l).1.rq.fin E w e w' (VMessage l) := by
 obtain ⟨xo, xc, rfl⟩ := hx.form
 obtain ⟨wb, hwb⟩ : ∃ wb, (w.alloc (.cells zAL.toArray 44)).alloc (.cells zAL.toArray 44) = wb := ⟨_, rfl⟩
 have hbx : Fr (fun _ => False) w wb := by rw [← hwb]; exact box2 _ _ _
 have hsb : wb.heap.size = w.heap.size + 2 := by rw [← hwb]; simp
 have hp := getMessage (.slice xo l.length xc) l E wb (hg.fr hbx (fun _ h => h.elim)) (by omega) (hx.fr hbx (fun _ _ _ _ _ h => h)) hl
 rw [hsb] at hp
 refine (lget_Message_go xo l.length xc w (fun w2 vs err => ErrV w2 err (messageR l).1.rq.fin E ∧ ((messageR l).1.rq.fin.2.2 ≠ 0 → vs = (zAL.drop 37).take 35) ∧ ((messageR l).1.rq.fin.2.2 = 0 → ∃ y0 y1 y2 y3 y4, vs = ((messageR l).2.vals y0 y1 y2 y3 y4).toList ∧ MsW w2 (w.heap.size + 2) (messageR l).2 y0 y1 y2 y3 y4 (fun _ => False))) ?_).mono ?_
 ·rw [hwb]
  refine hp.mono ?_
  rintro e w' ⟨vs, err, rfl, hE, hz, hr, hf⟩
  by_cases h0 : (messageR l).1.rq.fin.2.2 = 0
  ·obtain ⟨y0, y1, y2, y3, y4, rfl, o0⟩ := hr h0
   exact ⟨((messageR l).2.vals y0 y1 y2 y3 y4).toList, err, rfl, rfl, o0.one, hf, hE, fun h => absurd h0 h, fun _ => ⟨y0, y1, y2, y3, y4, rfl, o0⟩⟩
  ·obtain rfl := hz h0
   exact ⟨zML, err, rfl, rfl, zML_one, hf, hE, fun _ => rfl, fun h => absurd h h0⟩
 ·rintro e w' ⟨vs, err, rfl, hln, hone, w2, ⟨hE, hz, hr⟩, hf2, hst, hf, hb4, hb6⟩
  refine ⟨anyL 37 vs, err, rfl, anyL_len hln (by decide), anyL_one hone, errV_fr2 hE hf2 hb4 hb6 (by decide), fun h0 => ?_, hf⟩
  obtain ⟨y0, y1, y2, y3, y4, rfl, o0⟩ := hr h0
  have o0 := o0.stp (hst (fun _ => False)) (fun k j hb hk hp => by omega)
  exact ⟨y0, y1, y2, y3, y4, rfl, ⟨o0.o0.fdi (messageR_ok l).2.rq, o0.o1.fdi (messageR_ok l).2.an, o0.o2.sui (messageR_ok l).2.hi, o0.o3.fdi (messageR_ok l).2.ev, own_sli o0.o4.row (messageR_ok l).2.dg⟩⟩
theorem finK_7 (l : List Nat) : finK 7 l = (messageR l).1.rq.fin := by simp [finK, csK]
theorem lgetF_Message (x : Value) (l : List Nat) (E : Nat → Addr) (w : World) (hg : G6 w E) (hw : 9 ≤ w.heap.size) (hx : Src w x l) (hl : l.length ≤ 140737488355328) : Calls Tryz.prog 17 #[.int .i64 7, x] w fun e w' => GotF 7 l E w e w' (VMessage l) := by
 unfold GotF
 rw [finK_7]
 exact lgetN_Message x l E w hg hw hx hl
theorem lgetF_any (k : Nat) (h1 : 1 ≤ k) (h7 : k ≤ 7) (x : Value) (l : List Nat) (E : Nat → Addr) (w : World) (hg : G6 w E) (hw : 9 ≤ w.heap.size) (hx : Src w x l) (hl : l.length ≤ 140737488355328) : Calls Tryz.prog 17 #[.int .i64 (k : Nat), x] w fun e w' => GotF k l E w e w' (fun _ _ => True) := by
 have key : ∀ (k : Nat) (V : World → List Value → Prop), (Calls Tryz.prog 17 #[.int .i64 (k : Nat), x] w fun e w' => GotF k l E w e w' V) → Calls Tryz.prog 17 #[.int .i64 (k : Nat), x] w fun e w' => GotF k l E w e w' (fun _ _ => True) := fun k V h => h.mono (fun e w' ⟨vs, err, h1, h2, h3, h4, _, h6⟩ => ⟨vs, err, h1, h2, h3, h4, fun _ => trivial, h6⟩)
 match k, h1, h7 with
 | 1, _, _ => exact key _ _ (lgetF_Request x l E w hg hw hx hl)
 | 2, _, _ => exact key _ _ (lgetF_Answer x l E w hg hw hx hl)
 | 3, _, _ => exact key _ _ (lgetF_Event x l E w hg hw hx hl)
 | 4, _, _ => exact key _ _ (lgetF_Head x l E w hg hw hx hl)
 | 5, _, _ => exact key _ _ (lgetF_Signed x l E w hg hw hx hl)
 | 6, _, _ => exact key _ _ (lgetF_Proof x l E w hg hw hx hl)
 | 7, _, _ => exact key _ _ (lgetF_Message x l E w hg hw hx hl)
theorem cw0_big (n : Nat) (h : n ≤ 3500000000) : cw0.room n := by simp only [cw0, CS.room, CS.len, List.length_nil]; omega
theorem room_short {s : Wq} (h : (CS.wr s).room 3000000000) : s.l.length ≤ 30000000000000 := by
 simp only [CS.room, CS.len] at h
 omega
theorem requestW_roomB (v : RqM) : (CS.wr (requestW v)).room 3000000000 := by
 rw [← requestW_eq]
 exact CS.pRequest_room (n := 3000000000) (CS.pForm_room (cw0_big 3000000141 (by decide)) 1) v
theorem answerW_roomB (v : AnM) : (CS.wr (answerW v)).room 3000000000 := by
 rw [← answerW_eq]
 have R0 : (cw0.pForm 2).room 3000000500 := CS.pForm_room (cw0_big 3000000501 (by decide)) 2
 have R1 : ((cw0.pForm 2).a1 v).1.room 3000000498 := CS.pId_room R0 _
 have R2 : ((cw0.pForm 2).a2 v).1.room 3000000497 := CS.pU8_room R1 _ _ _
 have R3 : ((cw0.pForm 2).a3 v).1.room 3000000496 := CS.pU32_room R2 _ _ _
 have R4 : ((cw0.pForm 2).a4 v).1.room 3000000495 := CS.pU32_room R3 _ _ _
 have R5 : ((cw0.pForm 2).a5 v).1.room 3000000366 := CS.pFields_room R4 _ _ _
 have M5 : (cw0.pForm 2).sm ((cw0.pForm 2).a5 v).1 := CS.sm_trans (CS.sm_trans (CS.sm_trans (CS.sm_trans (CS.pId_sm _ _) (CS.pU8_sm _ _ _ _)) (CS.pU32_sm _ _ _ _)) (CS.pU32_sm _ _ _ _)) (CS.pFields_sm _ _ _ _)
 have e := sm_wq (CS.sm_trans (CS.pForm_sm cw0 2) M5)
 show (((cw0.pForm 2).a5 v).1.pHist v.hi).1.room 3000000000
 rw [e] at R5 ⊢
 exact CS.pHist_room _ (CS.room_le R5 (by decide)) _
theorem eventW_roomB (v : EvM) : (CS.wr (eventW v)).room 3000000000 := by
 rw [← eventW_eq]
 exact CS.pHash_room (CS.pU8_room (CS.pRequest_room (CS.pU32_room (CS.pForm_room (cw0_big 3000000144 (by decide)) 3) _ _ _) _) _ _ _) _ _
theorem CS.pM_roomB (s : Wq) (h : (CS.wr s).room 3000000500) (k : Nat) (v : MsM) : ((CS.wr s).pM k v).1.room 3000000000 := by
 unfold CS.pM
 split
 ·exact CS.pRequest_room (n := 3000000000) (CS.room_le h (by decide)) _
 split
 ·exact CS.pId_room (n := 3000000000) (CS.room_le h (by decide)) _
 split
 ·have R1 : ((CS.wr s).a1 v.an).1.room 3000000498 := CS.pId_room h _
  have R2 : ((CS.wr s).a2 v.an).1.room 3000000497 := CS.pU8_room R1 _ _ _
  have R3 : ((CS.wr s).a3 v.an).1.room 3000000496 := CS.pU32_room R2 _ _ _
  have R4 : ((CS.wr s).a4 v.an).1.room 3000000495 := CS.pU32_room R3 _ _ _
  have R5 : ((CS.wr s).a5 v.an).1.room 3000000366 := CS.pFields_room R4 _ _ _
  have M5 : (CS.wr s).sm ((CS.wr s).a5 v.an).1 := CS.sm_trans (CS.sm_trans (CS.sm_trans (CS.sm_trans (CS.pId_sm _ _) (CS.pU8_sm _ _ _ _)) (CS.pU32_sm _ _ _ _)) (CS.pU32_sm _ _ _ _)) (CS.pFields_sm _ _ _ _)
  have e := sm_wq M5
  show (((CS.wr s).a5 v.an).1.pHist v.an.hi).1.room 3000000000
  rw [e] at R5 ⊢
  exact CS.pHist_room _ (CS.room_le R5 (by decide)) _
 split
 ·exact CS.pU8_room (CS.pId_room (n := 3000000001) (CS.room_le h (by decide)) _) _ _ _
 split
 ·exact CS.pHash_room (CS.pU8_room (CS.pRequest_room (n := 3000000002) (CS.pU32_room (n := 3000000142) (CS.room_le h (by decide)) _ _ _) _) _ _ _) _ _
 split
 ·exact CS.pU32_room (n := 3000000000) (CS.room_le h (by decide)) _ _ _
 ·exact CS.room_le h (by decide)
theorem messageW_roomB (v : MsM) : (CS.wr (messageW v)).room 3000000000 := by
 rw [← messageW_eq]
 have R0 : (cw0.pForm 7).room 3000000501 := CS.pForm_room (cw0_big 3000000502 (by decide)) 7
 have R1 : ((cw0.pForm 7).m1 v).1.room 3000000500 := CS.pU8_room R0 _ _ _
 have e := sm_wq (CS.sm_trans (CS.pForm_sm cw0 7) (CS.pU8_sm (cw0.pForm 7) n_kind [wiN 1 7 5, unN v.beside] v.kd))
 show (((cw0.pForm 7).m1 v).1.pM ((cw0.pForm 7).m1 v).2 v).1.room 3000000000
 have e' : ((cw0.pForm 7).m1 v).1 = .wr ((cw0.pForm 7).m1 v).1.wq := e
 rw [e'] at R1 ⊢
 exact CS.pM_roomB _ R1 _ _
theorem headW_roomB (n : Nat) (r : List Nat) : (CS.wr (headW n r)).room 3000000000 := CS.pHead_room (n := 3000000000) (CS.pForm_room (cw0_big 3000000003 (by decide)) 4) (n, r)
theorem signedW_roomB (size key : Nat) (root sig : List Nat) : (CS.wr (signedW ((size, root), key, sig))).room 3000000000 := CS.pByt_room (n := 3000000000) (CS.pU32_room (n := 3000000001) (CS.pHead_room (n := 3000000002) (CS.pForm_room (cw0_big 3000000005 (by decide)) 5) (size, root)) _ _ _) _ _ _ _ (fun e => by have := szN_fit [] 0 32768 (fun v : List Nat => v.length) sig e; show sig.length ≤ 32768; omega)
theorem proofW_roomB (ps : List (List Nat)) : (CS.wr (proofW ps)).room 3000000000 := by
 rw [← proofW_eq]
 refine loopW_room (ps.take (min ps.length 4096)) (n := 3000000000) ?_
 have h2 := CS.pInt_room (n := 3000004096) (CS.pForm_room (n := 3000004097) (cw0_big 3000004098 (by decide)) 6) n_hashes (4096 : Nat) (lrs (4096 : Nat) []) ps.length
 have h3 : (ps.take (min ps.length 4096)).length ≤ 4096 := by rw [List.length_take]; omega
 exact Nat.le_trans (Nat.add_le_add_left (Nat.mul_le_mul_left 40000 (by omega)) _) h2
def CS.nz : CS → Prop
 | .wr s => ∀ x, s.f = some x → x.2.2 ≠ 0
 | .rd _ => True
theorem nz_fail {s : Wq} (h : (CS.wr s).nz) (nm : ByteArray) (n : Nat) : (CS.wr ((s.named nm).failN n)).nz := by
 intro x hx
 unfold Wq.failN at hx
 split at hx
 ·exact h x hx
 ·rename_i hc
  obtain rfl := Option.some.inj hx
  exact fun e => hc (.inl e)
theorem nz_fail2 {s : Wq} (h : (CS.wr s).nz) (n : Nat) : (CS.wr (s.failN n)).nz := by
 intro x hx
 unfold Wq.failN at hx
 split at hx
 ·exact h x hx
 ·rename_i hc
  obtain rfl := Option.some.inj hx
  exact fun e => hc (.inl e)
theorem nz_put {s : Wq} (h : (CS.wr s).nz) (x : List Nat) : (CS.wr (s.putB x)).nz := by
 intro y hy
 unfold Wq.putB at hy
 split at hy
 ·exact h y hy
 ·exact h y hy
theorem nz_lim {s : Wq} (h : (CS.wr s).nz) (n : Nat) (m : Int) (x : List Nat) : (CS.wr (s.lim n m x)).nz := by
 unfold Wq.lim
 split
 ·exact nz_put h x
 ·exact nz_fail2 h 2
theorem nz_U8 {c : CS} (h : c.nz) (nm : ByteArray) (rs : List (Nat → Nat)) (v : Nat) : (c.pU8 nm rs v).1.nz := by
 cases c with
 | wr s => exact nz_put (nz_fail h nm _) _
 | rd q => exact trivial
theorem nz_U32 {c : CS} (h : c.nz) (nm : ByteArray) (rs : List (Nat → Nat)) (v : Nat) : (c.pU32 nm rs v).1.nz := by
 cases c with
 | wr s => exact nz_put (nz_fail h nm _) _
 | rd q => exact trivial
theorem nz_F32 {c : CS} (h : c.nz) (nm : ByteArray) (rs : List (Nat → Nat)) (v : Nat) : (c.pF32 nm rs v).1.nz := by
 cases c with
 | wr s =>
  show (CS.wr (((s.named nm).failN (fb rs v)).flt v)).nz
  unfold Wq.flt
  split
  ·exact nz_put (nz_fail h nm _) _
  ·exact nz_fail2 (nz_fail h nm _) 4
 | rd q => exact trivial
theorem nz_Int {c : CS} (h : c.nz) (nm : ByteArray) (m : Int) (rs : List (Int → Nat)) (v : Int) : (c.pInt nm m rs v).1.nz := by
 cases c with
 | wr s =>
  show (CS.wr (((s.named nm).failN (fb rs v)).cnt v m)).nz
  unfold Wq.cnt
  split
  ·exact nz_fail2 (nz_fail h nm _) 4
  ·exact nz_lim (nz_fail h nm _) _ _ _
 | rd q => exact trivial
theorem nz_Str {c : CS} (h : c.nz) (nm : ByteArray) (m : Int) (rs : List (ByteArray → Nat)) (v : ByteArray) : (c.pStr nm m rs v).1.nz := by
 cases c with
 | wr s => exact nz_lim (nz_fail h nm _) _ _ _
 | rd q => exact trivial
theorem nz_Byt {c : CS} (h : c.nz) (nm : ByteArray) (m : Int) (rs : List (List Nat → Nat)) (v : List Nat) : (c.pByt nm m rs v).1.nz := by
 cases c with
 | wr s => exact nz_lim (nz_fail h nm _) _ _ _
 | rd q => exact trivial
theorem nz_Id {c : CS} (h : c.nz) (v : Nat × Nat) : (c.pId v).1.nz := nz_U32 (nz_U32 h _ _ _) _ _ _
theorem nz_Field {c : CS} (h : c.nz) (last : Nat) (f : Fld) : (c.pField last f).1.nz := by
 unfold CS.pField
 split
 ·exact nz_Str (nz_U8 h _ _ _) _ _ _ _
 split
 ·exact nz_U8 (nz_F32 (nz_U8 h _ _ _) _ _ _) _ _ _
 ·exact nz_U8 h _ _ _
theorem nz_lpW (last : Nat) : ∀ (l : List Fld) (s : CS × ByteArray), s.1.nz → (lpW (eachF last) s l).1.nz
 | [], _, h => h
 | f :: l, s, h => nz_lpW last l (eachF last s f).1 (nz_Field (nz_Str h _ _ _ _) _ _)
theorem nz_Fields {c : CS} (h : c.nz) (last : Nat) (rs : List (Int → Nat)) (l : List Fld) (hw : ∃ s, c = .wr s) : (c.pFields last rs l).1.nz := by
 obtain ⟨s, rfl⟩ := hw
 exact nz_lpW last _ (((CS.wr s).pInt n_fields 32 (lrs 32 rs) l.length).1, ⟨#[]⟩) (nz_Int h _ _ _ _)
theorem nz_loopW {α : Type} {each : CS → α → CS × α} (he : ∀ {c : CS} (v : α), c.nz → (each c v).1.nz) : ∀ (l : List α) {c : CS}, c.nz → (loopW each c l).nz
 | [], _, h => h
 | v :: l, _, h => nz_loopW he l (he v h)
theorem wr_of {c c' : CS} (h : c.later c') (hw : ∃ s, c = .wr s) : ∃ s, c' = .wr s := by
 obtain ⟨s, rfl⟩ := hw
 cases c' with
 | wr s' => exact ⟨s', rfl⟩
 | rd _ => exact h.elim
theorem nz_Hist {c : CS} (h : c.nz) (l : List SuM) (hw : ∃ s, c = .wr s) : (c.pHist l).1.nz := by
 obtain ⟨s, rfl⟩ := hw
 exact nz_loopW (each := fun c v => c.pSummary v) (fun v h => nz_U8 (nz_U32 (nz_U32 (nz_U32 h _ _ _) _ _ _) _ _ _) _ _ _) _ (nz_Int h _ _ _ _)
theorem nz_Proof {c : CS} (h : c.nz) (l : List (List Nat)) (hw : ∃ s, c = .wr s) : (c.pProof l).1.nz := by
 obtain ⟨s, rfl⟩ := hw
 exact nz_loopW (each := fun c v => c.pHash n_hash v) (fun v h => nz_Byt h _ _ _ _) _ (nz_Int h _ _ _ _)
theorem nz_Answer {c : CS} (h : c.nz) (v : AnM) (hw : ∃ s, c = .wr s) : (c.pAnswer v).1.nz := by
 have l4 : c.later (c.a4 v).1 := CS.later_trans (CS.later_trans (CS.later_trans (later_Id _ _) (later_U8 _ _ _ _)) (later_U32 _ _ _ _)) (later_U32 _ _ _ _)
 have n4 : (c.a4 v).1.nz := nz_U32 (nz_U32 (nz_U8 (nz_Id h _) _ _ _) _ _ _) _ _ _
 exact nz_Hist (nz_Fields n4 _ _ _ (wr_of l4 hw)) _ (wr_of (CS.later_trans l4 (later_Fields _ _ _ _)) hw)
theorem nz_Request {c : CS} (h : c.nz) (v : RqM) (hw : ∃ s, c = .wr s) : (c.pRequest v).1.nz := by
 have l7 : c.later (c.q7 v).1 := CS.later_trans (later_q3 c v) (CS.later_trans (CS.later_trans (CS.later_trans (later_U32 _ _ _ _) (later_U32 _ _ _ _)) (later_U32 _ _ _ _)) (later_U32 _ _ _ _))
 have n7 : (c.q7 v).1.nz := nz_U32 (nz_U32 (nz_U32 (nz_U32 (nz_U8 (nz_U32 (nz_Id h _) _ _ _) _ _ _) _ _ _) _ _ _) _ _ _) _ _ _
 exact nz_Str (nz_Fields n7 _ _ _ (wr_of l7 hw)) _ _ _ _
theorem nz_Event {c : CS} (h : c.nz) (v : EvM) (hw : ∃ s, c = .wr s) : (c.pEvent v).1.nz :=
 nz_Byt (nz_U8 (nz_Request (nz_U32 h _ _ _) _ (wr_of (later_U32 _ _ _ _) hw)) _ _ _) _ _ _ _
theorem nz_Message {c : CS} (h : c.nz) (v : MsM) (hw : ∃ s, c = .wr s) : (c.pMessage v).1.nz := by
 have n1 : (c.m1 v).1.nz := nz_U8 h _ _ _
 have w1 := wr_of (later_U8 c n_kind [wiN 1 7 5, unN v.beside] v.kd) hw
 unfold CS.pMessage CS.pM
 split
 ·exact nz_Request n1 _ w1
 split
 ·exact nz_Id n1 _
 split
 ·exact nz_Answer n1 _ w1
 split
 ·exact nz_U8 (nz_Id n1 _) _ _ _
 split
 ·exact nz_Event n1 _ w1
 split
 ·exact nz_U32 n1 _ _ _
 ·exact n1
theorem nz_0 : cw0.nz := fun x h => by
 have h' : (none : Option (ByteArray × Nat × Nat)) = some x := h
 cases h'
theorem nz_start (k : Nat) : (cw0.pForm k).nz := nz_U8 nz_0 _ _ _
theorem wr_start (k : Nat) : ∃ s, cw0.pForm k = .wr s := ⟨_, rfl⟩
theorem nz_wq {c : CS} (h : c.nz) (hw : ∃ s, c = .wr s) : ∀ x, c.wq.f = some x → x.2.2 ≠ 0 := by obtain ⟨s, rfl⟩ := hw; exact h
theorem nzRequest (v : RqM) : ∀ x, (requestW v).f = some x → x.2.2 ≠ 0 := nz_wq (nz_Request (nz_start 1) v (wr_start 1)) (wr_of (later_Request _ _) (wr_start 1))
theorem nzAnswer (v : AnM) : ∀ x, (answerW v).f = some x → x.2.2 ≠ 0 := nz_wq (nz_Answer (nz_start 2) v (wr_start 2)) (wr_of (later_Answer _ _) (wr_start 2))
theorem nzEvent (v : EvM) : ∀ x, (eventW v).f = some x → x.2.2 ≠ 0 := nz_wq (nz_Event (nz_start 3) v (wr_start 3)) (wr_of (later_Event _ _) (wr_start 3))
theorem nzHead (n : Nat) (r : List Nat) : ∀ x, (headW n r).f = some x → x.2.2 ≠ 0 := nz_wq (c := ((cw0.pForm 4).pHead (n, r)).1) (nz_Byt (nz_U32 (nz_start 4) _ _ _) _ _ _ _) (wr_of (later_Head _ _) (wr_start 4))
theorem nzSigned (v : (Nat × List Nat) × Nat × List Nat) : ∀ x, (signedW v).f = some x → x.2.2 ≠ 0 := nz_wq (c := ((cw0.pForm 5).pSigned v).1) (nz_Byt (nz_U32 (nz_Byt (nz_U32 (nz_start 5) _ _ _) _ _ _ _) _ _ _) _ _ _ _) (wr_of (later_Signed _ _) (wr_start 5))
theorem nzProof (v : List (List Nat)) : ∀ x, (proofW v).f = some x → x.2.2 ≠ 0 := nz_wq (nz_Proof (nz_start 6) v (wr_start 6)) (wr_of (later_Proof _ _) (wr_start 6))
theorem nzMessage (v : MsM) : ∀ x, (messageW v).f = some x → x.2.2 ≠ 0 := nz_wq (nz_Message (nz_start 7) v (wr_start 7)) (wr_of (later_Message _ _) (wr_start 7))
theorem Src.nilV {w : World} {x : Value} (h : Src w x []) (w' : World) : Src w' x [] := by
  rcases h with h | ⟨g, o, c, hx, _⟩ | h
  · exact .inl h
  · exact .inr (.inl ⟨g, o, c, hx, fun j v hv => by simp [cellsOf] at hv⟩)
  · exact .inr (.inr h)
theorem failN_posV (s : Wq) (n : Nat) (hn : n ≠ 0) : (s.failN n).f ≠ none := by
  unfold Wq.failN
  split
  · rename_i h
    rcases h with h | h
    · exact absurd h hn
    · exact h
  · simp
structure BW (w : World) (x : Value) (l : List Nat) (F : Nat → Prop) : Prop where
  src : Src w x l
  at_ : l = [] ∨ ∀ g o m c, x = .slice (some ⟨g, o, none⟩) m c → g < w.heap.size ∧ ¬ F g
theorem BW.stp {w w' : World} {x : Value} {l : List Nat} {F F' : Nat → Prop} {P : Nat → Nat → Prop} (h : BW w x l F) (hs : Stp w w' F F' P) (hP : ∀ g i, g < w.heap.size → ¬ P g i) : BW w' x l F' := by
  rcases h.at_ with rfl | hat
  · exact ⟨h.src.nilV w', .inl rfl⟩
  · have := (show BV w x l F from ⟨h.src, hat⟩).stp hs (fun g o m c e i => hP g i (hat g o m c e).1)
    exact ⟨this.src, .inr this.at_⟩
theorem BW.fr0 {w w' : World} {x : Value} {l : List Nat} {F : Nat → Prop} (h : BW w x l F) (hf : Fr (fun _ => False) w w') : BW w' x l F := h.stp (Stp.of_fr hf F (fun _ _ => False)) (fun _ _ _ h => h)
set_option maxRecDepth 100000 in
theorem wBytes_qE (s : Wq) (x : Value) (m : Int) (b : Nat) (F : Nat → Prop) (E : Nat → Addr) (w : World) (h : W w b F (s.wst E)) (hsrc : Src w x []) (hn : s.f ≠ none) :
    Calls Tryz.prog 189 #[.pointer (some ⟨b, 0, none⟩), x, .int .i64 m] w fun e w' => e = .returned (.tuple #[]) ∧ ∃ F', W w' b F' ((s.lim ([] : List Nat).length m (be 4 ([] : List Nat).length ++ [])).wst E) ∧ Ch w w' F F' := by
  have hmf := mf
  rw [Wq.lim_given hn]
  obtain ⟨xo, xc, rfl⟩ := hsrc.form
  have HN := hid (Wq.wst_some (E := E) hn)
  clear hn hsrc
  go_enter Tryz.func189, Tryz.ntmps189
  go_wp2_with fail
  refine (att_given (w := w) h (uh HN) (box3 _ _ _ _)).mono ?_
  rintro e w' ⟨rfl, hr⟩
  go_wp2_with fail
  go_end0
  exact ⟨rfl, hr⟩
set_option maxRecDepth 100000 in
theorem lay_bytE (s : Wq) (x : Value) (m : Int) (p : Addr) (b : Nat) (F : Nat → Prop) (E : Nat → Addr) (w : World) (hp : w.cell? p = some x) (hsrc : Src w x []) (h : W w b F (s.wst E)) (hn : s.f ≠ none) :
    Calls Tryz.prog 169 #[.pointer (some ⟨b, 0, none⟩), .iface 265 (.pointer (some p)), .int .i64 m] w fun e w' => e = .returned (.tuple #[]) ∧ ∃ F', W w' b F' ((s.lim ([] : List Nat).length m (be 4 ([] : List Nat).length ++ [])).wst E) ∧ Ch w w' F F' := by
  have H := hid (wBytes_qE s x m b F E w h hsrc hn)
  clear h hn
  obtain ⟨xo, xc, rfl⟩ := hsrc.form
  clear hsrc
  have t0 := Tryz.th_byt
  have t4 := Tryz.tm_4
  have t8 := Tryz.tm_8
  have t11 := Tryz.tm_11
  have t13 := Tryz.tm_13
  go_enter Tryz.func169, Tryz.ntmps169
  go_wp2_with fail
  refine (uh H).mono ?_
  rintro e w' ⟨rfl, hr⟩
  have HR := hid hr
  clear hr
  go_wp2_with fail
  go_end0
  exact ⟨rfl, uh HR⟩
set_option maxRecDepth 100000 in
theorem part_byt_wE (s : Wq) (nm : ByteArray) (rs : List (List Nat → Nat)) (x : Value) (m : Int) (cb b g i : Nat) (F K : Nat → Prop) (E : Nat → Addr) (rx : Value) (w : World) (h : Cd w cb b F (.wr s) E) (hp : w.cell? ⟨g, i, none⟩ = some x) (hsrc : Src w x []) (hgF : ¬ F g) (hR : Rus enByt w K rx E rs) (hK : ∀ k, K k → ¬ F k) (hn : rs.length < 9223372036854775808) (hfb : fb rs ([] : List Nat) ≠ 0) :
    Calls Tryz.prog 160 #[.pointer (some ⟨cb, 0, none⟩), .string nm, .pointer (some ⟨g, i, none⟩), .int .i64 m, rx] w fun e w' => e = .returned (.tuple #[]) ∧ ∃ F', Cd w' cb b F' (.wr (((s.named nm).failN (fb rs ([] : List Nat))).lim ([] : List Nat).length m (be 4 ([] : List Nat).length ++ []))) E ∧ Ch w w' F F' := by
  have hc0 : w.cell? ⟨cb, 0, none⟩ = some (.pointer (some ⟨b, 0, none⟩)) := h.c0
  have H := hid (And.intro h (And.intro hR hK))
  have HL := hid (And.intro hfb hsrc)
  clear h hR hK hfb
  obtain ⟨yo, yc, rfl⟩ := hsrc.form
  clear hsrc
  obtain ⟨xo, xc, rfl⟩ := (uh H).2.1.form
  go_enter Tryz.func160, Tryz.ntmps160
  go_wp2_with fail
  refine (wName_q s nm b F E w (uh H).1.st).mono ?_
  rintro e w1 ⟨rfl, hW1, hch1⟩
  have hP1 : PS cb b g i (.slice yo ([] : List Nat).length yc) w1 := PS.fr ⟨hc0, hp⟩ hch1.fr (uh H).1.nf hgF
  have hc1 := hP1.1
  have hp1 := hP1.2
  have hR1 := (uh H).2.1.fr hch1.fr (uh H).2.2
  have hS1 : Src w1 (.slice yo ([] : List Nat).length yc) [] := (uh HL).2.nilV w1
  have hS0 : Fr (fun _ => False) w1 w1 := Fr.refl _ _
  have H1 := hid (And.intro hW1 (And.intro hch1 (And.intro hR1 (And.intro hP1 hS1))))
  clear hW1 hch1 hR1 hP1 hS1
  go_wp2_with fail
  go_region_held3 (fun w' => PS cb b g i (.slice yo ([] : List Nat).length yc) w') (first | assumption | exact ⟨hc1, hp1⟩ | (refine ⟨?_, ?_⟩ <;> (simp only [World.cell?_drew, World.cell?_drewN] at *; assumption))) (first
    | (go_at_call 180; refine (fbw_byt K _ _ E rs [] cb b g i w1 _ (by first | assumption | exact Fr.drew (by assumption)) (uh H1).2.2.1 (uh H1).2.2.2.2 (uh H1).2.2.2.1 hn).mono ?_; rintro e w2 ⟨rfl, hS2, hP2⟩)
    | (go_at_call 167; refine (fail_S _ _ cb b g i _ F E w1 _ (by first | assumption | exact Fr.drew (by assumption)) (uh H1).1 (uh H1).2.2.2.1 (uh H).1.nf hgF).mono ?_; rintro e w3 ⟨rfl, hS3, hP3⟩))
  have hc3 := hP3.1
  have hp3 := hP3.2
  obtain ⟨F3, hW3, hch3⟩ := hS3
  have hok3 : ((s.named nm).failN (fb rs ([] : List Nat))).ok := Wq.failN_ok (Wq.named_ok (show s.ok from (uh H).1.fok) nm) ((uh H).2.1.le [])
  have hC3 := ((uh H).1.wr_step (uh H1).1 (uh H1).2.1 (show s.ok from (uh H).1.fok)).wr_step hW3 hch3 hok3
  have hch13 := (uh H1).2.1.trans hch3
  have hLL := lay_bytE ((s.named nm).failN (fb rs ([] : List Nat))) _ m ⟨g, i, none⟩ b F3 E w3 hp3 ((uh HL).2.nilV w3) hW3 (failN_posV _ _ (uh HL).1)
  have HX := hid (And.intro hLL (And.intro hC3 hch3))
  clear hLL hC3 hch3 hW3 hP3 hP2 hS2 hch13
  go_wp2_with fail
  refine (uh HX).1.mono ?_
  rintro e w4 ⟨rfl, F4, hW4, hch4⟩
  have HY := hid (And.intro hW4 hch4)
  clear hW4 hch4
  go_wp2_with fail
  first | go_end0 | ((try simp only [Exit.inBlock, Exit.then]); refine bodyPost_ret (results_none rfl _ _ _) rfl ?_)
  exact ⟨rfl, F4, (uh HX).2.1.wr_step (uh HY).1 (uh HY).2 (Wq.lim_ok hok3 _ _ _), ((uh H1).2.1.trans (uh HX).2.2).trans (uh HY).2⟩
set_option maxRecDepth 100000 in
theorem run_bytE (s : Wq) (nm : ByteArray) (lo hi : Int) (rs : List ((List Nat) → Nat)) (x : Value) (cb b g i : Nat) (F : Nat → Prop) (E : Nat → Addr) (rx : Value) (w : World) (h : Cd w cb b F (.wr s) E) (hp : w.cell? ⟨g, i, none⟩ = some x) (hsrc : Src w x []) (hL : Loc w cb F g i) (hlo : szN lo hi 0 ≠ 0) (hR : RuC enByt w F g rx E rs) (hn : rs.length < 1000) :
    Calls Tryz.prog 141 #[.pointer (some ⟨cb, 0, none⟩), .string nm, .pointer (some ⟨g, i, none⟩), .int .i64 lo, .int .i64 hi, rx] w fun e w' => e = .returned (.tuple #[]) ∧ ∃ F', Cd w' cb b F' ((CS.wr s).pByt nm hi ((fun v => szN lo hi v.length) :: rs) []).1 E ∧ Stp w w' F F' (fun k j => k = g ∧ j = i) := by
  obtain ⟨K, hRu, hKa⟩ := hR.ex
  have hgo : ∀ (w1 : World) (fv : Value) (K0 : Nat → Prop), FnR enByt w1 K0 fv E (fun v => szN lo hi v.length) → Fr (fun _ => False) w w1 → Knew w K0 → ∀ xo xc, rx = .slice xo rs.length xc → ∃ ao cp w2, (Builtin.append_ #[291, 291] 291 #[.slice (some ⟨w1.heap.size, 0, none⟩) 1 1, .slice xo rs.length xc]).run Tryz.prog (w1.alloc (.cells #[fv] 294)) = .ok (.slice ao (rs.length + 1) cp) w2 ∧
      Calls Tryz.prog 160 #[.pointer (some ⟨cb, 0, none⟩), .string nm, .pointer (some ⟨g, i, none⟩), .int .i64 hi, .slice ao (rs.length + 1) cp] w2 fun e w' => e = .returned (.tuple #[]) ∧ ∃ F', Cd w' cb b F' ((CS.wr s).pByt nm hi ((fun v => szN lo hi v.length) :: rs) []).1 E ∧ Stp w w' F F' (fun k j => k = g ∧ j = i) := by
    intro w1 fv K0 hF hf1 hK0 xo xc e
    subst e
    obtain ⟨ao, cp, w2, hr, hf2, hRu2⟩ := rus_cons_byt w1 K0 K fv E _ rs xo xc hF (hRu.fr hf1 (fun _ _ h => h)) hn
    have hf := hf1.trans hf2 (fun _ _ h => h)
    refine ⟨ao, cp, w2, hr, ?_⟩
    have hfb : fb ((fun v : List Nat => szN lo hi v.length) :: rs) [] ≠ 0 := by
      show (if szN lo hi 0 = 0 then fb rs [] else szN lo hi 0) ≠ 0
      rw [if_neg hlo]
      exact hlo
    have hKF : ∀ k, (K0 k ∨ K k ∨ (w1.heap.size ≤ k ∧ k < w2.heap.size)) → ¬ F k := fun k hk => by
      rcases hk with hk | hk | hk
      · exact (knew_apart h hL hK0 k hk).1
      · exact (hKa k hk).1
      · have h1 := hf1.size
        exact fun hx => by have := h.lt k hx; omega
    refine (part_byt_wE s nm ((fun v => szN lo hi v.length) :: rs) x hi cb b g i F _ E _ w2 (h.fr0 hf) ((hf.cell (p := ⟨g, i, none⟩) hL.lt (fun h => h)).trans hp) (hsrc.nilV w2) (hL.fr0 hf).nF hRu2 (fun k hk => hKF k hk) (by simp; omega) hfb).mono ?_
    rintro e w' ⟨rfl, F', hC, hch⟩
    exact ⟨rfl, F', hC, (Stp.of_fr hf F _).trans (Stp.of_ch hch _) (fun _ _ _ h => h)⟩
  have HG := hid hgo
  have HS := hid (sized_byt lo hi E w h.g7)
  obtain ⟨xo, xc, rfl⟩ := hRu.form
  clear hgo h hp hL hR hRu hKa hsrc hlo
  go_enter Tryz.func141, Tryz.ntmps141
  go_wp2_with fail
  refine (uh HS).mono ?_
  rintro e w1 ⟨fv, rfl, K0, hF, hf1, hK0⟩
  obtain ⟨ao, cp, w2, hr, hcall⟩ := (uh HG) w1 fv K0 hF hf1 hK0 xo xc rfl
  obtain ⟨Fc, caps, rfl, _⟩ := hF.ex
  have HR := hid hr
  have HC := hid hcall
  clear hF hf1 hK0 hr hcall
  have hsf := st_func
  go_wp2_with (at_builtin; refine wpList_app rfl _ _ 291 291 rfl _ _ _ rfl rfl (uh HR) ?_)
  refine (uh HC).mono ?_
  rintro e w' ⟨rfl, hr⟩
  have HX := hid hr
  clear hr
  go_wp2_with fail
  go_end0
  exact ⟨rfl, uh HX⟩
set_option maxRecDepth 100000 in
theorem hash_V (s : Wq) (nm : ByteArray) (x : Value) (v : List Nat) (cb b g i : Nat) (F : Nat → Prop) (E : Nat → Addr) (w : World) (h : Cd w cb b F (.wr s) E) (hp : w.cell? ⟨g, i, none⟩ = some x) (hB : BW w x v F) (hL : Loc w cb F g i) (hv : v.length < 9223372036854775808) (hroom : (CS.wr s).room 1) :
    Calls Tryz.prog 140 #[.pointer (some ⟨cb, 0, none⟩), .string nm, .pointer (some ⟨g, i, none⟩)] w fun e w' => e = .returned (.tuple #[]) ∧ ∃ F', Cd w' cb b F' ((CS.wr s).pHash nm v).1 E ∧ Stp w w' F F' (fun k j => k = g ∧ j = i) := by
  rcases hB.at_ with rfl | hat
  · have H := hid (run_bytE s nm 1 32 [] x cb b g i F E (.slice none 0 0) w h hp hB.src hL (by decide) (RuC.nil _ w F g E) (by decide))
    clear h hp hB hL
    go_enter Tryz.func140, Tryz.ntmps140
    go_wp2_with fail
    refine (uh H).mono ?_
    rintro e w' ⟨rfl, hr⟩
    have HR := hid hr
    clear hr
    go_wp2_with fail
    go_end0
    exact ⟨rfl, uh HR⟩
  · refine (hash_any (.wr s) nm x v cb b g i F E w h hp ⟨hB.src, hat⟩ hL hv hroom).mono ?_
    rintro e w' ⟨rfl, F', x', hC, _, _, _, hs⟩
    exact ⟨rfl, F', hC, hs⟩
set_option maxRecDepth 100000 in
theorem proof1_V (s : Wq) (x : Value) (v : List Nat) (cb b g i : Nat) (p : Addr) (F : Nat → Prop) (E : Nat → Addr) (w : World) (h : Cd w cb b F (.wr s) E) (hc : w.cell? p = some (.pointer (some ⟨cb, 0, none⟩))) (hp : w.cell? ⟨g, i, none⟩ = some x) (hB : BW w x v F) (hL : Loc w cb F g i) (hv : v.length < 9223372036854775808) (hroom : (CS.wr s).room 1) :
    Calls Tryz.prog 143 #[.pointer (some ⟨g, i, none⟩), .pointer (some p)] w fun e w' => e = .returned (.tuple #[]) ∧ ∃ F', Cd w' cb b F' ((CS.wr s).pHash n_hash v).1 E ∧ Stp w w' F F' (fun k j => k = g ∧ j = i) := by
  have H := hid (hash_V s n_hash x v cb b g i F E w h hp hB hL hv hroom)
  clear h hp hB hL
  go_enter Tryz.func143, Tryz.ntmps143
  go_wp2_with fail
  refine (uh H).mono ?_
  rintro e w' ⟨rfl, hr⟩
  have HR := hid hr
  clear hr
  go_wp2_with fail
  go_end0
  exact ⟨rfl, uh HR⟩
structure PcK (w : World) (xo : Option Addr) (xc : Nat) (ps : List (List Nat)) (F : Nat → Prop) : Prop where
  cap : ps.length ≤ xc
  el : ∀ (j : Nat) p, ps[j]? = some p → ∃ g o x, xo = some ⟨g, o, none⟩ ∧ ¬ F g ∧ w.cell? ⟨g, o + j, none⟩ = some x ∧ BW w x p F ∧ p.length < 9223372036854775808
theorem PcK.stp {w w' : World} {xo : Option Addr} {xc : Nat} {ps : List (List Nat)} {F F' : Nat → Prop} {P : Nat → Nat → Prop} (h : PcK w xo xc ps F) (hs : Stp w w' F F' P) (hP : ∀ k j, k < w.heap.size → ¬ P k j) : PcK w' xo xc ps F' := by
  refine ⟨h.cap, fun j p hp => ?_⟩
  obtain ⟨g, o, x, h1, h2, h3, h4, h5⟩ := h.el j p hp
  have hlt := ltC h3
  exact ⟨g, o, x, h1, hs.nF hlt h2, (hs.oth g (o + j) hlt h2 (hP g _ hlt)).trans h3, h4.stp hs hP, h5⟩
set_option maxRecDepth 100000 in
theorem list_byt_wV (s : Wq) (nm : ByteArray) (m : Nat) (cb b g i kb : Nat) (F : Nat → Prop) (E : Nat → Addr) (xo : Option Addr) (xc : Nat) (ps : List (List Nat)) (w : World) (h : Cd w cb b F (.wr s) E) (hn : ps.length < 9223372036854775808) (hm : m ≤ 4096) (hp : w.cell? ⟨g, i, none⟩ = some (.slice xo ps.length xc)) (hL : Loc w cb F g i) (hps : PcK w xo xc ps F) (hkb : w.cell? ⟨kb, 0, none⟩ = some (.pointer (some ⟨cb, 0, none⟩))) (hkF : ¬ F kb) (hroom : (CS.wr s).room 5000) :
    Calls Tryz.prog 142 #[.pointer (some ⟨cb, 0, none⟩), .string nm, .pointer (some ⟨g, i, none⟩), .int .i64 (m : Nat), .func (.func 143) #[] #[.pointer (some ⟨kb, 0, none⟩)], .slice none 0 0] w fun e w' => e = .returned (.tuple #[]) ∧ ∃ F', Cd w' cb b F' (loopW (fun c v => c.pHash n_hash v) ((CS.wr s).pInt nm m (lrs m []) ps.length).1 (ps.take (min ps.length m))) E ∧ Stp w w' F F' (fun _ _ => False) := by
  have k2 := h.g7.k2
  have hl2 := ltC k2
  have hsf := st_func
  have hent : ∀ (x : Value) (W : World), (callFunc 143 (#[x] ++ #[.pointer (some ⟨kb, 0, none⟩)])).run Tryz.prog W = .ok (.enter 143 (#[x] ++ #[.pointer (some ⟨kb, 0, none⟩)])) W := fun _ W => enters Tryz.func143 rfl rfl _ W
  obtain ⟨n, hnl⟩ : ∃ n, n = ps.length := ⟨_, rfl⟩
  rw [← hnl] at hn hp ⊢
  have HNL := hid hnl
  clear hnl
  have hhead := list_head (.wr s) nm n m [] cb b F E (.slice none 0 0) w h (by omega) (by omega) ⟨_, Rus.nil _ w E, fun _ h => h.elim⟩ (by decide) (by simp only [CS.room] at *; omega) 3
  obtain ⟨c1, hc1⟩ : ∃ c1, c1 = ((CS.wr s).pInt nm m (lrs m []) n).1 := ⟨_, rfl⟩
  have hn1 : ((CS.wr s).pInt nm m (lrs m []) n).2 = n := rfl
  have hroom1 : c1.room 4999 := by rw [hc1]; exact CS.pInt_room hroom _ _ _ _
  have hw1 : ∃ s, c1 = .wr s := ⟨_, hc1⟩
  rw [← hc1, hn1] at hhead
  rw [← hc1]
  clear hc1 hn1
  have HG := hid hhead
  clear hhead
  obtain ⟨N, hN⟩ : ∃ N, N = min n m := ⟨_, rfl⟩
  rw [← hN]
  have hNn : N ≤ n := by omega
  have hNm : N ≤ 4096 := by omega
  have HM := hid hN
  clear hN
  have HW := hid (within_int 0 m 2 E (w.alloc (.cells #[.int .i64 n] 3)) (by decide))
  have H := hid (And.intro h (And.intro hL (And.intro hps (And.intro hkF (And.intro hroom1 hw1)))))
  have hlp := hL.lt
  have hlk := ltC hkb
  clear h hL hps hroom hroom1 hw1
  go_enter Tryz.func142, Tryz.ntmps142
  go_wp2_with fail
  refine (uh HW).mono ?_
  rintro e w1 ⟨fv, rfl, K0, hF, hf1, hK0⟩
  obtain ⟨ao, cp, w2, hr, hcall⟩ := (uh HG) w1 fv K0 hF hf1 hK0 none 0 rfl
  obtain ⟨Fc, caps, rfl, _⟩ := hF.ex
  have HR := hid hr
  have HC := hid hcall
  clear hF hf1 hK0 hr hcall
  go_wp2_with (at_builtin; refine wpList_app rfl _ _ 278 278 rfl _ _ _ rfl rfl (uh HR) ?_)
  refine (uh HC).mono ?_
  rintro e w3 ⟨rfl, F3, hC3, hn3, hlt3, hnF3, hs3⟩
  have H3 := hid (And.intro hC3 hs3)
  clear hC3 hs3 hlt3 hnF3
  by_cases hnm : n ≤ m
  all_goals
    go_wp2_with fail
    go_loopw [32] (fun iv wr => ∃ (k : Nat) (Fk : Nat → Prop), k ≤ N ∧ iv = .int .i64 (k : Nat) ∧ Cd wr cb b Fk (loopW (fun c v => c.pHash n_hash v) c1 (ps.take k)) E ∧ (∃ s', loopW (fun c v => c.pHash n_hash v) c1 (ps.take k) = .wr s') ∧ (loopW (fun c v => c.pHash n_hash v) c1 (ps.take k)).room (4999 - k) ∧ Stp w wr F Fk (fun _ _ => False)) (fun iv _ => N - (intOf iv).toNat)
    case atStart => exact ⟨0, F3, Nat.zero_le _, rfl, (uh H3).1, (uh H).2.2.2.2.2, (uh H).2.2.2.2.1, (uh H3).2⟩
    case round =>
      obtain ⟨k, Fk, hk, rfl, hCk, ⟨sk, hsk⟩, hrk, hsk2⟩ := hrel
      by_cases hlt : k < N
      · have hlt' : (k : Int) < (n : Int) := by omega
        have hltm : (k : Int) < (m : Int) := by have := uh HM; omega
        obtain ⟨p, hpk⟩ : ∃ p, ps[k]? = some p := ⟨ps[k]'(by have := uh HNL; omega), List.getElem?_eq_getElem (by have := uh HNL; omega)⟩
        have hPk := (uh H).2.2.1.stp hsk2 (fun _ _ _ h => h)
        obtain ⟨eg, eo, ex, rfl, hegF, hex, hBx, hplen⟩ := hPk.el k p hpk
        obtain ⟨yo, yc, rfl⟩ := hBx.src.form
        have hpr : wr.cell? ⟨g, i, none⟩ = some (.slice (some ⟨eg, eo, none⟩) n xc) := (hsk2.oth g i hlp (uh H).2.1.nF (fun h => h)).trans hp
        have hkr : wr.cell? ⟨kb, 0, none⟩ = some (.pointer (some ⟨cb, 0, none⟩)) := (hsk2.oth kb 0 hlk (uh H).2.2.2.1 (fun h => h)).trans hkb
        rw [hsk] at hCk hrk
        have h0r : wr.cell? ⟨cb, 0, none⟩ = some (.pointer (some ⟨b, 0, none⟩)) := hCk.c0
        have h1r : wr.cell? ⟨cb, 1, none⟩ = some (.pointer none) := hCk.c1
        have hlg := ltC hpr
        have hlkr := ltC hkr
        have hlcr := ltC h0r
        have hler := ltC hex
        have HK := hid (And.intro hCk (And.intro hrk (And.intro hsk2 (And.intro hBx (And.intro hplen (And.intro hpk hsk))))))
        clear hCk hrk hsk2 hBx hplen hpk hsk hPk
        have hcapk : k ≤ xc := by have := (uh H).2.2.1.cap; have := uh HNL; omega
        go_wp2_with fail
        have hbx := box1 wr (.cells #[.slice yo p.length yc] 23)
        refine (proof1_V sk (.slice yo p.length yc) p cb b wr.heap.size 0 ⟨kb, 0, none⟩ Fk E _ ((uh HK).1.fr0 hbx) ((hbx.cell hlkr (fun h => h)).trans hkr) (by simp) ((uh HK).2.2.2.1.fr0 hbx) ((uh HK).1.box _ _ 0) (uh HK).2.2.2.2.1 (by have := (uh HK).2.1; simp only [CS.room] at *; omega)).mono ?_
        rintro e w4 ⟨rfl, F4, hC4, hs4⟩
        have hs5 : Stp w w4 F F4 (fun _ _ => False) := ((uh HK).2.2.1.trans (Stp.of_fr hbx Fk (fun _ _ => False)) (fun _ _ _ h => h)).trans hs4 (fun k j hk h => by have := (uh HK).2.2.1.size; omega)
        have h1w : w4.cell? ⟨cb, 1, none⟩ = some (.pointer none) := hC4.c1
        have hlc4 := ltC h1w
        have H4 := hid (And.intro hC4 hs5)
        clear hC4 hs4 hs5 hbx
        go_wp2_with fail
        have es := loopW_succ (fun c v => c.pHash n_hash v) c1 ps k p (uh HK).2.2.2.2.2.1
        rw [(uh HK).2.2.2.2.2.2] at es
        refine ⟨⟨k + 1, F4, by omega, by go_num, ?_, ?_, ?_, (uh H4).2⟩, by simp [intOf]; omega⟩
        · rw [es]; exact (uh H4).1
        · rw [es]; exact ⟨_, rfl⟩
        · rw [es]; exact CS.pHash_room (by have := (uh HK).2.1; simp only [CS.room] at *; omega) _ _
      · have hkN : k = N := by omega
        have HK := hid (And.intro hCk hsk2)
        clear hCk hsk hrk hsk2
        first
          | (have hlt' : ¬ (k : Int) < (n : Int) := by have := uh HM; omega
             go_wp2_with fail)
          | (have hlt' : ¬ (k : Int) < (m : Int) := by have := uh HM; omega
             go_wp2_with fail)
        go_end0
        rw [hkN] at HK
        exact ⟨rfl, Fk, (uh HK).1, (uh HK).2⟩
set_option maxRecDepth 100000 in
theorem proof_wV (s : Wq) (ps : List (List Nat)) (xo : Option Addr) (xc : Nat) (cb b g o : Nat) (F : Nat → Prop) (E : Nat → Addr) (w : World) (h : Cd w cb b F (.wr s) E) (hp : w.cell? ⟨g, o, none⟩ = some (.slice xo ps.length xc)) (hL : Loc w cb F g o) (hps : PcK w xo xc ps F) (hn : ps.length < 9223372036854775808) (hroom : (CS.wr s).room 5000) :
    Calls Tryz.prog 113 #[.pointer (some ⟨cb, 0, none⟩), .pointer (some ⟨g, o, none⟩)] w fun e w' => e = .returned (.tuple #[]) ∧ ∃ F', Cd w' cb b F' ((CS.wr s).pProof ps).1 E ∧ Stp w w' F F' (fun _ _ => False) := by
  have hmf := mf
  have hlp := hL.lt
  have hbx := box1 w (.cells #[.pointer (some ⟨cb, 0, none⟩)] 138)
  have hng : ¬ F w.heap.size := fun hx => by have := h.lt _ hx; omega
  have HH : Hid (∀ wx, Fr (fun _ => False) (w.alloc (.cells #[.pointer (some ⟨cb, 0, none⟩)] 138)) wx → Calls Tryz.prog 142 #[.pointer (some ⟨cb, 0, none⟩), .string n_hashes, .pointer (some ⟨g, o, none⟩), .int .i64 4096, .func (.func 143) #[] #[.pointer (some ⟨w.heap.size, 0, none⟩)], .slice none 0 0] wx fun e w' => e = .returned (.tuple #[]) ∧ (∃ F', Cd w' cb b F' ((CS.wr s).pProof ps).1 E ∧ Stp w w' F F' (fun _ _ => False)) ∧ w'.cell? ⟨w.heap.size, 0, none⟩ = some (.pointer (some ⟨cb, 0, none⟩))) := by
    intro wx hfx
    have hf := hbx.trans hfx (fun _ _ h => h)
    have hcx : wx.cell? ⟨w.heap.size, 0, none⟩ = some (.pointer (some ⟨cb, 0, none⟩)) := (hfx.cell (p := ⟨w.heap.size, 0, none⟩) (by simp) (fun h => h)).trans (by simp)
    refine (list_byt_wV s n_hashes 4096 cb b g o w.heap.size F E xo xc ps wx (h.fr0 hf) hn (by decide) ((hf.cell (p := ⟨g, o, none⟩) hlp (fun h => h)).trans hp) (hL.fr0 hf) (hps.stp (Stp.of_fr hf F (fun _ _ => False)) (fun _ _ _ h => h)) hcx hng hroom).mono ?_
    rintro e w1 ⟨rfl, F1, hC1, hs1⟩
    exact ⟨rfl, ⟨F1, hC1, (Stp.of_fr hf F (fun _ _ => False)).trans hs1 (fun _ _ _ h => h)⟩, (hs1.oth w.heap.size 0 (ltC hcx) hng (fun h => h)).trans hcx⟩
  have hS0 : Fr (fun _ => False) (w.alloc (.cells #[.pointer (some ⟨cb, 0, none⟩)] 138)) (w.alloc (.cells #[.pointer (some ⟨cb, 0, none⟩)] 138)) := Fr.refl _ _
  have hcb : (w.alloc (.cells #[.pointer (some ⟨cb, 0, none⟩)] 138)).cell? ⟨w.heap.size, 0, none⟩ = some (.pointer (some ⟨cb, 0, none⟩)) := by simp
  clear h hL hps hbx hng
  go_enter Tryz.func113, Tryz.ntmps113
  go_wp2_with fail
  go_region_held3 (fun w' => w'.cell? ⟨w.heap.size, 0, none⟩ = some (.pointer (some ⟨cb, 0, none⟩))) (first | assumption | (simp only [World.cell?_drew, World.cell?_drewN]; assumption)) (first
    | (go_at_call 142; refine ((uh HH) _ (by first | assumption | exact Fr.drew (by assumption))).mono ?_; rintro e w1 ⟨rfl, h1, hc1⟩))
  have H1 := hid h1
  clear h1
  go_wp2_with fail
  go_end0
  exact ⟨rfl, uh H1⟩
set_option maxRecDepth 100000 in
theorem whole_Proof_wV (s : Wq) (ps : List (List Nat)) (xo : Option Addr) (xc : Nat) (cb b g : Nat) (F : Nat → Prop) (E : Nat → Addr) (w : World) (h : Cd w cb b F (.wr s) E) (hp : w.cell? ⟨g, 0, none⟩ = some (.slice xo ps.length xc)) (hL : Loc w cb F g 0) (hps : PcK w xo xc ps F) (hn : ps.length < 9223372036854775808) (hroom : (CS.wr s).room 5001) :
    Calls Tryz.prog 68 #[.pointer (some ⟨cb, 0, none⟩), .iface 215 (.pointer (some ⟨g, 0, none⟩))] w fun e w' => e = .returned (.tuple #[]) ∧ ∃ F', Cd w' cb b F' (((CS.wr s).pForm 6).pProof ps).1 E ∧ Stp w w' F F' (fun _ _ => False) := by
  have t0 := Tryz.wh_Proof
  have t1 := Tryz.wm_Proof_Request
  have t2 := Tryz.wm_Proof_Answer
  have t3 := Tryz.wm_Proof_Event
  have t4 := Tryz.wm_Proof_Head
  have t5 := Tryz.wm_Proof_Signed
  have HF := hid (form_any (.wr s) 6 cb b F E w h (by decide) (by simp only [CS.room] at *; omega))
  have hgl := hL.lt
  have hgF := hL.nF
  have H := hid (And.intro hps hL)
  clear h hps hL
  go_enter Tryz.func68, Tryz.ntmps68
  go_wp2_with fail
  refine (uh HF).mono ?_
  rintro e w1 ⟨rfl, F1, hC1, hs1⟩
  have HH := hid (proof_wV _ ps xo xc cb b g 0 F1 E w1 hC1 ((hs1.oth g 0 hgl hgF (fun h => h)).trans hp) ((uh H).2.stp hs1) ((uh H).1.stp hs1 (fun _ _ _ h => h)) hn (CS.pForm_room hroom 6))
  have H1 := hid hs1
  clear hC1 hs1
  go_wp2_with fail
  refine (uh HH).mono ?_
  rintro e w2 ⟨rfl, F2, hC2, hs2⟩
  have H2 := hid (And.intro hC2 ((uh H1).trans hs2 (fun _ _ _ h => h)))
  clear hC2 hs2
  go_wp2_with fail
  go_end0
  exact ⟨rfl, F2, (uh H2).1, (uh H2).2⟩
structure PcL (w : World) (xo : Option Addr) (xc : Nat) (ps : List (List Nat)) : Prop where
  cap : ps.length ≤ xc
  len : ps.length < 9223372036854775808
  el : ∀ (j : Nat) p, ps[j]? = some p → ∃ g o x, xo = some ⟨g, o, none⟩ ∧ w.cell? ⟨g, o + j, none⟩ = some x ∧ Src w x p ∧ (p = [] ∨ ∀ g o m c, x = .slice (some ⟨g, o, none⟩) m c → g < w.heap.size) ∧ p.length < 9223372036854775808
theorem src_frV {w w1 : World} {x : Value} {p : List Nat} (h : Src w x p) (hf : Fr (fun _ => False) w w1) : Src w1 x p := h.fr hf (fun _ _ _ _ _ h => h)
theorem PcL.pck {w w1 : World} {xo : Option Addr} {xc : Nat} {ps : List (List Nat)} {F : Nat → Prop} (h : PcL w xo xc ps) (hf : Fr (fun _ => False) w w1) (hF : ∀ k, F k → w.heap.size ≤ k) : PcK w1 xo xc ps F := by
  refine ⟨h.cap, fun j p hp => ?_⟩
  obtain ⟨g, o, x, h1, h2, h3, h4, h5⟩ := h.el j p hp
  have hlt := ltC h2
  refine ⟨g, o, x, h1, fun hx => by have := hF g hx; simp only at hlt; omega, (hf.cell (p := ⟨g, o + j, none⟩) hlt (fun h => h)).trans h2, ⟨src_frV h3 hf, ?_⟩, h5⟩
  rcases h4 with h4 | h4
  · exact .inl h4
  · exact .inr fun k o m c e => ⟨Nat.lt_of_lt_of_le (h4 k o m c e) hf.size, fun hx => by have := hF k hx; have := h4 k o m c e; omega⟩
theorem PcL.fr0 {w w1 : World} {xo : Option Addr} {xc : Nat} {ps : List (List Nat)} (h : PcL w xo xc ps) (hf : Fr (fun _ => False) w w1) : PcL w1 xo xc ps := by
  refine ⟨h.cap, h.len, fun j p hp => ?_⟩
  obtain ⟨g, o, x, h1, h2, h3, h4, h5⟩ := h.el j p hp
  exact ⟨g, o, x, h1, (hf.cell (p := ⟨g, o + j, none⟩) (ltC h2) (fun h => h)).trans h2, src_frV h3 hf, h4.imp id (fun h4 g o m c e => Nat.lt_of_lt_of_le (h4 g o m c e) hf.size), h5⟩
theorem putProofV (ps : List (List Nat)) (xo : Option Addr) (xc : Nat) (E : Nat → Addr) (w : World) (hg : G6 w E) (hw : 9 ≤ w.heap.size) (hx : PcL w xo xc ps) :
    Calls Tryz.prog 33 #[.agg #[.slice xo ps.length xc]] w fun e w' => PutRes w w' e (proofW ps) E := by
  have hr : (CS.wr (proofW ps)).room 0 := by
    rw [← proofW_eq]
    refine loopW_room (ps.take (min ps.length 4096)) (n := 0) ?_
    have h2 := CS.pInt_room (n := 4096) (CS.pForm_room (n := 4097) (cw0_room 4098 (by decide)) 6) n_hashes (4096 : Nat) (lrs (4096 : Nat) []) ps.length
    have h3 : (ps.take (min ps.length 4096)).length ≤ 4096 := by rw [List.length_take]; omega
    exact Nat.le_trans (Nat.add_le_add_left (Nat.mul_le_mul_left 40000 (by omega)) _) h2
  obtain ⟨wb, hwb⟩ : ∃ wb, w.alloc (.cells #[.slice xo ps.length xc] 40) = wb := ⟨_, rfl⟩
  have hbx : Fr (fun _ => False) w wb := by rw [← hwb]; exact box1 _ _
  have hx' := hx.fr0 hbx
  have hp := put_Proof #[.slice xo ps.length xc] (proofW ps) E wb (hg.fr hbx (fun _ h => h.elim)) (by have := hbx.size; omega) (fun w1 cb b F hC hcs hL hF hf => by
    refine (whole_Proof_wV _ ps xo xc cb b wb.heap.size F E w1 hC (hcs 0 _ rfl) (hL 0) (hx'.pck hf (fun k hk => by have := hF k hk; omega)) hx.len (cw0_room 5001 (by decide))).mono ?_
    rintro e w' ⟨rfl, F', hC', hs⟩
    exact ⟨rfl, F', by rw [← proofW_eq]; exact hC', hs.mono (fun k j _ h => h.elim)⟩) (room_len hr)
  refine (PutProof_go _ w (fun e w' => PutRes w w' e (proofW ps) E) ?_).mono (fun e w' h => h.2)
  rw [hwb]
  exact hp.mono (fun e w' h => by rw [← hwb] at h; exact PutRes.box h)
end Go.Proofs.YtlphcgfmjhbeoaaGreatDoor
