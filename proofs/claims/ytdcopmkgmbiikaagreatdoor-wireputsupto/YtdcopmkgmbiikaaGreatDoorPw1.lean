import Derived.Test.YtdcopmkgmbiikaaGreatDoorKSen
import Derived.Test.YtdcopmkgmbiikaaGreatDoorKCnt
import Derived.Test.YtdcopmkgmbiikaaGreatDoorKRdd
import Derived.Test.YtdcopmkgmbiikaaGreatDoorKTld
import Derived.Test.YtdcopmkgmbiikaaGreatDoorKFai
import Derived.Test.YtdcopmkgmbiikaaGreatDoorKRbe
import Derived.Test.YtdcopmkgmbiikaaGreatDoorKFlu
import Derived.Test.YtdcopmkgmbiikaaGreatDoorKWra
import Derived.Deep.RegionHeld3
import Derived.Test.YtdcopmkgmbiikaaGreatDoorKWrb
import Derived.Maps.AppendAt
import Derived.Test.YtdcopmkgmbiikaaGreatDoorKBase
namespace Go.Proofs.YtdcopmkgmbiikaaGreatDoor
open Go.ChangeShapes Go.WideShapes Go.ChangeAt Go.RowKit
set_option maxRecDepth 100000
theorem heap_ok {W : World} (h : W.ShapedOpen Tryz.prog) : 9 ≤ W.heap.size := by
 obtain ⟨cs, hc, _⟩ := h.1 8 #[.bool false] 4 (by decide +kernel) (by kernel_rfl)
 rcases Nat.lt_or_ge 8 W.heap.size with hx | hx
 ·exact hx
 ·rw [Array.getElem?_eq_none hx] at hc; cases hc
theorem Fr.low {w w' : World} (h : Fr (fun _ => False) w w') : Below w.heap.size w w' := ⟨h.os, h.tape, h.output, h.size, fun k hk => h.block k hk (fun x => x)⟩
noncomputable def errLow : Nat := (World.holding Tryz.prog default ⟨#[], #[], []⟩).heap.size
noncomputable def errWorld (os : Os) : World :=
 let w0 := World.holding Tryz.prog os ⟨#[.cells #[.string ⟨#[116, 111, 111, 32, 102, 101, 119, 32, 98, 121, 116, 101, 115]⟩] 359, .cells #[.string ⟨#[116, 111, 111, 32, 108, 111, 110, 103]⟩] 359, .cells #[.string ⟨#[98, 121, 116, 101, 115, 32, 98, 101, 104, 105, 110, 100, 32, 116, 104, 101, 32, 101, 110, 100]⟩] 359, .cells #[.string ⟨#[97, 32, 110, 117, 109, 98, 101, 114, 32, 116, 104, 97, 116, 32, 109, 97, 121, 32, 110, 111, 116, 32, 98, 101]⟩] 359, .cells #[.string ⟨#[110, 111, 32, 115, 117, 99, 104, 32, 107, 105, 110, 100]⟩] 359, .cells #[.string ⟨#[110, 111, 116, 32, 105, 110, 32, 111, 114, 100, 101, 114]⟩] 359, .cells #[.string ⟨#[111, 119, 110]⟩] 359], #[], []⟩
 { w0 with heap := (((((((w0.heap.modify 0 fun
   | .cells _ t frozen => .cells #[.iface 339 (.pointer (some ⟨errLow + 0, 0, none⟩))] t frozen
   | o => o).modify 3 fun
   | .cells _ t frozen => .cells #[.iface 339 (.pointer (some ⟨errLow + 1, 0, none⟩))] t frozen
   | o => o).modify 1 fun
   | .cells _ t frozen => .cells #[.iface 339 (.pointer (some ⟨errLow + 2, 0, none⟩))] t frozen
   | o => o).modify 4 fun
   | .cells _ t frozen => .cells #[.iface 339 (.pointer (some ⟨errLow + 3, 0, none⟩))] t frozen
   | o => o).modify 5 fun
   | .cells _ t frozen => .cells #[.iface 339 (.pointer (some ⟨errLow + 4, 0, none⟩))] t frozen
   | o => o).modify 6 fun
   | .cells _ t frozen => .cells #[.iface 339 (.pointer (some ⟨errLow + 5, 0, none⟩))] t frozen
   | o => o).modify 7 fun
   | .cells _ t frozen => .cells #[.iface 339 (.pointer (some ⟨errLow + 6, 0, none⟩))] t frozen
   | o => o) }
end Go.Proofs.YtdcopmkgmbiikaaGreatDoor
namespace Go.Proofs.YtdcopmkgmbiikaaGreatDoor
open Go.RowKit
theorem Ch.ahead {w wa w' : World} {F F' : Nat → Prop} (h : Ch w wa F F') (ha : Fr (fun _ => False) wa w') : Ch w w' F F' :=
 ⟨h.fr.trans ha (fun _ _ e => e.elim), h.new⟩
theorem R.put_bad {w wa w1 : World} {b p : Nat} {F : Nat → Prop} {s : Rst} {fa ea : Addr} (h : R w b F s) (ha : Fr (fun _ => False) w wa) (hB : BadR wa w1 b fa s.nm p ea) :
  ∃ F', R (w1.setCell ⟨b, 1, none⟩ (.pointer (some fa))) b F' { s with f := some (s.nm, p, ea) } ∧ Ch w (w1.setCell ⟨b, 1, none⟩ (.pointer (some fa))) F F' := by
 have hlt := h.lt b h.fb
 obtain ⟨fb, fo, fs⟩ := fa
 obtain ⟨rfl, rfl, hge⟩ := hB.blk
 have hge' : w.heap.size ≤ fb := Nat.le_trans ha.size hge
 have hfl : fb < w1.heap.size := by
  rcases Nat.lt_or_ge fb w1.heap.size with hx | hx
  ·exact hx
  ·have := hB.c; rw [Array.getElem?_eq_none hx] at this; cases this
 have hfr : Fr (fun k => k = b) w w1 := (ha.mono (fun _ _ h => h.elim)).trans hB.fr (fun _ _ e => e)
 refine ⟨fun k => F k ∨ k = fb, ⟨?_, ?_, .inl h.fb, .inr ⟨s.nm, p, ea, fb, rfl, ?_, ?_, ?_, .inr rfl, by omega, ?_⟩⟩, ?_, ?_⟩
 ·intro k hk
  rw [World.size_setCell]
  rcases hk with hk | rfl
  ·exact Nat.lt_of_lt_of_le (h.lt k hk) hfr.size
  ·exact hfl
 ·intro k hk
  rcases hk with hk | rfl
  ·exact h.lo k hk
  ·have h2 := h.lo b h.fb
   omega
 ·rw [World.cell?_setCell_other _ _ _ _ (by intro h; injection h with _ h2 _; cases h2)]; exact hB.c0
 ·intro i; rw [World.frozen?_setCell]; exact hB.fz i
 ·exact World.cell?_setCell_same _ _ _ hB.c1
 ·rw [Below.heap_setCell _ _ _ _ (by show fb ≠ b; omega)]; exact hB.c
 ·exact (hfr.mono (T := F) (fun _ _ e => by rw [e]; exact h.fb)).setCell (.inl h.fb) _
 ·intro k hk
  rcases hk with hk | rfl
  ·exact .inl hk
  ·exact .inr hge'
theorem rFail_clo_nil (b : Nat) (p0 p1 : Addr) (w : World) (hp0 : w.cell? p0 = some (.pointer (some ⟨b, 0, none⟩))) (hp1 : w.cell? p1 = some .nilIface) :
  Calls Tryz.prog 197 #[.pointer (some p0), .pointer (some p1)] w fun e w' => e = .returned (.tuple #[]) ∧ Fr (fun _ => False) w w' := by
 go_enter Tryz.func197, Tryz.ntmps197
 go_wp2_with fail
 go_quiet ((go_at_call 198; exact Calls.quiet_of_same (rrefuse_no _ _ _)))
 go_wp2_with fail
 go_end0
 exact ⟨rfl, (Fr.refl _ _).drewN _⟩
theorem rFail_clo (b part : Nat) (p0 p1 ea : Addr) (nm : ByteArray) (sv : Value) (all : List Nat) (place : Nat) (w : World) (h : Rc w b nm sv all place part)
  (hp0 : w.cell? p0 = some (.pointer (some ⟨b, 0, none⟩))) (hp1 : w.cell? p1 = some (.iface 339 (.pointer (some ea)))) :
  Calls Tryz.prog 197 #[.pointer (some p0), .pointer (some p1)] w fun e w' => ∃ fa, e = .panicked [thrown fa] ∧ BadR w w' b fa nm part ea := by
 have h0 := h.c0
 have h4 := h.c4
 have H := hid h
 clear h
 go_enter Tryz.func197, Tryz.ntmps197
 go_wp2_with fail
 go_region_dies
 all_goals
  go_wp2_with fail
  refine (rrefuse_yes b part nm ea w.drew (by simpa using h0) (by simpa using h4)).mono ?_
  rintro e w1 ⟨rfl, rfl⟩
  exact ⟨rfl, _, rfl, BadR.of (uh H) (Fr.refl _ _) (bad_of_drew w nm part ea)⟩
def Rst.failN (s : Rst) (E : Nat → Addr) (n : Nat) : Rst := if n = 0 ∨ s.f ≠ none then s else { s with f := some (s.nm, s.part, E n) }
set_option maxRecDepth 100000 in
theorem rFail_any (b n : Nat) (F : Nat → Prop) (s : Rst) (E : Nat → Addr) (w : World) (h : R w b F s) :
  Calls Tryz.prog 171 #[.pointer (some ⟨b, 0, none⟩), errV E n] w fun e w' => e = .returned (.tuple #[]) ∧ ∃ F', R w' b F' (s.failN E n) ∧ Ch w w' F F' := by
 have hb := h.lt b h.fb
 have hmf := mf
 by_cases hn : s.f = none
 ·obtain ⟨sv, hr, hF⟩ := h.rc hn
  have HN := hid (And.intro hn (And.intro h hr))
  by_cases h0 : n = 0
  ·subst h0
   rw [errV, if_pos rfl, Rst.failN, if_pos (.inl rfl)]
   clear hn h hr hF
   go_enter Tryz.func171, Tryz.ntmps171
   go_wp2_with fail
   refine (attempt_ok b 197 _ (fun w' => Fr (fun _ => False) w w') _ (((box2 w _ _).cell hb (fun h => h)).trans (uh HN).2.2.c1) (enters Tryz.func197 (by kernel_rfl) (by kernel_rfl) _) ?_).mono ?_
   ·refine (rFail_clo_nil b ⟨w.heap.size, 0, none⟩ ⟨w.heap.size + 1, 0, none⟩ _ (((box1 _ _).cell (by simp <;> omega) (fun h => h)).trans (by simp)) (((box1 _ _).cell (by simp) (fun h => h)).trans (by simp))).mono ?_
    rintro e w' ⟨rfl, hf⟩
    exact ⟨rfl, ((box2 w _ _).alloc _).trans hf (fun _ _ h => h)⟩
   ·rintro e w' ⟨rfl, hf⟩
    go_wp2_with fail
    go_end0
    exact ⟨rfl, F, (uh HN).2.1.frame hf (fun _ _ h => h), hf.mono (fun _ _ h => h.elim), fun _ hk => .inl hk⟩
  ·rw [errV, if_neg h0, Rst.failN, if_neg (by simp [h0, hn])]
   clear hn h hr hF
   go_enter Tryz.func171, Tryz.ntmps171
   go_wp2_with fail
   have hc1 := ((box2 w (.cells #[.pointer (some ⟨b, 0, none⟩)] 141) (.cells #[.iface 339 (.pointer (some (E n)))] 49)).cell (p := ⟨b, 1, none⟩) hb (fun h => h)).trans (uh HN).2.2.c1
   have hk : Fr (fun _ => False) w (((w.alloc (.cells #[.pointer (some ⟨b, 0, none⟩)] 141)).alloc (.cells #[.iface 339 (.pointer (some (E n)))] 49)).alloc (.cells #[.pointer (some ⟨b, 0, none⟩)] 271)) := (box2 w _ _).alloc _
   refine (attempt_bad b 197 _ (fun w' fa => BadR (((w.alloc (.cells #[.pointer (some ⟨b, 0, none⟩)] 141)).alloc (.cells #[.iface 339 (.pointer (some (E n)))] 49)).alloc (.cells #[.pointer (some ⟨b, 0, none⟩)] 271)) w' b fa s.nm s.part (E n)) _ hc1 (enters Tryz.func197 (by kernel_rfl) (by kernel_rfl) _) ?_ (fun w' fa hB => ⟨(hB.fr.cell (by simp) (by show ¬ _ = b; simp; omega)).trans (c10 _ _ _), hB.c1, hB.fz 1⟩)).mono ?_
   ·exact rFail_clo b s.part ⟨w.heap.size, 0, none⟩ ⟨w.heap.size + 1, 0, none⟩ (E n) s.nm sv s.all s.place _ ((uh HN).2.2.frame hk (fun h => h) (fun _ _ _ _ _ h => h)) (((box1 _ _).cell (by simp <;> omega) (fun h => h)).trans (by simp)) (((box1 _ _).cell (by simp) (fun h => h)).trans (by simp))
   ·rintro e w' ⟨rfl, w1, fa, hB, rfl⟩
    obtain ⟨F', hR, hC⟩ := R.put_bad (uh HN).2.1 hk hB
    have HR := hid (And.intro hR hC)
    clear hR hC hB hk hc1
    go_wp2_with fail
    go_end0
    exact ⟨rfl, F', (uh HR).1, (uh HR).2⟩
 ·rw [Rst.failN, if_pos (.inr hn)]
  have h1 : ∃ fa, w.cell? ⟨b, 1, none⟩ = some (.pointer (some fa)) := by
   rcases h.st with ⟨h1, _⟩ | ⟨what, place, ea, fb, _, _, _, h4, _⟩
   ·exact absurd h1 hn
   ·exact ⟨_, h4⟩
  obtain ⟨fa, h1⟩ := h1
  have H := hid h
  clear h hn
  have hv : errV E n = .nilIface ∨ errV E n = .iface 339 (.pointer (some (E n))) := by unfold errV; split <;> simp
  rcases hv with e | e
  all_goals
   rw [e]
   clear e
   go_enter Tryz.func171, Tryz.ntmps171
   go_wp2_with fail
   refine (attempt_given b fa _ _ (((box2 w _ _).cell hb (fun h => h)).trans h1)).mono ?_
   rintro e w' ⟨rfl, rfl⟩
   go_wp2_with fail
   go_end0
   exact ⟨rfl, F, (uh H).frame ((box2 w _ _).alloc _) (fun _ _ h => h), Fr.mono (S := fun _ => False) ((box2 w _ _).alloc _) (fun _ _ h => h.elim), fun _ hk => .inl hk⟩
theorem rName_given (b : Nat) (x : ByteArray) (F : Nat → Prop) (s : Rst) (w : World) (h : R w b F s) (hn : s.f ≠ none) :
  Calls Tryz.prog 85 #[.pointer (some ⟨b, 0, none⟩), .string x] w fun e w' => e = .returned (.tuple #[]) ∧ R w' b F { s with nm := x } ∧ Fr (fun k => k = b) w w' := by
 rcases h.st with ⟨h1, _⟩ | ⟨what, place, ea, fb, h1, h2, h3, h4, h5, h6, h7⟩
 ·exact absurd h1 hn
 have z0 := h3 0
 have H := hid (And.intro h (And.intro h1 (And.intro h3 (And.intro h4 (And.intro h5 (And.intro h6 h7))))))
 clear h hn h1 h3 h4 h5 h6 h7
 go_enter Tryz.func85, Tryz.ntmps85
 go_wp2
 go_end0
 obtain ⟨h, h1, h3, h4, h5, h6, h7⟩ := uh H
 have hf : Fr (fun k => k = b) w (w.setCell ⟨b, 0, none⟩ (.string x)) := Fr.setCell (S := fun k => k = b) (Fr.refl _ _) (.inl rfl) _
 exact ⟨rfl, ⟨fun k hk => by rw [World.size_setCell]; exact h.lt k hk, h.lo, h.fb, .inr ⟨what, place, ea, fb, h1, World.cell?_setCell_same _ _ _ h2, fun i => by rw [World.frozen?_setCell]; exact h3 i, (World.cell?_setCell_other _ _ _ _ (by intro h; injection h with _ h2 _; cases h2)).trans h4, h5, h6, (hf.block fb (h.lt fb h5) (fun e => h6 e)).trans h7⟩⟩, hf⟩
structure Q where
 nm : ByteArray
 all : List Nat
 place : Nat
 part : Nat
 f : Option (ByteArray × Nat × Nat)
def Q.rst (q : Q) (E : Nat → Addr) : Rst := ⟨q.nm, q.all, q.place, q.part, q.f.map fun x => (x.1, x.2.1, E x.2.2)⟩
def Q.fail (q : Q) (n : Nat) : Q := { q with f := some (q.nm, q.place, n) }
def Q.num (q : Q) (n : Nat) : Nat := val ((q.all.drop q.place).take n)
def wid (k : Int) : Nat := if k = 5 ∨ k = 6 ∨ k = 7 then 4 else k.toNat
def Q.step (q : Q) (p : Pt) : Q × Nat × List Nat :=
 if p.k = 10 then ({ q with nm := p.s }, 0, [])
 else if q.f ≠ none then (q, 0, [])
 else if p.k = 9 then (if p.n = 0 then q else { q with f := some (q.nm, q.part, p.n.toNat) }, 0, [])
 else if q.all.length < wid p.k + q.place then (q.fail 1, 0, [])
 else if p.k = 5 ∧ quantB (q.num 4) = false then (q.fail 4, 0, [])
 else if (p.k = 6 ∨ p.k = 7) ∧ p.m < (q.num 4 : Int) then (q.fail 2, 0, [])
 else if p.k ≠ 6 then ({ q with place := q.place + wid p.k, part := q.place }, q.num (wid p.k), [])
 else if q.all.length < q.num 4 + (q.place + 4) then (q.fail 1, 0, [])
 else ({ q with place := q.place + 4 + q.num 4, part := q.place }, 0, (q.all.drop (q.place + 4)).take (q.num 4))
structure Q.ok (q : Q) : Prop where
 place : q.place ≤ q.all.length
 part : q.part ≤ q.all.length
 f : ∀ x, q.f = some x → x.2.1 ≤ q.all.length ∧ 1 ≤ x.2.2 ∧ x.2.2 ≤ 7
def Q.at_ (q : Q) : Nat := match q.f with
 | none => q.place
 | some x => x.2.1
theorem Q.step_all (q : Q) (p : Pt) : (q.step p).1.all = q.all := by
 unfold Q.step Q.fail
 repeat' split
 all_goals rfl
theorem Q.step_ok {q : Q} (h : q.ok) (p : Pt) (h9 : p.k = 9 → 0 ≤ p.n ∧ p.n ≤ 7) : (q.step p).1.ok := by
 have h1 := h.place
 have h2 := h.part
 unfold Q.step Q.fail
 split
 ·exact ⟨h1, h2, h.f⟩
 split
 ·exact h
 split
 ·rename_i e
  have := h9 e
  dsimp only
  split
  ·exact h
  ·exact ⟨h1, h2, fun x hx => by obtain rfl := Option.some.inj hx; exact ⟨h2, by show 1 ≤ p.n.toNat; omega, by show p.n.toNat ≤ 7; omega⟩⟩
 split
 ·exact ⟨h1, h2, fun x hx => by obtain rfl := Option.some.inj hx; exact ⟨h1, by dsimp only; decide, by dsimp only; decide⟩⟩
 split
 ·exact ⟨h1, h2, fun x hx => by obtain rfl := Option.some.inj hx; exact ⟨h1, by dsimp only; decide, by dsimp only; decide⟩⟩
 split
 ·exact ⟨h1, h2, fun x hx => by obtain rfl := Option.some.inj hx; exact ⟨h1, by dsimp only; decide, by dsimp only; decide⟩⟩
 split
 ·exact ⟨by show q.place + wid p.k ≤ q.all.length; omega, h1, h.f⟩
 split
 ·exact ⟨h1, h2, fun x hx => by obtain rfl := Option.some.inj hx; exact ⟨h1, by dsimp only; decide, by dsimp only; decide⟩⟩
 ·exact ⟨by show q.place + 4 + q.num 4 ≤ q.all.length; omega, h1, h.f⟩
theorem Q.rst_none {q : Q} {E : Nat → Addr} (h : q.f = none) : (q.rst E).f = none := by simp [Q.rst, h]
theorem Q.rst_some {q : Q} {E : Nat → Addr} (h : q.f ≠ none) : (q.rst E).f ≠ none := by
 simp only [Q.rst, ne_eq, Option.map_eq_none_iff]; exact h
theorem Ch.of_fr {w w' : World} {b : Nat} {F : Nat → Prop} (h : Fr (fun k => k = b) w w') (hb : F b) : Ch w w' F F := ⟨h.mono (fun _ _ e => by rw [e]; exact hb), fun _ hk => .inl hk⟩
def Q.go (q : Q) (k m : Int) : Q × Nat × List Nat := q.step ⟨k, 0, ByteArray.empty, 0, m⟩
def Q.named (q : Q) (s : ByteArray) : Q := { q with nm := s }
def Q.failN (q : Q) (n : Nat) : Q := if n = 0 ∨ q.f ≠ none then q else { q with f := some (q.nm, q.part, n) }
theorem Q.go_all (q : Q) (k m : Int) : (q.go k m).1.all = q.all := q.step_all _
theorem Q.go_ok {q : Q} (h : q.ok) (k m : Int) : (q.go k m).1.ok := Q.step_ok h _ (fun _ => ⟨by simp, by simp⟩)
theorem Q.named_ok {q : Q} (h : q.ok) (s : ByteArray) : (q.named s).ok := ⟨h.place, h.part, h.f⟩
theorem Q.failN_ok {q : Q} (h : q.ok) (n : Nat) (hn : n ≤ 7) : (q.failN n).ok := by
 unfold Q.failN
 split
 ·exact h
 ·rename_i hx
  exact ⟨h.place, h.part, fun x hx' => by
   obtain rfl := Option.some.inj hx'
   have : n ≠ 0 := fun e => hx (.inl e)
   exact ⟨h.part, by show 1 ≤ n; omega, hn⟩⟩
theorem rName_step (q : Q) (x : ByteArray) (b : Nat) (F : Nat → Prop) (E : Nat → Addr) (w : World) (h : R w b F (q.rst E)) :
  Calls Tryz.prog 85 #[.pointer (some ⟨b, 0, none⟩), .string x] w fun e w' => e = .returned (.tuple #[]) ∧ R w' b F ((q.named x).rst E) ∧ Ch w w' F F := by
 by_cases hf : q.f = none
 ·refine (rName_ok b x F _ w h (Q.rst_none hf)).mono ?_
  rintro e w' ⟨rfl, hR, hfr⟩
  exact ⟨rfl, hR, Ch.of_fr hfr h.fb⟩
 ·refine (rName_given b x F _ w h (Q.rst_some hf)).mono ?_
  rintro e w' ⟨rfl, hR, hfr⟩
  exact ⟨rfl, hR, Ch.of_fr hfr h.fb⟩
theorem rFail_step (q : Q) (n : Nat) (b : Nat) (F : Nat → Prop) (E : Nat → Addr) (w : World) (h : R w b F (q.rst E)) :
  Calls Tryz.prog 171 #[.pointer (some ⟨b, 0, none⟩), errV E n] w fun e w' => e = .returned (.tuple #[]) ∧ ∃ F', R w' b F' ((q.failN n).rst E) ∧ Ch w w' F F' := by
 have es : (q.rst E).failN E n = (q.failN n).rst E := by
  by_cases h0 : n = 0
  ·simp [Rst.failN, Q.failN, h0]
  ·by_cases hf : q.f = none <;> simp [Rst.failN, Q.failN, h0, hf, Q.rst]
 rw [← es]
 exact rFail_any b n F _ E w h
theorem rU8_step (q : Q) (b : Nat) (F : Nat → Prop) (E : Nat → Addr) (w : World) (hg : Gl w E) (h : R w b F (q.rst E)) :
  Calls Tryz.prog 191 #[.pointer (some ⟨b, 0, none⟩)] w fun e w' => e = .returned (.int .u8 (q.go 1 0).2.1) ∧ ∃ F', R w' b F' ((q.go 1 0).1.rst E) ∧ Ch w w' F F' := by
 obtain ⟨nm, all, place, part, f⟩ := q
 have hfb := h.fb
 cases f with
 | some y =>
  have es : Q.go ⟨nm, all, place, part, some y⟩ 1 0 = (⟨nm, all, place, part, some y⟩, 0, []) := by simp [Q.go, Q.step]
  rw [es]
  exact rU8_given b F _ w h (by simp [Q.rst])
 | none =>
  by_cases hl : all.length < 1 + place
  ·have es : Q.go ⟨nm, all, place, part, none⟩ 1 0 = (⟨nm, all, place, part, some (nm, place, 1)⟩, 0, []) := by simp [Q.go, Q.step, wid, Q.fail, hl]
   rw [es]
   exact rU8_bad b F _ E w hg h rfl hl
  ·have es : Q.go ⟨nm, all, place, part, none⟩ 1 0 = (⟨nm, all, place + 1, place, none⟩, val ((all.drop place).take 1), []) := by simp [Q.go, Q.step, wid, Q.num, hl]
   rw [es]
   refine (rU8_ok b F _ E w hg h rfl (by show 1 + place ≤ all.length; omega)).mono ?_
   rintro e w' ⟨rfl, hR, hfr⟩
   exact ⟨rfl, F, hR, Ch.of_fr hfr hfb⟩
theorem rU32_step (q : Q) (b : Nat) (F : Nat → Prop) (E : Nat → Addr) (w : World) (hg : Gl w E) (h : R w b F (q.rst E)) :
  Calls Tryz.prog 192 #[.pointer (some ⟨b, 0, none⟩)] w fun e w' => e = .returned (.int .u32 (q.go 4 0).2.1) ∧ ∃ F', R w' b F' ((q.go 4 0).1.rst E) ∧ Ch w w' F F' := by
 obtain ⟨nm, all, place, part, f⟩ := q
 have hfb := h.fb
 cases f with
 | some y =>
  have es : Q.go ⟨nm, all, place, part, some y⟩ 4 0 = (⟨nm, all, place, part, some y⟩, 0, []) := by simp [Q.go, Q.step]
  rw [es]
  exact rU32_given b F _ w h (by simp [Q.rst])
 | none =>
  by_cases hl : all.length < 4 + place
  ·have es : Q.go ⟨nm, all, place, part, none⟩ 4 0 = (⟨nm, all, place, part, some (nm, place, 1)⟩, 0, []) := by simp [Q.go, Q.step, wid, Q.fail, hl]
   rw [es]
   exact rU32_bad b F _ E w hg h rfl hl
  ·have es : Q.go ⟨nm, all, place, part, none⟩ 4 0 = (⟨nm, all, place + 4, place, none⟩, val ((all.drop place).take 4), []) := by simp [Q.go, Q.step, wid, Q.num, hl]
   rw [es]
   refine (rU32_ok b F _ E w hg h rfl (by show 4 + place ≤ all.length; omega)).mono ?_
   rintro e w' ⟨rfl, hR, hfr⟩
   exact ⟨rfl, F, hR, Ch.of_fr hfr hfb⟩
theorem rF32_step (q : Q) (b : Nat) (F : Nat → Prop) (E : Nat → Addr) (w : World) (hg : Gl w E) (hr : Rg w (E 4)) (h : R w b F (q.rst E)) :
  Calls Tryz.prog 193 #[.pointer (some ⟨b, 0, none⟩)] w fun e w' => e = .returned (.float .f32 (q.go 5 0).2.1) ∧ ∃ F', R w' b F' ((q.go 5 0).1.rst E) ∧ Ch w w' F F' := by
 obtain ⟨nm, all, place, part, f⟩ := q
 have hfb := h.fb
 cases f with
 | some y =>
  have es : Q.go ⟨nm, all, place, part, some y⟩ 5 0 = (⟨nm, all, place, part, some y⟩, 0, []) := by simp [Q.go, Q.step]
  rw [es]
  exact rF32_given b F _ w h (by simp [Q.rst])
 | none =>
  by_cases hl : all.length < 4 + place
  ·have es : Q.go ⟨nm, all, place, part, none⟩ 5 0 = (⟨nm, all, place, part, some (nm, place, 1)⟩, 0, []) := by simp [Q.go, Q.step, wid, Q.fail, hl]
   rw [es]
   exact rF32_short b F _ E w hg h rfl hl
  ·cases hqb : quantB (val ((all.drop place).take 4)) with
   | false =>
    have es : Q.go ⟨nm, all, place, part, none⟩ 5 0 = (⟨nm, all, place, part, some (nm, place, 4)⟩, 0, []) := by simp [Q.go, Q.step, wid, Q.fail, Q.num, hl, hqb]
    rw [es]
    exact rF32_bad b F _ E (E 4) w hg hr h rfl (by show 4 + place ≤ all.length; omega) hqb
   | true =>
    have es : Q.go ⟨nm, all, place, part, none⟩ 5 0 = (⟨nm, all, place + 4, place, none⟩, val ((all.drop place).take 4), []) := by simp [Q.go, Q.step, wid, Q.num, hl, hqb]
    rw [es]
    refine (rF32_ok b F _ E (E 4) w hg hr h rfl (by show 4 + place ≤ all.length; omega) hqb).mono ?_
    rintro e w' ⟨rfl, hR, hfr⟩
    exact ⟨rfl, F, hR, Ch.of_fr hfr hfb⟩
theorem rCount_step (q : Q) (m : Int) (b : Nat) (F : Nat → Prop) (E : Nat → Addr) (w : World) (hm : m < 9223372036854775808) (hg : Gl w E) (h : R w b F (q.rst E)) :
  Calls Tryz.prog 196 #[.pointer (some ⟨b, 0, none⟩), .int .i64 m] w fun e w' => e = .returned (.int .i64 (q.go 7 m).2.1) ∧ ∃ F', R w' b F' ((q.go 7 m).1.rst E) ∧ Ch w w' F F' := by
 obtain ⟨nm, all, place, part, f⟩ := q
 have hfb := h.fb
 cases f with
 | some y =>
  have es : Q.go ⟨nm, all, place, part, some y⟩ 7 m = (⟨nm, all, place, part, some y⟩, 0, []) := by simp [Q.go, Q.step]
  rw [es]
  exact rCount_given b m F _ w h (by simp [Q.rst])
 | none =>
  by_cases hl : all.length < 4 + place
  ·have es : Q.go ⟨nm, all, place, part, none⟩ 7 m = (⟨nm, all, place, part, some (nm, place, 1)⟩, 0, []) := by simp [Q.go, Q.step, wid, Q.fail, hl]
   rw [es]
   exact rCount_bad b m F _ E (E 1) w (.inl ⟨hl, rfl⟩) hm hg h rfl
  ·by_cases hv : m < (val ((all.drop place).take 4) : Int)
   ·have es : Q.go ⟨nm, all, place, part, none⟩ 7 m = (⟨nm, all, place, part, some (nm, place, 2)⟩, 0, []) := by simp [Q.go, Q.step, wid, Q.fail, Q.num, hl, hv]
    rw [es]
    exact rCount_bad b m F _ E (E 2) w (.inr ⟨by show 4 + place ≤ all.length; omega, hv, rfl⟩) hm hg h rfl
   ·have es : Q.go ⟨nm, all, place, part, none⟩ 7 m = (⟨nm, all, place + 4, place, none⟩, val ((all.drop place).take 4), []) := by simp [Q.go, Q.step, wid, Q.num, hl, hv]
    rw [es]
    refine (rCount_ok b m F _ E w hm hg h rfl (by show 4 + place ≤ all.length; omega) (by show (val ((all.drop place).take 4) : Int) ≤ m; omega)).mono ?_
    rintro e w' ⟨rfl, hR, hfr⟩
    exact ⟨rfl, F, hR, Ch.of_fr hfr hfb⟩
theorem rText_step (q : Q) (m : Int) (b : Nat) (F : Nat → Prop) (E : Nat → Addr) (w : World) (hm : m < 9223372036854775808) (hg : Gl w E) (h : R w b F (q.rst E)) :
  Calls Tryz.prog 194 #[.pointer (some ⟨b, 0, none⟩), .int .i64 m] w fun e w' => e = .returned (.string (strOf (q.go 6 m).2.2)) ∧ ∃ F', R w' b F' ((q.go 6 m).1.rst E) ∧ Ch w w' F F' := by
 obtain ⟨nm, all, place, part, f⟩ := q
 have hfb := h.fb
 cases f with
 | some y =>
  have es : Q.go ⟨nm, all, place, part, some y⟩ 6 m = (⟨nm, all, place, part, some y⟩, 0, []) := by simp [Q.go, Q.step]
  rw [es]
  exact rText_given b m F _ w h (by simp [Q.rst])
 | none =>
  by_cases hl : all.length < 4 + place
  ·have es : Q.go ⟨nm, all, place, part, none⟩ 6 m = (⟨nm, all, place, part, some (nm, place, 1)⟩, 0, []) := by simp [Q.go, Q.step, wid, Q.fail, hl]
   rw [es]
   exact rText_bad b m F _ E (E 1) w (.inl ⟨hl, rfl⟩) hm hg h rfl
  ·by_cases hv : m < (val ((all.drop place).take 4) : Int)
   ·have es : Q.go ⟨nm, all, place, part, none⟩ 6 m = (⟨nm, all, place, part, some (nm, place, 2)⟩, 0, []) := by simp [Q.go, Q.step, wid, Q.fail, Q.num, hl, hv]
    rw [es]
    exact rText_bad b m F _ E (E 2) w (.inr ⟨by show 4 + place ≤ all.length; omega, hv, rfl⟩) hm hg h rfl
   ·by_cases hxl : all.length < val ((all.drop place).take 4) + (place + 4)
    ·have es : Q.go ⟨nm, all, place, part, none⟩ 6 m = (⟨nm, all, place, part, some (nm, place, 1)⟩, 0, []) := by simp [Q.go, Q.step, wid, Q.fail, Q.num, hl, hv, hxl]
     rw [es]
     exact rText_cut b _ m F _ E w hm hg h rfl rfl (by show 4 + place ≤ all.length; omega) (by show (val ((all.drop place).take 4) : Int) ≤ m; omega) hxl
    ·have es : Q.go ⟨nm, all, place, part, none⟩ 6 m = (⟨nm, all, place + 4 + val ((all.drop place).take 4), place, none⟩, 0, (all.drop (place + 4)).take (val ((all.drop place).take 4))) := by simp [Q.go, Q.step, wid, Q.num, hl, hv, hxl]
     rw [es]
     refine (rText_ok b (val ((all.drop place).take 4)) m F _ E w hm hg h rfl rfl (by show 4 + place ≤ all.length; omega) (by show (val ((all.drop place).take 4) : Int) ≤ m; omega) (by show val ((all.drop place).take 4) + (place + 4) ≤ all.length; omega)).mono ?_
     rintro e w' ⟨rfl, hR, hfr⟩
     exact ⟨rfl, F, hR, Ch.of_fr hfr hfb⟩
theorem Q.by_len (q : Q) (m : Int) : (q.go 6 m).2.2.length ≤ q.all.length := by
 unfold Q.go Q.step
 repeat' split
 all_goals first
  | exact Nat.zero_le _
  | (simp; omega)
theorem rBytes_step (q : Q) (m : Int) (b : Nat) (F : Nat → Prop) (E : Nat → Addr) (w : World) (hm : m < 9223372036854775808) (hg : Gl w E) (h : R w b F (q.rst E)) (hal : q.all.length ≤ 140737488355328) :
  Calls Tryz.prog 195 #[.pointer (some ⟨b, 0, none⟩), .int .i64 m] w fun e w' => ∃ ao cap, e = .returned (.slice ao (q.go 6 m).2.2.length cap) ∧ w'.ownsRow w.heap.size 5 1 (.slice ao (q.go 6 m).2.2.length cap) (q.go 6 m).2.2.length (cellsOf (q.go 6 m).2.2) ∧ ∃ F', R w' b F' ((q.go 6 m).1.rst E) ∧ Ch w w' F F' ∧ ∀ k, (Value.slice ao (q.go 6 m).2.2.length cap).ownBlock = some k → ¬ F' k := by
 obtain ⟨nm, all, place, part, f⟩ := q
 have hfb := h.fb
 have nil : ∀ (s' : Rst) (e : Ending) (w' : World), (e = .returned (.slice none 0 0) ∧ ∃ F', R w' b F' s' ∧ Ch w w' F F') → ∃ ao cap, e = .returned (.slice ao ([] : List Nat).length cap) ∧ w'.ownsRow w.heap.size 5 1 (.slice ao ([] : List Nat).length cap) ([] : List Nat).length (cellsOf []) ∧ ∃ F', R w' b F' s' ∧ Ch w w' F F' ∧ ∀ k, (Value.slice ao ([] : List Nat).length cap).ownBlock = some k → ¬ F' k :=
  fun s' e w' ⟨he, F', hR, hc⟩ => ⟨none, 0, he, World.ownsRow_nil _ _ _ _, F', hR, hc, fun k hk => by cases hk⟩
 cases f with
 | some y =>
  have es : Q.go ⟨nm, all, place, part, some y⟩ 6 m = (⟨nm, all, place, part, some y⟩, 0, []) := by simp [Q.go, Q.step]
  rw [es]
  exact (rBytes_given b m F _ w h (by simp [Q.rst])).mono (nil _)
 | none =>
  by_cases hl : all.length < 4 + place
  ·have es : Q.go ⟨nm, all, place, part, none⟩ 6 m = (⟨nm, all, place, part, some (nm, place, 1)⟩, 0, []) := by simp [Q.go, Q.step, wid, Q.fail, hl]
   rw [es]
   exact (rBytes_bad b m F _ E (E 1) w (.inl ⟨hl, rfl⟩) hm hg h rfl).mono (nil _)
  ·by_cases hv : m < (val ((all.drop place).take 4) : Int)
   ·have es : Q.go ⟨nm, all, place, part, none⟩ 6 m = (⟨nm, all, place, part, some (nm, place, 2)⟩, 0, []) := by simp [Q.go, Q.step, wid, Q.fail, Q.num, hl, hv]
    rw [es]
    exact (rBytes_bad b m F _ E (E 2) w (.inr ⟨by show 4 + place ≤ all.length; omega, hv, rfl⟩) hm hg h rfl).mono (nil _)
   ·by_cases hxl : all.length < val ((all.drop place).take 4) + (place + 4)
    ·have es : Q.go ⟨nm, all, place, part, none⟩ 6 m = (⟨nm, all, place, part, some (nm, place, 1)⟩, 0, []) := by simp [Q.go, Q.step, wid, Q.fail, Q.num, hl, hv, hxl]
     rw [es]
     exact (rBytes_cut b _ m F _ E w hm hg h rfl rfl (by show 4 + place ≤ all.length; omega) (by show (val ((all.drop place).take 4) : Int) ≤ m; omega) hxl).mono (nil _)
    ·have es : Q.go ⟨nm, all, place, part, none⟩ 6 m = (⟨nm, all, place + 4 + val ((all.drop place).take 4), place, none⟩, 0, (all.drop (place + 4)).take (val ((all.drop place).take 4))) := by simp [Q.go, Q.step, wid, Q.num, hl, hv, hxl]
     rw [es]
     have el : ((all.drop (place + 4)).take (val ((all.drop place).take 4))).length = val ((all.drop place).take 4) := by simp; omega
     rw [el]
     refine (rBytes_ok b (val ((all.drop place).take 4)) m F _ E w hm hg h rfl rfl (by show 4 + place ≤ all.length; omega) (by show (val ((all.drop place).take 4) : Int) ≤ m; omega) (by show val ((all.drop place).take 4) + (place + 4) ≤ all.length; omega) hal).mono ?_
     rintro e w' ⟨ao, cap, rfl, hown, hR, hfr⟩
     exact ⟨ao, cap, rfl, hown, F, hR, Ch.of_fr hfr hfb, fun k hk hF => by have h1 := (hown.lt k hk).1; have h2 := h.lt k hF; omega⟩
structure Wq where
 nm : ByteArray
 l : List Nat
 f : Option (ByteArray × Nat × Nat)
def Wq.wst (s : Wq) (E : Nat → Addr) : Wst := ⟨s.nm, s.l, s.f.map fun x => (x.1, x.2.1, E x.2.2)⟩
def Wq.named (s : Wq) (x : ByteArray) : Wq := { s with nm := x }
def Wq.putB (s : Wq) (x : List Nat) : Wq := if s.f = none then { s with l := s.l ++ x } else s
def Wq.failN (s : Wq) (n : Nat) : Wq := if n = 0 ∨ s.f ≠ none then s else { s with f := some (s.nm, s.l.length, n) }
theorem Wq.wst_some {s : Wq} {E : Nat → Addr} (h : s.f ≠ none) : (s.wst E).f ≠ none := by
 simp only [Wq.wst, ne_eq, Option.map_eq_none_iff]; exact h
theorem Wq.wst_putB (s : Wq) (x : List Nat) (E : Nat → Addr) : (s.wst E).putB x = (s.putB x).wst E := by
 by_cases hf : s.f = none <;> simp [Wst.putB, Wq.putB, Wq.wst, hf]
theorem Wq.wst_fail (s : Wq) (n : Nat) (E : Nat → Addr) (hn : n ≠ 0) : (s.wst E).fail (E n) = (s.failN n).wst E := by
 by_cases hf : s.f = none <;> simp [Wst.fail, Wq.failN, Wq.wst, hf, hn]
def Wq.lim (s : Wq) (n : Nat) (m : Int) (x : List Nat) : Wq := if (n : Int) ≤ m ∧ n < 4294967296 then s.putB x else s.failN 2
def Wq.cnt (s : Wq) (n m : Int) : Wq := if n < 0 then s.failN 4 else s.lim n.toNat m (be 4 n.toNat)
def Wq.flt (s : Wq) (x : Nat) : Wq := if quantB x = true then s.putB (be 4 x) else s.failN 4
theorem Wq.wst_lim (s : Wq) (n : Nat) (m : Int) (x : List Nat) (E : Nat → Addr) : (if (n : Int) ≤ m ∧ n < 4294967296 then (s.wst E).putB x else (s.wst E).fail (E 2)) = (s.lim n m x).wst E := by
 unfold Wq.lim
 split
 ·exact s.wst_putB x E
 ·exact s.wst_fail 2 E (by decide)
theorem Wq.lim_given {s : Wq} (h : s.f ≠ none) (n : Nat) (m : Int) (x : List Nat) : s.lim n m x = s := by simp [Wq.lim, Wq.putB, Wq.failN, h]
theorem Wq.cnt_given {s : Wq} (h : s.f ≠ none) (n m : Int) : s.cnt n m = s := by
 unfold Wq.cnt
 split
 ·simp [Wq.failN, h]
 ·exact Wq.lim_given h _ _ _
theorem Wq.flt_given {s : Wq} (h : s.f ≠ none) (x : Nat) : s.flt x = s := by simp [Wq.flt, Wq.putB, Wq.failN, h]
theorem Wq.putB_given {s : Wq} (h : s.f ≠ none) (x : List Nat) : s.putB x = s := by simp [Wq.putB, h]
theorem wName_q (s : Wq) (x : ByteArray) (b : Nat) (F : Nat → Prop) (E : Nat → Addr) (w : World) (h : W w b F (s.wst E)) :
  Calls Tryz.prog 166 #[.pointer (some ⟨b, 0, none⟩), .string x] w fun e w' => e = .returned (.tuple #[]) ∧ W w' b F ((s.named x).wst E) ∧ Ch w w' F F := wName_any b x F _ w h
theorem wFail_q (s : Wq) (n : Nat) (b : Nat) (F : Nat → Prop) (E : Nat → Addr) (w : World) (h : W w b F (s.wst E)) :
  Calls Tryz.prog 167 #[.pointer (some ⟨b, 0, none⟩), errV E n] w fun e w' => e = .returned (.tuple #[]) ∧ ∃ F', W w' b F' ((s.failN n).wst E) ∧ Ch w w' F F' := by
 have es : (s.wst E).failN E n = (s.failN n).wst E := by
  by_cases h0 : n = 0
  ·simp [Wst.failN, Wq.failN, h0]
  ·rw [Wst.failN, if_neg h0, Wq.wst_fail s n E h0]
 rw [← es]
 exact wFail_any b n F _ E w h
theorem wU8_q (s : Wq) (v : Nat) (b : Nat) (F : Nat → Prop) (E : Nat → Addr) (w : World) (hv : v < 256) (h : W w b F (s.wst E)) (hl : s.f = none → s.l.length + 1 ≤ 140737488355328) :
  Calls Tryz.prog 185 #[.pointer (some ⟨b, 0, none⟩), .int .u8 v] w fun e w' => e = .returned (.tuple #[]) ∧ ∃ F', W w' b F' ((s.putB (be 1 v)).wst E) ∧ Ch w w' F F' := by
 have hmf := mf
 by_cases hn : s.f = none
 ·rw [← Wq.wst_putB]
  exact wU8_any b v F _ w hv h (hl hn)
 ·rw [Wq.putB_given hn]
  have HN := hid (Wq.wst_some (E := E) hn)
  clear hn hl
  go_enter Tryz.func185, Tryz.ntmps185
  go_wp2_with fail
  refine (att_given (w := w) h (uh HN) (box2 _ _ _)).mono ?_
  rintro e w' ⟨rfl, hr⟩
  go_wp2_with fail
  go_end0
  exact ⟨rfl, hr⟩
theorem wU32_q (s : Wq) (v : Nat) (b : Nat) (F : Nat → Prop) (E : Nat → Addr) (w : World) (hv : v < 4294967296) (h : W w b F (s.wst E)) (hl : s.f = none → s.l.length + 4 ≤ 140737488355328) :
  Calls Tryz.prog 186 #[.pointer (some ⟨b, 0, none⟩), .int .u32 v] w fun e w' => e = .returned (.tuple #[]) ∧ ∃ F', W w' b F' ((s.putB (be 4 v)).wst E) ∧ Ch w w' F F' := by
 have hmf := mf
 by_cases hn : s.f = none
 ·rw [← Wq.wst_putB]
  exact wU32_any b v F _ w hv h (hl hn)
 ·rw [Wq.putB_given hn]
  have HN := hid (Wq.wst_some (E := E) hn)
  clear hn hl
  go_enter Tryz.func186, Tryz.ntmps186
  go_wp2_with fail
  refine (att_given (w := w) h (uh HN) (box2 _ _ _)).mono ?_
  rintro e w' ⟨rfl, hr⟩
  go_wp2_with fail
  go_end0
  exact ⟨rfl, hr⟩
theorem wF32_q (s : Wq) (v : Nat) (b : Nat) (F : Nat → Prop) (E : Nat → Addr) (w : World) (hr : Rg w (E 4)) (hv : v < 4294967296) (h : W w b F (s.wst E)) (hl : s.f = none → s.l.length + 4 ≤ 140737488355328) :
  Calls Tryz.prog 187 #[.pointer (some ⟨b, 0, none⟩), .float .f32 v] w fun e w' => e = .returned (.tuple #[]) ∧ ∃ F', W w' b F' ((s.flt v).wst E) ∧ Ch w w' F F' := by
 have hmf := mf
 by_cases hn : s.f = none
 ·have es : (s.wst E).flt v (E 4) = (s.flt v).wst E := by
   unfold Wst.flt Wq.flt
   split
   ·exact s.wst_putB _ E
   ·exact s.wst_fail 4 E (by decide)
  rw [← es]
  exact wF32_any b v F _ (E 4) w hr h hv (hl hn)
 ·rw [Wq.flt_given hn]
  have HN := hid (Wq.wst_some (E := E) hn)
  clear hn hl
  go_enter Tryz.func187, Tryz.ntmps187
  go_wp2_with fail
  refine (att_given (w := w) h (uh HN) (box2 _ _ _)).mono ?_
  rintro e w' ⟨rfl, hr⟩
  go_wp2_with fail
  go_end0
  exact ⟨rfl, hr⟩
theorem wText_q (s : Wq) (x : ByteArray) (m : Int) (b : Nat) (F : Nat → Prop) (E : Nat → Addr) (w : World) (hg : Gl w E) (h : W w b F (s.wst E)) (hx : x.size < 9223372036854775808) (hl : s.f = none → s.l.length + 4 + x.size ≤ 140737488355328) :
  Calls Tryz.prog 188 #[.pointer (some ⟨b, 0, none⟩), .string x, .int .i64 m] w fun e w' => e = .returned (.tuple #[]) ∧ ∃ F', W w' b F' ((s.lim x.size m (be 4 x.size ++ bytesOf x)).wst E) ∧ Ch w w' F F' := by
 have hmf := mf
 by_cases hn : s.f = none
 ·rw [← Wq.wst_lim]
  exact wText_any b x m F _ E w hg h hx (hl hn)
 ·rw [Wq.lim_given hn]
  have HN := hid (Wq.wst_some (E := E) hn)
  clear hn hl hg hx
  go_enter Tryz.func188, Tryz.ntmps188
  go_wp2_with fail
  refine (att_given (w := w) h (uh HN) (box3 _ _ _ _)).mono ?_
  rintro e w' ⟨rfl, hr⟩
  go_wp2_with fail
  go_end0
  exact ⟨rfl, hr⟩
theorem wBytes_q (s : Wq) (x : Value) (l : List Nat) (m : Int) (b : Nat) (F : Nat → Prop) (E : Nat → Addr) (w : World) (hg : Gl w E) (h : W w b F (s.wst E)) (hsrc : Src w x l) (nx : ∀ g o m c, x = .slice (some ⟨g, o, none⟩) m c → ¬ F g) (hx : l.length < 9223372036854775808) (hl : s.f = none → s.l.length + 4 + l.length ≤ 140737488355328) :
  Calls Tryz.prog 189 #[.pointer (some ⟨b, 0, none⟩), x, .int .i64 m] w fun e w' => e = .returned (.tuple #[]) ∧ ∃ F', W w' b F' ((s.lim l.length m (be 4 l.length ++ l)).wst E) ∧ Ch w w' F F' := by
 have hmf := mf
 by_cases hn : s.f = none
 ·rw [← Wq.wst_lim]
  exact wBytes_any b x l m F _ E w hg h hsrc nx hx (hl hn)
 ·rw [Wq.lim_given hn]
  obtain ⟨xo, xc, rfl⟩ := hsrc.form
  have HN := hid (Wq.wst_some (E := E) hn)
  clear hn hl hg hx hsrc nx
  go_enter Tryz.func189, Tryz.ntmps189
  go_wp2_with fail
  refine (att_given (w := w) h (uh HN) (box3 _ _ _ _)).mono ?_
  rintro e w' ⟨rfl, hr⟩
  go_wp2_with fail
  go_end0
  exact ⟨rfl, hr⟩
theorem wCount_q (s : Wq) (n m : Int) (b : Nat) (F : Nat → Prop) (E : Nat → Addr) (w : World) (hg : Gl w E) (hr : Rg w (E 4)) (h : W w b F (s.wst E)) (hx : n < 9223372036854775808) (hl : s.f = none → s.l.length + 4 ≤ 140737488355328) :
  Calls Tryz.prog 190 #[.pointer (some ⟨b, 0, none⟩), .int .i64 n, .int .i64 m] w fun e w' => e = .returned (.tuple #[]) ∧ ∃ F', W w' b F' ((s.cnt n m).wst E) ∧ Ch w w' F F' := by
 have hmf := mf
 by_cases hn : s.f = none
 ·have es : (s.wst E).cnt n m (E 2) (E 4) = (s.cnt n m).wst E := by
   unfold Wst.cnt Wq.cnt
   by_cases h0 : n < 0
   ·rw [if_pos h0, if_pos h0]; exact s.wst_fail 4 E (by decide)
   ·obtain ⟨k, rfl⟩ := Int.eq_ofNat_of_zero_le (show 0 ≤ n by omega)
    rw [if_neg h0, if_neg h0, ← Wq.wst_lim]
    simp only [Int.toNat_natCast]
    by_cases hc : (k : Int) ≤ m ∧ k < 4294967296
    ·rw [if_pos hc, if_pos ⟨hc.1, by omega⟩]
    ·rw [if_neg hc, if_neg (fun hx => hc ⟨hx.1, by omega⟩)]
  rw [← es]
  exact wCount_any b n m F _ E (E 4) w hg hr h hx (hl hn)
 ·rw [Wq.cnt_given hn]
  have HN := hid (Wq.wst_some (E := E) hn)
  clear hn hl hg hx hr
  go_enter Tryz.func190, Tryz.ntmps190
  go_wp2_with fail
  refine (att_given (w := w) h (uh HN) (box3 _ _ _ _)).mono ?_
  rintro e w' ⟨rfl, hr⟩
  go_wp2_with fail
  go_end0
  exact ⟨rfl, hr⟩
inductive CS where
 | wr (s : Wq)
 | rd (q : Q)
def CS.cw (c : CS) (b : Nat) : Value := match c with
 | .wr _ => .pointer (some ⟨b, 0, none⟩)
 | .rd _ => .pointer none
def CS.cr (c : CS) (b : Nat) : Value := match c with
 | .wr _ => .pointer none
 | .rd _ => .pointer (some ⟨b, 0, none⟩)
def Wq.ok (s : Wq) : Prop := ∀ x, s.f = some x → 1 ≤ x.2.2 ∧ x.2.2 ≤ 7
theorem Wq.named_ok {s : Wq} (h : s.ok) (x : ByteArray) : (s.named x).ok := h
theorem Wq.failN_ok {s : Wq} (h : s.ok) {n : Nat} (hn : n ≤ 7) : (s.failN n).ok := by
 unfold Wq.failN
 split
 ·exact h
 ·rename_i hx
  intro x hx'
  obtain rfl := Option.some.inj hx'
  have : n ≠ 0 := fun e => hx (.inl e)
  exact ⟨by show 1 ≤ n; omega, hn⟩
theorem Wq.putB_ok {s : Wq} (h : s.ok) (x : List Nat) : (s.putB x).ok := by
 unfold Wq.putB; split
 ·exact h
 ·exact h
theorem Wq.lim_ok {s : Wq} (h : s.ok) (n : Nat) (m : Int) (x : List Nat) : (s.lim n m x).ok := by
 unfold Wq.lim; split
 ·exact Wq.putB_ok h x
 ·exact Wq.failN_ok h (by decide)
theorem Wq.cnt_ok {s : Wq} (h : s.ok) (n m : Int) : (s.cnt n m).ok := by
 unfold Wq.cnt; split
 ·exact Wq.failN_ok h (by decide)
 ·exact Wq.lim_ok h _ _ _
theorem Wq.flt_ok {s : Wq} (h : s.ok) (x : Nat) : (s.flt x).ok := by
 unfold Wq.flt; split
 ·exact Wq.putB_ok h _
 ·exact Wq.failN_ok h (by decide)
def CS.fok : CS → Prop
 | .wr s => s.ok
 | .rd _ => True
def CS.st (c : CS) (w : World) (b : Nat) (F : Nat → Prop) (E : Nat → Addr) : Prop := match c with
 | .wr s => W w b F (s.wst E)
 | .rd q => R w b F (q.rst E) ∧ q.ok ∧ q.all.length ≤ 140737488355328
structure Cd (w : World) (cb b : Nat) (F : Nat → Prop) (c : CS) (E : Nat → Addr) : Prop where
 g7 : G6 w E
 nf : ¬ F cb
 lt : ∀ k, F k → k < w.heap.size
 lo : ∀ k, F k → 9 ≤ k
 cl : 9 ≤ cb
 c0 : w.cell? ⟨cb, 0, none⟩ = some (c.cw b)
 c1 : w.cell? ⟨cb, 1, none⟩ = some (c.cr b)
 st : c.st w b F E
 fok : c.fok
theorem Cd.fr {w w' : World} {cb b : Nat} {F S : Nat → Prop} {c : CS} {E : Nat → Addr} (h : Cd w cb b F c E) (hf : Fr S w w') (hS : ∀ k, F k → ¬ S k) (hC : ¬ S cb) (hl : ∀ k, S k → 9 ≤ k) : Cd w' cb b F c E := by
 have hc := ltC h.c0
 refine ⟨h.g7.fr hf hl, h.nf, fun k hk => Nat.lt_of_lt_of_le (h.lt k hk) hf.size, h.lo, h.cl, (hf.cell (p := ⟨cb, 0, none⟩) hc hC).trans h.c0, (hf.cell (p := ⟨cb, 1, none⟩) hc hC).trans h.c1, ?_, h.fok⟩
 have hst := h.st
 cases c with
 | wr s => exact W.frame (s := s.wst E) hst hf hS
 | rd q => exact ⟨R.frame (s := q.rst E) hst.1 hf hS, hst.2⟩
theorem Cd.fr0 {w w' : World} {cb b : Nat} {F : Nat → Prop} {c : CS} {E : Nat → Addr} (h : Cd w cb b F c E) (hf : Fr (fun _ => False) w w') : Cd w' cb b F c E := h.fr hf (fun _ _ h => h) (fun h => h) (fun _ h => h.elim)
structure Stp (w w' : World) (F F' : Nat → Prop) (P : Nat → Nat → Prop) : Prop where
 fr : Fr (fun k => F k ∨ ∃ i, P k i) w w'
 new : ∀ k, F' k → F k ∨ w.heap.size ≤ k
 oth : ∀ g i, g < w.heap.size → ¬ F g → ¬ P g i → w'.cell? ⟨g, i, none⟩ = w.cell? ⟨g, i, none⟩
 fz : ∀ g i, g < w.heap.size → ¬ F g → w'.frozen? ⟨g, i, none⟩ = w.frozen? ⟨g, i, none⟩
theorem Stp.of_ch {w w' : World} {F F' : Nat → Prop} (h : Ch w w' F F') (P : Nat → Nat → Prop) : Stp w w' F F' P :=
 ⟨h.fr.mono (fun _ _ h => .inl h), h.new, fun _ _ hg hF _ => h.fr.cell hg hF, fun _ _ hg hF => h.fr.frozen hg hF⟩
theorem Stp.of_fr {w w' : World} (h : Fr (fun _ => False) w w') (F : Nat → Prop) (P : Nat → Nat → Prop) : Stp w w' F F P :=
 ⟨h.mono (fun _ _ h => h.elim), fun _ h => .inl h, fun _ _ hg _ _ => h.cell hg (fun h => h), fun _ _ hg _ => h.frozen hg (fun h => h)⟩
theorem Stp.refl (w : World) (F : Nat → Prop) (P : Nat → Nat → Prop) : Stp w w F F P := Stp.of_fr (Fr.refl _ _) F P
theorem Stp.trans {a b c : World} {F G H : Nat → Prop} {P P' : Nat → Nat → Prop} (h : Stp a b F G P) (k : Stp b c G H P') (hP : ∀ g i, g < a.heap.size → P' g i → P g i) : Stp a c F H P := by
 have hs := h.fr.size
 refine ⟨h.fr.trans k.fr (fun i hi hx => ?_), fun i hi => (k.new i hi).elim (fun hg => h.new i hg) (fun hx => .inr (Nat.le_trans hs hx)), fun g i hg hF hp => ?_, fun g i hg hF => ?_⟩
 ·rcases hx with hx | ⟨j, hx⟩
  ·exact .inl ((h.new i hx).resolve_right (by omega))
  ·exact .inr ⟨j, hP i j hi hx⟩
 ·exact (k.oth g i (by omega) (fun hx => hF ((h.new g hx).resolve_right (by omega))) (fun hx => hp (hP g i hg hx))).trans (h.oth g i hg hF hp)
 ·exact (k.fz g i (by omega) (fun hx => hF ((h.new g hx).resolve_right (by omega)))).trans (h.fz g i hg hF)
theorem Stp.mono {a b : World} {F G : Nat → Prop} {P P' : Nat → Nat → Prop} (h : Stp a b F G P) (hP : ∀ g i, g < a.heap.size → P g i → P' g i) : Stp a b F G P' :=
 ⟨h.fr.mono (fun k hk hx => hx.imp id (fun ⟨j, hj⟩ => ⟨j, hP k j hk hj⟩)), h.new, fun g i hg hF hp => h.oth g i hg hF (fun hx => hp (hP g i hg hx)), h.fz⟩
theorem Stp.set {w : World} {F : Nat → Prop} (g i : Nat) (v : Value) : Stp w (w.setCell ⟨g, i, none⟩ v) F F (fun k j => k = g ∧ j = i) := by
 refine ⟨(Fr.refl _ _).setCell (.inl (.inr ⟨i, rfl, rfl⟩)) v, fun _ h => .inl h, fun k j _ _ hp => ?_, fun k j _ _ => World.frozen?_setCell _ _ _ _⟩
 exact World.cell?_setCell_other _ _ _ _ (by intro h; injection h with h1 h2 _; exact hp ⟨h1.symm, h2.symm⟩)
theorem Stp.block {w w' : World} {F F' : Nat → Prop} {P : Nat → Nat → Prop} (h : Stp w w' F F' P) {k : Nat} (hk : k < w.heap.size) (hF : ¬ F k) (hP : ∀ i, ¬ P k i) : w'.heap[k]? = w.heap[k]? := h.fr.block k hk (fun hx => hx.elim hF (fun ⟨i, hi⟩ => hP i hi))
theorem Stp.nF {w w' : World} {F F' : Nat → Prop} {P : Nat → Nat → Prop} (h : Stp w w' F F' P) {k : Nat} (hk : k < w.heap.size) (hF : ¬ F k) : ¬ F' k := fun hx => hF ((h.new k hx).resolve_right (by omega))
theorem Stp.size {w w' : World} {F F' : Nat → Prop} {P : Nat → Nat → Prop} (h : Stp w w' F F' P) : w.heap.size ≤ w'.heap.size := h.fr.size
def CS.len : CS → Nat
 | .wr s => s.l.length
 | .rd _ => 0
def CS.room (c : CS) (n : Nat) : Prop := c.len + 40000 * n ≤ 140737488355328
def CS.pU8 (c : CS) (nm : ByteArray) (rs : List (Nat → Nat)) (v : Nat) : CS × Nat := match c with
 | .wr s => (.wr (((s.named nm).failN (fb rs v)).putB (be 1 v)), v)
 | .rd q => (.rd (((q.named nm).go 1 0).1.failN (fb rs ((q.named nm).go 1 0).2.1)), ((q.named nm).go 1 0).2.1)
def CS.pU32 (c : CS) (nm : ByteArray) (rs : List (Nat → Nat)) (v : Nat) : CS × Nat := match c with
 | .wr s => (.wr (((s.named nm).failN (fb rs v)).putB (be 4 v)), v)
 | .rd q => (.rd (((q.named nm).go 4 0).1.failN (fb rs ((q.named nm).go 4 0).2.1)), ((q.named nm).go 4 0).2.1)
def CS.pF32 (c : CS) (nm : ByteArray) (rs : List (Nat → Nat)) (v : Nat) : CS × Nat := match c with
 | .wr s => (.wr (((s.named nm).failN (fb rs v)).flt v), v)
 | .rd q => (.rd (((q.named nm).go 5 0).1.failN (fb rs ((q.named nm).go 5 0).2.1)), ((q.named nm).go 5 0).2.1)
def CS.pInt (c : CS) (nm : ByteArray) (m : Int) (rs : List (Int → Nat)) (v : Int) : CS × Int := match c with
 | .wr s => (.wr (((s.named nm).failN (fb rs v)).cnt v m), v)
 | .rd q => (.rd (((q.named nm).go 7 m).1.failN (fb rs (((q.named nm).go 7 m).2.1 : Int))), (((q.named nm).go 7 m).2.1 : Int))
def CS.pStr (c : CS) (nm : ByteArray) (m : Int) (rs : List (ByteArray → Nat)) (v : ByteArray) : CS × ByteArray := match c with
 | .wr s => (.wr (((s.named nm).failN (fb rs v)).lim v.size m (be 4 v.size ++ bytesOf v)), v)
 | .rd q => (.rd (((q.named nm).go 6 m).1.failN (fb rs (strOf ((q.named nm).go 6 m).2.2))), strOf ((q.named nm).go 6 m).2.2)
def CS.pByt (c : CS) (nm : ByteArray) (m : Int) (rs : List (List Nat → Nat)) (v : List Nat) : CS × List Nat := match c with
 | .wr s => (.wr (((s.named nm).failN (fb rs v)).lim v.length m (be 4 v.length ++ v)), v)
 | .rd q => (.rd (((q.named nm).go 6 m).1.failN (fb rs ((q.named nm).go 6 m).2.2)), ((q.named nm).go 6 m).2.2)
theorem Wq.failN_l (s : Wq) (n : Nat) : (s.failN n).l = s.l := by unfold Wq.failN; split <;> rfl
theorem Wq.putB_len (s : Wq) (x : List Nat) : (s.putB x).l.length ≤ s.l.length + x.length := by
 unfold Wq.putB; split
 ·simp
 ·omega
theorem Wq.lim_len (s : Wq) (n : Nat) (m : Int) (x : List Nat) (N : Nat) (h : s.f = none → x.length ≤ N) : (s.lim n m x).l.length ≤ s.l.length + N := by
 by_cases hf : s.f = none
 ·unfold Wq.lim; split
  ·have := s.putB_len x; have := h hf; omega
  ·rw [Wq.failN_l]; omega
 ·rw [Wq.lim_given hf]; omega
theorem Wq.failN_f {s : Wq} {n : Nat} (h : (s.failN n).f = none) : n = 0 := by
 unfold Wq.failN at h
 split at h
 ·rename_i hx
  rcases hx with hx | hx
  ·exact hx
  ·exact absurd h hx
 ·cases h
theorem CS.pU8_room {c : CS} {n : Nat} (h : c.room (n + 1)) (nm : ByteArray) (rs : List (Nat → Nat)) (v : Nat) : (c.pU8 nm rs v).1.room n := by
 cases c with
 | wr s =>
  have h1 := ((s.named nm).failN (fb rs v)).putB_len (be 1 v)
  rw [Wq.failN_l, be_length] at h1
  simp only [CS.room, CS.len, CS.pU8, Wq.named] at *
  omega
 | rd q => simp only [CS.room, CS.len, CS.pU8] at *; omega
theorem CS.pU32_room {c : CS} {n : Nat} (h : c.room (n + 1)) (nm : ByteArray) (rs : List (Nat → Nat)) (v : Nat) : (c.pU32 nm rs v).1.room n := by
 cases c with
 | wr s =>
  have h1 := ((s.named nm).failN (fb rs v)).putB_len (be 4 v)
  rw [Wq.failN_l, be_length] at h1
  simp only [CS.room, CS.len, CS.pU32, Wq.named] at *
  omega
 | rd q => simp only [CS.room, CS.len, CS.pU32] at *; omega
theorem CS.pF32_room {c : CS} {n : Nat} (h : c.room (n + 1)) (nm : ByteArray) (rs : List (Nat → Nat)) (v : Nat) : (c.pF32 nm rs v).1.room n := by
 cases c with
 | wr s =>
  have h1 : (((s.named nm).failN (fb rs v)).flt v).l.length ≤ ((s.named nm).failN (fb rs v)).l.length + 4 := by
   unfold Wq.flt; split
   ·have := ((s.named nm).failN (fb rs v)).putB_len (be 4 v); rwa [be_length] at this
   ·rw [Wq.failN_l]; omega
  rw [Wq.failN_l] at h1
  simp only [CS.room, CS.len, CS.pF32, Wq.named] at *
  omega
 | rd q => simp only [CS.room, CS.len, CS.pF32] at *; omega
theorem CS.pInt_room {c : CS} {n : Nat} (h : c.room (n + 1)) (nm : ByteArray) (m : Int) (rs : List (Int → Nat)) (v : Int) : (c.pInt nm m rs v).1.room n := by
 cases c with
 | wr s =>
  have h1 : (((s.named nm).failN (fb rs v)).cnt v m).l.length ≤ ((s.named nm).failN (fb rs v)).l.length + 4 := by
   unfold Wq.cnt; split
   ·rw [Wq.failN_l]; omega
   ·exact Wq.lim_len _ _ _ _ 4 (fun _ => by rw [be_length]; omega)
  rw [Wq.failN_l] at h1
  simp only [CS.room, CS.len, CS.pInt, Wq.named] at *
  omega
 | rd q => simp only [CS.room, CS.len, CS.pInt] at *; omega
theorem CS.pStr_room {c : CS} {n : Nat} (h : c.room (n + 1)) (nm : ByteArray) (m : Int) (rs : List (ByteArray → Nat)) (v : ByteArray) (hfit : fb rs v = 0 → v.size ≤ 32768) : (c.pStr nm m rs v).1.room n := by
 cases c with
 | wr s =>
  have h1 := Wq.lim_len ((s.named nm).failN (fb rs v)) v.size m (be 4 v.size ++ bytesOf v) 32772 (fun hf => by
   have := hfit (Wq.failN_f hf)
   rw [List.length_append, be_length, bytesOf_length]; omega)
  rw [Wq.failN_l] at h1
  simp only [CS.room, CS.len, CS.pStr, Wq.named] at *
  omega
 | rd q => simp only [CS.room, CS.len, CS.pStr] at *; omega
theorem CS.pByt_room {c : CS} {n : Nat} (h : c.room (n + 1)) (nm : ByteArray) (m : Int) (rs : List (List Nat → Nat)) (v : List Nat) (hfit : fb rs v = 0 → v.length ≤ 32768) : (c.pByt nm m rs v).1.room n := by
 cases c with
 | wr s =>
  have h1 := Wq.lim_len ((s.named nm).failN (fb rs v)) v.length m (be 4 v.length ++ v) 32772 (fun hf => by
   have := hfit (Wq.failN_f hf)
   rw [List.length_append, be_length]; omega)
  rw [Wq.failN_l] at h1
  simp only [CS.room, CS.len, CS.pByt, Wq.named] at *
  omega
 | rd q => simp only [CS.room, CS.len, CS.pByt] at *; omega
theorem Tryz.th_u8 (p : Addr) (w : World) : (Instr.typeAssert (.iface 239 (.pointer (some p))) 20 239 true).run Tryz.prog w = .ok (.tuple #[.pointer (some p), .bool true]) w := by kernel_rfl
theorem Tryz.th_u32 (p : Addr) (w : World) : (Instr.typeAssert (.iface 246 (.pointer (some p))) 20 246 true).run Tryz.prog w = .ok (.tuple #[.pointer (some p), .bool true]) w := by kernel_rfl
theorem Tryz.th_f32 (p : Addr) (w : World) : (Instr.typeAssert (.iface 303 (.pointer (some p))) 20 303 true).run Tryz.prog w = .ok (.tuple #[.pointer (some p), .bool true]) w := by kernel_rfl
theorem Tryz.th_str (p : Addr) (w : World) : (Instr.typeAssert (.iface 258 (.pointer (some p))) 20 258 true).run Tryz.prog w = .ok (.tuple #[.pointer (some p), .bool true]) w := by kernel_rfl
theorem Tryz.th_byt (p : Addr) (w : World) : (Instr.typeAssert (.iface 265 (.pointer (some p))) 20 265 true).run Tryz.prog w = .ok (.tuple #[.pointer (some p), .bool true]) w := by kernel_rfl
theorem Tryz.th_int (p : Addr) (w : World) : (Instr.typeAssert (.iface 289 (.pointer (some p))) 20 289 true).run Tryz.prog w = .ok (.tuple #[.pointer (some p), .bool true]) w := by kernel_rfl
theorem Tryz.tm_1 (p : Addr) (w : World) : (Instr.typeAssert (.iface 246 (.pointer (some p))) 20 239 true).run Tryz.prog w = .ok (.tuple #[.pointer none, .bool false]) w := by kernel_rfl
theorem Tryz.tm_2 (p : Addr) (w : World) : (Instr.typeAssert (.iface 303 (.pointer (some p))) 20 239 true).run Tryz.prog w = .ok (.tuple #[.pointer none, .bool false]) w := by kernel_rfl
theorem Tryz.tm_3 (p : Addr) (w : World) : (Instr.typeAssert (.iface 258 (.pointer (some p))) 20 239 true).run Tryz.prog w = .ok (.tuple #[.pointer none, .bool false]) w := by kernel_rfl
theorem Tryz.tm_4 (p : Addr) (w : World) : (Instr.typeAssert (.iface 265 (.pointer (some p))) 20 239 true).run Tryz.prog w = .ok (.tuple #[.pointer none, .bool false]) w := by kernel_rfl
theorem Tryz.tm_5 (p : Addr) (w : World) : (Instr.typeAssert (.iface 289 (.pointer (some p))) 20 239 true).run Tryz.prog w = .ok (.tuple #[.pointer none, .bool false]) w := by kernel_rfl
theorem Tryz.tm_6 (p : Addr) (w : World) : (Instr.typeAssert (.iface 303 (.pointer (some p))) 20 246 true).run Tryz.prog w = .ok (.tuple #[.pointer none, .bool false]) w := by kernel_rfl
theorem Tryz.tm_7 (p : Addr) (w : World) : (Instr.typeAssert (.iface 258 (.pointer (some p))) 20 246 true).run Tryz.prog w = .ok (.tuple #[.pointer none, .bool false]) w := by kernel_rfl
theorem Tryz.tm_8 (p : Addr) (w : World) : (Instr.typeAssert (.iface 265 (.pointer (some p))) 20 246 true).run Tryz.prog w = .ok (.tuple #[.pointer none, .bool false]) w := by kernel_rfl
theorem Tryz.tm_9 (p : Addr) (w : World) : (Instr.typeAssert (.iface 289 (.pointer (some p))) 20 246 true).run Tryz.prog w = .ok (.tuple #[.pointer none, .bool false]) w := by kernel_rfl
theorem Tryz.tm_10 (p : Addr) (w : World) : (Instr.typeAssert (.iface 258 (.pointer (some p))) 20 303 true).run Tryz.prog w = .ok (.tuple #[.pointer none, .bool false]) w := by kernel_rfl
theorem Tryz.tm_11 (p : Addr) (w : World) : (Instr.typeAssert (.iface 265 (.pointer (some p))) 20 303 true).run Tryz.prog w = .ok (.tuple #[.pointer none, .bool false]) w := by kernel_rfl
theorem Tryz.tm_12 (p : Addr) (w : World) : (Instr.typeAssert (.iface 289 (.pointer (some p))) 20 303 true).run Tryz.prog w = .ok (.tuple #[.pointer none, .bool false]) w := by kernel_rfl
theorem Tryz.tm_13 (p : Addr) (w : World) : (Instr.typeAssert (.iface 265 (.pointer (some p))) 20 258 true).run Tryz.prog w = .ok (.tuple #[.pointer none, .bool false]) w := by kernel_rfl
theorem Tryz.tm_14 (p : Addr) (w : World) : (Instr.typeAssert (.iface 289 (.pointer (some p))) 20 258 true).run Tryz.prog w = .ok (.tuple #[.pointer none, .bool false]) w := by kernel_rfl
theorem Tryz.tm_15 (p : Addr) (w : World) : (Instr.typeAssert (.iface 289 (.pointer (some p))) 20 265 true).run Tryz.prog w = .ok (.tuple #[.pointer none, .bool false]) w := by kernel_rfl
set_option maxRecDepth 100000 in
theorem lay_u8 (s : Wq) (v : Nat) (m : Int) (p : Addr) (b : Nat) (F : Nat → Prop) (E : Nat → Addr) (w : World) (hp : w.cell? p = some (.int .u8 (v : Nat))) (hv : v < 256) (h : W w b F (s.wst E)) (hl : s.f = none → s.l.length + (1) ≤ 140737488355328) :
  Calls Tryz.prog 169 #[.pointer (some ⟨b, 0, none⟩), .iface 239 (.pointer (some p)), .int .i64 m] w fun e w' => e = .returned (.tuple #[]) ∧ ∃ F', W w' b F' ((s.putB (be 1 v)).wst E) ∧ Ch w w' F F' := by
 have H := hid (And.intro h hl)
 clear h hl
 have t0 := Tryz.th_u8
 have t1 := Tryz.tm_1
 have t2 := Tryz.tm_2
 have t3 := Tryz.tm_3
 have t5 := Tryz.tm_5
 have t6 := Tryz.tm_6
 have t7 := Tryz.tm_7
 have t9 := Tryz.tm_9
 have t10 := Tryz.tm_10
 have t12 := Tryz.tm_12
 have t14 := Tryz.tm_14
 have t15 := Tryz.tm_15
 go_enter Tryz.func169, Tryz.ntmps169
 go_wp2_with fail
 refine (wU8_q s v b F E w hv (uh H).1 (uh H).2).mono ?_
 rintro e w' ⟨rfl, hr⟩
 have HR := hid hr
 clear hr
 go_wp2_with fail
 go_end0
 exact ⟨rfl, uh HR⟩
set_option maxRecDepth 100000 in
theorem lay_u32 (s : Wq) (v : Nat) (m : Int) (p : Addr) (b : Nat) (F : Nat → Prop) (E : Nat → Addr) (w : World) (hp : w.cell? p = some (.int .u32 (v : Nat))) (hv : v < 4294967296) (h : W w b F (s.wst E)) (hl : s.f = none → s.l.length + (4) ≤ 140737488355328) :
  Calls Tryz.prog 169 #[.pointer (some ⟨b, 0, none⟩), .iface 246 (.pointer (some p)), .int .i64 m] w fun e w' => e = .returned (.tuple #[]) ∧ ∃ F', W w' b F' ((s.putB (be 4 v)).wst E) ∧ Ch w w' F F' := by
 have H := hid (And.intro h hl)
 clear h hl
 have t0 := Tryz.th_u32
 have t1 := Tryz.tm_1
 have t2 := Tryz.tm_2
 have t3 := Tryz.tm_3
 have t5 := Tryz.tm_5
 have t6 := Tryz.tm_6
 have t7 := Tryz.tm_7
 have t9 := Tryz.tm_9
 have t10 := Tryz.tm_10
 have t12 := Tryz.tm_12
 have t14 := Tryz.tm_14
 have t15 := Tryz.tm_15
 go_enter Tryz.func169, Tryz.ntmps169
 go_wp2_with fail
 refine (wU32_q s v b F E w hv (uh H).1 (uh H).2).mono ?_
 rintro e w' ⟨rfl, hr⟩
 have HR := hid hr
 clear hr
 go_wp2_with fail
 go_end0
 exact ⟨rfl, uh HR⟩
set_option maxRecDepth 100000 in
theorem lay_f32 (s : Wq) (v : Nat) (m : Int) (p : Addr) (b : Nat) (F : Nat → Prop) (E : Nat → Addr) (w : World) (hp : w.cell? p = some (.float .f32 v)) (hv : v < 4294967296) (hg : G6 w E) (h : W w b F (s.wst E)) (hl : s.f = none → s.l.length + (4) ≤ 140737488355328) :
  Calls Tryz.prog 169 #[.pointer (some ⟨b, 0, none⟩), .iface 303 (.pointer (some p)), .int .i64 m] w fun e w' => e = .returned (.tuple #[]) ∧ ∃ F', W w' b F' ((s.flt v).wst E) ∧ Ch w w' F F' := by
 have H := hid (And.intro h hl)
 clear h hl
 have t0 := Tryz.th_f32
 have t1 := Tryz.tm_1
 have t2 := Tryz.tm_2
 have t3 := Tryz.tm_3
 have t5 := Tryz.tm_5
 have t6 := Tryz.tm_6
 have t7 := Tryz.tm_7
 have t9 := Tryz.tm_9
 have t10 := Tryz.tm_10
 have t12 := Tryz.tm_12
 have t14 := Tryz.tm_14
 have t15 := Tryz.tm_15
 go_enter Tryz.func169, Tryz.ntmps169
 go_wp2_with fail
 refine (wF32_q s v b F E w hg.e4 hv (uh H).1 (uh H).2).mono ?_
 rintro e w' ⟨rfl, hr⟩
 have HR := hid hr
 clear hr
 go_wp2_with fail
 go_end0
 exact ⟨rfl, uh HR⟩
set_option maxRecDepth 100000 in
theorem lay_str (s : Wq) (v : ByteArray) (m : Int) (p : Addr) (b : Nat) (F : Nat → Prop) (E : Nat → Addr) (w : World) (hp : w.cell? p = some (.string v)) (hv : v.size < 9223372036854775808) (hg : G6 w E) (h : W w b F (s.wst E)) (hl : s.f = none → s.l.length + (4 + v.size) ≤ 140737488355328) :
  Calls Tryz.prog 169 #[.pointer (some ⟨b, 0, none⟩), .iface 258 (.pointer (some p)), .int .i64 m] w fun e w' => e = .returned (.tuple #[]) ∧ ∃ F', W w' b F' ((s.lim v.size m (be 4 v.size ++ bytesOf v)).wst E) ∧ Ch w w' F F' := by
 have H := hid (And.intro h hl)
 clear h hl
 have t0 := Tryz.th_str
 have t1 := Tryz.tm_1
 have t2 := Tryz.tm_2
 have t3 := Tryz.tm_3
 have t5 := Tryz.tm_5
 have t6 := Tryz.tm_6
 have t7 := Tryz.tm_7
 have t9 := Tryz.tm_9
 have t10 := Tryz.tm_10
 have t12 := Tryz.tm_12
 have t14 := Tryz.tm_14
 have t15 := Tryz.tm_15
 go_enter Tryz.func169, Tryz.ntmps169
 go_wp2_with fail
 refine (wText_q s v m b F E w hg.gl (uh H).1 hv (fun e => by have := (uh H).2 e; omega)).mono ?_
 rintro e w' ⟨rfl, hr⟩
 have HR := hid hr
 clear hr
 go_wp2_with fail
 go_end0
 exact ⟨rfl, uh HR⟩
set_option maxRecDepth 100000 in
theorem lay_int (s : Wq) (v : Int) (m : Int) (p : Addr) (b : Nat) (F : Nat → Prop) (E : Nat → Addr) (w : World) (hp : w.cell? p = some (.int .i64 v)) (hv : v < 9223372036854775808) (hg : G6 w E) (h : W w b F (s.wst E)) (hl : s.f = none → s.l.length + (4) ≤ 140737488355328) :
  Calls Tryz.prog 169 #[.pointer (some ⟨b, 0, none⟩), .iface 289 (.pointer (some p)), .int .i64 m] w fun e w' => e = .returned (.tuple #[]) ∧ ∃ F', W w' b F' ((s.cnt v m).wst E) ∧ Ch w w' F F' := by
 have H := hid (And.intro h hl)
 clear h hl
 have t0 := Tryz.th_int
 have t1 := Tryz.tm_1
 have t2 := Tryz.tm_2
 have t3 := Tryz.tm_3
 have t5 := Tryz.tm_5
 have t6 := Tryz.tm_6
 have t7 := Tryz.tm_7
 have t9 := Tryz.tm_9
 have t10 := Tryz.tm_10
 have t12 := Tryz.tm_12
 have t14 := Tryz.tm_14
 have t15 := Tryz.tm_15
 go_enter Tryz.func169, Tryz.ntmps169
 go_wp2_with fail
 refine (wCount_q s v m b F E w hg.gl hg.e4 (uh H).1 hv (uh H).2).mono ?_
 rintro e w' ⟨rfl, hr⟩
 have HR := hid hr
 clear hr
 go_wp2_with fail
 go_end0
 exact ⟨rfl, uh HR⟩
set_option maxRecDepth 100000 in
theorem lay_byt (s : Wq) (x : Value) (l : List Nat) (m : Int) (p : Addr) (b : Nat) (F : Nat → Prop) (E : Nat → Addr) (w : World) (hp : w.cell? p = some x) (hsrc : Src w x l) (nx : ∀ g o m c, x = .slice (some ⟨g, o, none⟩) m c → ¬ F g) (hx : l.length < 9223372036854775808) (hg : G6 w E) (h : W w b F (s.wst E)) (hl : s.f = none → s.l.length + (4 + l.length) ≤ 140737488355328) :
  Calls Tryz.prog 169 #[.pointer (some ⟨b, 0, none⟩), .iface 265 (.pointer (some p)), .int .i64 m] w fun e w' => e = .returned (.tuple #[]) ∧ ∃ F', W w' b F' ((s.lim l.length m (be 4 l.length ++ l)).wst E) ∧ Ch w w' F F' := by
 have H := hid (And.intro h (And.intro hl (And.intro hsrc nx)))
 clear h hl nx
 obtain ⟨xo, xc, rfl⟩ := hsrc.form
 clear hsrc
 have t0 := Tryz.th_byt
 have t4 := Tryz.tm_4
 have t8 := Tryz.tm_8
 have t11 := Tryz.tm_11
 have t13 := Tryz.tm_13
 go_enter Tryz.func169, Tryz.ntmps169
 go_wp2_with fail
 refine (wBytes_q s _ l m b F E w hg.gl (uh H).1 (uh H).2.2.1 (uh H).2.2.2 hx (fun e => by have := (uh H).2.1 e; omega)).mono ?_
 rintro e w' ⟨rfl, hr⟩
 have HR := hid hr
 clear hr
 go_wp2_with fail
 go_end0
 exact ⟨rfl, uh HR⟩
theorem rdw_end {w w1 : World} {b g i : Nat} {F F1 : Nat → Prop} {s : Rst} {old : Value} (v : Value) (hR : R w1 b F1 s) (hc : Ch w w1 F F1) (hp : w.cell? ⟨g, i, none⟩ = some old) (hgF : ¬ F g) :
  R (w1.setCell ⟨g, i, none⟩ v) b F1 s ∧ (w1.setCell ⟨g, i, none⟩ v).cell? ⟨g, i, none⟩ = some v ∧ Stp w (w1.setCell ⟨g, i, none⟩ v) F F1 (fun k j => k = g ∧ j = i) := by
 have hg := ltC hp
 have hg1 : ¬ F1 g := fun hx => hgF ((hc.new g hx).resolve_right (by simp at hg; omega))
 have hp1 : w1.cell? ⟨g, i, none⟩ = some old := (hc.fr.cell (p := ⟨g, i, none⟩) hg hgF).trans hp
 refine ⟨hR.frame ((Fr.refl (fun k => k = g) _).setCell (.inl rfl) v) (fun k hk e => hg1 (e ▸ hk)), World.cell?_setCell_same _ _ _ hp1, (Stp.of_ch hc _).trans (Stp.set g i v) (fun _ _ _ h => h)⟩
set_option maxRecDepth 100000 in
theorem read_u8 (q : Q) (m : Int) (g i : Nat) (old : Value) (b : Nat) (F : Nat → Prop) (E : Nat → Addr) (w : World)  (hp : w.cell? ⟨g, i, none⟩ = some old) (fz : w.frozen? ⟨g, i, none⟩ = false) (hgF : ¬ F g) (hg : G6 w E) (h : R w b F (q.rst E)) :
  Calls Tryz.prog 170 #[.pointer (some ⟨b, 0, none⟩), .iface 239 (.pointer (some ⟨g, i, none⟩)), .int .i64 m] w fun e w' => e = .returned (.tuple #[]) ∧ ∃ F', R w' b F' ((q.go 1 0).1.rst E) ∧ w'.cell? ⟨g, i, none⟩ = some (.int .u8 (q.go 1 0).2.1) ∧ Stp w w' F F' (fun k j => k = g ∧ j = i) := by
 have H := hid h
 clear h
 have t0 := Tryz.th_u8
 have t1 := Tryz.tm_1
 have t2 := Tryz.tm_2
 have t3 := Tryz.tm_3
 have t5 := Tryz.tm_5
 have t6 := Tryz.tm_6
 have t7 := Tryz.tm_7
 have t9 := Tryz.tm_9
 have t10 := Tryz.tm_10
 have t12 := Tryz.tm_12
 have t14 := Tryz.tm_14
 have t15 := Tryz.tm_15
 go_enter Tryz.func170, Tryz.ntmps170
 go_wp2_with fail
 refine (rU8_step q b F E w hg.gl (uh H)).mono ?_
 rintro e w1 ⟨rfl, F1, hR, hc⟩
 have hp1 : w1.cell? ⟨g, i, none⟩ = some old := (hc.fr.cell (p := ⟨g, i, none⟩) (ltC hp) hgF).trans hp
 have fz1 : w1.frozen? ⟨g, i, none⟩ = false := (hc.fr.frozen (p := ⟨g, i, none⟩) (ltC hp) hgF).trans fz
 have HR := hid (And.intro hR hc)
 clear hR hc
 go_wp2_with fail
 go_end0
 obtain ⟨h1, h2, h3⟩ := rdw_end (.int .u8 (q.go 1 0).2.1) (uh HR).1 (uh HR).2 hp hgF
 exact ⟨rfl, F1, h1, h2, h3⟩
set_option maxRecDepth 100000 in
theorem read_u32 (q : Q) (m : Int) (g i : Nat) (old : Value) (b : Nat) (F : Nat → Prop) (E : Nat → Addr) (w : World)  (hp : w.cell? ⟨g, i, none⟩ = some old) (fz : w.frozen? ⟨g, i, none⟩ = false) (hgF : ¬ F g) (hg : G6 w E) (h : R w b F (q.rst E)) :
  Calls Tryz.prog 170 #[.pointer (some ⟨b, 0, none⟩), .iface 246 (.pointer (some ⟨g, i, none⟩)), .int .i64 m] w fun e w' => e = .returned (.tuple #[]) ∧ ∃ F', R w' b F' ((q.go 4 0).1.rst E) ∧ w'.cell? ⟨g, i, none⟩ = some (.int .u32 (q.go 4 0).2.1) ∧ Stp w w' F F' (fun k j => k = g ∧ j = i) := by
 have H := hid h
 clear h
 have t0 := Tryz.th_u32
 have t1 := Tryz.tm_1
 have t2 := Tryz.tm_2
 have t3 := Tryz.tm_3
 have t5 := Tryz.tm_5
 have t6 := Tryz.tm_6
 have t7 := Tryz.tm_7
 have t9 := Tryz.tm_9
 have t10 := Tryz.tm_10
 have t12 := Tryz.tm_12
 have t14 := Tryz.tm_14
 have t15 := Tryz.tm_15
 go_enter Tryz.func170, Tryz.ntmps170
 go_wp2_with fail
 refine (rU32_step q b F E w hg.gl (uh H)).mono ?_
 rintro e w1 ⟨rfl, F1, hR, hc⟩
 have hp1 : w1.cell? ⟨g, i, none⟩ = some old := (hc.fr.cell (p := ⟨g, i, none⟩) (ltC hp) hgF).trans hp
 have fz1 : w1.frozen? ⟨g, i, none⟩ = false := (hc.fr.frozen (p := ⟨g, i, none⟩) (ltC hp) hgF).trans fz
 have HR := hid (And.intro hR hc)
 clear hR hc
 go_wp2_with fail
 go_end0
 obtain ⟨h1, h2, h3⟩ := rdw_end (.int .u32 (q.go 4 0).2.1) (uh HR).1 (uh HR).2 hp hgF
 exact ⟨rfl, F1, h1, h2, h3⟩
set_option maxRecDepth 100000 in
theorem read_f32 (q : Q) (m : Int) (g i : Nat) (old : Value) (b : Nat) (F : Nat → Prop) (E : Nat → Addr) (w : World)  (hp : w.cell? ⟨g, i, none⟩ = some old) (fz : w.frozen? ⟨g, i, none⟩ = false) (hgF : ¬ F g) (hg : G6 w E) (h : R w b F (q.rst E)) :
  Calls Tryz.prog 170 #[.pointer (some ⟨b, 0, none⟩), .iface 303 (.pointer (some ⟨g, i, none⟩)), .int .i64 m] w fun e w' => e = .returned (.tuple #[]) ∧ ∃ F', R w' b F' ((q.go 5 0).1.rst E) ∧ w'.cell? ⟨g, i, none⟩ = some (.float .f32 (q.go 5 0).2.1) ∧ Stp w w' F F' (fun k j => k = g ∧ j = i) := by
 have H := hid h
 clear h
 have t0 := Tryz.th_f32
 have t1 := Tryz.tm_1
 have t2 := Tryz.tm_2
 have t3 := Tryz.tm_3
 have t5 := Tryz.tm_5
 have t6 := Tryz.tm_6
 have t7 := Tryz.tm_7
 have t9 := Tryz.tm_9
 have t10 := Tryz.tm_10
 have t12 := Tryz.tm_12
 have t14 := Tryz.tm_14
 have t15 := Tryz.tm_15
 go_enter Tryz.func170, Tryz.ntmps170
 go_wp2_with fail
 refine (rF32_step q b F E w hg.gl hg.e4 (uh H)).mono ?_
 rintro e w1 ⟨rfl, F1, hR, hc⟩
 have hp1 : w1.cell? ⟨g, i, none⟩ = some old := (hc.fr.cell (p := ⟨g, i, none⟩) (ltC hp) hgF).trans hp
 have fz1 : w1.frozen? ⟨g, i, none⟩ = false := (hc.fr.frozen (p := ⟨g, i, none⟩) (ltC hp) hgF).trans fz
 have HR := hid (And.intro hR hc)
 clear hR hc
 go_wp2_with fail
 go_end0
 obtain ⟨h1, h2, h3⟩ := rdw_end (.float .f32 (q.go 5 0).2.1) (uh HR).1 (uh HR).2 hp hgF
 exact ⟨rfl, F1, h1, h2, h3⟩
set_option maxRecDepth 100000 in
theorem read_str (q : Q) (m : Int) (g i : Nat) (old : Value) (b : Nat) (F : Nat → Prop) (E : Nat → Addr) (w : World) (hm : m < 9223372036854775808) (hp : w.cell? ⟨g, i, none⟩ = some old) (fz : w.frozen? ⟨g, i, none⟩ = false) (hgF : ¬ F g) (hg : G6 w E) (h : R w b F (q.rst E)) :
  Calls Tryz.prog 170 #[.pointer (some ⟨b, 0, none⟩), .iface 258 (.pointer (some ⟨g, i, none⟩)), .int .i64 m] w fun e w' => e = .returned (.tuple #[]) ∧ ∃ F', R w' b F' ((q.go 6 m).1.rst E) ∧ w'.cell? ⟨g, i, none⟩ = some (.string (strOf (q.go 6 m).2.2)) ∧ Stp w w' F F' (fun k j => k = g ∧ j = i) := by
 have H := hid h
 clear h
 have t0 := Tryz.th_str
 have t1 := Tryz.tm_1
 have t2 := Tryz.tm_2
 have t3 := Tryz.tm_3
 have t5 := Tryz.tm_5
 have t6 := Tryz.tm_6
 have t7 := Tryz.tm_7
 have t9 := Tryz.tm_9
 have t10 := Tryz.tm_10
 have t12 := Tryz.tm_12
 have t14 := Tryz.tm_14
 have t15 := Tryz.tm_15
 go_enter Tryz.func170, Tryz.ntmps170
 go_wp2_with fail
 refine (rText_step q m b F E w hm hg.gl (uh H)).mono ?_
 rintro e w1 ⟨rfl, F1, hR, hc⟩
 have hp1 : w1.cell? ⟨g, i, none⟩ = some old := (hc.fr.cell (p := ⟨g, i, none⟩) (ltC hp) hgF).trans hp
 have fz1 : w1.frozen? ⟨g, i, none⟩ = false := (hc.fr.frozen (p := ⟨g, i, none⟩) (ltC hp) hgF).trans fz
 have HR := hid (And.intro hR hc)
 clear hR hc
 go_wp2_with fail
 go_end0
 obtain ⟨h1, h2, h3⟩ := rdw_end (.string (strOf (q.go 6 m).2.2)) (uh HR).1 (uh HR).2 hp hgF
 exact ⟨rfl, F1, h1, h2, h3⟩
set_option maxRecDepth 100000 in
theorem read_int (q : Q) (m : Int) (g i : Nat) (old : Value) (b : Nat) (F : Nat → Prop) (E : Nat → Addr) (w : World) (hm : m < 9223372036854775808) (hp : w.cell? ⟨g, i, none⟩ = some old) (fz : w.frozen? ⟨g, i, none⟩ = false) (hgF : ¬ F g) (hg : G6 w E) (h : R w b F (q.rst E)) :
  Calls Tryz.prog 170 #[.pointer (some ⟨b, 0, none⟩), .iface 289 (.pointer (some ⟨g, i, none⟩)), .int .i64 m] w fun e w' => e = .returned (.tuple #[]) ∧ ∃ F', R w' b F' ((q.go 7 m).1.rst E) ∧ w'.cell? ⟨g, i, none⟩ = some (.int .i64 (q.go 7 m).2.1) ∧ Stp w w' F F' (fun k j => k = g ∧ j = i) := by
 have H := hid h
 clear h
 have t0 := Tryz.th_int
 have t1 := Tryz.tm_1
 have t2 := Tryz.tm_2
 have t3 := Tryz.tm_3
 have t5 := Tryz.tm_5
 have t6 := Tryz.tm_6
 have t7 := Tryz.tm_7
 have t9 := Tryz.tm_9
 have t10 := Tryz.tm_10
 have t12 := Tryz.tm_12
 have t14 := Tryz.tm_14
 have t15 := Tryz.tm_15
 go_enter Tryz.func170, Tryz.ntmps170
 go_wp2_with fail
 refine (rCount_step q m b F E w hm hg.gl (uh H)).mono ?_
 rintro e w1 ⟨rfl, F1, hR, hc⟩
 have hp1 : w1.cell? ⟨g, i, none⟩ = some old := (hc.fr.cell (p := ⟨g, i, none⟩) (ltC hp) hgF).trans hp
 have fz1 : w1.frozen? ⟨g, i, none⟩ = false := (hc.fr.frozen (p := ⟨g, i, none⟩) (ltC hp) hgF).trans fz
 have HR := hid (And.intro hR hc)
 clear hR hc
 go_wp2_with fail
 go_end0
 obtain ⟨h1, h2, h3⟩ := rdw_end (.int .i64 (q.go 7 m).2.1) (uh HR).1 (uh HR).2 hp hgF
 exact ⟨rfl, F1, h1, h2, h3⟩
set_option maxRecDepth 100000 in
theorem read_byt (q : Q) (m : Int) (g i : Nat) (old : Value) (b : Nat) (F : Nat → Prop) (E : Nat → Addr) (w : World) (hm : m < 9223372036854775808) (hal : q.all.length ≤ 140737488355328) (hp : w.cell? ⟨g, i, none⟩ = some old) (fz : w.frozen? ⟨g, i, none⟩ = false) (hgF : ¬ F g) (hg : G6 w E) (h : R w b F (q.rst E)) :
  Calls Tryz.prog 170 #[.pointer (some ⟨b, 0, none⟩), .iface 265 (.pointer (some ⟨g, i, none⟩)), .int .i64 m] w fun e w' => e = .returned (.tuple #[]) ∧ ∃ F' ao cap, R w' b F' ((q.go 6 m).1.rst E) ∧ w'.cell? ⟨g, i, none⟩ = some (.slice ao (q.go 6 m).2.2.length cap) ∧ w'.ownsRow w.heap.size 5 1 (.slice ao (q.go 6 m).2.2.length cap) (q.go 6 m).2.2.length (cellsOf (q.go 6 m).2.2) ∧ (∀ k, (Value.slice ao (q.go 6 m).2.2.length cap).ownBlock = some k → ¬ F' k) ∧ Stp w w' F F' (fun k j => k = g ∧ j = i) := by
 have H := hid h
 clear h
 have t0 := Tryz.th_byt
 have t4 := Tryz.tm_4
 have t8 := Tryz.tm_8
 have t11 := Tryz.tm_11
 have t13 := Tryz.tm_13
 go_enter Tryz.func170, Tryz.ntmps170
 go_wp2_with fail
 refine (rBytes_step q m b F E w hm hg.gl (uh H) hal).mono ?_
 rintro e w1 ⟨ao, cap, rfl, hown, F1, hR, hc, hno⟩
 have hp1 : w1.cell? ⟨g, i, none⟩ = some old := (hc.fr.cell (p := ⟨g, i, none⟩) (ltC hp) hgF).trans hp
 have fz1 : w1.frozen? ⟨g, i, none⟩ = false := (hc.fr.frozen (p := ⟨g, i, none⟩) (ltC hp) hgF).trans fz
 have HR := hid (And.intro hR (And.intro hc (And.intro hown hno)))
 clear hR hc hown hno
 go_wp2_with fail
 go_end0
 obtain ⟨h1, h2, h3⟩ := rdw_end (.slice ao (q.go 6 m).2.2.length cap) (uh HR).1 (uh HR).2.1 hp hgF
 exact ⟨rfl, F1, ao, cap, h1, h2, ownsRow_setCell_below (uh HR).2.2.1 (ltC hp) _, (uh HR).2.2.2, h3⟩
abbrev PS (cb b g i : Nat) (xv : Value) (w' : World) : Prop := w'.cell? ⟨cb, 0, none⟩ = some (.pointer (some ⟨b, 0, none⟩)) ∧ w'.cell? ⟨g, i, none⟩ = some xv
abbrev PR (cb b g i : Nat) (xv : Value) (w' : World) : Prop := w'.cell? ⟨cb, 1, none⟩ = some (.pointer (some ⟨b, 0, none⟩)) ∧ w'.cell? ⟨g, i, none⟩ = some xv
theorem PS.fr {cb b g i : Nat} {xv : Value} {w w' : World} {S : Nat → Prop} (h : PS cb b g i xv w) (hf : Fr S w w') (h1 : ¬ S cb) (h2 : ¬ S g) : PS cb b g i xv w' :=
 ⟨(hf.cell (ltC h.1) h1).trans h.1, (hf.cell (p := ⟨g, i, none⟩) (ltC h.2) h2).trans h.2⟩
theorem PR.fr {cb b g i : Nat} {xv : Value} {w w' : World} {S : Nat → Prop} (h : PR cb b g i xv w) (hf : Fr S w w') (h1 : ¬ S cb) (h2 : ¬ S g) : PR cb b g i xv w' :=
 ⟨(hf.cell (p := ⟨cb, 1, none⟩) (ltC h.1) h1).trans h.1, (hf.cell (p := ⟨g, i, none⟩) (ltC h.2) h2).trans h.2⟩
theorem fail_S (s : Wq) (n cb b g i : Nat) (xv : Value) (F : Nat → Prop) (E : Nat → Addr) (w1 wx : World) (hS : Fr (fun _ => False) w1 wx) (h : W w1 b F (s.wst E)) (hP : PS cb b g i xv w1) (h1 : ¬ F cb) (h2 : ¬ F g) :
  Calls Tryz.prog 167 #[.pointer (some ⟨b, 0, none⟩), errV E n] wx fun e w' => e = .returned (.tuple #[]) ∧ (∃ F', W w' b F' ((s.failN n).wst E) ∧ Ch w1 w' F F') ∧ PS cb b g i xv w' := by
 refine (wFail_q s n b F E wx (h.frame hS (fun _ _ h => h))).mono ?_
 rintro e w' ⟨rfl, F', hW, hc⟩
 exact ⟨rfl, ⟨F', hW, hc.behind hS⟩, (hP.fr hS (fun h => h) (fun h => h)).fr hc.fr h1 h2⟩
theorem rfail_S (q : Q) (n cb b g i : Nat) (xv : Value) (F : Nat → Prop) (E : Nat → Addr) (w1 wx : World) (hS : Fr (fun _ => False) w1 wx) (h : R w1 b F (q.rst E)) (hP : PR cb b g i xv w1) (h1 : ¬ F cb) (h2 : ¬ F g) :
  Calls Tryz.prog 171 #[.pointer (some ⟨b, 0, none⟩), errV E n] wx fun e w' => e = .returned (.tuple #[]) ∧ (∃ F', R w' b F' ((q.failN n).rst E) ∧ Ch w1 w' F F') ∧ PR cb b g i xv w' := by
 refine (rFail_step q n b F E wx (h.frame hS (fun _ _ h => h))).mono ?_
 rintro e w' ⟨rfl, F', hR, hc⟩
 exact ⟨rfl, ⟨F', hR, hc.behind hS⟩, (hP.fr hS (fun h => h) (fun h => h)).fr hc.fr h1 h2⟩
theorem fbw_u8 (K : Nat → Prop) (rx xv : Value) (E : Nat → Addr) (rs : List (Nat → Nat)) (v : Nat) (cb b g i : Nat) (w1 wx : World) (hS : Fr (fun _ => False) w1 wx) (hR : Rus enU8 w1 K rx E rs) (hen : enU8 w1 xv v) (hP : PS cb b g i xv w1) (hn : rs.length < 9223372036854775808) :
  Calls Tryz.prog 168 #[rx, xv] wx fun e w' => e = .returned (errV E (fb rs v)) ∧ Fr (fun _ => False) w1 w' ∧ PS cb b g i xv w' := by
 refine (firstBroken_u8 w1 wx K rx xv E rs v hR (fun k hk => hS.block k (hR.lt k hk) (fun h => h)) hS.size (hen) hn).mono ?_
 rintro e w' ⟨rfl, hf⟩
 exact ⟨rfl, hS.trans hf (fun _ _ h => h), hP.fr (hS.trans hf (fun _ _ h => h)) (fun h => h) (fun h => h)⟩
theorem fbr_u8 (K : Nat → Prop) (rx xv : Value) (E : Nat → Addr) (rs : List (Nat → Nat)) (v : Nat) (cb b g i : Nat) (w1 wx : World) (hS : Fr (fun _ => False) w1 wx) (hR : Rus enU8 w1 K rx E rs) (hen : enU8 w1 xv v) (hP : PR cb b g i xv w1) (hn : rs.length < 9223372036854775808) :
  Calls Tryz.prog 168 #[rx, xv] wx fun e w' => e = .returned (errV E (fb rs v)) ∧ Fr (fun _ => False) w1 w' ∧ PR cb b g i xv w' := by
 refine (firstBroken_u8 w1 wx K rx xv E rs v hR (fun k hk => hS.block k (hR.lt k hk) (fun h => h)) hS.size (hen) hn).mono ?_
 rintro e w' ⟨rfl, hf⟩
 exact ⟨rfl, hS.trans hf (fun _ _ h => h), hP.fr (hS.trans hf (fun _ _ h => h)) (fun h => h) (fun h => h)⟩
theorem fbw_u32 (K : Nat → Prop) (rx xv : Value) (E : Nat → Addr) (rs : List (Nat → Nat)) (v : Nat) (cb b g i : Nat) (w1 wx : World) (hS : Fr (fun _ => False) w1 wx) (hR : Rus enU32 w1 K rx E rs) (hen : enU32 w1 xv v) (hP : PS cb b g i xv w1) (hn : rs.length < 9223372036854775808) :
  Calls Tryz.prog 172 #[rx, xv] wx fun e w' => e = .returned (errV E (fb rs v)) ∧ Fr (fun _ => False) w1 w' ∧ PS cb b g i xv w' := by
 refine (firstBroken_u32 w1 wx K rx xv E rs v hR (fun k hk => hS.block k (hR.lt k hk) (fun h => h)) hS.size (hen) hn).mono ?_
 rintro e w' ⟨rfl, hf⟩
 exact ⟨rfl, hS.trans hf (fun _ _ h => h), hP.fr (hS.trans hf (fun _ _ h => h)) (fun h => h) (fun h => h)⟩
theorem fbr_u32 (K : Nat → Prop) (rx xv : Value) (E : Nat → Addr) (rs : List (Nat → Nat)) (v : Nat) (cb b g i : Nat) (w1 wx : World) (hS : Fr (fun _ => False) w1 wx) (hR : Rus enU32 w1 K rx E rs) (hen : enU32 w1 xv v) (hP : PR cb b g i xv w1) (hn : rs.length < 9223372036854775808) :
  Calls Tryz.prog 172 #[rx, xv] wx fun e w' => e = .returned (errV E (fb rs v)) ∧ Fr (fun _ => False) w1 w' ∧ PR cb b g i xv w' := by
 refine (firstBroken_u32 w1 wx K rx xv E rs v hR (fun k hk => hS.block k (hR.lt k hk) (fun h => h)) hS.size (hen) hn).mono ?_
 rintro e w' ⟨rfl, hf⟩
 exact ⟨rfl, hS.trans hf (fun _ _ h => h), hP.fr (hS.trans hf (fun _ _ h => h)) (fun h => h) (fun h => h)⟩
theorem fbw_f32 (K : Nat → Prop) (rx xv : Value) (E : Nat → Addr) (rs : List (Nat → Nat)) (v : Nat) (cb b g i : Nat) (w1 wx : World) (hS : Fr (fun _ => False) w1 wx) (hR : Rus enF32 w1 K rx E rs) (hen : enF32 w1 xv v) (hP : PS cb b g i xv w1) (hn : rs.length < 9223372036854775808) :
  Calls Tryz.prog 226 #[rx, xv] wx fun e w' => e = .returned (errV E (fb rs v)) ∧ Fr (fun _ => False) w1 w' ∧ PS cb b g i xv w' := by
 refine (firstBroken_f32 w1 wx K rx xv E rs v hR (fun k hk => hS.block k (hR.lt k hk) (fun h => h)) hS.size (hen) hn).mono ?_
 rintro e w' ⟨rfl, hf⟩
 exact ⟨rfl, hS.trans hf (fun _ _ h => h), hP.fr (hS.trans hf (fun _ _ h => h)) (fun h => h) (fun h => h)⟩
theorem fbr_f32 (K : Nat → Prop) (rx xv : Value) (E : Nat → Addr) (rs : List (Nat → Nat)) (v : Nat) (cb b g i : Nat) (w1 wx : World) (hS : Fr (fun _ => False) w1 wx) (hR : Rus enF32 w1 K rx E rs) (hen : enF32 w1 xv v) (hP : PR cb b g i xv w1) (hn : rs.length < 9223372036854775808) :
  Calls Tryz.prog 226 #[rx, xv] wx fun e w' => e = .returned (errV E (fb rs v)) ∧ Fr (fun _ => False) w1 w' ∧ PR cb b g i xv w' := by
 refine (firstBroken_f32 w1 wx K rx xv E rs v hR (fun k hk => hS.block k (hR.lt k hk) (fun h => h)) hS.size (hen) hn).mono ?_
 rintro e w' ⟨rfl, hf⟩
 exact ⟨rfl, hS.trans hf (fun _ _ h => h), hP.fr (hS.trans hf (fun _ _ h => h)) (fun h => h) (fun h => h)⟩
theorem fbw_int (K : Nat → Prop) (rx xv : Value) (E : Nat → Addr) (rs : List (Int → Nat)) (v : Int) (cb b g i : Nat) (w1 wx : World) (hS : Fr (fun _ => False) w1 wx) (hR : Rus enInt w1 K rx E rs) (hen : enInt w1 xv v) (hP : PS cb b g i xv w1) (hn : rs.length < 9223372036854775808) :
  Calls Tryz.prog 179 #[rx, xv] wx fun e w' => e = .returned (errV E (fb rs v)) ∧ Fr (fun _ => False) w1 w' ∧ PS cb b g i xv w' := by
 refine (firstBroken_int w1 wx K rx xv E rs v hR (fun k hk => hS.block k (hR.lt k hk) (fun h => h)) hS.size (hen) hn).mono ?_
 rintro e w' ⟨rfl, hf⟩
 exact ⟨rfl, hS.trans hf (fun _ _ h => h), hP.fr (hS.trans hf (fun _ _ h => h)) (fun h => h) (fun h => h)⟩
theorem fbr_int (K : Nat → Prop) (rx xv : Value) (E : Nat → Addr) (rs : List (Int → Nat)) (v : Int) (cb b g i : Nat) (w1 wx : World) (hS : Fr (fun _ => False) w1 wx) (hR : Rus enInt w1 K rx E rs) (hen : enInt w1 xv v) (hP : PR cb b g i xv w1) (hn : rs.length < 9223372036854775808) :
  Calls Tryz.prog 179 #[rx, xv] wx fun e w' => e = .returned (errV E (fb rs v)) ∧ Fr (fun _ => False) w1 w' ∧ PR cb b g i xv w' := by
 refine (firstBroken_int w1 wx K rx xv E rs v hR (fun k hk => hS.block k (hR.lt k hk) (fun h => h)) hS.size (hen) hn).mono ?_
 rintro e w' ⟨rfl, hf⟩
 exact ⟨rfl, hS.trans hf (fun _ _ h => h), hP.fr (hS.trans hf (fun _ _ h => h)) (fun h => h) (fun h => h)⟩
theorem fbw_str (K : Nat → Prop) (rx xv : Value) (E : Nat → Addr) (rs : List (ByteArray → Nat)) (v : ByteArray) (cb b g i : Nat) (w1 wx : World) (hS : Fr (fun _ => False) w1 wx) (hR : Rus enStr w1 K rx E rs) (hen : enStr w1 xv v) (hP : PS cb b g i xv w1) (hn : rs.length < 9223372036854775808) :
  Calls Tryz.prog 177 #[rx, xv] wx fun e w' => e = .returned (errV E (fb rs v)) ∧ Fr (fun _ => False) w1 w' ∧ PS cb b g i xv w' := by
 refine (firstBroken_str w1 wx K rx xv E rs v hR (fun k hk => hS.block k (hR.lt k hk) (fun h => h)) hS.size (hen) hn).mono ?_
 rintro e w' ⟨rfl, hf⟩
 exact ⟨rfl, hS.trans hf (fun _ _ h => h), hP.fr (hS.trans hf (fun _ _ h => h)) (fun h => h) (fun h => h)⟩
theorem fbr_str (K : Nat → Prop) (rx xv : Value) (E : Nat → Addr) (rs : List (ByteArray → Nat)) (v : ByteArray) (cb b g i : Nat) (w1 wx : World) (hS : Fr (fun _ => False) w1 wx) (hR : Rus enStr w1 K rx E rs) (hen : enStr w1 xv v) (hP : PR cb b g i xv w1) (hn : rs.length < 9223372036854775808) :
  Calls Tryz.prog 177 #[rx, xv] wx fun e w' => e = .returned (errV E (fb rs v)) ∧ Fr (fun _ => False) w1 w' ∧ PR cb b g i xv w' := by
 refine (firstBroken_str w1 wx K rx xv E rs v hR (fun k hk => hS.block k (hR.lt k hk) (fun h => h)) hS.size (hen) hn).mono ?_
 rintro e w' ⟨rfl, hf⟩
 exact ⟨rfl, hS.trans hf (fun _ _ h => h), hP.fr (hS.trans hf (fun _ _ h => h)) (fun h => h) (fun h => h)⟩
theorem fbw_byt (K : Nat → Prop) (rx xv : Value) (E : Nat → Addr) (rs : List ((List Nat) → Nat)) (v : (List Nat)) (cb b g i : Nat) (w1 wx : World) (hS : Fr (fun _ => False) w1 wx) (hR : Rus enByt w1 K rx E rs) (hen : enByt w1 xv v) (hP : PS cb b g i xv w1) (hn : rs.length < 9223372036854775808) :
  Calls Tryz.prog 180 #[rx, xv] wx fun e w' => e = .returned (errV E (fb rs v)) ∧ Fr (fun _ => False) w1 w' ∧ PS cb b g i xv w' := by
 refine (firstBroken_byt w1 wx K rx xv E rs v hR (fun k hk => hS.block k (hR.lt k hk) (fun h => h)) hS.size (Src.fr hen hS (fun _ _ _ _ _ h => h)) hn).mono ?_
 rintro e w' ⟨rfl, hf⟩
 exact ⟨rfl, hS.trans hf (fun _ _ h => h), hP.fr (hS.trans hf (fun _ _ h => h)) (fun h => h) (fun h => h)⟩
theorem fbr_byt (K : Nat → Prop) (rx xv : Value) (E : Nat → Addr) (rs : List ((List Nat) → Nat)) (v : (List Nat)) (cb b g i : Nat) (w1 wx : World) (hS : Fr (fun _ => False) w1 wx) (hR : Rus enByt w1 K rx E rs) (hen : enByt w1 xv v) (hP : PR cb b g i xv w1) (hn : rs.length < 9223372036854775808) :
  Calls Tryz.prog 180 #[rx, xv] wx fun e w' => e = .returned (errV E (fb rs v)) ∧ Fr (fun _ => False) w1 w' ∧ PR cb b g i xv w' := by
 refine (firstBroken_byt w1 wx K rx xv E rs v hR (fun k hk => hS.block k (hR.lt k hk) (fun h => h)) hS.size (Src.fr hen hS (fun _ _ _ _ _ h => h)) hn).mono ?_
 rintro e w' ⟨rfl, hf⟩
 exact ⟨rfl, hS.trans hf (fun _ _ h => h), hP.fr (hS.trans hf (fun _ _ h => h)) (fun h => h) (fun h => h)⟩
theorem Cd.wr_step {w w' : World} {cb b : Nat} {F F' : Nat → Prop} {s s' : Wq} {E : Nat → Addr} (h : Cd w cb b F (.wr s) E) (hW : W w' b F' (s'.wst E)) (hc : Ch w w' F F') (hok : s'.ok) : Cd w' cb b F' (.wr s') E := by
 have hl := ltC h.c0
 exact ⟨h.g7.fr hc.fr h.lo, fun hx => h.nf ((hc.new cb hx).resolve_right (by simp at hl; omega)), hW.lt, hW.lo, h.cl, (hc.fr.cell (p := ⟨cb, 0, none⟩) hl h.nf).trans h.c0, (hc.fr.cell (p := ⟨cb, 1, none⟩) hl h.nf).trans h.c1, hW, hok⟩
theorem Cd.rd_step {w w' : World} {cb b : Nat} {F F' : Nat → Prop} {P : Nat → Nat → Prop} {q q' : Q} {E : Nat → Addr} (h : Cd w cb b F (.rd q) E) (hR : R w' b F' (q'.rst E)) (hs : Stp w w' F F' P) (hP : ∀ k i, P k i → 9 ≤ k ∧ k ≠ cb) (hok : q'.ok) (hall : q'.all = q.all) : Cd w' cb b F' (.rd q') E := by
 have hl := ltC h.c0
 have hcb : ∀ i, ¬ P cb i := fun i hx => (hP cb i hx).2 rfl
 refine ⟨h.g7.fr hs.fr (fun k hk => hk.elim (h.lo k) (fun ⟨i, hi⟩ => (hP k i hi).1)), hs.nF hl h.nf, hR.lt, hR.lo, h.cl, (hs.oth cb 0 hl h.nf (hcb 0)).trans h.c0, (hs.oth cb 1 hl h.nf (hcb 1)).trans h.c1, ⟨hR, hok, ?_⟩, trivial⟩
 rw [hall]
 exact (show R w b F (q.rst E) ∧ q.ok ∧ q.all.length ≤ 140737488355328 from h.st).2.2
theorem Q.failN_all (q : Q) (n : Nat) : (q.failN n).all = q.all := by unfold Q.failN; split <;> rfl
set_option maxRecDepth 100000 in
theorem part_u8_w (s : Wq) (nm : ByteArray) (rs : List (Nat → Nat)) (v : Nat) (m : Int) (cb b g i : Nat) (F K : Nat → Prop) (E : Nat → Addr) (rx : Value) (w : World) (h : Cd w cb b F (.wr s) E) (hp : w.cell? ⟨g, i, none⟩ = some (.int .u8 (v : Nat))) (hv : v < 256) (hgF : ¬ F g) (hR : Rus enU8 w K rx E rs) (hK : ∀ k, K k → ¬ F k) (hn : rs.length < 9223372036854775808) (hl : fb rs v = 0 → s.l.length + (1) ≤ 140737488355328) :
  Calls Tryz.prog 148 #[.pointer (some ⟨cb, 0, none⟩), .string nm, .pointer (some ⟨g, i, none⟩), .int .i64 m, rx] w fun e w' => e = .returned (.tuple #[]) ∧ ∃ F', Cd w' cb b F' (.wr (((s.named nm).failN (fb rs v)).putB (be 1 v))) E ∧ Ch w w' F F' := by
 have hc0 : w.cell? ⟨cb, 0, none⟩ = some (.pointer (some ⟨b, 0, none⟩)) := h.c0
 have H := hid (And.intro h (And.intro hR hK))
 have HL := hid hl
 clear h hR hK hl
 obtain ⟨xo, xc, rfl⟩ := (uh H).2.1.form
 go_enter Tryz.func148, Tryz.ntmps148
 go_wp2_with fail
 refine (wName_q s nm b F E w (uh H).1.st).mono ?_
 rintro e w1 ⟨rfl, hW1, hch1⟩
 have hP1 : PS cb b g i (.int .u8 (v : Nat)) w1 := PS.fr ⟨hc0, hp⟩ hch1.fr (uh H).1.nf hgF
 have hc1 := hP1.1
 have hp1 := hP1.2
 have hR1 := (uh H).2.1.fr hch1.fr (uh H).2.2
 have hS0 : Fr (fun _ => False) w1 w1 := Fr.refl _ _
 have H1 := hid (And.intro hW1 (And.intro hch1 (And.intro hR1 hP1)))
 clear hW1 hch1 hR1 hP1
 go_wp2_with fail
 go_region_held3 (fun w' => PS cb b g i (.int .u8 (v : Nat)) w') (first | assumption | exact ⟨hc1, hp1⟩ | (refine ⟨?_, ?_⟩ <;> (simp only [World.cell?_drew, World.cell?_drewN] at *; assumption))) (first
  | (go_at_call 168; refine (fbw_u8 K _ _ E rs v cb b g i w1 _ (by first | assumption | exact Fr.drew (by assumption)) (uh H1).2.2.1 ⟨rfl, hv⟩ (uh H1).2.2.2 hn).mono ?_; rintro e w2 ⟨rfl, hS2, hP2⟩)
  | (go_at_call 167; refine (fail_S _ _ cb b g i _ F E w1 _ (by first | assumption | exact Fr.drew (by assumption)) (uh H1).1 (uh H1).2.2.2 (uh H).1.nf hgF).mono ?_; rintro e w3 ⟨rfl, hS3, hP3⟩))
 have hc3 := hP3.1
 have hp3 := hP3.2
 obtain ⟨F3, hW3, hch3⟩ := hS3
 have hok3 : ((s.named nm).failN (fb rs v)).ok := Wq.failN_ok (Wq.named_ok (show s.ok from (uh H).1.fok) nm) ((uh H).2.1.le v)
 have hC3 := ((uh H).1.wr_step (uh H1).1 (uh H1).2.1 (show s.ok from (uh H).1.fok)).wr_step hW3 hch3 hok3
 have hLL := lay_u8 ((s.named nm).failN (fb rs v)) v m ⟨g, i, none⟩ b F3 E w3 hp3 hv hW3 (fun e => by rw [Wq.failN_l]; exact (uh HL) (Wq.failN_f e))
 have HX := hid (And.intro hLL (And.intro hC3 hch3))
 clear hLL hC3 hch3 hW3 hP3 hP2 hS2
 go_wp2_with fail
 refine (uh HX).1.mono ?_
 rintro e w4 ⟨rfl, F4, hW4, hch4⟩
 have HY := hid (And.intro hW4 hch4)
 clear hW4 hch4
 go_wp2_with fail
 first | go_end0 | ((try simp only [Exit.inBlock, Exit.then]); refine bodyPost_ret (results_none rfl _ _ _) rfl ?_)
 exact ⟨rfl, F4, (uh HX).2.1.wr_step (uh HY).1 (uh HY).2 (Wq.putB_ok hok3 _), ((uh H1).2.1.trans (uh HX).2.2).trans (uh HY).2⟩
set_option maxRecDepth 100000 in
theorem part_u32_w (s : Wq) (nm : ByteArray) (rs : List (Nat → Nat)) (v : Nat) (m : Int) (cb b g i : Nat) (F K : Nat → Prop) (E : Nat → Addr) (rx : Value) (w : World) (h : Cd w cb b F (.wr s) E) (hp : w.cell? ⟨g, i, none⟩ = some (.int .u32 (v : Nat))) (hv : v < 4294967296) (hgF : ¬ F g) (hR : Rus enU32 w K rx E rs) (hK : ∀ k, K k → ¬ F k) (hn : rs.length < 9223372036854775808) (hl : fb rs v = 0 → s.l.length + (4) ≤ 140737488355328) :
  Calls Tryz.prog 150 #[.pointer (some ⟨cb, 0, none⟩), .string nm, .pointer (some ⟨g, i, none⟩), .int .i64 m, rx] w fun e w' => e = .returned (.tuple #[]) ∧ ∃ F', Cd w' cb b F' (.wr (((s.named nm).failN (fb rs v)).putB (be 4 v))) E ∧ Ch w w' F F' := by
 have hc0 : w.cell? ⟨cb, 0, none⟩ = some (.pointer (some ⟨b, 0, none⟩)) := h.c0
 have H := hid (And.intro h (And.intro hR hK))
 have HL := hid hl
 clear h hR hK hl
 obtain ⟨xo, xc, rfl⟩ := (uh H).2.1.form
 go_enter Tryz.func150, Tryz.ntmps150
 go_wp2_with fail
 refine (wName_q s nm b F E w (uh H).1.st).mono ?_
 rintro e w1 ⟨rfl, hW1, hch1⟩
 have hP1 : PS cb b g i (.int .u32 (v : Nat)) w1 := PS.fr ⟨hc0, hp⟩ hch1.fr (uh H).1.nf hgF
 have hc1 := hP1.1
 have hp1 := hP1.2
 have hR1 := (uh H).2.1.fr hch1.fr (uh H).2.2
 have hS0 : Fr (fun _ => False) w1 w1 := Fr.refl _ _
 have H1 := hid (And.intro hW1 (And.intro hch1 (And.intro hR1 hP1)))
 clear hW1 hch1 hR1 hP1
 go_wp2_with fail
 go_region_held3 (fun w' => PS cb b g i (.int .u32 (v : Nat)) w') (first | assumption | exact ⟨hc1, hp1⟩ | (refine ⟨?_, ?_⟩ <;> (simp only [World.cell?_drew, World.cell?_drewN] at *; assumption))) (first
  | (go_at_call 172; refine (fbw_u32 K _ _ E rs v cb b g i w1 _ (by first | assumption | exact Fr.drew (by assumption)) (uh H1).2.2.1 ⟨rfl, hv⟩ (uh H1).2.2.2 hn).mono ?_; rintro e w2 ⟨rfl, hS2, hP2⟩)
  | (go_at_call 167; refine (fail_S _ _ cb b g i _ F E w1 _ (by first | assumption | exact Fr.drew (by assumption)) (uh H1).1 (uh H1).2.2.2 (uh H).1.nf hgF).mono ?_; rintro e w3 ⟨rfl, hS3, hP3⟩))
 have hc3 := hP3.1
 have hp3 := hP3.2
 obtain ⟨F3, hW3, hch3⟩ := hS3
 have hok3 : ((s.named nm).failN (fb rs v)).ok := Wq.failN_ok (Wq.named_ok (show s.ok from (uh H).1.fok) nm) ((uh H).2.1.le v)
 have hC3 := ((uh H).1.wr_step (uh H1).1 (uh H1).2.1 (show s.ok from (uh H).1.fok)).wr_step hW3 hch3 hok3
 have hLL := lay_u32 ((s.named nm).failN (fb rs v)) v m ⟨g, i, none⟩ b F3 E w3 hp3 hv hW3 (fun e => by rw [Wq.failN_l]; exact (uh HL) (Wq.failN_f e))
 have HX := hid (And.intro hLL (And.intro hC3 hch3))
 clear hLL hC3 hch3 hW3 hP3 hP2 hS2
 go_wp2_with fail
 refine (uh HX).1.mono ?_
 rintro e w4 ⟨rfl, F4, hW4, hch4⟩
 have HY := hid (And.intro hW4 hch4)
 clear hW4 hch4
 go_wp2_with fail
 first | go_end0 | ((try simp only [Exit.inBlock, Exit.then]); refine bodyPost_ret (results_none rfl _ _ _) rfl ?_)
 exact ⟨rfl, F4, (uh HX).2.1.wr_step (uh HY).1 (uh HY).2 (Wq.putB_ok hok3 _), ((uh H1).2.1.trans (uh HX).2.2).trans (uh HY).2⟩
set_option maxRecDepth 100000 in
theorem part_f32_w (s : Wq) (nm : ByteArray) (rs : List (Nat → Nat)) (v : Nat) (m : Int) (cb b g i : Nat) (F K : Nat → Prop) (E : Nat → Addr) (rx : Value) (w : World) (h : Cd w cb b F (.wr s) E) (hp : w.cell? ⟨g, i, none⟩ = some (.float .f32 v)) (hv : v < 4294967296) (hgF : ¬ F g) (hR : Rus enF32 w K rx E rs) (hK : ∀ k, K k → ¬ F k) (hn : rs.length < 9223372036854775808) (hl : fb rs v = 0 → s.l.length + (4) ≤ 140737488355328) :
  Calls Tryz.prog 199 #[.pointer (some ⟨cb, 0, none⟩), .string nm, .pointer (some ⟨g, i, none⟩), .int .i64 m, rx] w fun e w' => e = .returned (.tuple #[]) ∧ ∃ F', Cd w' cb b F' (.wr (((s.named nm).failN (fb rs v)).flt v)) E ∧ Ch w w' F F' := by
 have hc0 : w.cell? ⟨cb, 0, none⟩ = some (.pointer (some ⟨b, 0, none⟩)) := h.c0
 have H := hid (And.intro h (And.intro hR hK))
 have HL := hid hl
 clear h hR hK hl
 obtain ⟨xo, xc, rfl⟩ := (uh H).2.1.form
 go_enter Tryz.func199, Tryz.ntmps199
 go_wp2_with fail
 refine (wName_q s nm b F E w (uh H).1.st).mono ?_
 rintro e w1 ⟨rfl, hW1, hch1⟩
 have hP1 : PS cb b g i (.float .f32 v) w1 := PS.fr ⟨hc0, hp⟩ hch1.fr (uh H).1.nf hgF
 have hc1 := hP1.1
 have hp1 := hP1.2
 have hR1 := (uh H).2.1.fr hch1.fr (uh H).2.2
 have hS0 : Fr (fun _ => False) w1 w1 := Fr.refl _ _
 have H1 := hid (And.intro hW1 (And.intro hch1 (And.intro hR1 hP1)))
 clear hW1 hch1 hR1 hP1
 go_wp2_with fail
 go_region_held3 (fun w' => PS cb b g i (.float .f32 v) w') (first | assumption | exact ⟨hc1, hp1⟩ | (refine ⟨?_, ?_⟩ <;> (simp only [World.cell?_drew, World.cell?_drewN] at *; assumption))) (first
  | (go_at_call 226; refine (fbw_f32 K _ _ E rs v cb b g i w1 _ (by first | assumption | exact Fr.drew (by assumption)) (uh H1).2.2.1 ⟨rfl, hv⟩ (uh H1).2.2.2 hn).mono ?_; rintro e w2 ⟨rfl, hS2, hP2⟩)
  | (go_at_call 167; refine (fail_S _ _ cb b g i _ F E w1 _ (by first | assumption | exact Fr.drew (by assumption)) (uh H1).1 (uh H1).2.2.2 (uh H).1.nf hgF).mono ?_; rintro e w3 ⟨rfl, hS3, hP3⟩))
 have hc3 := hP3.1
 have hp3 := hP3.2
 obtain ⟨F3, hW3, hch3⟩ := hS3
 have hok3 : ((s.named nm).failN (fb rs v)).ok := Wq.failN_ok (Wq.named_ok (show s.ok from (uh H).1.fok) nm) ((uh H).2.1.le v)
 have hC3 := ((uh H).1.wr_step (uh H1).1 (uh H1).2.1 (show s.ok from (uh H).1.fok)).wr_step hW3 hch3 hok3
 have hLL := lay_f32 ((s.named nm).failN (fb rs v)) v m ⟨g, i, none⟩ b F3 E w3 hp3 hv hC3.g7 hW3 (fun e => by rw [Wq.failN_l]; exact (uh HL) (Wq.failN_f e))
 have HX := hid (And.intro hLL (And.intro hC3 hch3))
 clear hLL hC3 hch3 hW3 hP3 hP2 hS2
 go_wp2_with fail
 refine (uh HX).1.mono ?_
 rintro e w4 ⟨rfl, F4, hW4, hch4⟩
 have HY := hid (And.intro hW4 hch4)
 clear hW4 hch4
 go_wp2_with fail
 first | go_end0 | ((try simp only [Exit.inBlock, Exit.then]); refine bodyPost_ret (results_none rfl _ _ _) rfl ?_)
 exact ⟨rfl, F4, (uh HX).2.1.wr_step (uh HY).1 (uh HY).2 (Wq.flt_ok hok3 _), ((uh H1).2.1.trans (uh HX).2.2).trans (uh HY).2⟩
set_option maxRecDepth 100000 in
theorem part_str_w (s : Wq) (nm : ByteArray) (rs : List (ByteArray → Nat)) (v : ByteArray) (m : Int) (cb b g i : Nat) (F K : Nat → Prop) (E : Nat → Addr) (rx : Value) (w : World) (h : Cd w cb b F (.wr s) E) (hp : w.cell? ⟨g, i, none⟩ = some (.string v)) (hv : v.size < 9223372036854775808) (hgF : ¬ F g) (hR : Rus enStr w K rx E rs) (hK : ∀ k, K k → ¬ F k) (hn : rs.length < 9223372036854775808) (hl : fb rs v = 0 → s.l.length + (4 + v.size) ≤ 140737488355328) :
  Calls Tryz.prog 157 #[.pointer (some ⟨cb, 0, none⟩), .string nm, .pointer (some ⟨g, i, none⟩), .int .i64 m, rx] w fun e w' => e = .returned (.tuple #[]) ∧ ∃ F', Cd w' cb b F' (.wr (((s.named nm).failN (fb rs v)).lim v.size m (be 4 v.size ++ bytesOf v))) E ∧ Ch w w' F F' := by
 have hc0 : w.cell? ⟨cb, 0, none⟩ = some (.pointer (some ⟨b, 0, none⟩)) := h.c0
 have H := hid (And.intro h (And.intro hR hK))
 have HL := hid hl
 clear h hR hK hl
 obtain ⟨xo, xc, rfl⟩ := (uh H).2.1.form
 go_enter Tryz.func157, Tryz.ntmps157
 go_wp2_with fail
 refine (wName_q s nm b F E w (uh H).1.st).mono ?_
 rintro e w1 ⟨rfl, hW1, hch1⟩
 have hP1 : PS cb b g i (.string v) w1 := PS.fr ⟨hc0, hp⟩ hch1.fr (uh H).1.nf hgF
 have hc1 := hP1.1
 have hp1 := hP1.2
 have hR1 := (uh H).2.1.fr hch1.fr (uh H).2.2
 have hS0 : Fr (fun _ => False) w1 w1 := Fr.refl _ _
 have H1 := hid (And.intro hW1 (And.intro hch1 (And.intro hR1 hP1)))
 clear hW1 hch1 hR1 hP1
 go_wp2_with fail
 go_region_held3 (fun w' => PS cb b g i (.string v) w') (first | assumption | exact ⟨hc1, hp1⟩ | (refine ⟨?_, ?_⟩ <;> (simp only [World.cell?_drew, World.cell?_drewN] at *; assumption))) (first
  | (go_at_call 177; refine (fbw_str K _ _ E rs v cb b g i w1 _ (by first | assumption | exact Fr.drew (by assumption)) (uh H1).2.2.1 rfl (uh H1).2.2.2 hn).mono ?_; rintro e w2 ⟨rfl, hS2, hP2⟩)
  | (go_at_call 167; refine (fail_S _ _ cb b g i _ F E w1 _ (by first | assumption | exact Fr.drew (by assumption)) (uh H1).1 (uh H1).2.2.2 (uh H).1.nf hgF).mono ?_; rintro e w3 ⟨rfl, hS3, hP3⟩))
 have hc3 := hP3.1
 have hp3 := hP3.2
 obtain ⟨F3, hW3, hch3⟩ := hS3
 have hok3 : ((s.named nm).failN (fb rs v)).ok := Wq.failN_ok (Wq.named_ok (show s.ok from (uh H).1.fok) nm) ((uh H).2.1.le v)
 have hC3 := ((uh H).1.wr_step (uh H1).1 (uh H1).2.1 (show s.ok from (uh H).1.fok)).wr_step hW3 hch3 hok3
 have hLL := lay_str ((s.named nm).failN (fb rs v)) v m ⟨g, i, none⟩ b F3 E w3 hp3 hv hC3.g7 hW3 (fun e => by rw [Wq.failN_l]; exact (uh HL) (Wq.failN_f e))
 have HX := hid (And.intro hLL (And.intro hC3 hch3))
 clear hLL hC3 hch3 hW3 hP3 hP2 hS2
 go_wp2_with fail
 refine (uh HX).1.mono ?_
 rintro e w4 ⟨rfl, F4, hW4, hch4⟩
 have HY := hid (And.intro hW4 hch4)
 clear hW4 hch4
 go_wp2_with fail
 first | go_end0 | ((try simp only [Exit.inBlock, Exit.then]); refine bodyPost_ret (results_none rfl _ _ _) rfl ?_)
 exact ⟨rfl, F4, (uh HX).2.1.wr_step (uh HY).1 (uh HY).2 (Wq.lim_ok hok3 _ _ _), ((uh H1).2.1.trans (uh HX).2.2).trans (uh HY).2⟩
set_option maxRecDepth 100000 in
theorem part_int_w (s : Wq) (nm : ByteArray) (rs : List (Int → Nat)) (v : Int) (m : Int) (cb b g i : Nat) (F K : Nat → Prop) (E : Nat → Addr) (rx : Value) (w : World) (h : Cd w cb b F (.wr s) E) (hp : w.cell? ⟨g, i, none⟩ = some (.int .i64 v)) (hv : v < 9223372036854775808) (hgF : ¬ F g) (hR : Rus enInt w K rx E rs) (hK : ∀ k, K k → ¬ F k) (hn : rs.length < 9223372036854775808) (hl : fb rs v = 0 → s.l.length + (4) ≤ 140737488355328) :
  Calls Tryz.prog 159 #[.pointer (some ⟨cb, 0, none⟩), .string nm, .pointer (some ⟨g, i, none⟩), .int .i64 m, rx] w fun e w' => e = .returned (.tuple #[]) ∧ ∃ F', Cd w' cb b F' (.wr (((s.named nm).failN (fb rs v)).cnt v m)) E ∧ Ch w w' F F' := by
 have hc0 : w.cell? ⟨cb, 0, none⟩ = some (.pointer (some ⟨b, 0, none⟩)) := h.c0
 have H := hid (And.intro h (And.intro hR hK))
 have HL := hid hl
 clear h hR hK hl
 obtain ⟨xo, xc, rfl⟩ := (uh H).2.1.form
 go_enter Tryz.func159, Tryz.ntmps159
 go_wp2_with fail
 refine (wName_q s nm b F E w (uh H).1.st).mono ?_
 rintro e w1 ⟨rfl, hW1, hch1⟩
 have hP1 : PS cb b g i (.int .i64 v) w1 := PS.fr ⟨hc0, hp⟩ hch1.fr (uh H).1.nf hgF
 have hc1 := hP1.1
 have hp1 := hP1.2
 have hR1 := (uh H).2.1.fr hch1.fr (uh H).2.2
 have hS0 : Fr (fun _ => False) w1 w1 := Fr.refl _ _
 have H1 := hid (And.intro hW1 (And.intro hch1 (And.intro hR1 hP1)))
 clear hW1 hch1 hR1 hP1
 go_wp2_with fail
 go_region_held3 (fun w' => PS cb b g i (.int .i64 v) w') (first | assumption | exact ⟨hc1, hp1⟩ | (refine ⟨?_, ?_⟩ <;> (simp only [World.cell?_drew, World.cell?_drewN] at *; assumption))) (first
  | (go_at_call 179; refine (fbw_int K _ _ E rs v cb b g i w1 _ (by first | assumption | exact Fr.drew (by assumption)) (uh H1).2.2.1 rfl (uh H1).2.2.2 hn).mono ?_; rintro e w2 ⟨rfl, hS2, hP2⟩)
  | (go_at_call 167; refine (fail_S _ _ cb b g i _ F E w1 _ (by first | assumption | exact Fr.drew (by assumption)) (uh H1).1 (uh H1).2.2.2 (uh H).1.nf hgF).mono ?_; rintro e w3 ⟨rfl, hS3, hP3⟩))
 have hc3 := hP3.1
 have hp3 := hP3.2
 obtain ⟨F3, hW3, hch3⟩ := hS3
 have hok3 : ((s.named nm).failN (fb rs v)).ok := Wq.failN_ok (Wq.named_ok (show s.ok from (uh H).1.fok) nm) ((uh H).2.1.le v)
 have hC3 := ((uh H).1.wr_step (uh H1).1 (uh H1).2.1 (show s.ok from (uh H).1.fok)).wr_step hW3 hch3 hok3
 have hLL := lay_int ((s.named nm).failN (fb rs v)) v m ⟨g, i, none⟩ b F3 E w3 hp3 hv hC3.g7 hW3 (fun e => by rw [Wq.failN_l]; exact (uh HL) (Wq.failN_f e))
 have HX := hid (And.intro hLL (And.intro hC3 hch3))
 clear hLL hC3 hch3 hW3 hP3 hP2 hS2
 go_wp2_with fail
 refine (uh HX).1.mono ?_
 rintro e w4 ⟨rfl, F4, hW4, hch4⟩
 have HY := hid (And.intro hW4 hch4)
 clear hW4 hch4
 go_wp2_with fail
 first | go_end0 | ((try simp only [Exit.inBlock, Exit.then]); refine bodyPost_ret (results_none rfl _ _ _) rfl ?_)
 exact ⟨rfl, F4, (uh HX).2.1.wr_step (uh HY).1 (uh HY).2 (Wq.cnt_ok hok3 _ _), ((uh H1).2.1.trans (uh HX).2.2).trans (uh HY).2⟩
set_option maxRecDepth 100000 in
theorem part_byt_w (s : Wq) (nm : ByteArray) (rs : List (List Nat → Nat)) (x : Value) (v : List Nat) (m : Int) (cb b g i : Nat) (F K : Nat → Prop) (E : Nat → Addr) (rx : Value) (w : World) (h : Cd w cb b F (.wr s) E) (hp : w.cell? ⟨g, i, none⟩ = some x) (hsrc : Src w x v) (nx : ∀ g o m c, x = .slice (some ⟨g, o, none⟩) m c → g < w.heap.size ∧ ¬ F g) (hv : v.length < 9223372036854775808) (hgF : ¬ F g) (hR : Rus enByt w K rx E rs) (hK : ∀ k, K k → ¬ F k) (hn : rs.length < 9223372036854775808) (hl : fb rs v = 0 → s.l.length + (4 + v.length) ≤ 140737488355328) :
  Calls Tryz.prog 160 #[.pointer (some ⟨cb, 0, none⟩), .string nm, .pointer (some ⟨g, i, none⟩), .int .i64 m, rx] w fun e w' => e = .returned (.tuple #[]) ∧ ∃ F', Cd w' cb b F' (.wr (((s.named nm).failN (fb rs v)).lim v.length m (be 4 v.length ++ v))) E ∧ Ch w w' F F' := by
 have hc0 : w.cell? ⟨cb, 0, none⟩ = some (.pointer (some ⟨b, 0, none⟩)) := h.c0
 have H := hid (And.intro h (And.intro hR hK))
 have HL := hid (And.intro hl (And.intro hsrc nx))
 clear h hR hK hl nx
 obtain ⟨yo, yc, rfl⟩ := hsrc.form
 clear hsrc
 obtain ⟨xo, xc, rfl⟩ := (uh H).2.1.form
 go_enter Tryz.func160, Tryz.ntmps160
 go_wp2_with fail
 refine (wName_q s nm b F E w (uh H).1.st).mono ?_
 rintro e w1 ⟨rfl, hW1, hch1⟩
 have hP1 : PS cb b g i (.slice yo v.length yc) w1 := PS.fr ⟨hc0, hp⟩ hch1.fr (uh H).1.nf hgF
 have hc1 := hP1.1
 have hp1 := hP1.2
 have hR1 := (uh H).2.1.fr hch1.fr (uh H).2.2
 have hS1 : Src w1 (.slice yo v.length yc) v := (uh HL).2.1.fr hch1.fr (fun g o m c e => ((uh HL).2.2 g o m c e).2)
 have hS0 : Fr (fun _ => False) w1 w1 := Fr.refl _ _
 have H1 := hid (And.intro hW1 (And.intro hch1 (And.intro hR1 (And.intro hP1 hS1))))
 clear hW1 hch1 hR1 hP1 hS1
 go_wp2_with fail
 go_region_held3 (fun w' => PS cb b g i (.slice yo v.length yc) w') (first | assumption | exact ⟨hc1, hp1⟩ | (refine ⟨?_, ?_⟩ <;> (simp only [World.cell?_drew, World.cell?_drewN] at *; assumption))) (first
  | (go_at_call 180; refine (fbw_byt K _ _ E rs v cb b g i w1 _ (by first | assumption | exact Fr.drew (by assumption)) (uh H1).2.2.1 (uh H1).2.2.2.2 (uh H1).2.2.2.1 hn).mono ?_; rintro e w2 ⟨rfl, hS2, hP2⟩)
  | (go_at_call 167; refine (fail_S _ _ cb b g i _ F E w1 _ (by first | assumption | exact Fr.drew (by assumption)) (uh H1).1 (uh H1).2.2.2.1 (uh H).1.nf hgF).mono ?_; rintro e w3 ⟨rfl, hS3, hP3⟩))
 have hc3 := hP3.1
 have hp3 := hP3.2
 obtain ⟨F3, hW3, hch3⟩ := hS3
 have hok3 : ((s.named nm).failN (fb rs v)).ok := Wq.failN_ok (Wq.named_ok (show s.ok from (uh H).1.fok) nm) ((uh H).2.1.le v)
 have hC3 := ((uh H).1.wr_step (uh H1).1 (uh H1).2.1 (show s.ok from (uh H).1.fok)).wr_step hW3 hch3 hok3
 have hch13 := (uh H1).2.1.trans hch3
 have hLL := lay_byt ((s.named nm).failN (fb rs v)) _ v m ⟨g, i, none⟩ b F3 E w3 hp3 ((uh HL).2.1.fr hch13.fr (fun g o m c e => ((uh HL).2.2 g o m c e).2)) (fun g o m c e hx => by
  have h1 := (uh HL).2.2 g o m c e
  rcases hch13.new g hx with h2 | h2
  ·exact h1.2 h2
  ·omega) hv hC3.g7 hW3 (fun e => by rw [Wq.failN_l]; exact (uh HL).1 (Wq.failN_f e))
 have HX := hid (And.intro hLL (And.intro hC3 hch3))
 clear hLL hC3 hch3 hW3 hP3 hP2 hS2 hch13
 go_wp2_with fail
 refine (uh HX).1.mono ?_
 rintro e w4 ⟨rfl, F4, hW4, hch4⟩
 have HY := hid (And.intro hW4 hch4)
 clear hW4 hch4
 go_wp2_with fail
 first | go_end0 | ((try simp only [Exit.inBlock, Exit.then]); refine bodyPost_ret (results_none rfl _ _ _) rfl ?_)
 exact ⟨rfl, F4, (uh HX).2.1.wr_step (uh HY).1 (uh HY).2 (Wq.lim_ok hok3 _ _ _), ((uh H1).2.1.trans (uh HX).2.2).trans (uh HY).2⟩
set_option maxRecDepth 100000 in
theorem part_u8_r (q : Q) (nm : ByteArray) (rs : List (Nat → Nat)) (old : Value) (m : Int) (cb b g i : Nat) (F K : Nat → Prop) (E : Nat → Addr) (rx : Value) (w : World) (h : Cd w cb b F (.rd q) E) (hp : w.cell? ⟨g, i, none⟩ = some old) (fz : w.frozen? ⟨g, i, none⟩ = false) (hv : ((q.named nm).go 1 0).2.1 < 256) (hgF : ¬ F g) (hgc : g ≠ cb) (hgl : 9 ≤ g) (hR : Rus enU8 w K rx E rs) (hK : ∀ k, K k → ¬ F k ∧ k ≠ g) (hn : rs.length < 9223372036854775808) :
  Calls Tryz.prog 148 #[.pointer (some ⟨cb, 0, none⟩), .string nm, .pointer (some ⟨g, i, none⟩), .int .i64 m, rx] w fun e w' => e = .returned (.tuple #[]) ∧ ∃ F', Cd w' cb b F' (.rd (((q.named nm).go 1 0).1.failN (fb rs ((q.named nm).go 1 0).2.1))) E ∧ w'.cell? ⟨g, i, none⟩ = some (.int .u8 (((q.named nm).go 1 0).2.1 : Nat)) ∧ Stp w w' F F' (fun k j => k = g ∧ j = i) := by
 have hc0 : w.cell? ⟨cb, 0, none⟩ = some (.pointer none) := h.c0
 have hc1 : w.cell? ⟨cb, 1, none⟩ = some (.pointer (some ⟨b, 0, none⟩)) := h.c1
 have hst : R w b F (q.rst E) ∧ q.ok ∧ q.all.length ≤ 140737488355328 := h.st
 have H := hid (And.intro h (And.intro hR (And.intro hK hst)))
 clear h hR hK hst
 obtain ⟨xo, xc, rfl⟩ := (uh H).2.1.form
 go_enter Tryz.func148, Tryz.ntmps148
 go_wp2_with fail
 refine (rName_step q nm b F E w (uh H).2.2.2.1).mono ?_
 rintro e w1 ⟨rfl, hR1, hch1⟩
 have hc1' : w1.cell? ⟨cb, 1, none⟩ = some (.pointer (some ⟨b, 0, none⟩)) := (hch1.fr.cell (p := ⟨cb, 1, none⟩) (ltC hc1) (uh H).1.nf).trans hc1
 have hp1 : w1.cell? ⟨g, i, none⟩ = some old := (hch1.fr.cell (p := ⟨g, i, none⟩) (ltC hp) hgF).trans hp
 have fz1 : w1.frozen? ⟨g, i, none⟩ = false := (hch1.fr.frozen (p := ⟨g, i, none⟩) (ltC hp) hgF).trans fz
 have H1 := hid (And.intro hR1 hch1)
 clear hR1 hch1
 go_wp2_with fail
 refine (read_u8 (q.named nm) m g i old b F E w1  hp1 fz1 hgF ((uh H).1.g7.fr (uh H1).2.fr (uh H).1.lo) (uh H1).1).mono ?_
 rintro e w2 ⟨rfl, F2, hR2, hp2, hs2⟩
 have hs12 : Stp w w2 F F2 (fun k j => k = g ∧ j = i) := (Stp.of_ch (uh H1).2 _).trans hs2 (fun _ _ _ h => h)
 have hlc := ltC hc1
 have hc2 : w2.cell? ⟨cb, 1, none⟩ = some (.pointer (some ⟨b, 0, none⟩)) := (hs12.oth cb 1 hlc (uh H).1.nf (fun h => hgc h.1.symm)).trans hc1
 have hRu := (uh H).2.1.mono hs12.size (fun k hk => hs12.block ((uh H).2.1.lt k hk) ((uh H).2.2.1 k hk).1 (fun j h => ((uh H).2.2.1 k hk).2 h.1))
 have hS0 : Fr (fun _ => False) w2 w2 := Fr.refl _ _
 have hP2 : PR cb b g i (.int .u8 (((q.named nm).go 1 0).2.1 : Nat)) w2 := ⟨hc2, hp2⟩
 have hncb := hs12.nF hlc (uh H).1.nf
 have hng := hs12.nF (ltC hp) hgF
 have H2 := hid (And.intro hR2 (And.intro hs12 (And.intro hRu (And.intro hP2 (And.intro hncb hng)))))
 clear hR2 hs2 hs12 hRu hP2 hncb hng
 go_wp2_with fail
 go_region_held3 (fun w' => PR cb b g i (.int .u8 (((q.named nm).go 1 0).2.1 : Nat)) w') (first | assumption | exact ⟨hc2, hp2⟩ | (refine ⟨?_, ?_⟩ <;> (simp only [World.cell?_drew, World.cell?_drewN] at *; assumption))) (first
  | (go_at_call 168; refine (fbr_u8 K _ _ E rs ((q.named nm).go 1 0).2.1 cb b g i w2 _ (by first | assumption | exact Fr.drew (by assumption)) (uh H2).2.2.1 ⟨rfl, hv⟩ (uh H2).2.2.2.1 hn).mono ?_; rintro e w3 ⟨rfl, hS3, hP3⟩)
  | (go_at_call 171; refine (rfail_S _ _ cb b g i _ F2 E w2 _ (by first | assumption | exact Fr.drew (by assumption)) (uh H2).1 (uh H2).2.2.2.1 (uh H2).2.2.2.2.1 (uh H2).2.2.2.2.2).mono ?_; rintro e w4 ⟨rfl, hS4, hP4⟩))
 obtain ⟨F4, hR4, hch4⟩ := hS4
 have hp4 := hP4.2
 have H4 := hid (And.intro hR4 hch4)
 clear hR4 hch4 hS3 hP3 hP4
 go_wp2_with fail
 first | go_end0 | ((try simp only [Exit.inBlock, Exit.then]); refine bodyPost_ret (results_none rfl _ _ _) rfl ?_)
 have hs4 : Stp w w4 F F4 (fun k j => k = g ∧ j = i) := (uh H2).2.1.trans (Stp.of_ch (uh H4).2 _) (fun _ _ _ h => h)
 refine ⟨rfl, F4, (uh H).1.rd_step (uh H4).1 hs4 (fun k j h => by rw [h.1]; exact ⟨hgl, hgc⟩) (Q.failN_ok (Q.go_ok (Q.named_ok (uh H).2.2.2.2.1 nm) _ _) _ ((uh H).2.1.le _)) ?_, hp4, hs4⟩
 rw [Q.failN_all, Q.go_all]
 rfl
set_option maxRecDepth 100000 in
theorem part_u32_r (q : Q) (nm : ByteArray) (rs : List (Nat → Nat)) (old : Value) (m : Int) (cb b g i : Nat) (F K : Nat → Prop) (E : Nat → Addr) (rx : Value) (w : World) (h : Cd w cb b F (.rd q) E) (hp : w.cell? ⟨g, i, none⟩ = some old) (fz : w.frozen? ⟨g, i, none⟩ = false) (hv : ((q.named nm).go 4 0).2.1 < 4294967296) (hgF : ¬ F g) (hgc : g ≠ cb) (hgl : 9 ≤ g) (hR : Rus enU32 w K rx E rs) (hK : ∀ k, K k → ¬ F k ∧ k ≠ g) (hn : rs.length < 9223372036854775808) :
  Calls Tryz.prog 150 #[.pointer (some ⟨cb, 0, none⟩), .string nm, .pointer (some ⟨g, i, none⟩), .int .i64 m, rx] w fun e w' => e = .returned (.tuple #[]) ∧ ∃ F', Cd w' cb b F' (.rd (((q.named nm).go 4 0).1.failN (fb rs ((q.named nm).go 4 0).2.1))) E ∧ w'.cell? ⟨g, i, none⟩ = some (.int .u32 (((q.named nm).go 4 0).2.1 : Nat)) ∧ Stp w w' F F' (fun k j => k = g ∧ j = i) := by
 have hc0 : w.cell? ⟨cb, 0, none⟩ = some (.pointer none) := h.c0
 have hc1 : w.cell? ⟨cb, 1, none⟩ = some (.pointer (some ⟨b, 0, none⟩)) := h.c1
 have hst : R w b F (q.rst E) ∧ q.ok ∧ q.all.length ≤ 140737488355328 := h.st
 have H := hid (And.intro h (And.intro hR (And.intro hK hst)))
 clear h hR hK hst
 obtain ⟨xo, xc, rfl⟩ := (uh H).2.1.form
 go_enter Tryz.func150, Tryz.ntmps150
 go_wp2_with fail
 refine (rName_step q nm b F E w (uh H).2.2.2.1).mono ?_
 rintro e w1 ⟨rfl, hR1, hch1⟩
 have hc1' : w1.cell? ⟨cb, 1, none⟩ = some (.pointer (some ⟨b, 0, none⟩)) := (hch1.fr.cell (p := ⟨cb, 1, none⟩) (ltC hc1) (uh H).1.nf).trans hc1
 have hp1 : w1.cell? ⟨g, i, none⟩ = some old := (hch1.fr.cell (p := ⟨g, i, none⟩) (ltC hp) hgF).trans hp
 have fz1 : w1.frozen? ⟨g, i, none⟩ = false := (hch1.fr.frozen (p := ⟨g, i, none⟩) (ltC hp) hgF).trans fz
 have H1 := hid (And.intro hR1 hch1)
 clear hR1 hch1
 go_wp2_with fail
 refine (read_u32 (q.named nm) m g i old b F E w1  hp1 fz1 hgF ((uh H).1.g7.fr (uh H1).2.fr (uh H).1.lo) (uh H1).1).mono ?_
 rintro e w2 ⟨rfl, F2, hR2, hp2, hs2⟩
 have hs12 : Stp w w2 F F2 (fun k j => k = g ∧ j = i) := (Stp.of_ch (uh H1).2 _).trans hs2 (fun _ _ _ h => h)
 have hlc := ltC hc1
 have hc2 : w2.cell? ⟨cb, 1, none⟩ = some (.pointer (some ⟨b, 0, none⟩)) := (hs12.oth cb 1 hlc (uh H).1.nf (fun h => hgc h.1.symm)).trans hc1
 have hRu := (uh H).2.1.mono hs12.size (fun k hk => hs12.block ((uh H).2.1.lt k hk) ((uh H).2.2.1 k hk).1 (fun j h => ((uh H).2.2.1 k hk).2 h.1))
 have hS0 : Fr (fun _ => False) w2 w2 := Fr.refl _ _
 have hP2 : PR cb b g i (.int .u32 (((q.named nm).go 4 0).2.1 : Nat)) w2 := ⟨hc2, hp2⟩
 have hncb := hs12.nF hlc (uh H).1.nf
 have hng := hs12.nF (ltC hp) hgF
 have H2 := hid (And.intro hR2 (And.intro hs12 (And.intro hRu (And.intro hP2 (And.intro hncb hng)))))
 clear hR2 hs2 hs12 hRu hP2 hncb hng
 go_wp2_with fail
 go_region_held3 (fun w' => PR cb b g i (.int .u32 (((q.named nm).go 4 0).2.1 : Nat)) w') (first | assumption | exact ⟨hc2, hp2⟩ | (refine ⟨?_, ?_⟩ <;> (simp only [World.cell?_drew, World.cell?_drewN] at *; assumption))) (first
  | (go_at_call 172; refine (fbr_u32 K _ _ E rs ((q.named nm).go 4 0).2.1 cb b g i w2 _ (by first | assumption | exact Fr.drew (by assumption)) (uh H2).2.2.1 ⟨rfl, hv⟩ (uh H2).2.2.2.1 hn).mono ?_; rintro e w3 ⟨rfl, hS3, hP3⟩)
  | (go_at_call 171; refine (rfail_S _ _ cb b g i _ F2 E w2 _ (by first | assumption | exact Fr.drew (by assumption)) (uh H2).1 (uh H2).2.2.2.1 (uh H2).2.2.2.2.1 (uh H2).2.2.2.2.2).mono ?_; rintro e w4 ⟨rfl, hS4, hP4⟩))
 obtain ⟨F4, hR4, hch4⟩ := hS4
 have hp4 := hP4.2
 have H4 := hid (And.intro hR4 hch4)
 clear hR4 hch4 hS3 hP3 hP4
 go_wp2_with fail
 first | go_end0 | ((try simp only [Exit.inBlock, Exit.then]); refine bodyPost_ret (results_none rfl _ _ _) rfl ?_)
 have hs4 : Stp w w4 F F4 (fun k j => k = g ∧ j = i) := (uh H2).2.1.trans (Stp.of_ch (uh H4).2 _) (fun _ _ _ h => h)
 refine ⟨rfl, F4, (uh H).1.rd_step (uh H4).1 hs4 (fun k j h => by rw [h.1]; exact ⟨hgl, hgc⟩) (Q.failN_ok (Q.go_ok (Q.named_ok (uh H).2.2.2.2.1 nm) _ _) _ ((uh H).2.1.le _)) ?_, hp4, hs4⟩
 rw [Q.failN_all, Q.go_all]
 rfl
set_option maxRecDepth 100000 in
theorem part_f32_r (q : Q) (nm : ByteArray) (rs : List (Nat → Nat)) (old : Value) (m : Int) (cb b g i : Nat) (F K : Nat → Prop) (E : Nat → Addr) (rx : Value) (w : World) (h : Cd w cb b F (.rd q) E) (hp : w.cell? ⟨g, i, none⟩ = some old) (fz : w.frozen? ⟨g, i, none⟩ = false) (hv : ((q.named nm).go 5 0).2.1 < 4294967296) (hgF : ¬ F g) (hgc : g ≠ cb) (hgl : 9 ≤ g) (hR : Rus enF32 w K rx E rs) (hK : ∀ k, K k → ¬ F k ∧ k ≠ g) (hn : rs.length < 9223372036854775808) :
  Calls Tryz.prog 199 #[.pointer (some ⟨cb, 0, none⟩), .string nm, .pointer (some ⟨g, i, none⟩), .int .i64 m, rx] w fun e w' => e = .returned (.tuple #[]) ∧ ∃ F', Cd w' cb b F' (.rd (((q.named nm).go 5 0).1.failN (fb rs ((q.named nm).go 5 0).2.1))) E ∧ w'.cell? ⟨g, i, none⟩ = some (.float .f32 ((q.named nm).go 5 0).2.1) ∧ Stp w w' F F' (fun k j => k = g ∧ j = i) := by
 have hc0 : w.cell? ⟨cb, 0, none⟩ = some (.pointer none) := h.c0
 have hc1 : w.cell? ⟨cb, 1, none⟩ = some (.pointer (some ⟨b, 0, none⟩)) := h.c1
 have hst : R w b F (q.rst E) ∧ q.ok ∧ q.all.length ≤ 140737488355328 := h.st
 have H := hid (And.intro h (And.intro hR (And.intro hK hst)))
 clear h hR hK hst
 obtain ⟨xo, xc, rfl⟩ := (uh H).2.1.form
 go_enter Tryz.func199, Tryz.ntmps199
 go_wp2_with fail
 refine (rName_step q nm b F E w (uh H).2.2.2.1).mono ?_
 rintro e w1 ⟨rfl, hR1, hch1⟩
 have hc1' : w1.cell? ⟨cb, 1, none⟩ = some (.pointer (some ⟨b, 0, none⟩)) := (hch1.fr.cell (p := ⟨cb, 1, none⟩) (ltC hc1) (uh H).1.nf).trans hc1
 have hp1 : w1.cell? ⟨g, i, none⟩ = some old := (hch1.fr.cell (p := ⟨g, i, none⟩) (ltC hp) hgF).trans hp
 have fz1 : w1.frozen? ⟨g, i, none⟩ = false := (hch1.fr.frozen (p := ⟨g, i, none⟩) (ltC hp) hgF).trans fz
 have H1 := hid (And.intro hR1 hch1)
 clear hR1 hch1
 go_wp2_with fail
 refine (read_f32 (q.named nm) m g i old b F E w1  hp1 fz1 hgF ((uh H).1.g7.fr (uh H1).2.fr (uh H).1.lo) (uh H1).1).mono ?_
 rintro e w2 ⟨rfl, F2, hR2, hp2, hs2⟩
 have hs12 : Stp w w2 F F2 (fun k j => k = g ∧ j = i) := (Stp.of_ch (uh H1).2 _).trans hs2 (fun _ _ _ h => h)
 have hlc := ltC hc1
 have hc2 : w2.cell? ⟨cb, 1, none⟩ = some (.pointer (some ⟨b, 0, none⟩)) := (hs12.oth cb 1 hlc (uh H).1.nf (fun h => hgc h.1.symm)).trans hc1
 have hRu := (uh H).2.1.mono hs12.size (fun k hk => hs12.block ((uh H).2.1.lt k hk) ((uh H).2.2.1 k hk).1 (fun j h => ((uh H).2.2.1 k hk).2 h.1))
 have hS0 : Fr (fun _ => False) w2 w2 := Fr.refl _ _
 have hP2 : PR cb b g i (.float .f32 ((q.named nm).go 5 0).2.1) w2 := ⟨hc2, hp2⟩
 have hncb := hs12.nF hlc (uh H).1.nf
 have hng := hs12.nF (ltC hp) hgF
 have H2 := hid (And.intro hR2 (And.intro hs12 (And.intro hRu (And.intro hP2 (And.intro hncb hng)))))
 clear hR2 hs2 hs12 hRu hP2 hncb hng
 go_wp2_with fail
 go_region_held3 (fun w' => PR cb b g i (.float .f32 ((q.named nm).go 5 0).2.1) w') (first | assumption | exact ⟨hc2, hp2⟩ | (refine ⟨?_, ?_⟩ <;> (simp only [World.cell?_drew, World.cell?_drewN] at *; assumption))) (first
  | (go_at_call 226; refine (fbr_f32 K _ _ E rs ((q.named nm).go 5 0).2.1 cb b g i w2 _ (by first | assumption | exact Fr.drew (by assumption)) (uh H2).2.2.1 ⟨rfl, hv⟩ (uh H2).2.2.2.1 hn).mono ?_; rintro e w3 ⟨rfl, hS3, hP3⟩)
  | (go_at_call 171; refine (rfail_S _ _ cb b g i _ F2 E w2 _ (by first | assumption | exact Fr.drew (by assumption)) (uh H2).1 (uh H2).2.2.2.1 (uh H2).2.2.2.2.1 (uh H2).2.2.2.2.2).mono ?_; rintro e w4 ⟨rfl, hS4, hP4⟩))
 obtain ⟨F4, hR4, hch4⟩ := hS4
 have hp4 := hP4.2
 have H4 := hid (And.intro hR4 hch4)
 clear hR4 hch4 hS3 hP3 hP4
 go_wp2_with fail
 first | go_end0 | ((try simp only [Exit.inBlock, Exit.then]); refine bodyPost_ret (results_none rfl _ _ _) rfl ?_)
 have hs4 : Stp w w4 F F4 (fun k j => k = g ∧ j = i) := (uh H2).2.1.trans (Stp.of_ch (uh H4).2 _) (fun _ _ _ h => h)
 refine ⟨rfl, F4, (uh H).1.rd_step (uh H4).1 hs4 (fun k j h => by rw [h.1]; exact ⟨hgl, hgc⟩) (Q.failN_ok (Q.go_ok (Q.named_ok (uh H).2.2.2.2.1 nm) _ _) _ ((uh H).2.1.le _)) ?_, hp4, hs4⟩
 rw [Q.failN_all, Q.go_all]
 rfl
set_option maxRecDepth 100000 in
theorem part_str_r (q : Q) (nm : ByteArray) (rs : List (ByteArray → Nat)) (old : Value) (m : Int) (cb b g i : Nat) (F K : Nat → Prop) (E : Nat → Addr) (rx : Value) (w : World) (h : Cd w cb b F (.rd q) E) (hp : w.cell? ⟨g, i, none⟩ = some old) (fz : w.frozen? ⟨g, i, none⟩ = false) (hm : m < 9223372036854775808) (hgF : ¬ F g) (hgc : g ≠ cb) (hgl : 9 ≤ g) (hR : Rus enStr w K rx E rs) (hK : ∀ k, K k → ¬ F k ∧ k ≠ g) (hn : rs.length < 9223372036854775808) :
  Calls Tryz.prog 157 #[.pointer (some ⟨cb, 0, none⟩), .string nm, .pointer (some ⟨g, i, none⟩), .int .i64 m, rx] w fun e w' => e = .returned (.tuple #[]) ∧ ∃ F', Cd w' cb b F' (.rd (((q.named nm).go 6 m).1.failN (fb rs (strOf ((q.named nm).go 6 m).2.2)))) E ∧ w'.cell? ⟨g, i, none⟩ = some (.string (strOf ((q.named nm).go 6 m).2.2)) ∧ Stp w w' F F' (fun k j => k = g ∧ j = i) := by
 have hc0 : w.cell? ⟨cb, 0, none⟩ = some (.pointer none) := h.c0
 have hc1 : w.cell? ⟨cb, 1, none⟩ = some (.pointer (some ⟨b, 0, none⟩)) := h.c1
 have hst : R w b F (q.rst E) ∧ q.ok ∧ q.all.length ≤ 140737488355328 := h.st
 have H := hid (And.intro h (And.intro hR (And.intro hK hst)))
 clear h hR hK hst
 obtain ⟨xo, xc, rfl⟩ := (uh H).2.1.form
 go_enter Tryz.func157, Tryz.ntmps157
 go_wp2_with fail
 refine (rName_step q nm b F E w (uh H).2.2.2.1).mono ?_
 rintro e w1 ⟨rfl, hR1, hch1⟩
 have hc1' : w1.cell? ⟨cb, 1, none⟩ = some (.pointer (some ⟨b, 0, none⟩)) := (hch1.fr.cell (p := ⟨cb, 1, none⟩) (ltC hc1) (uh H).1.nf).trans hc1
 have hp1 : w1.cell? ⟨g, i, none⟩ = some old := (hch1.fr.cell (p := ⟨g, i, none⟩) (ltC hp) hgF).trans hp
 have fz1 : w1.frozen? ⟨g, i, none⟩ = false := (hch1.fr.frozen (p := ⟨g, i, none⟩) (ltC hp) hgF).trans fz
 have H1 := hid (And.intro hR1 hch1)
 clear hR1 hch1
 go_wp2_with fail
 refine (read_str (q.named nm) m g i old b F E w1 hm hp1 fz1 hgF ((uh H).1.g7.fr (uh H1).2.fr (uh H).1.lo) (uh H1).1).mono ?_
 rintro e w2 ⟨rfl, F2, hR2, hp2, hs2⟩
 have hs12 : Stp w w2 F F2 (fun k j => k = g ∧ j = i) := (Stp.of_ch (uh H1).2 _).trans hs2 (fun _ _ _ h => h)
 have hlc := ltC hc1
 have hc2 : w2.cell? ⟨cb, 1, none⟩ = some (.pointer (some ⟨b, 0, none⟩)) := (hs12.oth cb 1 hlc (uh H).1.nf (fun h => hgc h.1.symm)).trans hc1
 have hRu := (uh H).2.1.mono hs12.size (fun k hk => hs12.block ((uh H).2.1.lt k hk) ((uh H).2.2.1 k hk).1 (fun j h => ((uh H).2.2.1 k hk).2 h.1))
 have hS0 : Fr (fun _ => False) w2 w2 := Fr.refl _ _
 have hP2 : PR cb b g i (.string (strOf ((q.named nm).go 6 m).2.2)) w2 := ⟨hc2, hp2⟩
 have hncb := hs12.nF hlc (uh H).1.nf
 have hng := hs12.nF (ltC hp) hgF
 have H2 := hid (And.intro hR2 (And.intro hs12 (And.intro hRu (And.intro hP2 (And.intro hncb hng)))))
 clear hR2 hs2 hs12 hRu hP2 hncb hng
 go_wp2_with fail
 go_region_held3 (fun w' => PR cb b g i (.string (strOf ((q.named nm).go 6 m).2.2)) w') (first | assumption | exact ⟨hc2, hp2⟩ | (refine ⟨?_, ?_⟩ <;> (simp only [World.cell?_drew, World.cell?_drewN] at *; assumption))) (first
  | (go_at_call 177; refine (fbr_str K _ _ E rs (strOf ((q.named nm).go 6 m).2.2) cb b g i w2 _ (by first | assumption | exact Fr.drew (by assumption)) (uh H2).2.2.1 rfl (uh H2).2.2.2.1 hn).mono ?_; rintro e w3 ⟨rfl, hS3, hP3⟩)
  | (go_at_call 171; refine (rfail_S _ _ cb b g i _ F2 E w2 _ (by first | assumption | exact Fr.drew (by assumption)) (uh H2).1 (uh H2).2.2.2.1 (uh H2).2.2.2.2.1 (uh H2).2.2.2.2.2).mono ?_; rintro e w4 ⟨rfl, hS4, hP4⟩))
 obtain ⟨F4, hR4, hch4⟩ := hS4
 have hp4 := hP4.2
 have H4 := hid (And.intro hR4 hch4)
 clear hR4 hch4 hS3 hP3 hP4
 go_wp2_with fail
 first | go_end0 | ((try simp only [Exit.inBlock, Exit.then]); refine bodyPost_ret (results_none rfl _ _ _) rfl ?_)
 have hs4 : Stp w w4 F F4 (fun k j => k = g ∧ j = i) := (uh H2).2.1.trans (Stp.of_ch (uh H4).2 _) (fun _ _ _ h => h)
 refine ⟨rfl, F4, (uh H).1.rd_step (uh H4).1 hs4 (fun k j h => by rw [h.1]; exact ⟨hgl, hgc⟩) (Q.failN_ok (Q.go_ok (Q.named_ok (uh H).2.2.2.2.1 nm) _ _) _ ((uh H).2.1.le _)) ?_, hp4, hs4⟩
 rw [Q.failN_all, Q.go_all]
 rfl
set_option maxRecDepth 100000 in
theorem part_int_r (q : Q) (nm : ByteArray) (rs : List (Int → Nat)) (old : Value) (m : Int) (cb b g i : Nat) (F K : Nat → Prop) (E : Nat → Addr) (rx : Value) (w : World) (h : Cd w cb b F (.rd q) E) (hp : w.cell? ⟨g, i, none⟩ = some old) (fz : w.frozen? ⟨g, i, none⟩ = false) (hm : m < 9223372036854775808) (hgF : ¬ F g) (hgc : g ≠ cb) (hgl : 9 ≤ g) (hR : Rus enInt w K rx E rs) (hK : ∀ k, K k → ¬ F k ∧ k ≠ g) (hn : rs.length < 9223372036854775808) :
  Calls Tryz.prog 159 #[.pointer (some ⟨cb, 0, none⟩), .string nm, .pointer (some ⟨g, i, none⟩), .int .i64 m, rx] w fun e w' => e = .returned (.tuple #[]) ∧ ∃ F', Cd w' cb b F' (.rd (((q.named nm).go 7 m).1.failN (fb rs (((q.named nm).go 7 m).2.1 : Int)))) E ∧ w'.cell? ⟨g, i, none⟩ = some (.int .i64 (((q.named nm).go 7 m).2.1 : Nat)) ∧ Stp w w' F F' (fun k j => k = g ∧ j = i) := by
 have hc0 : w.cell? ⟨cb, 0, none⟩ = some (.pointer none) := h.c0
 have hc1 : w.cell? ⟨cb, 1, none⟩ = some (.pointer (some ⟨b, 0, none⟩)) := h.c1
 have hst : R w b F (q.rst E) ∧ q.ok ∧ q.all.length ≤ 140737488355328 := h.st
 have H := hid (And.intro h (And.intro hR (And.intro hK hst)))
 clear h hR hK hst
 obtain ⟨xo, xc, rfl⟩ := (uh H).2.1.form
 go_enter Tryz.func159, Tryz.ntmps159
 go_wp2_with fail
 refine (rName_step q nm b F E w (uh H).2.2.2.1).mono ?_
 rintro e w1 ⟨rfl, hR1, hch1⟩
 have hc1' : w1.cell? ⟨cb, 1, none⟩ = some (.pointer (some ⟨b, 0, none⟩)) := (hch1.fr.cell (p := ⟨cb, 1, none⟩) (ltC hc1) (uh H).1.nf).trans hc1
 have hp1 : w1.cell? ⟨g, i, none⟩ = some old := (hch1.fr.cell (p := ⟨g, i, none⟩) (ltC hp) hgF).trans hp
 have fz1 : w1.frozen? ⟨g, i, none⟩ = false := (hch1.fr.frozen (p := ⟨g, i, none⟩) (ltC hp) hgF).trans fz
 have H1 := hid (And.intro hR1 hch1)
 clear hR1 hch1
 go_wp2_with fail
 refine (read_int (q.named nm) m g i old b F E w1 hm hp1 fz1 hgF ((uh H).1.g7.fr (uh H1).2.fr (uh H).1.lo) (uh H1).1).mono ?_
 rintro e w2 ⟨rfl, F2, hR2, hp2, hs2⟩
 have hs12 : Stp w w2 F F2 (fun k j => k = g ∧ j = i) := (Stp.of_ch (uh H1).2 _).trans hs2 (fun _ _ _ h => h)
 have hlc := ltC hc1
 have hc2 : w2.cell? ⟨cb, 1, none⟩ = some (.pointer (some ⟨b, 0, none⟩)) := (hs12.oth cb 1 hlc (uh H).1.nf (fun h => hgc h.1.symm)).trans hc1
 have hRu := (uh H).2.1.mono hs12.size (fun k hk => hs12.block ((uh H).2.1.lt k hk) ((uh H).2.2.1 k hk).1 (fun j h => ((uh H).2.2.1 k hk).2 h.1))
 have hS0 : Fr (fun _ => False) w2 w2 := Fr.refl _ _
 have hP2 : PR cb b g i (.int .i64 (((q.named nm).go 7 m).2.1 : Nat)) w2 := ⟨hc2, hp2⟩
 have hncb := hs12.nF hlc (uh H).1.nf
 have hng := hs12.nF (ltC hp) hgF
 have H2 := hid (And.intro hR2 (And.intro hs12 (And.intro hRu (And.intro hP2 (And.intro hncb hng)))))
 clear hR2 hs2 hs12 hRu hP2 hncb hng
 go_wp2_with fail
 go_region_held3 (fun w' => PR cb b g i (.int .i64 (((q.named nm).go 7 m).2.1 : Nat)) w') (first | assumption | exact ⟨hc2, hp2⟩ | (refine ⟨?_, ?_⟩ <;> (simp only [World.cell?_drew, World.cell?_drewN] at *; assumption))) (first
  | (go_at_call 179; refine (fbr_int K _ _ E rs (((q.named nm).go 7 m).2.1 : Int) cb b g i w2 _ (by first | assumption | exact Fr.drew (by assumption)) (uh H2).2.2.1 rfl (uh H2).2.2.2.1 hn).mono ?_; rintro e w3 ⟨rfl, hS3, hP3⟩)
  | (go_at_call 171; refine (rfail_S _ _ cb b g i _ F2 E w2 _ (by first | assumption | exact Fr.drew (by assumption)) (uh H2).1 (uh H2).2.2.2.1 (uh H2).2.2.2.2.1 (uh H2).2.2.2.2.2).mono ?_; rintro e w4 ⟨rfl, hS4, hP4⟩))
 obtain ⟨F4, hR4, hch4⟩ := hS4
 have hp4 := hP4.2
 have H4 := hid (And.intro hR4 hch4)
 clear hR4 hch4 hS3 hP3 hP4
 go_wp2_with fail
 first | go_end0 | ((try simp only [Exit.inBlock, Exit.then]); refine bodyPost_ret (results_none rfl _ _ _) rfl ?_)
 have hs4 : Stp w w4 F F4 (fun k j => k = g ∧ j = i) := (uh H2).2.1.trans (Stp.of_ch (uh H4).2 _) (fun _ _ _ h => h)
 refine ⟨rfl, F4, (uh H).1.rd_step (uh H4).1 hs4 (fun k j h => by rw [h.1]; exact ⟨hgl, hgc⟩) (Q.failN_ok (Q.go_ok (Q.named_ok (uh H).2.2.2.2.1 nm) _ _) _ ((uh H).2.1.le _)) ?_, hp4, hs4⟩
 rw [Q.failN_all, Q.go_all]
 rfl
set_option maxRecDepth 100000 in
theorem part_byt_r (q : Q) (nm : ByteArray) (rs : List (List Nat → Nat)) (old : Value) (m : Int) (cb b g i : Nat) (F K : Nat → Prop) (E : Nat → Addr) (rx : Value) (w : World) (h : Cd w cb b F (.rd q) E) (hp : w.cell? ⟨g, i, none⟩ = some old) (fz : w.frozen? ⟨g, i, none⟩ = false) (hm : m < 9223372036854775808) (hgF : ¬ F g) (hgc : g ≠ cb) (hgl : 9 ≤ g) (hR : Rus enByt w K rx E rs) (hK : ∀ k, K k → ¬ F k ∧ k ≠ g) (hn : rs.length < 9223372036854775808) :
  Calls Tryz.prog 160 #[.pointer (some ⟨cb, 0, none⟩), .string nm, .pointer (some ⟨g, i, none⟩), .int .i64 m, rx] w fun e w' => e = .returned (.tuple #[]) ∧ ∃ F' ao cap, Cd w' cb b F' (.rd (((q.named nm).go 6 m).1.failN (fb rs ((q.named nm).go 6 m).2.2))) E ∧ w'.cell? ⟨g, i, none⟩ = some (.slice ao ((q.named nm).go 6 m).2.2.length cap) ∧ w'.ownsRow w.heap.size 5 1 (.slice ao ((q.named nm).go 6 m).2.2.length cap) ((q.named nm).go 6 m).2.2.length (cellsOf ((q.named nm).go 6 m).2.2) ∧ (∀ k, (Value.slice ao ((q.named nm).go 6 m).2.2.length cap).ownBlock = some k → ¬ F' k) ∧ Stp w w' F F' (fun k j => k = g ∧ j = i) := by
 have hc0 : w.cell? ⟨cb, 0, none⟩ = some (.pointer none) := h.c0
 have hc1 : w.cell? ⟨cb, 1, none⟩ = some (.pointer (some ⟨b, 0, none⟩)) := h.c1
 have hst : R w b F (q.rst E) ∧ q.ok ∧ q.all.length ≤ 140737488355328 := h.st
 have H := hid (And.intro h (And.intro hR (And.intro hK hst)))
 clear h hR hK hst
 obtain ⟨xo, xc, rfl⟩ := (uh H).2.1.form
 go_enter Tryz.func160, Tryz.ntmps160
 go_wp2_with fail
 refine (rName_step q nm b F E w (uh H).2.2.2.1).mono ?_
 rintro e w1 ⟨rfl, hR1, hch1⟩
 have hc1' : w1.cell? ⟨cb, 1, none⟩ = some (.pointer (some ⟨b, 0, none⟩)) := (hch1.fr.cell (p := ⟨cb, 1, none⟩) (ltC hc1) (uh H).1.nf).trans hc1
 have hp1 : w1.cell? ⟨g, i, none⟩ = some old := (hch1.fr.cell (p := ⟨g, i, none⟩) (ltC hp) hgF).trans hp
 have fz1 : w1.frozen? ⟨g, i, none⟩ = false := (hch1.fr.frozen (p := ⟨g, i, none⟩) (ltC hp) hgF).trans fz
 have H1 := hid (And.intro hR1 hch1)
 clear hR1 hch1
 go_wp2_with fail
 refine (read_byt (q.named nm) m g i old b F E w1 hm (uh H).2.2.2.2.2 hp1 fz1 hgF ((uh H).1.g7.fr (uh H1).2.fr (uh H).1.lo) (uh H1).1).mono ?_
 rintro e w2 ⟨rfl, F2, ao, cap, hR2, hp2, hown2, hno2, hs2⟩
 have hs12 : Stp w w2 F F2 (fun k j => k = g ∧ j = i) := (Stp.of_ch (uh H1).2 _).trans hs2 (fun _ _ _ h => h)
 have hlc := ltC hc1
 have hc2 : w2.cell? ⟨cb, 1, none⟩ = some (.pointer (some ⟨b, 0, none⟩)) := (hs12.oth cb 1 hlc (uh H).1.nf (fun h => hgc h.1.symm)).trans hc1
 have hRu := (uh H).2.1.mono hs12.size (fun k hk => hs12.block ((uh H).2.1.lt k hk) ((uh H).2.2.1 k hk).1 (fun j h => ((uh H).2.2.1 k hk).2 h.1))
 have hS0 : Fr (fun _ => False) w2 w2 := Fr.refl _ _
 have hP2 : PR cb b g i (.slice ao ((q.named nm).go 6 m).2.2.length cap) w2 := ⟨hc2, hp2⟩
 have hncb := hs12.nF hlc (uh H).1.nf
 have hng := hs12.nF (ltC hp) hgF
 have hown0 := own_mono hown2 (uh H1).2.fr.size
 have H2 := hid (And.intro hR2 (And.intro hs12 (And.intro hRu (And.intro hP2 (And.intro hncb hng)))))
 have H2b := hid (And.intro hown0 hno2)
 clear hR2 hs2 hs12 hRu hP2 hncb hng hown0 hown2 hno2
 generalize hln : ((q.named nm).go 6 m).2.2.length = ln at *
 go_wp2_with fail
 go_region_held3 (fun w' => PR cb b g i (.slice ao ln cap) w') (first | assumption | exact ⟨hc2, hp2⟩ | (refine ⟨?_, ?_⟩ <;> (simp only [World.cell?_drew, World.cell?_drewN] at *; assumption))) (first
  | (go_at_call 180; refine (fbr_byt K _ _ E rs ((q.named nm).go 6 m).2.2 cb b g i w2 _ (by first | assumption | exact Fr.drew (by assumption)) (uh H2).2.2.1 (by show Src w2 _ _; rw [← hln]; exact own_src (by rw [hln]; exact (uh H2b).1)) (uh H2).2.2.2.1 hn).mono ?_; rintro e w3 ⟨rfl, hS3, hP3⟩)
  | (go_at_call 171; refine (rfail_S _ _ cb b g i _ F2 E w2 _ (by first | assumption | exact Fr.drew (by assumption)) (uh H2).1 (uh H2).2.2.2.1 (uh H2).2.2.2.2.1 (uh H2).2.2.2.2.2).mono ?_; rintro e w4 ⟨rfl, hS4, hP4⟩))
 obtain ⟨F4, hR4, hch4⟩ := hS4
 have hp4 := hP4.2
 have H4 := hid (And.intro hR4 hch4)
 clear hR4 hch4 hS3 hP3 hP4
 go_wp2_with fail
 first | go_end0 | ((try simp only [Exit.inBlock, Exit.then]); refine bodyPost_ret (results_none rfl _ _ _) rfl ?_)
 have hs4 : Stp w w4 F F4 (fun k j => k = g ∧ j = i) := (uh H2).2.1.trans (Stp.of_ch (uh H4).2 _) (fun _ _ _ h => h)
 subst hln
 have hlt2 : ∀ k, (Value.slice ao ((q.named nm).go 6 m).2.2.length cap).ownBlock = some k → k < w2.heap.size := fun k hk => ((uh H2b).1.lt k hk).2
 refine ⟨rfl, F4, ao, cap, (uh H).1.rd_step (uh H4).1 hs4 (fun k j h => by rw [h.1]; exact ⟨hgl, hgc⟩) (Q.failN_ok (Q.go_ok (Q.named_ok (uh H).2.2.2.2.1 nm) _ _) _ ((uh H).2.1.le _)) ?_, hp4, ownsRow_of_block (uh H2b).1 (fun k hk => (uh H4).2.fr.block k (hlt2 k hk) ((uh H2b).2 k hk)), fun k hk hx => ?_, hs4⟩
 ·rw [Q.failN_all, Q.go_all]
  rfl
 ·have h1 := hlt2 k hk
  rcases (uh H4).2.new k hx with h2 | h2
  ·exact (uh H2b).2 k hk h2
  ·omega
theorem Q.go_lt (q : Q) (k m : Int) : (q.go k m).2.1 < 256 ^ wid k := by
  have hp : 0 < 256 ^ wid k := Nat.pow_pos (by decide)
  unfold Q.go Q.step
  repeat' split
  all_goals first
    | exact hp
    | (simp only [Q.num]
       refine Nat.lt_of_lt_of_le (val_lt _) (Nat.pow_le_pow_right (by decide) ?_)
       rw [List.length_take]
       exact Nat.min_le_left _ _)
theorem CS.pU8_lt (c : CS) (nm : ByteArray) (rs : List (Nat → Nat)) (v : Nat) (hv : v < 256) : (c.pU8 nm rs v).2 < 256 := by
  cases c with
  | wr s => exact hv
  | rd q => exact (q.named nm).go_lt 1 0
theorem CS.pU32_lt (c : CS) (nm : ByteArray) (rs : List (Nat → Nat)) (v : Nat) (hv : v < 4294967296) : (c.pU32 nm rs v).2 < 4294967296 := by
  cases c with
  | wr s => exact hv
  | rd q => exact (q.named nm).go_lt 4 0
theorem CS.pF32_lt (c : CS) (nm : ByteArray) (rs : List (Nat → Nat)) (v : Nat) (hv : v < 4294967296) : (c.pF32 nm rs v).2 < 4294967296 := by
  cases c with
  | wr s => exact hv
  | rd q => exact (q.named nm).go_lt 5 0
theorem strOf_size (l : List Nat) : (strOf l).size = l.length := by simp [strOf, ByteArray.size]
theorem CS.pStr_lt {w : World} {cb b : Nat} {F : Nat → Prop} {c : CS} {E : Nat → Addr} (h : Cd w cb b F c E) (nm : ByteArray) (m : Int) (rs : List (ByteArray → Nat)) (v : ByteArray) (hv : v.size < 9223372036854775808) : (c.pStr nm m rs v).2.size < 9223372036854775808 := by
  cases c with
  | wr s => exact hv
  | rd q =>
    have h1 := (q.named nm).by_len m
    have h2 : q.all.length ≤ 140737488355328 := (show R w b F (q.rst E) ∧ q.ok ∧ q.all.length ≤ 140737488355328 from h.st).2.2
    simp only [CS.pStr, strOf_size]
    have h3 : (q.named nm).all = q.all := rfl
    rw [h3] at h1
    omega
theorem CS.pByt_lt {w : World} {cb b : Nat} {F : Nat → Prop} {c : CS} {E : Nat → Addr} (h : Cd w cb b F c E) (nm : ByteArray) (m : Int) (rs : List (List Nat → Nat)) (v : List Nat) (hv : v.length < 9223372036854775808) : (c.pByt nm m rs v).2.length < 9223372036854775808 := by
  cases c with
  | wr s => exact hv
  | rd q =>
    have h1 := (q.named nm).by_len m
    have h2 : q.all.length ≤ 140737488355328 := (show R w b F (q.rst E) ∧ q.ok ∧ q.all.length ≤ 140737488355328 from h.st).2.2
    simp only [CS.pByt]
    have h3 : (q.named nm).all = q.all := rfl
    rw [h3] at h1
    omega
structure Loc (w : World) (cb : Nat) (F : Nat → Prop) (g i : Nat) : Prop where
  fz : w.frozen? ⟨g, i, none⟩ = false
  lt : g < w.heap.size
  nF : ¬ F g
  nc : g ≠ cb
  lo : 9 ≤ g
theorem Loc.stp {w w' : World} {cb : Nat} {F F' : Nat → Prop} {P : Nat → Nat → Prop} {g i : Nat} (h : Loc w cb F g i) (hs : Stp w w' F F' P) : Loc w' cb F' g i :=
  ⟨(hs.fz g i h.lt h.nF).trans h.fz, Nat.lt_of_lt_of_le h.lt hs.size, hs.nF h.lt h.nF, h.nc, h.lo⟩
structure RuC {α : Type} (en : World → Value → α → Prop) (w : World) (F : Nat → Prop) (g : Nat) (rx : Value) (E : Nat → Addr) (rs : List (α → Nat)) : Prop where
  ex : ∃ K, Rus en w K rx E rs ∧ (∀ k, K k → ¬ F k ∧ k ≠ g)
  n : rs.length < 9223372036854775808
theorem RuC.nil {α : Type} (en : World → Value → α → Prop) (w : World) (F : Nat → Prop) (g : Nat) (E : Nat → Addr) : RuC en w F g (.slice none 0 0) E ([] : List (α → Nat)) := ⟨⟨_, Rus.nil en w E, fun _ h => h.elim⟩, by simp⟩
theorem part_u8 (c : CS) (nm : ByteArray) (rs : List (Nat → Nat)) (v : Nat) (m : Int) (cb b g i : Nat) (F : Nat → Prop) (E : Nat → Addr) (rx : Value) (w : World) (h : Cd w cb b F c E) (hp : w.cell? ⟨g, i, none⟩ = some (.int .u8 (v : Nat))) (hL : Loc w cb F g i) (hv : v < 256) (hR : RuC enU8 w F g rx E rs) (hroom : c.room 1) :
    Calls Tryz.prog 148 #[.pointer (some ⟨cb, 0, none⟩), .string nm, .pointer (some ⟨g, i, none⟩), .int .i64 m, rx] w fun e w' => e = .returned (.tuple #[]) ∧ ∃ F', Cd w' cb b F' (c.pU8 nm  rs v).1 E ∧ w'.cell? ⟨g, i, none⟩ = some (.int .u8 ((c.pU8 nm rs v).2 : Nat)) ∧ Stp w w' F F' (fun k j => k = g ∧ j = i) := by
  obtain ⟨⟨K, hRu, hK⟩, hn⟩ := hR
  cases c with
  | wr s =>
    refine (part_u8_w s nm rs v m cb b g i F K E rx w h hp hv hL.nF hRu (fun k hk => (hK k hk).1) hn (fun _ => by simp only [CS.room, CS.len] at hroom; omega)).mono ?_
    rintro e w' ⟨rfl, F', hC, hch⟩
    exact ⟨rfl, F', hC, (hch.fr.cell (p := ⟨g, i, none⟩) hL.lt hL.nF).trans hp, Stp.of_ch hch _⟩
  | rd q => exact part_u8_r q nm rs (.int .u8 (v : Nat)) m cb b g i F K E rx w h hp hL.fz ((q.named nm).go_lt 1 0) hL.nF hL.nc hL.lo hRu hK hn
theorem part_u32 (c : CS) (nm : ByteArray) (rs : List (Nat → Nat)) (v : Nat) (m : Int) (cb b g i : Nat) (F : Nat → Prop) (E : Nat → Addr) (rx : Value) (w : World) (h : Cd w cb b F c E) (hp : w.cell? ⟨g, i, none⟩ = some (.int .u32 (v : Nat))) (hL : Loc w cb F g i) (hv : v < 4294967296) (hR : RuC enU32 w F g rx E rs) (hroom : c.room 1) :
    Calls Tryz.prog 150 #[.pointer (some ⟨cb, 0, none⟩), .string nm, .pointer (some ⟨g, i, none⟩), .int .i64 m, rx] w fun e w' => e = .returned (.tuple #[]) ∧ ∃ F', Cd w' cb b F' (c.pU32 nm  rs v).1 E ∧ w'.cell? ⟨g, i, none⟩ = some (.int .u32 ((c.pU32 nm rs v).2 : Nat)) ∧ Stp w w' F F' (fun k j => k = g ∧ j = i) := by
  obtain ⟨⟨K, hRu, hK⟩, hn⟩ := hR
  cases c with
  | wr s =>
    refine (part_u32_w s nm rs v m cb b g i F K E rx w h hp hv hL.nF hRu (fun k hk => (hK k hk).1) hn (fun _ => by simp only [CS.room, CS.len] at hroom; omega)).mono ?_
    rintro e w' ⟨rfl, F', hC, hch⟩
    exact ⟨rfl, F', hC, (hch.fr.cell (p := ⟨g, i, none⟩) hL.lt hL.nF).trans hp, Stp.of_ch hch _⟩
  | rd q => exact part_u32_r q nm rs (.int .u32 (v : Nat)) m cb b g i F K E rx w h hp hL.fz ((q.named nm).go_lt 4 0) hL.nF hL.nc hL.lo hRu hK hn
theorem part_f32 (c : CS) (nm : ByteArray) (rs : List (Nat → Nat)) (v : Nat) (m : Int) (cb b g i : Nat) (F : Nat → Prop) (E : Nat → Addr) (rx : Value) (w : World) (h : Cd w cb b F c E) (hp : w.cell? ⟨g, i, none⟩ = some (.float .f32 v)) (hL : Loc w cb F g i) (hv : v < 4294967296) (hR : RuC enF32 w F g rx E rs) (hroom : c.room 1) :
    Calls Tryz.prog 199 #[.pointer (some ⟨cb, 0, none⟩), .string nm, .pointer (some ⟨g, i, none⟩), .int .i64 m, rx] w fun e w' => e = .returned (.tuple #[]) ∧ ∃ F', Cd w' cb b F' (c.pF32 nm  rs v).1 E ∧ w'.cell? ⟨g, i, none⟩ = some (.float .f32 (c.pF32 nm rs v).2) ∧ Stp w w' F F' (fun k j => k = g ∧ j = i) := by
  obtain ⟨⟨K, hRu, hK⟩, hn⟩ := hR
  cases c with
  | wr s =>
    refine (part_f32_w s nm rs v m cb b g i F K E rx w h hp hv hL.nF hRu (fun k hk => (hK k hk).1) hn (fun _ => by simp only [CS.room, CS.len] at hroom; omega)).mono ?_
    rintro e w' ⟨rfl, F', hC, hch⟩
    exact ⟨rfl, F', hC, (hch.fr.cell (p := ⟨g, i, none⟩) hL.lt hL.nF).trans hp, Stp.of_ch hch _⟩
  | rd q => exact part_f32_r q nm rs (.float .f32 v) m cb b g i F K E rx w h hp hL.fz ((q.named nm).go_lt 5 0) hL.nF hL.nc hL.lo hRu hK hn
theorem part_str (c : CS) (nm : ByteArray) (rs : List (ByteArray → Nat)) (v : ByteArray) (m : Int) (cb b g i : Nat) (F : Nat → Prop) (E : Nat → Addr) (rx : Value) (w : World) (h : Cd w cb b F c E) (hp : w.cell? ⟨g, i, none⟩ = some (.string v)) (hL : Loc w cb F g i) (hv : v.size < 9223372036854775808) (hm : m < 9223372036854775808) (hfit : fb rs v = 0 → v.size ≤ 32768) (hR : RuC enStr w F g rx E rs) (hroom : c.room 1) :
    Calls Tryz.prog 157 #[.pointer (some ⟨cb, 0, none⟩), .string nm, .pointer (some ⟨g, i, none⟩), .int .i64 m, rx] w fun e w' => e = .returned (.tuple #[]) ∧ ∃ F', Cd w' cb b F' (c.pStr nm m rs v).1 E ∧ w'.cell? ⟨g, i, none⟩ = some (.string (c.pStr nm m rs v).2) ∧ Stp w w' F F' (fun k j => k = g ∧ j = i) := by
  obtain ⟨⟨K, hRu, hK⟩, hn⟩ := hR
  cases c with
  | wr s =>
    refine (part_str_w s nm rs v m cb b g i F K E rx w h hp hv hL.nF hRu (fun k hk => (hK k hk).1) hn (fun e => by have := hfit e; simp only [CS.room, CS.len] at hroom; omega)).mono ?_
    rintro e w' ⟨rfl, F', hC, hch⟩
    exact ⟨rfl, F', hC, (hch.fr.cell (p := ⟨g, i, none⟩) hL.lt hL.nF).trans hp, Stp.of_ch hch _⟩
  | rd q => exact part_str_r q nm rs (.string v) m cb b g i F K E rx w h hp hL.fz hm hL.nF hL.nc hL.lo hRu hK hn
theorem part_int (c : CS) (nm : ByteArray) (rs : List (Int → Nat)) (v : Int) (m : Int) (cb b g i : Nat) (F : Nat → Prop) (E : Nat → Addr) (rx : Value) (w : World) (h : Cd w cb b F c E) (hp : w.cell? ⟨g, i, none⟩ = some (.int .i64 v)) (hL : Loc w cb F g i) (hv : v < 9223372036854775808) (hm : m < 9223372036854775808) (hR : RuC enInt w F g rx E rs) (hroom : c.room 1) :
    Calls Tryz.prog 159 #[.pointer (some ⟨cb, 0, none⟩), .string nm, .pointer (some ⟨g, i, none⟩), .int .i64 m, rx] w fun e w' => e = .returned (.tuple #[]) ∧ ∃ F', Cd w' cb b F' (c.pInt nm m rs v).1 E ∧ w'.cell? ⟨g, i, none⟩ = some (.int .i64 (c.pInt nm m rs v).2) ∧ Stp w w' F F' (fun k j => k = g ∧ j = i) := by
  obtain ⟨⟨K, hRu, hK⟩, hn⟩ := hR
  cases c with
  | wr s =>
    refine (part_int_w s nm rs v m cb b g i F K E rx w h hp hv hL.nF hRu (fun k hk => (hK k hk).1) hn (fun _ => by simp only [CS.room, CS.len] at hroom; omega)).mono ?_
    rintro e w' ⟨rfl, F', hC, hch⟩
    exact ⟨rfl, F', hC, (hch.fr.cell (p := ⟨g, i, none⟩) hL.lt hL.nF).trans hp, Stp.of_ch hch _⟩
  | rd q => exact part_int_r q nm rs (.int .i64 v) m cb b g i F K E rx w h hp hL.fz hm hL.nF hL.nc hL.lo hRu hK hn
structure BV (w : World) (x : Value) (l : List Nat) (F : Nat → Prop) : Prop where
  src : Src w x l
  at_ : ∀ g o m c, x = .slice (some ⟨g, o, none⟩) m c → g < w.heap.size ∧ ¬ F g
theorem BV.stp {w w' : World} {x : Value} {l : List Nat} {F F' : Nat → Prop} {P : Nat → Nat → Prop} (h : BV w x l F) (hs : Stp w w' F F' P) (hP : ∀ g o m c, x = .slice (some ⟨g, o, none⟩) m c → ∀ i, ¬ P g i) : BV w' x l F' :=
  ⟨h.src.fr hs.fr (fun g o m c e hx => hx.elim (h.at_ g o m c e).2 (fun ⟨i, hi⟩ => hP g o m c e i hi)), fun g o m c e => ⟨Nat.lt_of_lt_of_le (h.at_ g o m c e).1 hs.size, hs.nF (h.at_ g o m c e).1 (h.at_ g o m c e).2⟩⟩
theorem part_byt (c : CS) (nm : ByteArray) (rs : List (List Nat → Nat)) (x : Value) (v : List Nat) (m : Int) (cb b g i : Nat) (F : Nat → Prop) (E : Nat → Addr) (rx : Value) (w : World) (h : Cd w cb b F c E) (hp : w.cell? ⟨g, i, none⟩ = some x) (hB : BV w x v F) (hL : Loc w cb F g i) (hv : v.length < 9223372036854775808) (hm : m < 9223372036854775808) (hfit : fb rs v = 0 → v.length ≤ 32768) (hR : RuC enByt w F g rx E rs) (hroom : c.room 1) :
    Calls Tryz.prog 160 #[.pointer (some ⟨cb, 0, none⟩), .string nm, .pointer (some ⟨g, i, none⟩), .int .i64 m, rx] w fun e w' => e = .returned (.tuple #[]) ∧ ∃ F' x', Cd w' cb b F' (c.pByt nm m rs v).1 E ∧ w'.cell? ⟨g, i, none⟩ = some x' ∧ (((∃ s, c = .wr s) ∧ x' = x) ∨ w'.ownsRow w.heap.size 5 1 x' (c.pByt nm m rs v).2.length (cellsOf (c.pByt nm m rs v).2)) ∧ (∀ k o m c, x' = .slice (some ⟨k, o, none⟩) m c → ¬ F' k) ∧ Stp w w' F F' (fun k j => k = g ∧ j = i) := by
  obtain ⟨⟨K, hRu, hK⟩, hn⟩ := hR
  cases c with
  | wr s =>
    refine (part_byt_w s nm rs x v m cb b g i F K E rx w h hp hB.src hB.at_ hv hL.nF hRu (fun k hk => (hK k hk).1) hn (fun e => by have := hfit e; simp only [CS.room, CS.len] at hroom; omega)).mono ?_
    rintro e w' ⟨rfl, F', hC, hch⟩
    have hs : Stp w w' F F' (fun k j => k = g ∧ j = i) := Stp.of_ch hch _
    exact ⟨rfl, F', x, hC, (hch.fr.cell (p := ⟨g, i, none⟩) hL.lt hL.nF).trans hp, .inl ⟨⟨s, rfl⟩, rfl⟩, fun k o m c e => hs.nF (hB.at_ k o m c e).1 (hB.at_ k o m c e).2, hs⟩
  | rd q =>
    refine (part_byt_r q nm rs x m cb b g i F K E rx w h hp hL.fz hm hL.nF hL.nc hL.lo hRu hK hn).mono ?_
    rintro e w' ⟨rfl, F', ao, cap, hC, hc, hown, hno, hs⟩
    exact ⟨rfl, F', _, hC, hc, .inr hown, fun k o m c e => hno k (by rw [e]; rfl), hs⟩
def unN (beside : Bool) (_ : Nat) : Nat := if beside then 4 else 0
set_option maxRecDepth 100000 in
theorem unless_clo (bs : Bool) (v : Nat) (E : Nat → Addr) (p0 : Addr) (w : World) (h0 : w.cell? p0 = some (.bool bs)) (g4 : w.cell? ⟨4, 0, none⟩ = some (errV E 4)) :
  Calls Tryz.prog 162 #[.int .u8 (v : Nat), .pointer (some p0)] w fun e w' => e = .returned (errV E (unN bs v)) ∧ Fr (fun _ => False) w w' := by
 cases bs
 all_goals
  go_enter Tryz.func162, Tryz.ntmps162
  go_wp2_with fail
  go_ret
  exact ⟨rfl, Fr.refl _ _⟩
set_option maxRecDepth 100000 in
theorem unless_any (bs : Bool) (E : Nat → Addr) (w : World) (hg : G6 w E) :
  Calls Tryz.prog 144 #[.bool bs] w fun e w' => ∃ fv, e = .returned fv ∧ ∃ K, FnR enU8 w' K fv E (unN bs) ∧ Fr (fun _ => False) w w' ∧ Knew w K := by
 have hmf := mf
 have k4 := hg.k4
 have hl4 := ltC k4
 clear hg
 go_enter Tryz.func144, Tryz.ntmps144
 go_wp2_with fail
 go_ret
 refine ⟨_, rfl, fun k => k = w.heap.size ∨ k = 4, ⟨fun k hk => ?_, fun v => by simp only [unN]; split <;> omega, _, _, rfl, fun _ W => enters Tryz.func162 rfl rfl _ W, ?_⟩, box1 _ _, fun k hk => ?_⟩
 ·simp
  omega
 ·rintro w2 x v hk ⟨rfl, _⟩
  exact unless_clo bs v E _ w2 (cell_of (by simp) (hk _ (.inl rfl))) (cell_of ((box1 w _).cell hl4 (fun h => h) |>.trans k4) (hk _ (.inr rfl)))
 ·rcases hk with rfl | rfl
  ·exact .inl (Nat.le_refl _)
  ·exact .inr (by decide)
def sle (v a : ByteArray) : Bool := Op.bytesLess v.toList a.toList || v.toList == a.toList
theorem leq_str (v a : ByteArray) (w : World) : (binOp .leq 9 (.string v) (.string a)).run Tryz.prog w = .ok (.bool (sle v a)) w := by simp [binOp, Op.stringOp, sle]
def abN (a v : ByteArray) : Nat := if sle v a then 6 else 0
set_option maxRecDepth 100000 in
theorem above_clo (a v : ByteArray) (E : Nat → Addr) (p0 : Addr) (w : World) (h0 : w.cell? p0 = some (.string a)) (g6 : w.cell? ⟨6, 0, none⟩ = some (errV E 6)) :
  Calls Tryz.prog 173 #[.string v, .pointer (some p0)] w fun e w' => e = .returned (errV E (abN a v)) ∧ Fr (fun _ => False) w w' := by
 have hle := leq_str v a
 unfold abN
 generalize sle v a = t at *
 cases t
 all_goals
  go_enter Tryz.func173, Tryz.ntmps173
  go_wp2_with fail
  go_ret
  exact ⟨rfl, Fr.refl _ _⟩
set_option maxRecDepth 100000 in
theorem above_any (a : ByteArray) (E : Nat → Addr) (w : World) (hg : G6 w E) :
  Calls Tryz.prog 154 #[.string a] w fun e w' => ∃ fv, e = .returned fv ∧ ∃ K, FnR enStr w' K fv E (abN a) ∧ Fr (fun _ => False) w w' ∧ Knew w K := by
 have hmf := mf
 have k6 := hg.k6
 have hl6 := ltC k6
 clear hg
 go_enter Tryz.func154, Tryz.ntmps154
 go_wp2_with fail
 go_ret
 refine ⟨_, rfl, fun k => k = w.heap.size ∨ k = 6, ⟨fun k hk => ?_, fun v => by unfold abN; split <;> omega, _, _, rfl, fun _ W => enters Tryz.func173 rfl rfl _ W, ?_⟩, box1 _ _, fun k hk => ?_⟩
 ·simp
  omega
 ·rintro w2 x v hk rfl
  exact above_clo a v E _ w2 (cell_of (by simp) (hk _ (.inl rfl))) (cell_of ((box1 w _).cell hl6 (fun h => h) |>.trans k6) (hk _ (.inr rfl)))
 ·rcases hk with rfl | rfl
  ·exact .inl (Nat.le_refl _)
  ·exact .inr (by decide)
def rsN (hi : Int) (v : ByteArray) : Nat := wiI 0 hi 4 v.size
set_option maxRecDepth 100000 in
theorem reason_clo (hi : Int) (v : ByteArray) (lb : Nat) (E : Nat → Addr) (w : World) (h0 : w.cell? ⟨lb, 5, none⟩ = some (.int .i64 hi)) (g4 : w.cell? ⟨4, 0, none⟩ = some (errV E 4)) :
  Calls Tryz.prog 136 #[.string v, .pointer (some ⟨lb, 0, none⟩)] w fun e w' => e = .returned (errV E (rsN hi v)) ∧ Fr (fun _ => False) w w' := by
 go_enter Tryz.func136, Tryz.ntmps136
 go_wp2_with fail
 refine (within_int 0 hi 4 E w (by decide)).mono ?_
 rintro e w1 ⟨fv, rfl, K, hF, hf, _⟩
 obtain ⟨Fc, caps, rfl, he, hcall⟩ := hF.ex
 have HC := hid (And.intro (hcall w1 (.int .i64 (v.size : Nat)) (v.size : Nat) (fun _ _ => rfl) rfl) hf)
 clear hcall hF hf
 go_wp2_with fail
 refine (uh HC).1.mono ?_
 rintro e w2 ⟨rfl, hf2⟩
 have HX := hid ((uh HC).2.trans hf2 (fun _ _ h => h))
 clear hf2
 go_wp2_with fail
 go_ret
 exact ⟨rfl, uh HX⟩
theorem reason_fn (hi : Int) (lb : Nat) (E : Nat → Addr) (w : World) (h0 : w.cell? ⟨lb, 5, none⟩ = some (.int .i64 hi)) (hg : G6 w E) : FnR enStr w (fun k => k = lb ∨ k = 4) (.func (.func 136) #[] #[.pointer (some ⟨lb, 0, none⟩)]) E (rsN hi) := by
 have hl := ltC h0
 have hl4 := ltC hg.k4
 refine ⟨fun k hk => ?_, fun v => by simp only [rsN, wiI]; split <;> omega, _, _, rfl, fun _ W => enters Tryz.func136 rfl rfl _ W, ?_⟩
 ·rcases hk with rfl | rfl
  ·exact hl
  ·exact hl4
 ·rintro w2 x v hk rfl
  exact reason_clo hi v lb E w2 (cell_of h0 (hk _ (.inl rfl))) (cell_of hg.k4 (hk _ (.inr rfl)))
theorem addr_add (g o j : Nat) : (⟨g, o, none⟩ : Addr).add j = ⟨g, o + j, none⟩ := by unfold Addr.add; split <;> simp_all
theorem Rus.cells {α : Type} {en : World → Value → α → Prop} {w : World} {K : Nat → Prop} {xo : Option Addr} {n c : Nat} {E : Nat → Addr} {rs : List (α → Nat)} (h : Rus en w K (.slice xo n c) E rs) :
  ∃ fvs : List Value, fvs.length = rs.length ∧ (∀ u ∈ fvs, u.oneCell' = true) ∧ (∀ (j : Nat) fv r, fvs[j]? = some fv → rs[j]? = some r → FnR en w K fv E r) ∧ ∀ g o, xo = some ⟨g, o, none⟩ → ∀ (j : Nat) fv, fvs[j]? = some fv → w.cell? ⟨g, o + j, none⟩ = some fv := by
 cases rs with
 | nil => exact ⟨[], rfl, fun u hu => by simp at hu, fun j fv r hf => by simp at hf, fun g o _ j fv hf => by simp at hf⟩
 | cons r0 rs' =>
  obtain ⟨g, o, _, hxo, _, _, _⟩ := h.cell xo n c rfl 0 r0 rfl
  have hc : ∀ (j : Nat) r, (r0 :: rs')[j]? = some r → ∃ fv, w.cell? ⟨g, o + j, none⟩ = some fv ∧ FnR en w K fv E r := fun j r hr => by
   obtain ⟨g', o', fv, h1, _, h3, h4⟩ := h.cell xo n c rfl j r hr
   rw [hxo] at h1
   obtain ⟨rfl, rfl⟩ : g = g' ∧ o = o' := by simpa using h1
   exact ⟨fv, h3, h4⟩
  have hl : ∀ j, j < (r0 :: rs').length → ∃ r fv, (r0 :: rs')[j]? = some r ∧ w.cell? ⟨g, o + j, none⟩ = some fv ∧ FnR en w K fv E r := fun j hj => by
   obtain ⟨fv, h3, h4⟩ := hc j _ (List.getElem?_eq_getElem hj)
   exact ⟨_, fv, List.getElem?_eq_getElem hj, h3, h4⟩
  have key : ∀ (j : Nat) fv, ((List.range (r0 :: rs').length).map fun j => (w.cell? ⟨g, o + j, none⟩).getD .nilIface)[j]? = some fv → j < (r0 :: rs').length ∧ w.cell? ⟨g, o + j, none⟩ = some fv := fun j fv hf => by
   have hj : j < (r0 :: rs').length := by
    have := (List.getElem?_eq_some_iff.1 hf).1
    simpa using this
   rw [List.getElem?_map, List.getElem?_range hj] at hf
   simp only [Option.map_some, Option.some.injEq] at hf
   obtain ⟨r, fv', _, h2, _⟩ := hl j hj
   rw [h2] at hf
   exact ⟨hj, by rw [h2]; simpa using hf⟩
  refine ⟨(List.range (r0 :: rs').length).map fun j => (w.cell? ⟨g, o + j, none⟩).getD .nilIface, by simp, fun u hu => ?_, fun j fv r hf hr => ?_, fun g' o' e j fv hf => ?_⟩
  ·obtain ⟨j, hj⟩ := List.mem_iff_getElem?.1 hu
   obtain ⟨hj1, hj2⟩ := key j u hj
   obtain ⟨r, fv, _, h2, h3⟩ := hl j hj1
   rw [h2] at hj2
   obtain rfl := Option.some.inj hj2
   obtain ⟨Fc, caps, rfl, _⟩ := h3.ex
   rfl
  ·obtain ⟨hj1, hj2⟩ := key j fv hf
   obtain ⟨fv', h3, h4⟩ := hc j r hr
   rw [h3] at hj2
   obtain rfl := Option.some.inj hj2
   exact h4
  ·rw [hxo] at e
   obtain ⟨rfl, rfl⟩ : g = g' ∧ o = o' := by simpa using e
   exact (key j fv hf).2
theorem Tryz.infoRu_str : (Tryz.prog.info? 281).map (fun i => (i.zero, i.size, i.bytes)) = some (some .nilFunc, 1, 8) := by kernel_rfl
theorem rus_cons_str (w : World) (K0 K : Nat → Prop) (fv : Value) (E : Nat → Addr) (r0 : ByteArray → Nat) (rs : List (ByteArray → Nat)) (xo : Option Addr) (xc : Nat) (h0 : FnR enStr w K0 fv E r0) (h : Rus enStr w K (.slice xo rs.length xc) E rs) (hn : rs.length < 1000) :
  ∃ ao cp w2, (Builtin.append_ #[285, 285] 285 #[.slice (some ⟨w.heap.size, 0, none⟩) 1 1, .slice xo rs.length xc]).run Tryz.prog (w.alloc (.cells #[fv] 281)) = .ok (.slice ao (r0 :: rs).length cp) w2 ∧ Fr (fun _ => False) w w2 ∧ Rus enStr w2 (fun k => K0 k ∨ K k ∨ w.heap.size ≤ k ∧ k < w2.heap.size) (.slice ao (r0 :: rs).length cp) E (r0 :: rs) := by
 obtain ⟨i0, hi, hz0, hz1, hz2⟩ := info_parts Tryz.infoRu_str
 have hown : (w.alloc (.cells #[fv] 281)).ownsRow w.heap.size 281 1 (.slice (some ⟨w.heap.size, 0, none⟩) 1 1) 1 [fv] := ⟨rfl, .inr ⟨w.heap.size, 1, #[fv], rfl, Nat.le_refl _, heap_alloc_new _ _, by decide, by decide, rfl, rfl⟩⟩
 obtain ⟨fvs, hl, h1, hF, hcell⟩ := h.cells
 have hfin : ∀ (v' : Value) (w2 : World), w2.ownsRow w.heap.size 281 1 v' (1 + rs.length) ([fv] ++ fvs) → Fr (fun _ => False) w w2 → ∃ ao cp, v' = .slice ao (r0 :: rs).length cp ∧ Rus enStr w2 (fun k => K0 k ∨ K k ∨ w.heap.size ≤ k ∧ k < w2.heap.size) (.slice ao (r0 :: rs).length cp) E (r0 :: rs) := by
  intro v' w2 ho hf
  have ho2 := ho.2
  rcases ho2 with ⟨_, e⟩ | ⟨g, cap, cur, rfl, _⟩
  ·omega
  have hlt : ∀ k, (K0 k ∨ K k ∨ w.heap.size ≤ k ∧ k < w2.heap.size) → k < w2.heap.size := fun k hk => by
   rcases hk with hk | hk | hk
   ·exact Nat.lt_of_lt_of_le (h0.lt k hk) hf.size
   ·exact Nat.lt_of_lt_of_le (h.lt k hk) hf.size
   ·exact hk.2
  refine ⟨some ⟨g, 0, none⟩, cap, by simp [Nat.add_comm], hlt, ⟨_, _, rfl⟩, fun _ _ _ e => .inr ⟨g, 0, by cases e; rfl⟩, fun xo' n' c' e j r hr => ?_⟩
  have ex : xo' = some ⟨g, 0, none⟩ := by cases e; rfl
  have hg := ho.lt g rfl
  have hcs : ∀ (j : Nat) u, ([fv] ++ fvs)[j]? = some u → w2.cell? ⟨g, 0 + j, none⟩ = some u := fun j u hu => by
   have := ho.cells (g := g) rfl j u hu
   rwa [addr_add] at this
  cases j with
  | zero =>
   obtain rfl : r0 = r := by simpa using hr
   exact ⟨g, 0, fv, ex, .inr (.inr hg), hcs 0 fv rfl, h0.mono (fun k hk => hf.block k (h0.lt k hk) (fun h => h)) (fun k hk => .inl hk) hlt⟩
  | succ j =>
   have hr' : rs[j]? = some r := by simpa using hr
   have hj : j < fvs.length := by rw [hl]; exact (List.getElem?_eq_some_iff.1 hr').1
   have hfv : fvs[j]? = some fvs[j] := List.getElem?_eq_getElem hj
   exact ⟨g, 0, fvs[j], ex, .inr (.inr hg), hcs (j + 1) _ (by simp), (hF j _ r hfv hr').mono (fun k hk => hf.block k (h.lt k hk) (fun h => h)) (fun k hk => .inr (.inl hk)) hlt⟩
 have hbox : Fr (fun _ => False) w (w.alloc (.cells #[fv] 281)) := box1 w _
 rcases h.nz _ _ _ rfl with ⟨rfl, hn0, rfl⟩ | ⟨g, o, rfl⟩
 ·have hr := run_append_owned_none (P := Tryz.prog) (w.alloc (.cells #[fv] 281)) w.heap.size 285 285 281 i0 1 Tryz.underlying285 hi _ 1 [fv] hown
  have e0 : fvs = [] := List.eq_nil_of_length_eq_zero (by omega)
  obtain ⟨ao, cp, e, hRu⟩ := hfin _ _ (by rw [hn0, e0]; exact hown) hbox
  refine ⟨ao, cp, _, ?_, hbox, hRu⟩
  rw [← e, hn0]
  exact hr
 ·obtain ⟨v', w', hr, h2, h3, _, h5⟩ := run_append_own_at (P := Tryz.prog) (w := w.alloc (.cells #[fv] 281)) w.heap.size 285 285 281 i0 .nilFunc 1 8 Tryz.underlying285 hi hz0 hz1 hz2 rfl (by decide) (.slice (some ⟨w.heap.size, 0, none⟩) 1 1) 1 [fv] hown ⟨g, o, none⟩ rs.length xc fvs (by omega) (fun j u hu => by
    rw [addr_add]
    have hc := hcell g o rfl j u hu
    exact (hbox.cell (ltC hc) (fun h => h)).trans hc) h1 (by simp only [maxLen]; omega) (by omega) (by simp)
  have hf : Fr (fun _ => False) w w' := hbox.grown h3 (fun k hk => .inr (by simp [Value.ownBlock] at hk; omega))
  obtain ⟨ao, cp, rfl, hRu⟩ := hfin v' w' h2 hf
  exact ⟨ao, cp, w', hr, hf, hRu⟩
theorem Tryz.infoRu_byt : (Tryz.prog.info? 294).map (fun i => (i.zero, i.size, i.bytes)) = some (some .nilFunc, 1, 8) := by kernel_rfl
theorem rus_cons_byt (w : World) (K0 K : Nat → Prop) (fv : Value) (E : Nat → Addr) (r0 : (List Nat) → Nat) (rs : List ((List Nat) → Nat)) (xo : Option Addr) (xc : Nat) (h0 : FnR enByt w K0 fv E r0) (h : Rus enByt w K (.slice xo rs.length xc) E rs) (hn : rs.length < 1000) :
  ∃ ao cp w2, (Builtin.append_ #[291, 291] 291 #[.slice (some ⟨w.heap.size, 0, none⟩) 1 1, .slice xo rs.length xc]).run Tryz.prog (w.alloc (.cells #[fv] 294)) = .ok (.slice ao (r0 :: rs).length cp) w2 ∧ Fr (fun _ => False) w w2 ∧ Rus enByt w2 (fun k => K0 k ∨ K k ∨ w.heap.size ≤ k ∧ k < w2.heap.size) (.slice ao (r0 :: rs).length cp) E (r0 :: rs) := by
 obtain ⟨i0, hi, hz0, hz1, hz2⟩ := info_parts Tryz.infoRu_byt
 have hown : (w.alloc (.cells #[fv] 294)).ownsRow w.heap.size 294 1 (.slice (some ⟨w.heap.size, 0, none⟩) 1 1) 1 [fv] := ⟨rfl, .inr ⟨w.heap.size, 1, #[fv], rfl, Nat.le_refl _, heap_alloc_new _ _, by decide, by decide, rfl, rfl⟩⟩
 obtain ⟨fvs, hl, h1, hF, hcell⟩ := h.cells
 have hfin : ∀ (v' : Value) (w2 : World), w2.ownsRow w.heap.size 294 1 v' (1 + rs.length) ([fv] ++ fvs) → Fr (fun _ => False) w w2 → ∃ ao cp, v' = .slice ao (r0 :: rs).length cp ∧ Rus enByt w2 (fun k => K0 k ∨ K k ∨ w.heap.size ≤ k ∧ k < w2.heap.size) (.slice ao (r0 :: rs).length cp) E (r0 :: rs) := by
  intro v' w2 ho hf
  have ho2 := ho.2
  rcases ho2 with ⟨_, e⟩ | ⟨g, cap, cur, rfl, _⟩
  ·omega
  have hlt : ∀ k, (K0 k ∨ K k ∨ w.heap.size ≤ k ∧ k < w2.heap.size) → k < w2.heap.size := fun k hk => by
   rcases hk with hk | hk | hk
   ·exact Nat.lt_of_lt_of_le (h0.lt k hk) hf.size
   ·exact Nat.lt_of_lt_of_le (h.lt k hk) hf.size
   ·exact hk.2
  refine ⟨some ⟨g, 0, none⟩, cap, by simp [Nat.add_comm], hlt, ⟨_, _, rfl⟩, fun _ _ _ e => .inr ⟨g, 0, by cases e; rfl⟩, fun xo' n' c' e j r hr => ?_⟩
  have ex : xo' = some ⟨g, 0, none⟩ := by cases e; rfl
  have hg := ho.lt g rfl
  have hcs : ∀ (j : Nat) u, ([fv] ++ fvs)[j]? = some u → w2.cell? ⟨g, 0 + j, none⟩ = some u := fun j u hu => by
   have := ho.cells (g := g) rfl j u hu
   rwa [addr_add] at this
  cases j with
  | zero =>
   obtain rfl : r0 = r := by simpa using hr
   exact ⟨g, 0, fv, ex, .inr (.inr hg), hcs 0 fv rfl, h0.mono (fun k hk => hf.block k (h0.lt k hk) (fun h => h)) (fun k hk => .inl hk) hlt⟩
  | succ j =>
   have hr' : rs[j]? = some r := by simpa using hr
   have hj : j < fvs.length := by rw [hl]; exact (List.getElem?_eq_some_iff.1 hr').1
   have hfv : fvs[j]? = some fvs[j] := List.getElem?_eq_getElem hj
   exact ⟨g, 0, fvs[j], ex, .inr (.inr hg), hcs (j + 1) _ (by simp), (hF j _ r hfv hr').mono (fun k hk => hf.block k (h.lt k hk) (fun h => h)) (fun k hk => .inr (.inl hk)) hlt⟩
 have hbox : Fr (fun _ => False) w (w.alloc (.cells #[fv] 294)) := box1 w _
 rcases h.nz _ _ _ rfl with ⟨rfl, hn0, rfl⟩ | ⟨g, o, rfl⟩
 ·have hr := run_append_owned_none (P := Tryz.prog) (w.alloc (.cells #[fv] 294)) w.heap.size 291 291 294 i0 1 Tryz.underlying291 hi _ 1 [fv] hown
  have e0 : fvs = [] := List.eq_nil_of_length_eq_zero (by omega)
  obtain ⟨ao, cp, e, hRu⟩ := hfin _ _ (by rw [hn0, e0]; exact hown) hbox
  refine ⟨ao, cp, _, ?_, hbox, hRu⟩
  rw [← e, hn0]
  exact hr
 ·obtain ⟨v', w', hr, h2, h3, _, h5⟩ := run_append_own_at (P := Tryz.prog) (w := w.alloc (.cells #[fv] 294)) w.heap.size 291 291 294 i0 .nilFunc 1 8 Tryz.underlying291 hi hz0 hz1 hz2 rfl (by decide) (.slice (some ⟨w.heap.size, 0, none⟩) 1 1) 1 [fv] hown ⟨g, o, none⟩ rs.length xc fvs (by omega) (fun j u hu => by
    rw [addr_add]
    have hc := hcell g o rfl j u hu
    exact (hbox.cell (ltC hc) (fun h => h)).trans hc) h1 (by simp only [maxLen]; omega) (by omega) (by simp)
  have hf : Fr (fun _ => False) w w' := hbox.grown h3 (fun k hk => .inr (by simp [Value.ownBlock] at hk; omega))
  obtain ⟨ao, cp, rfl, hRu⟩ := hfin v' w' h2 hf
  exact ⟨ao, cp, w', hr, hf, hRu⟩
theorem Tryz.infoRu_int : (Tryz.prog.info? 255).map (fun i => (i.zero, i.size, i.bytes)) = some (some .nilFunc, 1, 8) := by kernel_rfl
theorem rus_cons_int (w : World) (K0 K : Nat → Prop) (fv : Value) (E : Nat → Addr) (r0 : Int → Nat) (rs : List (Int → Nat)) (xo : Option Addr) (xc : Nat) (h0 : FnR enInt w K0 fv E r0) (h : Rus enInt w K (.slice xo rs.length xc) E rs) (hn : rs.length < 1000) :
  ∃ ao cp w2, (Builtin.append_ #[278, 278] 278 #[.slice (some ⟨w.heap.size, 0, none⟩) 1 1, .slice xo rs.length xc]).run Tryz.prog (w.alloc (.cells #[fv] 255)) = .ok (.slice ao (r0 :: rs).length cp) w2 ∧ Fr (fun _ => False) w w2 ∧ Rus enInt w2 (fun k => K0 k ∨ K k ∨ w.heap.size ≤ k ∧ k < w2.heap.size) (.slice ao (r0 :: rs).length cp) E (r0 :: rs) := by
 obtain ⟨i0, hi, hz0, hz1, hz2⟩ := info_parts Tryz.infoRu_int
 have hown : (w.alloc (.cells #[fv] 255)).ownsRow w.heap.size 255 1 (.slice (some ⟨w.heap.size, 0, none⟩) 1 1) 1 [fv] := ⟨rfl, .inr ⟨w.heap.size, 1, #[fv], rfl, Nat.le_refl _, heap_alloc_new _ _, by decide, by decide, rfl, rfl⟩⟩
 obtain ⟨fvs, hl, h1, hF, hcell⟩ := h.cells
 have hfin : ∀ (v' : Value) (w2 : World), w2.ownsRow w.heap.size 255 1 v' (1 + rs.length) ([fv] ++ fvs) → Fr (fun _ => False) w w2 → ∃ ao cp, v' = .slice ao (r0 :: rs).length cp ∧ Rus enInt w2 (fun k => K0 k ∨ K k ∨ w.heap.size ≤ k ∧ k < w2.heap.size) (.slice ao (r0 :: rs).length cp) E (r0 :: rs) := by
  intro v' w2 ho hf
  have ho2 := ho.2
  rcases ho2 with ⟨_, e⟩ | ⟨g, cap, cur, rfl, _⟩
  ·omega
  have hlt : ∀ k, (K0 k ∨ K k ∨ w.heap.size ≤ k ∧ k < w2.heap.size) → k < w2.heap.size := fun k hk => by
   rcases hk with hk | hk | hk
   ·exact Nat.lt_of_lt_of_le (h0.lt k hk) hf.size
   ·exact Nat.lt_of_lt_of_le (h.lt k hk) hf.size
   ·exact hk.2
  refine ⟨some ⟨g, 0, none⟩, cap, by simp [Nat.add_comm], hlt, ⟨_, _, rfl⟩, fun _ _ _ e => .inr ⟨g, 0, by cases e; rfl⟩, fun xo' n' c' e j r hr => ?_⟩
  have ex : xo' = some ⟨g, 0, none⟩ := by cases e; rfl
  have hg := ho.lt g rfl
  have hcs : ∀ (j : Nat) u, ([fv] ++ fvs)[j]? = some u → w2.cell? ⟨g, 0 + j, none⟩ = some u := fun j u hu => by
   have := ho.cells (g := g) rfl j u hu
   rwa [addr_add] at this
  cases j with
  | zero =>
   obtain rfl : r0 = r := by simpa using hr
   exact ⟨g, 0, fv, ex, .inr (.inr hg), hcs 0 fv rfl, h0.mono (fun k hk => hf.block k (h0.lt k hk) (fun h => h)) (fun k hk => .inl hk) hlt⟩
  | succ j =>
   have hr' : rs[j]? = some r := by simpa using hr
   have hj : j < fvs.length := by rw [hl]; exact (List.getElem?_eq_some_iff.1 hr').1
   have hfv : fvs[j]? = some fvs[j] := List.getElem?_eq_getElem hj
   exact ⟨g, 0, fvs[j], ex, .inr (.inr hg), hcs (j + 1) _ (by simp), (hF j _ r hfv hr').mono (fun k hk => hf.block k (h.lt k hk) (fun h => h)) (fun k hk => .inr (.inl hk)) hlt⟩
 have hbox : Fr (fun _ => False) w (w.alloc (.cells #[fv] 255)) := box1 w _
 rcases h.nz _ _ _ rfl with ⟨rfl, hn0, rfl⟩ | ⟨g, o, rfl⟩
 ·have hr := run_append_owned_none (P := Tryz.prog) (w.alloc (.cells #[fv] 255)) w.heap.size 278 278 255 i0 1 Tryz.underlying278 hi _ 1 [fv] hown
  have e0 : fvs = [] := List.eq_nil_of_length_eq_zero (by omega)
  obtain ⟨ao, cp, e, hRu⟩ := hfin _ _ (by rw [hn0, e0]; exact hown) hbox
  refine ⟨ao, cp, _, ?_, hbox, hRu⟩
  rw [← e, hn0]
  exact hr
 ·obtain ⟨v', w', hr, h2, h3, _, h5⟩ := run_append_own_at (P := Tryz.prog) (w := w.alloc (.cells #[fv] 255)) w.heap.size 278 278 255 i0 .nilFunc 1 8 Tryz.underlying278 hi hz0 hz1 hz2 rfl (by decide) (.slice (some ⟨w.heap.size, 0, none⟩) 1 1) 1 [fv] hown ⟨g, o, none⟩ rs.length xc fvs (by omega) (fun j u hu => by
    rw [addr_add]
    have hc := hcell g o rfl j u hu
    exact (hbox.cell (ltC hc) (fun h => h)).trans hc) h1 (by simp only [maxLen]; omega) (by omega) (by simp)
  have hf : Fr (fun _ => False) w w' := hbox.grown h3 (fun k hk => .inr (by simp [Value.ownBlock] at hk; omega))
  obtain ⟨ao, cp, rfl, hRu⟩ := hfin v' w' h2 hf
  exact ⟨ao, cp, w', hr, hf, hRu⟩
set_option maxRecDepth 100000 in
theorem number_u8 (c : CS) (nm : ByteArray) (rs : List (Nat → Nat)) (v : Nat) (cb b g i : Nat) (F : Nat → Prop) (E : Nat → Addr) (rx : Value) (w : World) (h : Cd w cb b F c E) (hp : w.cell? ⟨g, i, none⟩ = some (.int .u8 (v : Nat))) (hL : Loc w cb F g i) (hv : v < 256) (hR : RuC enU8 w F g rx E rs) (hroom : c.room 1) :
  Calls Tryz.prog 127 #[.pointer (some ⟨cb, 0, none⟩), .string nm, .pointer (some ⟨g, i, none⟩), rx] w fun e w' => e = .returned (.tuple #[]) ∧ ∃ F', Cd w' cb b F' (c.pU8 nm rs v).1 E ∧ w'.cell? ⟨g, i, none⟩ = some (.int .u8 ((c.pU8 nm rs v).2 : Nat)) ∧ Stp w w' F F' (fun k j => k = g ∧ j = i) := by
 have H := hid (part_u8 c nm rs v 0 cb b g i F E rx w h hp hL hv hR hroom)
 obtain ⟨K, hRu, _⟩ := hR.ex
 obtain ⟨xo, xc, rfl⟩ := hRu.form
 clear h hp hL hR hRu
 go_enter Tryz.func127, Tryz.ntmps127
 go_wp2_with fail
 refine (uh H).mono ?_
 rintro e w' ⟨rfl, hr⟩
 have HR := hid hr
 clear hr
 go_wp2_with fail
 go_end0
 exact ⟨rfl, uh HR⟩
set_option maxRecDepth 100000 in
theorem number_u32 (c : CS) (nm : ByteArray) (rs : List (Nat → Nat)) (v : Nat) (cb b g i : Nat) (F : Nat → Prop) (E : Nat → Addr) (rx : Value) (w : World) (h : Cd w cb b F c E) (hp : w.cell? ⟨g, i, none⟩ = some (.int .u32 (v : Nat))) (hL : Loc w cb F g i) (hv : v < 4294967296) (hR : RuC enU32 w F g rx E rs) (hroom : c.room 1) :
  Calls Tryz.prog 130 #[.pointer (some ⟨cb, 0, none⟩), .string nm, .pointer (some ⟨g, i, none⟩), rx] w fun e w' => e = .returned (.tuple #[]) ∧ ∃ F', Cd w' cb b F' (c.pU32 nm rs v).1 E ∧ w'.cell? ⟨g, i, none⟩ = some (.int .u32 ((c.pU32 nm rs v).2 : Nat)) ∧ Stp w w' F F' (fun k j => k = g ∧ j = i) := by
 have H := hid (part_u32 c nm rs v 0 cb b g i F E rx w h hp hL hv hR hroom)
 obtain ⟨K, hRu, _⟩ := hR.ex
 obtain ⟨xo, xc, rfl⟩ := hRu.form
 clear h hp hL hR hRu
 go_enter Tryz.func130, Tryz.ntmps130
 go_wp2_with fail
 refine (uh H).mono ?_
 rintro e w' ⟨rfl, hr⟩
 have HR := hid hr
 clear hr
 go_wp2_with fail
 go_end0
 exact ⟨rfl, uh HR⟩
set_option maxRecDepth 100000 in
theorem number_f32 (c : CS) (nm : ByteArray) (rs : List (Nat → Nat)) (v : Nat) (cb b g i : Nat) (F : Nat → Prop) (E : Nat → Addr) (rx : Value) (w : World) (h : Cd w cb b F c E) (hp : w.cell? ⟨g, i, none⟩ = some (.float .f32 v)) (hL : Loc w cb F g i) (hv : v < 4294967296) (hR : RuC enF32 w F g rx E rs) (hroom : c.room 1) :
  Calls Tryz.prog 175 #[.pointer (some ⟨cb, 0, none⟩), .string nm, .pointer (some ⟨g, i, none⟩), rx] w fun e w' => e = .returned (.tuple #[]) ∧ ∃ F', Cd w' cb b F' (c.pF32 nm rs v).1 E ∧ w'.cell? ⟨g, i, none⟩ = some (.float .f32 (c.pF32 nm rs v).2) ∧ Stp w w' F F' (fun k j => k = g ∧ j = i) := by
 have H := hid (part_f32 c nm rs v 0 cb b g i F E rx w h hp hL hv hR hroom)
 obtain ⟨K, hRu, _⟩ := hR.ex
 obtain ⟨xo, xc, rfl⟩ := hRu.form
 clear h hp hL hR hRu
 go_enter Tryz.func175, Tryz.ntmps175
 go_wp2_with fail
 refine (uh H).mono ?_
 rintro e w' ⟨rfl, hr⟩
 have HR := hid hr
 clear hr
 go_wp2_with fail
 go_end0
 exact ⟨rfl, uh HR⟩
theorem Loc.fr0 {w w' : World} {cb : Nat} {F : Nat → Prop} {g i : Nat} (h : Loc w cb F g i) (hf : Fr (fun _ => False) w w') : Loc w' cb F g i := h.stp (Stp.of_fr hf F (fun _ _ => False))
theorem BV.fr0 {w w' : World} {x : Value} {l : List Nat} {F : Nat → Prop} (h : BV w x l F) (hf : Fr (fun _ => False) w w') : BV w' x l F := h.stp (Stp.of_fr hf F (fun _ _ => False)) (fun _ _ _ _ _ _ h => h)
theorem st_func (a : Addr) (fn : Fn) (f c : Array Value) (m : Mode) (W : World) : (store a (.func fn f c) m).run Tryz.prog W = stored Tryz.prog W a (.func fn f c) m := run_store _ _ _ _ _ rfl
theorem szN_fit {α : Type} (rs : List (α → Nat)) (lo hi : Int) (f : α → Nat) (v : α) (h : fb ((fun v => szN lo hi (f v)) :: rs) v = 0) : (f v : Int) ≤ hi := by
 by_cases hc : hi < (f v : Int)
 ·have e : szN lo hi (f v) = 2 := by rw [szN, if_pos hc]
  simp [fb, e] at h
 ·omega
theorem knew_apart {w : World} {cb b : Nat} {F K : Nat → Prop} {c : CS} {E : Nat → Addr} {g i : Nat} (h : Cd w cb b F c E) (hL : Loc w cb F g i) (hK : Knew w K) : ∀ k, K k → ¬ F k ∧ k ≠ g := fun k hk => by
 have hlt := hL.lt
 have hlo := hL.lo
 rcases hK k hk with h1 | h1
 ·exact ⟨fun hF => by have := h.lt k hF; omega, by omega⟩
 ·exact ⟨fun hF => by have := h.lo k hF; omega, by omega⟩
set_option maxRecDepth 100000 in
theorem run_byt (c : CS) (nm : ByteArray) (lo hi : Int) (rs : List ((List Nat) → Nat)) (x : Value) (v : (List Nat)) (cb b g i : Nat) (F : Nat → Prop) (E : Nat → Addr) (rx : Value) (w : World) (h : Cd w cb b F c E) (hp : w.cell? ⟨g, i, none⟩ = some x) (hB : BV w x v F) (hL : Loc w cb F g i) (hv : v.length < 9223372036854775808) (hhi : hi ≤ 32768) (hR : RuC enByt w F g rx E rs) (hn : rs.length < 1000) (hroom : c.room 1) :
  Calls Tryz.prog 141 #[.pointer (some ⟨cb, 0, none⟩), .string nm, .pointer (some ⟨g, i, none⟩), .int .i64 lo, .int .i64 hi, rx] w fun e w' => e = .returned (.tuple #[]) ∧ ∃ F' x', Cd w' cb b F' (c.pByt nm hi ((fun v => szN lo hi v.length) :: rs) v).1 E ∧ w'.cell? ⟨g, i, none⟩ = some x' ∧ (((∃ s, c = .wr s) ∧ x' = x) ∨ w'.ownsRow w.heap.size 5 1 x' (c.pByt nm hi ((fun v => szN lo hi v.length) :: rs) v).2.length (cellsOf (c.pByt nm hi ((fun v => szN lo hi v.length) :: rs) v).2)) ∧ (∀ k o m c, x' = .slice (some ⟨k, o, none⟩) m c → ¬ F' k) ∧ Stp w w' F F' (fun k j => k = g ∧ j = i) := by
 obtain ⟨K, hRu, hKa⟩ := hR.ex
 have hgo : ∀ (w1 : World) (fv : Value) (K0 : Nat → Prop), FnR enByt w1 K0 fv E (fun v => szN lo hi v.length) → Fr (fun _ => False) w w1 → Knew w K0 → ∀ xo xc, rx = .slice xo rs.length xc → ∃ ao cp w2, (Builtin.append_ #[291, 291] 291 #[.slice (some ⟨w1.heap.size, 0, none⟩) 1 1, .slice xo rs.length xc]).run Tryz.prog (w1.alloc (.cells #[fv] 294)) = .ok (.slice ao (rs.length + 1) cp) w2 ∧
   Calls Tryz.prog 160 #[.pointer (some ⟨cb, 0, none⟩), .string nm, .pointer (some ⟨g, i, none⟩), .int .i64 hi, .slice ao (rs.length + 1) cp] w2 fun e w' => e = .returned (.tuple #[]) ∧ ∃ F' x', Cd w' cb b F' (c.pByt nm hi ((fun v => szN lo hi v.length) :: rs) v).1 E ∧ w'.cell? ⟨g, i, none⟩ = some x' ∧ (((∃ s, c = .wr s) ∧ x' = x) ∨ w'.ownsRow w.heap.size 5 1 x' (c.pByt nm hi ((fun v => szN lo hi v.length) :: rs) v).2.length (cellsOf (c.pByt nm hi ((fun v => szN lo hi v.length) :: rs) v).2)) ∧ (∀ k o m c, x' = .slice (some ⟨k, o, none⟩) m c → ¬ F' k) ∧ Stp w w' F F' (fun k j => k = g ∧ j = i) := by
  intro w1 fv K0 hF hf1 hK0 xo xc e
  subst e
  obtain ⟨ao, cp, w2, hr, hf2, hRu2⟩ := rus_cons_byt w1 K0 K fv E _ rs xo xc hF (hRu.fr hf1 (fun _ _ h => h)) hn
  have hf := hf1.trans hf2 (fun _ _ h => h)
  refine ⟨ao, cp, w2, hr, ?_⟩
  refine (part_byt c nm ((fun v => szN lo hi v.length) :: rs) x v hi cb b g i F E _ w2 (h.fr0 hf) ((hf.cell (p := ⟨g, i, none⟩) hL.lt (fun h => h)).trans hp) (hB.fr0 hf) (hL.fr0 hf) hv (by omega) (fun e => ?_) ⟨⟨_, hRu2, fun k hk => ?_⟩, by simp; omega⟩ hroom).mono ?_
  ·have := szN_fit rs lo hi (fun v : (List Nat) => v.length) v e
   omega
  ·rcases hk with hk | hk | hk
   ·exact knew_apart h hL hK0 k hk
   ·exact hKa k hk
   ·have h1 := hf1.size
    have h2 := hL.lt
    exact ⟨fun hx => by have := h.lt k hx; omega, by omega⟩
  ·rintro e w' ⟨rfl, F', x', hC, hcell, hx, hno, hs⟩
   have hs' : Stp w w' F F' (fun k j => k = g ∧ j = i) := (Stp.of_fr hf F _).trans hs (fun _ _ _ h => h)
   exact ⟨rfl, ⟨F', x', hC, hcell, hx.imp id (fun ho => own_mono ho hf.size), hno, hs'⟩⟩
 have HG := hid hgo
 have HS := hid (sized_byt lo hi E w h.g7)
 obtain ⟨xo, xc, rfl⟩ := hRu.form
 clear hgo h hp hL hR hRu hKa
 go_enter Tryz.func141, Tryz.ntmps141
 go_wp2_with fail
 refine (uh HS).mono ?_
 rintro e w1 ⟨fv, rfl, K0, hF, hf1, hK0⟩
 obtain ⟨ao, cp, w2, hr, hcall⟩ := (uh HG) w1 fv K0 hF hf1 hK0 xo xc rfl
 obtain ⟨Fc, caps, rfl, _⟩ := hF.ex
 have HR := hid hr
 have HC := hid hcall
 clear hF hf1 hK0 hr hcall
 have hsf := st_func
 go_wp2_with (at_builtin; refine wpList_app rfl _ _ 291 291 rfl _ _ _ rfl rfl (uh HR) ?_)
 refine (uh HC).mono ?_
 rintro e w' ⟨rfl, hr⟩
 have HX := hid hr
 clear hr
 go_wp2_with fail
 go_end0
 exact ⟨rfl, uh HX⟩
set_option maxRecDepth 100000 in
theorem run_str (c : CS) (nm : ByteArray) (lo hi : Int) (rs : List (ByteArray → Nat))  (v : ByteArray) (cb b g i : Nat) (F : Nat → Prop) (E : Nat → Addr) (rx : Value) (w : World) (h : Cd w cb b F c E) (hp : w.cell? ⟨g, i, none⟩ = some (.string v)) (hL : Loc w cb F g i) (hv : v.size < 9223372036854775808) (hhi : hi ≤ 32768) (hR : RuC enStr w F g rx E rs) (hn : rs.length < 1000) (hroom : c.room 1) :
  Calls Tryz.prog 135 #[.pointer (some ⟨cb, 0, none⟩), .string nm, .pointer (some ⟨g, i, none⟩), .int .i64 lo, .int .i64 hi, rx] w fun e w' => e = .returned (.tuple #[]) ∧ ∃ F', Cd w' cb b F' (c.pStr nm hi ((fun v => szN lo hi v.size) :: rs) v).1 E ∧ w'.cell? ⟨g, i, none⟩ = some (.string (c.pStr nm hi ((fun v => szN lo hi v.size) :: rs) v).2) ∧ Stp w w' F F' (fun k j => k = g ∧ j = i) := by
 obtain ⟨K, hRu, hKa⟩ := hR.ex
 have hgo : ∀ (w1 : World) (fv : Value) (K0 : Nat → Prop), FnR enStr w1 K0 fv E (fun v => szN lo hi v.size) → Fr (fun _ => False) w w1 → Knew w K0 → ∀ xo xc, rx = .slice xo rs.length xc → ∃ ao cp w2, (Builtin.append_ #[285, 285] 285 #[.slice (some ⟨w1.heap.size, 0, none⟩) 1 1, .slice xo rs.length xc]).run Tryz.prog (w1.alloc (.cells #[fv] 281)) = .ok (.slice ao (rs.length + 1) cp) w2 ∧
   Calls Tryz.prog 157 #[.pointer (some ⟨cb, 0, none⟩), .string nm, .pointer (some ⟨g, i, none⟩), .int .i64 hi, .slice ao (rs.length + 1) cp] w2 fun e w' => e = .returned (.tuple #[]) ∧ ∃ F', Cd w' cb b F' (c.pStr nm hi ((fun v => szN lo hi v.size) :: rs) v).1 E ∧ w'.cell? ⟨g, i, none⟩ = some (.string (c.pStr nm hi ((fun v => szN lo hi v.size) :: rs) v).2) ∧ Stp w w' F F' (fun k j => k = g ∧ j = i) := by
  intro w1 fv K0 hF hf1 hK0 xo xc e
  subst e
  obtain ⟨ao, cp, w2, hr, hf2, hRu2⟩ := rus_cons_str w1 K0 K fv E _ rs xo xc hF (hRu.fr hf1 (fun _ _ h => h)) hn
  have hf := hf1.trans hf2 (fun _ _ h => h)
  refine ⟨ao, cp, w2, hr, ?_⟩
  refine (part_str c nm ((fun v => szN lo hi v.size) :: rs) v hi cb b g i F E _ w2 (h.fr0 hf) ((hf.cell (p := ⟨g, i, none⟩) hL.lt (fun h => h)).trans hp) (hL.fr0 hf) hv (by omega) (fun e => ?_) ⟨⟨_, hRu2, fun k hk => ?_⟩, by simp; omega⟩ hroom).mono ?_
  ·have := szN_fit rs lo hi (fun v : ByteArray => v.size) v e
   omega
  ·rcases hk with hk | hk | hk
   ·exact knew_apart h hL hK0 k hk
   ·exact hKa k hk
   ·have h1 := hf1.size
    have h2 := hL.lt
    exact ⟨fun hx => by have := h.lt k hx; omega, by omega⟩
  ·rintro e w' ⟨rfl, F', hC, hcell, hs⟩
   have hs' : Stp w w' F F' (fun k j => k = g ∧ j = i) := (Stp.of_fr hf F _).trans hs (fun _ _ _ h => h)
   exact ⟨rfl, ⟨F', hC, hcell, hs'⟩⟩
 have HG := hid hgo
 have HS := hid (sized_str lo hi E w h.g7)
 obtain ⟨xo, xc, rfl⟩ := hRu.form
 clear hgo h hp hL hR hRu hKa
 go_enter Tryz.func135, Tryz.ntmps135
 go_wp2_with fail
 refine (uh HS).mono ?_
 rintro e w1 ⟨fv, rfl, K0, hF, hf1, hK0⟩
 obtain ⟨ao, cp, w2, hr, hcall⟩ := (uh HG) w1 fv K0 hF hf1 hK0 xo xc rfl
 obtain ⟨Fc, caps, rfl, _⟩ := hF.ex
 have HR := hid hr
 have HC := hid hcall
 clear hF hf1 hK0 hr hcall
 have hsf := st_func
 go_wp2_with (at_builtin; refine wpList_app rfl _ _ 285 285 rfl _ _ _ rfl rfl (uh HR) ?_)
 refine (uh HC).mono ?_
 rintro e w' ⟨rfl, hr⟩
 have HX := hid hr
 clear hr
 go_wp2_with fail
 go_end0
 exact ⟨rfl, uh HX⟩
def n_form : ByteArray := ⟨#[102, 111, 114, 109]⟩
def n_client : ByteArray := ⟨#[99, 108, 105, 101, 110, 116]⟩
def n_number : ByteArray := ⟨#[110, 117, 109, 98, 101, 114]⟩
def n_actor : ByteArray := ⟨#[97, 99, 116, 111, 114]⟩
def n_op : ByteArray := ⟨#[111, 112]⟩
def n_record : ByteArray := ⟨#[114, 101, 99, 111, 114, 100]⟩
def n_version : ByteArray := ⟨#[118, 101, 114, 115, 105, 111, 110]⟩
def n_ward : ByteArray := ⟨#[119, 97, 114, 100]⟩
def n_owner : ByteArray := ⟨#[111, 119, 110, 101, 114]⟩
def n_fields : ByteArray := ⟨#[102, 105, 101, 108, 100, 115]⟩
def n_reason : ByteArray := ⟨#[114, 101, 97, 115, 111, 110]⟩
def n_name : ByteArray := ⟨#[110, 97, 109, 101]⟩
def n_kind : ByteArray := ⟨#[107, 105, 110, 100]⟩
def n_text : ByteArray := ⟨#[116, 101, 120, 116]⟩
def n_value : ByteArray := ⟨#[118, 97, 108, 117, 101]⟩
def n_unit : ByteArray := ⟨#[117, 110, 105, 116]⟩
def n_code : ByteArray := ⟨#[99, 111, 100, 101]⟩
def n_history : ByteArray := ⟨#[104, 105, 115, 116, 111, 114, 121]⟩
def n_author : ByteArray := ⟨#[97, 117, 116, 104, 111, 114]⟩
def n_event : ByteArray := ⟨#[101, 118, 101, 110, 116]⟩
def n_many : ByteArray := ⟨#[109, 97, 110, 121]⟩
def n_gone : ByteArray := ⟨#[103, 111, 110, 101]⟩
def n_place : ByteArray := ⟨#[112, 108, 97, 99, 101]⟩
def n_digest : ByteArray := ⟨#[100, 105, 103, 101, 115, 116]⟩
def n_size : ByteArray := ⟨#[115, 105, 122, 101]⟩
def n_root : ByteArray := ⟨#[114, 111, 111, 116]⟩
def n_key : ByteArray := ⟨#[107, 101, 121]⟩
def n_signature : ByteArray := ⟨#[115, 105, 103, 110, 97, 116, 117, 114, 101]⟩
def n_hashes : ByteArray := ⟨#[104, 97, 115, 104, 101, 115]⟩
def n_hash : ByteArray := ⟨#[104, 97, 115, 104]⟩
def n_busy : ByteArray := ⟨#[98, 117, 115, 121]⟩
def n_length : ByteArray := ⟨#[108, 101, 110, 103, 116, 104]⟩
def n_end : ByteArray := ⟨#[101, 110, 100]⟩
end Go.Proofs.YtdcopmkgmbiikaaGreatDoor
