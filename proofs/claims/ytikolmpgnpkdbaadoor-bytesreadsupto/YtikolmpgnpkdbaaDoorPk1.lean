import Derived.Test.YtikolmpgnpkdbaaDoorProg
import Derived.WalkKit
import Derived.Deep.AppendLies
import Derived.Deep.RegionLaw
import Derived.Defers
import Derived.Recover
import Derived.Deep.RegionWith
import Derived.RegionDies
import Derived.Lib.AppendStr
import Derived.Laws.OwnMore
import Derived.Test.YtikolmpgnpkdbaaDoorCards
import Derived.Test.YtikolmpgnpkdbaaDoorTie
import Derived.ProofKit
import Derived.OpenShut
import Derived.LaidLaws
import Derived.Deep.DeepHandedRow
import Derived.Deep.DeepWitnessRowRef
namespace Go.Proofs.YtikolmpgnpkdbaaDoor
open Go.RowKit

theorem hide {p : Prop} (h : p) : Hid p := h
theorem unhide {p : Prop} (h : Hid p) : p := h
/-- The cell of a byte. -/
def B (c : Nat) : Value := .int .u8 ((c % 256 : Nat) : Int)
/-- The bytes of a number, the highest first. -/
def be (size v : Nat) : List Nat := (List.range size).map fun i => v / 256 ^ (size - 1 - i)
def cellsOf (l : List Nat) : List Value := l.map B

/-- Of what was there, all is as it was but for the blocks of S. -/
structure Fr (S : Nat → Prop) (w w' : World) : Prop where
  os : w'.os = w.os
  tape : w'.tape = w.tape
  output : w'.output = w.output
  size : w.heap.size ≤ w'.heap.size
  block : ∀ k, k < w.heap.size → ¬ S k → w'.heap[k]? = w.heap[k]?

theorem Fr.refl (S : Nat → Prop) (w : World) : Fr S w w := ⟨rfl, rfl, rfl, Nat.le_refl _, fun _ _ _ => rfl⟩
theorem Fr.trans {S T : Nat → Prop} {a b c : World} (h : Fr S a b) (k : Fr T b c) (hT : ∀ i, i < a.heap.size → T i → S i) : Fr S a c :=
  ⟨k.os.trans h.os, k.tape.trans h.tape, k.output.trans h.output, Nat.le_trans h.size k.size, fun i hi hs =>
    (k.block i (Nat.lt_of_lt_of_le hi h.size) (fun ht => hs (hT i hi ht))).trans (h.block i hi hs)⟩
theorem Fr.mono {S T : Nat → Prop} {a b : World} (h : Fr S a b) (hT : ∀ i, i < a.heap.size → S i → T i) : Fr T a b :=
  ⟨h.os, h.tape, h.output, h.size, fun i hi hs => h.block i hi fun hx => hs (hT i hi hx)⟩
theorem Fr.drew {S : Nat → Prop} {a w : World} (h : Fr S a w) : Fr S a w.drew := ⟨h.os, h.tape, h.output, h.size, h.block⟩
theorem Fr.alloc {S : Nat → Prop} {a w : World} (h : Fr S a w) (o : Obj) : Fr S a (w.alloc o) :=
  ⟨h.os, h.tape, h.output, by simpa using Nat.le_succ_of_le h.size, fun k hk hs => (Below.heap_alloc _ _ _ (Nat.lt_of_lt_of_le hk h.size)).trans (h.block k hk hs)⟩
theorem Fr.setCell {S : Nat → Prop} {a w : World} (h : Fr S a w) {p : Addr} (hp : S p.block ∨ a.heap.size ≤ p.block) (u : Value) : Fr S a (w.setCell p u) :=
  ⟨h.os, h.tape, h.output, by simpa [World.setCell] using h.size, fun k hk hs => (Below.heap_setCell _ _ _ _ (fun e => by
    rcases hp with hp | hp
    · exact hs (e ▸ hp)
    · omega)).trans (h.block k hk hs)⟩
theorem Fr.grown {S : Nat → Prop} {a w w' : World} {row : Option Nat} (h : Fr S a w) (hg : w.grownBy w' row) (hr : ∀ k, row = some k → S k ∨ a.heap.size ≤ k) : Fr S a w' :=
  ⟨hg.os.trans h.os, hg.tape.trans h.tape, hg.output.trans h.output, Nat.le_trans h.size hg.size, fun k hk hs =>
    (hg.block k (Nat.lt_of_lt_of_le hk h.size) (fun e => by
      rcases hr k e.symm with hx | hx
      · exact hs hx
      · omega)).trans (h.block k hk hs)⟩
theorem Fr.cell {S : Nat → Prop} {w w' : World} (h : Fr S w w') {p : Addr} (hp : p.block < w.heap.size) (hs : ¬ S p.block) : w'.cell? p = w.cell? p := World.cell?_of_block (w := w) (h.block p.block hp hs)
theorem Fr.frozen {S : Nat → Prop} {w w' : World} (h : Fr S w w') {p : Addr} (hp : p.block < w.heap.size) (hs : ¬ S p.block) : w'.frozen? p = w.frozen? p := World.frozen?_of_block (w := w) (h.block p.block hp hs)

theorem lt_of_cell {w : World} {p : Addr} {v : Value} (h : w.cell? p = some v) : p.block < w.heap.size := by
  rcases Nat.lt_or_ge p.block w.heap.size with h0 | h0
  · exact h0
  · simp [World.cell?, Array.getElem?_eq_none h0] at h

/-- What an append onto the row in the object b's field o makes: the field's new value; all else of the object as it was. -/
structure Adv (w w' : World) (b o : Nat) (sv sv' : Value) (l' : List Nat) : Prop where
  fr : Fr (fun k => k = b ∨ sv.ownBlock = some k) w w'
  c2 : w'.cell? ⟨b, o, none⟩ = some sv'
  own : w'.ownsRow (b + 1) 5 1 sv' l'.length (cellsOf l')
  cs : ∀ i, i ≠ o → w'.cell? ⟨b, i, none⟩ = w.cell? ⟨b, i, none⟩
  fz : ∀ i, w'.frozen? ⟨b, i, none⟩ = w.frozen? ⟨b, i, none⟩
  at_ : sv'.ownBlock = sv.ownBlock ∨ ∃ g, sv'.ownBlock = some g ∧ w.heap.size ≤ g

theorem Adv.refl {w : World} {b o : Nat} {sv : Value} {l : List Nat} (h : w.cell? ⟨b, o, none⟩ = some sv) (ho : w.ownsRow (b + 1) 5 1 sv l.length (cellsOf l)) : Adv w w b o sv sv l :=
  ⟨Fr.refl _ _, h, ho, fun _ _ => rfl, fun _ => rfl, .inl rfl⟩

theorem Adv.row {w w' : World} {b o : Nat} {sv sv' : Value} {l : List Nat} (h : Adv w w' b o sv sv' l) : ∀ k, sv'.ownBlock = some k → (k = b ∨ sv.ownBlock = some k) ∨ w.heap.size ≤ k := fun k hk => by
  rcases h.at_ with e | ⟨g, e, hg⟩
  · exact .inl (.inr (e ▸ hk))
  · rw [e] at hk; cases hk; exact .inr hg

/-- One append more, stored back. -/
theorem Adv.step {w wr wa w1 : World} {b o g n cap : Nat} {sv sv1 : Value} {l1 l2 : List Nat} {xs : List Value} (had : Adv w wr b o sv sv1 l1) (ha : Fr (fun _ => False) wr wa) (hgrow : wa.grownBy w1 sv1.ownBlock)
    (hown : w1.ownsRow (b + 1) 5 1 (.slice (some ⟨g, 0, none⟩) n cap) n xs) (hxs : xs = cellsOf l2) (hat : sv1.ownBlock = some g ∨ wr.heap.size ≤ g) :
    Adv w (w1.setCell ⟨b, o, none⟩ (.slice (some ⟨g, 0, none⟩) n cap)) b o sv (.slice (some ⟨g, 0, none⟩) n cap) l2 := by
  have hn : n = l2.length := by have := hown.1; rw [hxs] at this; simpa [cellsOf] using this.symm
  subst hxs
  have hb1 : b < wr.heap.size := lt_of_cell had.c2
  have hne : some b ≠ sv1.ownBlock := fun e => by have := had.own.lt b e.symm; omega
  have hba : b < wa.heap.size := Nat.lt_of_lt_of_le hb1 ha.size
  have hcell : ∀ i, w1.cell? ⟨b, i, none⟩ = wr.cell? ⟨b, i, none⟩ := fun i => (hgrow.cell_far ⟨b, i, none⟩ hba hne).trans (ha.cell hb1 (fun h => h))
  have hfz : ∀ i, w1.frozen? ⟨b, i, none⟩ = wr.frozen? ⟨b, i, none⟩ := fun i => (hgrow.frozen_far ⟨b, i, none⟩ hba hne).trans (ha.frozen hb1 (fun h => h))
  refine ⟨?_, ?_, ?_, ?_, ?_, ?_⟩
  · refine Fr.setCell (Fr.grown (had.fr.trans ha (fun _ _ h => h.elim)) hgrow had.row) (.inl (.inl rfl)) _
  · exact World.cell?_setCell_same _ _ _ ((hcell o).trans had.c2)
  · rw [← hn]; exact ownsRow_setCell_below hown (Nat.lt_succ_self b) _
  · intro i hi
    rw [World.cell?_setCell_other _ _ _ _ (by intro h; injection h with _ h2 _; exact hi h2.symm), hcell, had.cs i hi]
  · intro i; rw [World.frozen?_setCell, hfz, had.fz]
  · rcases hat with e | hg
    · rcases had.at_ with e2 | ⟨g2, e2, hg2⟩
      · exact .inl (by rw [← e2, e]; rfl)
      · exact .inr ⟨g, rfl, by rw [e2] at e; cases e; exact hg2⟩
    · exact .inr ⟨g, rfl, Nat.le_trans had.fr.size hg⟩

end Go.Proofs.YtikolmpgnpkdbaaDoor

namespace Go.Proofs.YtikolmpgnpkdbaaDoor
open Go.RowKit
theorem Tryd.info5 : (Tryd.prog.info? 5).map (fun i => (i.zero, i.size, i.bytes)) = some (some (.int .u8 0), 1, 1) := by kernel_rfl

theorem be_length (size v : Nat) : (be size v).length = size := by simp [be]
theorem wrap_byte (x : Nat) : IntKind.u8.wrap (x : Int) = ((x % 256 : Nat) : Int) := by rw [IntKind.wrap_u8]; omega
theorem ownsRow_alloc_drew {w : World} {base : Nat} {v : Value} {n : Nat} {xs : List Value} (h : w.ownsRow base 5 1 v n xs) (o : Obj) : ((w.alloc o).drew).ownsRow base 5 1 v n xs := by
  refine ⟨h.1, ?_⟩
  rcases h.2 with h0 | ⟨g, cap, cur, e1, e2, e3, e4⟩
  · exact .inl h0
  · refine .inr ⟨g, cap, cur, e1, e2, ?_, e4⟩
    have hg : g < w.heap.size := by
      rcases Nat.lt_or_ge g w.heap.size with hlt | hge
      · exact hlt
      · rw [Array.getElem?_eq_none hge] at e3; cases e3
    exact (Below.heap_alloc w o g hg).trans e3

theorem be_snoc (l : List Nat) (size k v : Nat) (hlt : k < size) : cellsOf (l ++ (be size v).take k) ++ [.int .u8 (IntKind.u8.wrap ((v : Int) / 2 ^ (8 * ((size : Int) - 1 - k)).toNat))] = cellsOf (l ++ (be size v).take (k + 1)) := by
  have hb : (be size v)[k]? = some (v / 256 ^ (size - 1 - k)) := by simp [be, hlt]
  rw [List.take_add_one, hb]
  have e : (8 * ((size : Int) - 1 - k)).toNat = 8 * (size - 1 - k) := by omega
  have hp : (2 : Int) ^ (8 * (size - 1 - k)) = ((256 ^ (size - 1 - k) : Nat) : Int) := by rw [Int.pow_mul]; simp
  rw [e, hp, ← Int.natCast_ediv, wrap_byte]
  simp [cellsOf, B]

set_option maxHeartbeats 800000 in
set_option maxRecDepth 1000000 in
theorem number_any (b size v : Nat) (sv : Value) (l : List Nat) (w : World) (hsize : size ≤ 8)
    (h2 : w.cell? ⟨b, 2, none⟩ = some sv) (f2 : w.frozen? ⟨b, 2, none⟩ = false) (ho : w.ownsRow (b + 1) 5 1 sv l.length (cellsOf l)) (hl : l.length + size ≤ 140737488355328) :
    Calls Tryd.prog 58 #[.pointer (some ⟨b, 0, none⟩), .int .i64 size, .int .u64 v] w fun e w' => e = .returned (.tuple #[]) ∧ ∃ sv', Adv w w' b 2 sv sv' (l ++ be size v) := by
  obtain ⟨i0, hi, hz0, hz1, hz2⟩ := info_parts Tryd.info5
  go_enter Tryd.func58, Tryd.ntmps58
  go_wp2
  go_loopw [8] (fun i wr => ∃ k : Nat, k ≤ size ∧ i = .int .i64 k ∧ ∃ sv', Adv w wr b 2 sv sv' (l ++ (be size v).take k)) (fun i _ => size - (intOf i).toNat)
  case atStart => exact ⟨0, Nat.zero_le _, rfl, sv, by simpa using Adv.refl h2 ho⟩
  case round =>
    obtain ⟨k, hk, rfl, sv1, had⟩ := hrel
    by_cases hlt : k < size
    · have c2 := had.c2
      have z2 := (had.fz 2).trans f2
      have hw1 : IntKind.i64.wrap ((size : Int) - 1) = (size : Int) - 1 := by rw [IntKind.wrap_i64]; omega
      have hw2 : IntKind.i64.wrap ((size : Int) - 1 - k) = (size : Int) - 1 - k := by rw [IntKind.wrap_i64]; omega
      have hw3 : IntKind.i64.wrap (8 * ((size : Int) - 1 - k)) = 8 * ((size : Int) - 1 - k) := by rw [IntKind.wrap_i64]; omega
      have HO : Hid (wr.ownsRow (b + 1) 5 1 sv1 (l.length + k) (cellsOf (l ++ (be size v).take k))) := by
        have := had.own; rwa [List.length_append, List.length_take, be_length, Nat.min_eq_left hk] at this
      have hb1 : b < wr.heap.size := lt_of_cell c2
      have hne : some b ≠ sv1.ownBlock := fun e => by have := (unhide HO).lt b e.symm; omega
      go_wp2
      go_region_law (refine step_append_lies _ rfl (.tmp 15) (.tmp 24) 25 rfl (b + 1) 5 i0 (.int .u8 0) 1 1 Tryd.underlying25 hi hz0 hz1 hz2 rfl (by decide) sv1 _ _ (by simp [Act.eval]) (ownsRow_alloc_drew (unhide HO) _) ⟨wr.heap.size, 0, none⟩ 1 1 [.int .u8 (IntKind.u8.wrap ((v : Int) / 2 ^ (8 * ((size : Int) - 1 - k)).toNat))] (by simp [Act.eval]) rfl (by intro j u hj; match j, hj with | 0, hj => simp at hj; subst hj; simp [Addr.add]) (by intro u hu; simp at hu; subst hu; rfl) (by decide) (by simp only [maxLen]; omega) (by omega) (by simp; omega) _ rfl ?_; intro g cap w1 hown hgrow hat hlt2; have k0 : w1.cell? ⟨b, 2, none⟩ = some sv1 := (hgrow.cell_far ⟨b, 2, none⟩ (by simp; omega) hne).trans (by simpa using (World.cell?_alloc_past _ _ _ hb1).trans c2); have e0 : w1.frozen? ⟨b, 2, none⟩ = false := (hgrow.frozen_far ⟨b, 2, none⟩ (by simp; omega) hne).trans (by simpa using (World.frozen?_alloc_past _ _ _ hb1).trans z2))
      all_goals
        go_wp2
        go_roundw
        case rel => exact ⟨k + 1, by omega, by go_num, _, had.step (((Fr.refl _ _).alloc _).drew) hgrow hown (be_snoc l size k v hlt) (by rcases hat with h | h; exact .inl h; exact .inr (by rw [h]; simp))⟩
        case measure => simp [intOf]; omega
    · go_wp2
      go_end0
      have e : (be size v).take k = be size v := List.take_of_length_le (by rw [be_length]; omega)
      rw [e] at had
      exact ⟨rfl, sv1, had⟩
end Go.Proofs.YtikolmpgnpkdbaaDoor

namespace Go.Proofs.YtikolmpgnpkdbaaDoor
open Go.RowKit

/-- The one panic of the package's own: a *api.Fault. -/
def thrown (fa : Addr) : PanicEntry := { v := .iface 64 (.pointer (some fa)), recovered := false }

theorem Tryd.ta_hit (fa : Addr) (w : World) : (Instr.typeAssert (.iface 64 (.pointer (some fa))) 20 64 true).run Tryd.prog w = .ok (.tuple #[.pointer (some fa), .bool true]) w := by kernel_rfl
theorem Tryd.ta_nil (w : World) : (Instr.typeAssert .nilIface 20 64 true).run Tryd.prog w = .ok (.tuple #[.pointer none, .bool false]) w := by kernel_rfl

theorem catch_panicking (p fa : Addr) (b : Nat) (old : Value) (w : World) (hp : w.cell? p = some (.pointer (some ⟨b, 0, none⟩))) (h1 : w.cell? ⟨b, 1, none⟩ = some old) (f1 : w.frozen? ⟨b, 1, none⟩ = false) :
    CallsD Tryd.prog 93 #[.pointer (some p)] (.panicking [thrown fa]) w fun e u' w' =>
      e = .returned (.tuple #[]) ∧ u' = .panicking [{ v := .iface 64 (.pointer (some fa)), recovered := true }] ∧ w' = w.setCell ⟨b, 1, none⟩ (.pointer (some fa)) := by
  refine callsD_of_wpS Tryd.func93 rfl fun c₀ cs hu => ?_
  have ta := Tryd.ta_hit
  apply wpS_seq
  apply wpS_region
  simp [wpOpsS, go_sem, recoverD, hu, Tryd.ntmps93, Exit.thenS, thrown, ta]
  apply wpS_seq
  apply wpS_region
  simp [wpOpsS, go_sem, Exit.thenS]
  refine wpS_cond (t := true) (by simp [Act.eval, Array.replicate]) ?_
  simp only [if_true]
  apply wpS_region
  simp [wpOpsS, go_sem, hp, h1, f1, bodyPostS, results, Tryd.results93]

theorem catch_idle (p : Addr) (w : World) :
    CallsD Tryd.prog 93 #[.pointer (some p)] .returning w fun e u' w' => e = .returned (.tuple #[]) ∧ u' = .returning ∧ w' = w := by
  refine callsD_of_wpS Tryd.func93 rfl fun c₀ cs hu => ?_
  have ta := Tryd.ta_nil
  apply wpS_seq
  apply wpS_region
  simp [wpOpsS, go_sem, recoverD, hu, Tryd.ntmps93, Exit.thenS, ta]
  refine wpS_of_wp ?_
  go_wp2
  cases c₀
  simp_all [bodyPostS, results, Tryd.results93]

theorem mf : ∀ (fn : Fn) (first cap : Array Value) (w : World), (Instr.makeFunc fn first cap).run Tryd.prog w = .ok (.func fn first cap) w := fun _ _ _ _ => rfl

theorem attempt_given (b : Nat) (fa : Addr) (f : Value) (w : World) (h1 : w.cell? ⟨b, 1, none⟩ = some (.pointer (some fa))) :
    Calls Tryd.prog 54 #[.pointer (some ⟨b, 0, none⟩), f] w fun e w' => e = .returned (.tuple #[]) ∧ w' = w.alloc (.cells #[.pointer (some ⟨b, 0, none⟩)] 108) := by
  have hlt := lt_of_cell h1
  go_enter_defers Tryd.func54, Tryd.ntmps54
  go_wp2
  simp [bodyPostD, Leaves, results, Tryd.results54, go_sem]

theorem enters {F : Nat} {fn : Func} (hf : Tryd.prog.funcs[F]? = some fn) (hn : (fn.name == "runtime.NumGoroutine") = false) (hb : fn.body.isSome = true) (caps : Array Value) (W : World) : (callFunc F caps).run Tryd.prog W = .ok (.enter F caps) W := by
  have h1 : ¬ fn.name = "runtime.NumGoroutine" := by simpa using hn
  have h2 : ¬ fn.body = none := by intro h; rw [h] at hb; cases hb
  simp [callFunc, hf, h1, h2]

set_option maxRecDepth 100000 in
theorem attempt_ok (b F : Nat) (caps : Array Value) (R : World → Prop) (w : World) (h1 : w.cell? ⟨b, 1, none⟩ = some (.pointer none)) (he : ∀ W, (callFunc F caps).run Tryd.prog W = .ok (.enter F caps) W)
    (hw : Calls Tryd.prog F caps (w.alloc (.cells #[.pointer (some ⟨b, 0, none⟩)] 108)) fun e w' => e = .returned (.tuple #[]) ∧ R w') :
    Calls Tryd.prog 54 #[.pointer (some ⟨b, 0, none⟩), .func (.func F) #[] caps] w fun e w' => e = .returned (.tuple #[]) ∧ R w' := by
  have hlt := lt_of_cell h1
  have hmf := mf
  have Hw := hide hw
  clear hw
  go_enter_defers Tryd.func54, Tryd.ntmps54
  go_wp2_with fail
  refine (unhide Hw).mono ?_
  rintro e w' ⟨rfl, hR⟩
  go_wp2_with fail
  refine leaves_cons (f := 93) (args := #[.pointer (some ⟨w.heap.size, 0, none⟩)]) (by simp) (by simp [go_sem]) ?_
  refine (catch_idle ⟨w.heap.size, 0, none⟩ _).mono ?_
  rintro e u' w'' ⟨rfl, rfl, rfl⟩
  simp [Leaves, settle, results, Tryd.results54, go_sem]
  exact hR

set_option maxRecDepth 100000 in
theorem attempt_bad (b F : Nat) (caps : Array Value) (R : World → Addr → Prop) (w : World) (h1 : w.cell? ⟨b, 1, none⟩ = some (.pointer none)) (he : ∀ W, (callFunc F caps).run Tryd.prog W = .ok (.enter F caps) W)
    (hw : Calls Tryd.prog F caps (w.alloc (.cells #[.pointer (some ⟨b, 0, none⟩)] 108)) fun e w' => ∃ fa, e = .panicked [thrown fa] ∧ R w' fa)
    (hR : ∀ w' fa, R w' fa → w'.cell? ⟨w.heap.size, 0, none⟩ = some (.pointer (some ⟨b, 0, none⟩)) ∧ w'.cell? ⟨b, 1, none⟩ = some (.pointer none) ∧ w'.frozen? ⟨b, 1, none⟩ = false) :
    Calls Tryd.prog 54 #[.pointer (some ⟨b, 0, none⟩), .func (.func F) #[] caps] w fun e w' => e = .returned (.tuple #[]) ∧ ∃ w1 fa, R w1 fa ∧ w' = w1.setCell ⟨b, 1, none⟩ (.pointer (some fa)) := by
  have hlt := lt_of_cell h1
  have hmf := mf
  have Hw := hide hw
  have HR := hide hR
  clear hw hR
  go_enter_defers Tryd.func54, Tryd.ntmps54
  go_wp2_with fail
  refine (unhide Hw).mono ?_
  rintro e w' ⟨fa, rfl, hr⟩
  obtain ⟨r1, r2, r3⟩ := unhide HR _ _ hr
  go_wp2_with fail
  refine leaves_cons (f := 93) (args := #[.pointer (some ⟨w.heap.size, 0, none⟩)]) (by simp) (by simp [go_sem]) ?_
  refine (catch_panicking ⟨w.heap.size, 0, none⟩ fa b _ w' r1 r2 r3).mono ?_
  rintro e u' w'' ⟨rfl, rfl, rfl⟩
  simp [Leaves, settle, results, Tryd.results54, go_sem]
  exact ⟨w', fa, hr, rfl⟩
end Go.Proofs.YtikolmpgnpkdbaaDoor

namespace Go.Proofs.YtikolmpgnpkdbaaDoor
open Go.RowKit

/-- An error of errors.New's make. -/
def err (ea : Addr) : Value := .iface 147 (.pointer (some ea))
/-- The block of a fault. -/
def faultObj (nm : ByteArray) (place : Nat) (ea : Addr) : Obj := .cells #[.string nm, .int .i64 place, .iface 147 (.pointer (some ea))] 91

theorem faultAt_any (b place : Nat) (nm : ByteArray) (ea : Addr) (w : World) (h0 : w.cell? ⟨b, 0, none⟩ = some (.string nm)) :
    Calls Tryd.prog 50 #[.pointer (some ⟨b, 0, none⟩), .int .i64 place, .iface 147 (.pointer (some ea))] w fun e w' => e = .returned (.pointer (some ⟨w.heap.size, 0, none⟩)) ∧ w' = w.alloc (faultObj nm place ea) := by
  go_enter Tryd.func50, Tryd.ntmps50
  go_wp2
  go_ret
  exact ⟨rfl, rfl⟩

theorem throwAt_any (b place : Nat) (nm : ByteArray) (ea : Addr) (w : World) (h0 : w.cell? ⟨b, 0, none⟩ = some (.string nm)) :
    Calls Tryd.prog 103 #[.pointer (some ⟨b, 0, none⟩), .int .i64 place, .iface 147 (.pointer (some ea))] w fun e w' => e = .panicked [thrown ⟨w.heap.size, 0, none⟩] ∧ w' = w.alloc (faultObj nm place ea) := by
  go_enter Tryd.func103, Tryd.ntmps103
  go_wp2_with (go_at_call 50; refine (faultAt_any _ _ _ _ _ h0).mono ?_; rintro e w' ⟨rfl, rfl⟩)
  exact ⟨rfl, rfl, rfl⟩

theorem wrefuse_no (b : Nat) (why : Value) (w : World) :
    Calls Tryd.prog 75 #[.pointer (some ⟨b, 0, none⟩), .bool false, why] w fun e w' => e = .returned (.tuple #[]) ∧ w' = w := by
  go_enter Tryd.func75, Tryd.ntmps75
  go_wp2
  go_end0
  exact ⟨rfl, rfl⟩

theorem wrefuse_yes (b len cap : Nat) (ao : Option Addr) (nm : ByteArray) (ea : Addr) (w : World) (h0 : w.cell? ⟨b, 0, none⟩ = some (.string nm)) (h2 : w.cell? ⟨b, 2, none⟩ = some (.slice ao len cap)) :
    Calls Tryd.prog 75 #[.pointer (some ⟨b, 0, none⟩), .bool true, .iface 147 (.pointer (some ea))] w fun e w' => e = .panicked [thrown ⟨w.heap.size, 0, none⟩] ∧ w' = (w.alloc (faultObj nm len ea)).drew := by
  go_enter Tryd.func75, Tryd.ntmps75
  go_wp2
  go_region_dies
  all_goals
    go_wp2_with fail
    refine (throwAt_any b len nm ea w.drew (by simpa using h0)).mono ?_
    rintro e w' ⟨rfl, rfl⟩
    exact ⟨rfl, rfl, rfl⟩

/-- Behind a refusal: a new block that holds the fault; all else as it was. -/
structure Bad (w w' : World) (fa : Addr) (nm : ByteArray) (place : Nat) (ea : Addr) : Prop where
  fr : Fr (fun _ => False) w w'
  blk : fa.off = 0 ∧ fa.spot = none ∧ w.heap.size ≤ fa.block
  c : w'.heap[fa.block]? = some (faultObj nm place ea)

theorem bad_of (w : World) (nm : ByteArray) (place : Nat) (ea : Addr) : Bad w (w.alloc (faultObj nm place ea)).drew ⟨w.heap.size, 0, none⟩ nm place ea :=
  ⟨((Fr.refl _ _).alloc _).drew, ⟨rfl, rfl, Nat.le_refl _⟩, heap_alloc_new w _⟩

/-- Function 'count' of a writer: the number that is not above most, nor above 2^32 - 1. -/
theorem wcount_ok (b n : Nat) (most : Int) (sv : Value) (l : List Nat) (ea : Addr) (w : World) (hn : (n : Int) ≤ most) (hmax : n < 4294967296)
    (he : w.cell? ⟨4, 0, none⟩ = some (.iface 147 (.pointer (some ea))))
    (h2 : w.cell? ⟨b, 2, none⟩ = some sv) (f2 : w.frozen? ⟨b, 2, none⟩ = false) (ho : w.ownsRow (b + 1) 5 1 sv l.length (cellsOf l)) (hl : l.length + 4 ≤ 140737488355328) :
    Calls Tryd.prog 56 #[.pointer (some ⟨b, 0, none⟩), .int .i64 n, .int .i64 most] w fun e w' => e = .returned (.tuple #[]) ∧ ∃ sv', Adv w w' b 2 sv sv' (l ++ be 4 n) := by
  have HO := hide ho
  clear ho
  go_enter Tryd.func56, Tryd.ntmps56
  go_wp2_with fail
  rw [show (decide (most < (n : Int)) || decide (4294967295 < (n : Int))) = false from by simp; omega]
  refine (wrefuse_no _ _ _).mono ?_
  rintro e w' ⟨rfl, rfl⟩
  go_wp2_with fail
  refine (number_any b 4 n sv l _ (by decide) h2 f2 (unhide HO) hl).mono ?_
  rintro e w' ⟨rfl, hA⟩
  go_wp2_with fail
  go_end0
  exact ⟨rfl, hA⟩

theorem wcount_bad (b n : Nat) (most : Int) (len cap : Nat) (ao : Option Addr) (nm : ByteArray) (ea : Addr) (w : World) (hn : most < (n : Int) ∨ 4294967295 < n) (hm : n < 9223372036854775808)
    (he : w.cell? ⟨4, 0, none⟩ = some (.iface 147 (.pointer (some ea))))
    (h0 : w.cell? ⟨b, 0, none⟩ = some (.string nm)) (h2 : w.cell? ⟨b, 2, none⟩ = some (.slice ao len cap)) :
    Calls Tryd.prog 56 #[.pointer (some ⟨b, 0, none⟩), .int .i64 n, .int .i64 most] w fun e w' => ∃ fa, e = .panicked [thrown fa] ∧ Bad w w' fa nm len ea := by
  by_cases hc : most < (n : Int)
  · clear hn
    go_enter Tryd.func56, Tryd.ntmps56
    go_wp2_with fail
    refine (wrefuse_yes b len cap ao nm ea _ h0 h2).mono ?_
    rintro e w' ⟨rfl, rfl⟩
    exact ⟨rfl, _, rfl, bad_of w nm len ea⟩
  · have hd : (4294967295 : Int) < (n : Int) := by omega
    clear hn
    go_enter Tryd.func56, Tryd.ntmps56
    go_wp2_with fail
    refine (wrefuse_yes b len cap ao nm ea _ h0 h2).mono ?_
    rintro e w' ⟨rfl, rfl⟩
    exact ⟨rfl, _, rfl, bad_of w nm len ea⟩
end Go.Proofs.YtikolmpgnpkdbaaDoor

namespace Go.Proofs.YtikolmpgnpkdbaaDoor
open Go.RowKit

/-- What a writer has: its name, the bytes laid, its fault (name, place, the error's address). -/
structure Wst where
  nm : ByteArray
  l : List Nat
  f : Option (ByteArray × Nat × Addr)

/-- The package-level errors, by the reasons' numbers. -/
structure Gl (w : World) (E : Nat → Addr) : Prop where
  e1 : w.cell? ⟨3, 0, none⟩ = some (.iface 147 (.pointer (some (E 1))))
  e2 : w.cell? ⟨4, 0, none⟩ = some (.iface 147 (.pointer (some (E 2))))
  e3 : w.cell? ⟨0, 0, none⟩ = some (.iface 147 (.pointer (some (E 3))))

theorem Gl.fr {w w' : World} {E : Nat → Addr} {S : Nat → Prop} (h : Gl w E) (hf : Fr S w w') (hS : ∀ k, S k → 9 ≤ k) : Gl w' E := by
  have key : ∀ (n : Nat) (v : Value), n < 9 → w.cell? ⟨n, 0, none⟩ = some v → w'.cell? ⟨n, 0, none⟩ = some v := fun n v hn hv =>
    (hf.cell (lt_of_cell hv) (fun hs => by have := hS _ hs; simp at this; omega)).trans hv
  exact ⟨key _ _ (by decide) h.e1, key _ _ (by decide) h.e2, key _ _ (by decide) h.e3⟩

structure W (w : World) (b : Nat) (F : Nat → Prop) (s : Wst) : Prop where
  lt : ∀ k, F k → k < w.heap.size
  lo : ∀ k, F k → 9 ≤ k
  fb : F b
  c0 : w.cell? ⟨b, 0, none⟩ = some (.string s.nm)
  fz : ∀ i, w.frozen? ⟨b, i, none⟩ = false
  st : (s.f = none ∧ w.cell? ⟨b, 1, none⟩ = some (.pointer none) ∧ ∃ sv, w.cell? ⟨b, 2, none⟩ = some sv ∧ w.ownsRow (b + 1) 5 1 sv s.l.length (cellsOf s.l) ∧ ∀ k, sv.ownBlock = some k → F k) ∨
    (∃ what place ea fb, s.f = some (what, place, ea) ∧ w.cell? ⟨b, 1, none⟩ = some (.pointer (some ⟨fb, 0, none⟩)) ∧ F fb ∧ w.heap[fb]? = some (faultObj what place ea))

/-- What a call of an object with the footprint F makes of the world; F' is its footprint then. -/
structure Ch (w w' : World) (F F' : Nat → Prop) : Prop where
  fr : Fr F w w'
  new : ∀ k, F' k → F k ∨ w.heap.size ≤ k

theorem ownsRow_of_block {w w' : World} {base e size n : Nat} {v : Value} {xs : List Value} (h : w.ownsRow base e size v n xs) (hb : ∀ g, v.ownBlock = some g → w'.heap[g]? = w.heap[g]?) : w'.ownsRow base e size v n xs := by
  refine ⟨h.1, ?_⟩
  rcases h.2 with h0 | ⟨g, cap, cur, e1, e2, e3, e4⟩
  · exact .inl h0
  · exact .inr ⟨g, cap, cur, e1, e2, (hb g (by rw [e1]; rfl)).trans e3, e4⟩

theorem W.frame {w w' : World} {b : Nat} {F S : Nat → Prop} {s : Wst} (h : W w b F s) (hf : Fr S w w') (hS : ∀ k, F k → ¬ S k) : W w' b F s := by
  have hc : ∀ i, w'.cell? ⟨b, i, none⟩ = w.cell? ⟨b, i, none⟩ := fun i => hf.cell (h.lt b h.fb) (hS b h.fb)
  refine ⟨fun k hk => Nat.lt_of_lt_of_le (h.lt k hk) hf.size, h.lo, h.fb, (hc 0).trans h.c0, fun i => (hf.frozen (h.lt b h.fb) (hS b h.fb)).trans (h.fz i), ?_⟩
  rcases h.st with ⟨h1, h2, sv, h3, h4, h5⟩ | ⟨what, place, ea, fb, h1, h2, h3, h4⟩
  · exact .inl ⟨h1, (hc 1).trans h2, sv, (hc 2).trans h3, ownsRow_of_block h4 (fun g hg => hf.block g (h.lt g (h5 g hg)) (hS g (h5 g hg))), h5⟩
  · exact .inr ⟨what, place, ea, fb, h1, (hc 1).trans h2, h3, (hf.block fb (h.lt fb h3) (hS fb h3)).trans h4⟩

theorem Ch.refl (w : World) (F : Nat → Prop) : Ch w w F F := ⟨Fr.refl _ _, fun _ h => .inl h⟩
theorem Ch.trans {a b c : World} {F G H : Nat → Prop} (h : Ch a b F G) (k : Ch b c G H) : Ch a c F H :=
  ⟨h.fr.trans k.fr (fun i hi hg => (h.new i hg).resolve_right (by omega)), fun i hi => (k.new i hi).elim (fun hg => h.new i hg) (fun hx => .inr (Nat.le_trans h.fr.size hx))⟩

/-- A part was laid. -/
theorem W.put_ok {w wa w' : World} {b : Nat} {F : Nat → Prop} {s : Wst} {sv sv' : Value} {x : List Nat} (h : W w b F s) (hn : s.f = none) (ha : Fr (fun _ => False) w wa) (hsv : w.cell? ⟨b, 2, none⟩ = some sv) (had : Adv wa w' b 2 sv sv' (s.l ++ x)) :
    ∃ F', W w' b F' { s with l := s.l ++ x } ∧ Ch w w' F F' := by
  rcases h.st with ⟨h1, h2, sv0, h3, h4, h5⟩ | ⟨what, place, ea, fb, h1, _⟩
  · obtain rfl : sv0 = sv := by rw [h3] at hsv; exact Option.some.inj hsv
    have hb := h.lt b h.fb
    have hsame : ∀ i, wa.cell? ⟨b, i, none⟩ = w.cell? ⟨b, i, none⟩ := fun i => ha.cell hb (fun h => h)
    refine ⟨fun k => F k ∨ sv'.ownBlock = some k, ⟨?_, ?_, .inl h.fb, ?_, ?_, .inl ⟨hn, ?_, sv', had.c2, had.own, fun k hk => .inr hk⟩⟩, ?_, ?_⟩
    · intro k hk
      rcases hk with hk | hk
      · exact Nat.lt_of_lt_of_le (h.lt k hk) (Nat.le_trans ha.size had.fr.size)
      · exact (had.own.lt k hk).2
    · intro k hk
      rcases hk with hk | hk
      · exact h.lo k hk
      · have h1 := (had.own.lt k hk).1
        have h2 := h.lo b h.fb
        omega
    · exact (had.cs 0 (by decide)).trans ((hsame 0).trans h.c0)
    · intro i; exact (had.fz i).trans ((ha.frozen hb (fun h => h)).trans (h.fz i))
    · exact (had.cs 1 (by decide)).trans ((hsame 1).trans h2)
    · refine (ha.mono (T := F) (fun _ _ h => h.elim)).trans had.fr (fun i _ hi => ?_)
      rcases hi with rfl | hi
      · exact h.fb
      · exact h5 i hi
    · intro k hk
      rcases hk with hk | hk
      · exact .inl hk
      · rcases had.at_ with e | ⟨g, e, hg⟩
        · exact .inl (h5 k (e ▸ hk))
        · rw [e] at hk; cases hk; exact .inr (Nat.le_trans ha.size hg)
  · rw [hn] at h1; cases h1

/-- It gave up. -/
theorem W.put_bad {w wa w1 : World} {b : Nat} {F : Nat → Prop} {s : Wst} {fa ea : Addr} {place : Nat} (h : W w b F s) (hn : s.f = none) (ha : Fr (fun _ => False) w wa) (hb : Bad wa w1 fa s.nm place ea) :
    ∃ F', W (w1.setCell ⟨b, 1, none⟩ (.pointer (some fa))) b F' { s with f := some (s.nm, place, ea) } ∧ Ch w (w1.setCell ⟨b, 1, none⟩ (.pointer (some fa))) F F' := by
  rcases h.st with ⟨h1, h2, sv0, h3, h4, h5⟩ | ⟨what, place, ea, fb, h1, _⟩
  · have hlt := h.lt b h.fb
    have hw1 : Fr (fun _ => False) w w1 := ha.trans hb.fr (fun _ _ h => h)
    have hsame : ∀ i, w1.cell? ⟨b, i, none⟩ = w.cell? ⟨b, i, none⟩ := fun i => hw1.cell hlt (fun h => h)
    obtain ⟨fb, fo, fs⟩ := fa
    obtain ⟨rfl, rfl, hge⟩ := hb.blk
    have hge' : w.heap.size ≤ fb := Nat.le_trans ha.size hge
    have hfl : fb < w1.heap.size := by
      rcases Nat.lt_or_ge fb w1.heap.size with hx | hx
      · exact hx
      · have := hb.c; rw [Array.getElem?_eq_none hx] at this; cases this
    refine ⟨fun k => F k ∨ k = fb, ⟨?_, ?_, .inl h.fb, ?_, ?_, .inr ⟨s.nm, place, ea, fb, rfl, ?_, .inr rfl, ?_⟩⟩, ?_, ?_⟩
    · intro k hk
      rw [World.size_setCell]
      rcases hk with hk | rfl
      · exact Nat.lt_of_lt_of_le (h.lt k hk) hw1.size
      · exact hfl
    · intro k hk
      rcases hk with hk | rfl
      · exact h.lo k hk
      · have h2 := h.lo b h.fb
        omega
    · rw [World.cell?_setCell_other _ _ _ _ (by intro h; injection h with _ h2 _; cases h2), hsame]; exact h.c0
    · intro i; rw [World.frozen?_setCell]; exact (hw1.frozen hlt (fun h => h)).trans (h.fz i)
    · exact World.cell?_setCell_same _ _ _ ((hsame 1).trans h2)
    · rw [Below.heap_setCell _ _ _ _ (by show fb ≠ b; omega)]; exact hb.c
    · exact (hw1.mono (T := F) (fun _ _ h => h.elim)).setCell (.inl h.fb) _
    · intro k hk
      rcases hk with hk | rfl
      · exact .inl hk
      · exact .inr hge'
  · rw [hn] at h1; cases h1

/-- It had given up. -/
theorem W.put_given {w w' : World} {b : Nat} {F : Nat → Prop} {s : Wst} (h : W w b F s) (ha : Fr (fun _ => False) w w') : ∃ F', W w' b F' s ∧ Ch w w' F F' :=
  ⟨F, h.frame ha (fun _ _ h => h), ha.mono (fun _ _ h => h.elim), fun _ hk => .inl hk⟩

/-- A call by way of 'attempt' whose work lays x. -/
theorem att_ok {w wb : World} {b Fc : Nat} {caps : Array Value} {F : Nat → Prop} {s : Wst} (x : List Nat) (h : W w b F s) (hn : s.f = none) (hwb : Fr (fun _ => False) w wb) (he : ∀ W, (callFunc Fc caps).run Tryd.prog W = .ok (.enter Fc caps) W)
    (hclo : ∀ wk sv, Fr (fun _ => False) wb wk → wk.cell? ⟨b, 2, none⟩ = some sv → wk.frozen? ⟨b, 2, none⟩ = false → wk.ownsRow (b + 1) 5 1 sv s.l.length (cellsOf s.l) → (∀ k, k = b ∨ sv.ownBlock = some k → F k) →
      Calls Tryd.prog Fc caps wk fun e w' => e = .returned (.tuple #[]) ∧ ∃ sv', Adv wk w' b 2 sv sv' (s.l ++ x)) :
    Calls Tryd.prog 54 #[.pointer (some ⟨b, 0, none⟩), .func (.func Fc) #[] caps] wb fun e w' => e = .returned (.tuple #[]) ∧ ∃ F', W w' b F' { s with l := s.l ++ x } ∧ Ch w w' F F' := by
  have hB := h.frame hwb (fun _ _ h => h)
  rcases hB.st with ⟨h1, h2, sv, h3, h4, h5⟩ | ⟨what, place, ea, fb, h1, _⟩
  · have hk : Fr (fun _ => False) wb (wb.alloc (.cells #[.pointer (some ⟨b, 0, none⟩)] 108)) := (Fr.refl _ _).alloc _
    have hK := hB.frame hk (fun _ _ h => h)
    have hlt := hB.lt b hB.fb
    refine (attempt_ok b Fc caps (fun w' => ∃ F', W w' b F' { s with l := s.l ++ x } ∧ Ch w w' F F') wb h2 he ?_)
    refine (hclo _ sv hk ((hk.cell hlt (fun h => h)).trans h3) ((hk.frozen hlt (fun h => h)).trans (hB.fz 2)) (ownsRow_of_block h4 (fun g hg => hk.block g (hB.lt g (h5 g hg)) (fun h => h))) (fun k hk => hk.elim (fun e => e ▸ hB.fb) (h5 k))).mono ?_
    rintro e w' ⟨rfl, sv', hA⟩
    exact ⟨rfl, h.put_ok hn (hwb.trans hk (fun _ _ h => h)) ((hwb.cell (h.lt b h.fb) (fun h => h)).symm.trans h3) hA⟩
  · rw [hn] at h1; cases h1

/-- One whose work gives up. -/
theorem att_bad {w wb : World} {b Fc : Nat} {caps : Array Value} {F : Nat → Prop} {s : Wst} (place : Nat) (ea : Addr) (h : W w b F s) (hn : s.f = none) (hwb : Fr (fun _ => False) w wb) (he : ∀ W, (callFunc Fc caps).run Tryd.prog W = .ok (.enter Fc caps) W)
    (hclo : ∀ wk, Fr (fun _ => False) wb wk → W wk b F s → Calls Tryd.prog Fc caps wk fun e w' => ∃ fa, e = .panicked [thrown fa] ∧ Bad wk w' fa s.nm place ea) :
    Calls Tryd.prog 54 #[.pointer (some ⟨b, 0, none⟩), .func (.func Fc) #[] caps] wb fun e w' => e = .returned (.tuple #[]) ∧ ∃ F', W w' b F' { s with f := some (s.nm, place, ea) } ∧ Ch w w' F F' := by
  have hB := h.frame hwb (fun _ _ h => h)
  rcases hB.st with ⟨h1, h2, sv, h3, h4, h5⟩ | ⟨what, place, ea, fb, h1, _⟩
  · have hk : Fr (fun _ => False) wb (wb.alloc (.cells #[.pointer (some ⟨b, 0, none⟩)] 108)) := (Fr.refl _ _).alloc _
    have hK := hB.frame hk (fun _ _ h => h)
    have hlt := hB.lt b hB.fb
    refine (attempt_bad b Fc caps (fun w' fa => Bad (wb.alloc (.cells #[.pointer (some ⟨b, 0, none⟩)] 108)) w' fa s.nm place ea) wb h2 he (hclo _ hk hK) ?_).mono ?_
    · intro w' fa hbad
      refine ⟨?_, ?_, ?_⟩
      · exact (hbad.fr.cell (by simp) (fun h => h)).trans (by simp)
      · exact (hbad.fr.cell (by simp; omega) (fun h => h)).trans ((hk.cell hlt (fun h => h)).trans h2)
      · exact (hbad.fr.frozen (by simp; omega) (fun h => h)).trans ((hk.frozen hlt (fun h => h)).trans (hB.fz 1))
    · rintro e w' ⟨rfl, w1, fa, hbad, rfl⟩
      exact ⟨rfl, h.put_bad hn (hwb.trans hk (fun _ _ h => h)) hbad⟩
  · rw [hn] at h1; cases h1

/-- One of a writer that has given up. -/
theorem att_given {w wb : World} {b : Nat} {f : Value} {F : Nat → Prop} {s : Wst} (h : W w b F s) (hn : s.f ≠ none) (hwb : Fr (fun _ => False) w wb) :
    Calls Tryd.prog 54 #[.pointer (some ⟨b, 0, none⟩), f] wb fun e w' => e = .returned (.tuple #[]) ∧ ∃ F', W w' b F' s ∧ Ch w w' F F' := by
  have hB := h.frame hwb (fun _ _ h => h)
  rcases hB.st with ⟨h1, _⟩ | ⟨what, place, ea, fb, h1, h2, h3, h4⟩
  · exact absurd h1 hn
  · refine (attempt_given b _ f wb h2).mono ?_
    rintro e w' ⟨rfl, rfl⟩
    exact ⟨rfl, h.put_given (hwb.alloc _)⟩

theorem box2 (w : World) (a b : Obj) : Fr (fun _ => False) w ((w.alloc a).alloc b) := ((Fr.refl _ _).alloc _).alloc _
theorem box3 (w : World) (a b c : Obj) : Fr (fun _ => False) w (((w.alloc a).alloc b).alloc c) := (((Fr.refl _ _).alloc _).alloc _).alloc _

theorem wU8_clo (b v : Nat) (p0 p1 : Addr) (sv : Value) (l : List Nat) (w : World) (hv : v < 256) (hp0 : w.cell? p0 = some (.pointer (some ⟨b, 0, none⟩))) (hp1 : w.cell? p1 = some (.int .u8 v))
    (h2 : w.cell? ⟨b, 2, none⟩ = some sv) (f2 : w.frozen? ⟨b, 2, none⟩ = false) (ho : w.ownsRow (b + 1) 5 1 sv l.length (cellsOf l)) (hl : l.length + 1 ≤ 140737488355328) :
    Calls Tryd.prog 57 #[.pointer (some p0), .pointer (some p1)] w fun e w' => e = .returned (.tuple #[]) ∧ ∃ sv', Adv w w' b 2 sv sv' (l ++ be 1 v) := by
  have HO := hide ho
  clear ho
  go_enter Tryd.func57, Tryd.ntmps57
  go_wp2_with fail
  refine (number_any b 1 v sv l _ (by decide) h2 f2 (unhide HO) hl).mono ?_
  rintro e w' ⟨rfl, hA⟩
  go_wp2_with fail
  go_end0
  exact ⟨rfl, hA⟩

theorem wU8_any (b v : Nat) (F : Nat → Prop) (s : Wst) (w : World) (hv : v < 256) (h : W w b F s) (hl : s.l.length + 1 ≤ 140737488355328) :
    Calls Tryd.prog 23 #[.pointer (some ⟨b, 0, none⟩), .int .u8 v] w fun e w' => e = .returned (.tuple #[]) ∧ ∃ F', W w' b F' (if s.f = none then { s with l := s.l ++ be 1 v } else s) ∧ Ch w w' F F' := by
  have hb := h.lt b h.fb
  have hmf := mf
  by_cases hn : s.f = none
  · have HN := hide hn
    rw [if_pos hn]
    clear hn
    go_enter Tryd.func23, Tryd.ntmps23
    go_wp2_with fail
    refine (att_ok (w := w) (be 1 v) h (unhide HN) (box2 _ _ _) (enters Tryd.func57 (by kernel_rfl) (by kernel_rfl) _) (fun wk sv hk h2 f2 ho _ => wU8_clo b v _ _ sv s.l wk hv ((hk.cell (by simp <;> omega) (fun h => h)).trans (by simp)) ((hk.cell (by simp) (fun h => h)).trans (by simp)) h2 f2 ho hl)).mono ?_
    rintro e w' ⟨rfl, hr⟩
    go_wp2_with fail
    go_end0
    exact ⟨rfl, hr⟩
  · have HN := hide hn
    rw [if_neg hn]
    clear hn
    go_enter Tryd.func23, Tryd.ntmps23
    go_wp2_with fail
    refine (att_given (w := w) h (unhide HN) (box2 _ _ _)).mono ?_
    rintro e w' ⟨rfl, hr⟩
    go_wp2_with fail
    go_end0
    exact ⟨rfl, hr⟩
theorem wU16_clo (b v : Nat) (p0 p1 : Addr) (sv : Value) (l : List Nat) (w : World) (hv : v < 65536) (hp0 : w.cell? p0 = some (.pointer (some ⟨b, 0, none⟩))) (hp1 : w.cell? p1 = some (.int .u16 v))
    (h2 : w.cell? ⟨b, 2, none⟩ = some sv) (f2 : w.frozen? ⟨b, 2, none⟩ = false) (ho : w.ownsRow (b + 1) 5 1 sv l.length (cellsOf l)) (hl : l.length + 2 ≤ 140737488355328) :
    Calls Tryd.prog 63 #[.pointer (some p0), .pointer (some p1)] w fun e w' => e = .returned (.tuple #[]) ∧ ∃ sv', Adv w w' b 2 sv sv' (l ++ be 2 v) := by
  have HO := hide ho
  clear ho
  go_enter Tryd.func63, Tryd.ntmps63
  go_wp2_with fail
  refine (number_any b 2 v sv l _ (by decide) h2 f2 (unhide HO) hl).mono ?_
  rintro e w' ⟨rfl, hA⟩
  go_wp2_with fail
  go_end0
  exact ⟨rfl, hA⟩

theorem wU16_any (b v : Nat) (F : Nat → Prop) (s : Wst) (w : World) (hv : v < 65536) (h : W w b F s) (hl : s.l.length + 2 ≤ 140737488355328) :
    Calls Tryd.prog 25 #[.pointer (some ⟨b, 0, none⟩), .int .u16 v] w fun e w' => e = .returned (.tuple #[]) ∧ ∃ F', W w' b F' (if s.f = none then { s with l := s.l ++ be 2 v } else s) ∧ Ch w w' F F' := by
  have hb := h.lt b h.fb
  have hmf := mf
  by_cases hn : s.f = none
  · have HN := hide hn
    rw [if_pos hn]
    clear hn
    go_enter Tryd.func25, Tryd.ntmps25
    go_wp2_with fail
    refine (att_ok (w := w) (be 2 v) h (unhide HN) (box2 _ _ _) (enters Tryd.func63 (by kernel_rfl) (by kernel_rfl) _) (fun wk sv hk h2 f2 ho _ => wU16_clo b v _ _ sv s.l wk hv ((hk.cell (by simp <;> omega) (fun h => h)).trans (by simp)) ((hk.cell (by simp) (fun h => h)).trans (by simp)) h2 f2 ho hl)).mono ?_
    rintro e w' ⟨rfl, hr⟩
    go_wp2_with fail
    go_end0
    exact ⟨rfl, hr⟩
  · have HN := hide hn
    rw [if_neg hn]
    clear hn
    go_enter Tryd.func25, Tryd.ntmps25
    go_wp2_with fail
    refine (att_given (w := w) h (unhide HN) (box2 _ _ _)).mono ?_
    rintro e w' ⟨rfl, hr⟩
    go_wp2_with fail
    go_end0
    exact ⟨rfl, hr⟩
theorem wU32_clo (b v : Nat) (p0 p1 : Addr) (sv : Value) (l : List Nat) (w : World) (hv : v < 4294967296) (hp0 : w.cell? p0 = some (.pointer (some ⟨b, 0, none⟩))) (hp1 : w.cell? p1 = some (.int .u32 v))
    (h2 : w.cell? ⟨b, 2, none⟩ = some sv) (f2 : w.frozen? ⟨b, 2, none⟩ = false) (ho : w.ownsRow (b + 1) 5 1 sv l.length (cellsOf l)) (hl : l.length + 4 ≤ 140737488355328) :
    Calls Tryd.prog 72 #[.pointer (some p0), .pointer (some p1)] w fun e w' => e = .returned (.tuple #[]) ∧ ∃ sv', Adv w w' b 2 sv sv' (l ++ be 4 v) := by
  have HO := hide ho
  clear ho
  go_enter Tryd.func72, Tryd.ntmps72
  go_wp2_with fail
  refine (number_any b 4 v sv l _ (by decide) h2 f2 (unhide HO) hl).mono ?_
  rintro e w' ⟨rfl, hA⟩
  go_wp2_with fail
  go_end0
  exact ⟨rfl, hA⟩

theorem wU32_any (b v : Nat) (F : Nat → Prop) (s : Wst) (w : World) (hv : v < 4294967296) (h : W w b F s) (hl : s.l.length + 4 ≤ 140737488355328) :
    Calls Tryd.prog 31 #[.pointer (some ⟨b, 0, none⟩), .int .u32 v] w fun e w' => e = .returned (.tuple #[]) ∧ ∃ F', W w' b F' (if s.f = none then { s with l := s.l ++ be 4 v } else s) ∧ Ch w w' F F' := by
  have hb := h.lt b h.fb
  have hmf := mf
  by_cases hn : s.f = none
  · have HN := hide hn
    rw [if_pos hn]
    clear hn
    go_enter Tryd.func31, Tryd.ntmps31
    go_wp2_with fail
    refine (att_ok (w := w) (be 4 v) h (unhide HN) (box2 _ _ _) (enters Tryd.func72 (by kernel_rfl) (by kernel_rfl) _) (fun wk sv hk h2 f2 ho _ => wU32_clo b v _ _ sv s.l wk hv ((hk.cell (by simp <;> omega) (fun h => h)).trans (by simp)) ((hk.cell (by simp) (fun h => h)).trans (by simp)) h2 f2 ho hl)).mono ?_
    rintro e w' ⟨rfl, hr⟩
    go_wp2_with fail
    go_end0
    exact ⟨rfl, hr⟩
  · have HN := hide hn
    rw [if_neg hn]
    clear hn
    go_enter Tryd.func31, Tryd.ntmps31
    go_wp2_with fail
    refine (att_given (w := w) h (unhide HN) (box2 _ _ _)).mono ?_
    rintro e w' ⟨rfl, hr⟩
    go_wp2_with fail
    go_end0
    exact ⟨rfl, hr⟩
theorem wU64_clo (b v : Nat) (p0 p1 : Addr) (sv : Value) (l : List Nat) (w : World) (_hv : v < 18446744073709551616) (hp0 : w.cell? p0 = some (.pointer (some ⟨b, 0, none⟩))) (hp1 : w.cell? p1 = some (.int .u64 v))
    (h2 : w.cell? ⟨b, 2, none⟩ = some sv) (f2 : w.frozen? ⟨b, 2, none⟩ = false) (ho : w.ownsRow (b + 1) 5 1 sv l.length (cellsOf l)) (hl : l.length + 8 ≤ 140737488355328) :
    Calls Tryd.prog 73 #[.pointer (some p0), .pointer (some p1)] w fun e w' => e = .returned (.tuple #[]) ∧ ∃ sv', Adv w w' b 2 sv sv' (l ++ be 8 v) := by
  have HO := hide ho
  clear ho
  go_enter Tryd.func73, Tryd.ntmps73
  go_wp2_with fail
  refine (number_any b 8 v sv l _ (by decide) h2 f2 (unhide HO) hl).mono ?_
  rintro e w' ⟨rfl, hA⟩
  go_wp2_with fail
  go_end0
  exact ⟨rfl, hA⟩

theorem wU64_any (b v : Nat) (F : Nat → Prop) (s : Wst) (w : World) (hv : v < 18446744073709551616) (h : W w b F s) (hl : s.l.length + 8 ≤ 140737488355328) :
    Calls Tryd.prog 32 #[.pointer (some ⟨b, 0, none⟩), .int .u64 v] w fun e w' => e = .returned (.tuple #[]) ∧ ∃ F', W w' b F' (if s.f = none then { s with l := s.l ++ be 8 v } else s) ∧ Ch w w' F F' := by
  have hb := h.lt b h.fb
  have hmf := mf
  by_cases hn : s.f = none
  · have HN := hide hn
    rw [if_pos hn]
    clear hn
    go_enter Tryd.func32, Tryd.ntmps32
    go_wp2_with fail
    refine (att_ok (w := w) (be 8 v) h (unhide HN) (box2 _ _ _) (enters Tryd.func73 (by kernel_rfl) (by kernel_rfl) _) (fun wk sv hk h2 f2 ho _ => wU64_clo b v _ _ sv s.l wk hv ((hk.cell (by simp <;> omega) (fun h => h)).trans (by simp)) ((hk.cell (by simp) (fun h => h)).trans (by simp)) h2 f2 ho hl)).mono ?_
    rintro e w' ⟨rfl, hr⟩
    go_wp2_with fail
    go_end0
    exact ⟨rfl, hr⟩
  · have HN := hide hn
    rw [if_neg hn]
    clear hn
    go_enter Tryd.func32, Tryd.ntmps32
    go_wp2_with fail
    refine (att_given (w := w) h (unhide HN) (box2 _ _ _)).mono ?_
    rintro e w' ⟨rfl, hr⟩
    go_wp2_with fail
    go_end0
    exact ⟨rfl, hr⟩
end Go.Proofs.YtikolmpgnpkdbaaDoor

namespace Go.Proofs.YtikolmpgnpkdbaaDoor
open Go.RowKit

/-- A string's bytes. -/
def bytesOf (s : ByteArray) : List Nat := s.data.toList.map UInt8.toNat
theorem bytesOf_length (s : ByteArray) : (bytesOf s).length = s.size := by simp [bytesOf]
theorem cellsOf_bytesOf (s : ByteArray) : cellsOf (bytesOf s) = Lib.strCells s := by
  simp only [cellsOf, bytesOf, Lib.strCells, List.map_map]
  apply List.map_congr_left
  intro c _
  have : c.toNat < 256 := c.toNat_lt
  simp [B, Nat.mod_eq_of_lt this]
theorem cellsOf_append (a b : List Nat) : cellsOf (a ++ b) = cellsOf a ++ cellsOf b := by simp [cellsOf]
theorem cellsOf_length (a : List Nat) : (cellsOf a).length = a.length := by simp [cellsOf]
theorem cellsOf_one (a : List Nat) : ∀ u ∈ cellsOf a, u.oneCell' = true := by
  intro u hu
  simp only [cellsOf, List.mem_map] at hu
  obtain ⟨c, _, rfl⟩ := hu
  rfl

/-- Where a slice of bytes lies, and what it holds. -/
def Src (w : World) (x : Value) (l : List Nat) : Prop :=
  (x = .slice none 0 0 ∧ l = []) ∨ (∃ g o c, x = .slice (some ⟨g, o, none⟩) l.length c ∧ ∀ j v, (cellsOf l)[j]? = some v → w.cell? ⟨g, o + j, none⟩ = some v) ∨ ∃ a c, x = .slice (some a) 0 c ∧ l = []

theorem Src.fr {w w' : World} {x : Value} {l : List Nat} {S : Nat → Prop} (h : Src w x l) (hf : Fr S w w') (hS : ∀ g o m c, x = .slice (some ⟨g, o, none⟩) m c → ¬ S g) : Src w' x l := by
  rcases h with h | ⟨g, o, c, hx, hc⟩ | h
  · exact .inl h
  · exact .inr (.inl ⟨g, o, c, hx, fun j v hv => (hf.cell (p := ⟨g, o + j, none⟩) (lt_of_cell (hc j v hv)) (hS g o _ c hx)).trans (hc j v hv)⟩)
  · exact .inr (.inr h)

theorem Src.form {w : World} {x : Value} {l : List Nat} (h : Src w x l) : ∃ xo xc, x = .slice xo l.length xc := by
  rcases h with ⟨rfl, rfl⟩ | ⟨g, o, c, rfl, _⟩ | ⟨a, c, rfl, rfl⟩
  · exact ⟨none, 0, rfl⟩
  · exact ⟨_, c, rfl⟩
  · exact ⟨_, c, rfl⟩

theorem src_at {w : World} {xo : Option Addr} {n xc : Nat} {a : List Nat} (h : Src w (.slice xo n xc) a) (k : Nat) (hk : k < a.length) : ∃ g o, xo = some ⟨g, o, none⟩ ∧ w.cell? ⟨g, o + k, none⟩ = some (.int .u8 ((a[k] % 256 : Nat) : Int)) := by
  rcases h with ⟨_, e⟩ | ⟨g, o, c, hx, hc⟩ | ⟨_, _, _, e⟩
  · subst e; simp at hk
  · simp only [Value.slice.injEq] at hx
    exact ⟨g, o, hx.1, hc k _ (by simp [cellsOf, hk, B])⟩
  · subst e; simp at hk

theorem own_form {w : World} {base n : Nat} {v : Value} {xs : List Value} (h : w.ownsRow base 5 1 v n xs) : ∃ ao cap, v = .slice ao n cap := by
  rcases h.2 with ⟨rfl, rfl⟩ | ⟨g, cap, cur, rfl, _⟩
  · exact ⟨none, 0, rfl⟩
  · exact ⟨some ⟨g, 0, none⟩, cap, rfl⟩

/-- append(v, x...) of bytes. -/
theorem run_app_sl (w : World) (ty base n : Nat) (v x : Value) (xs : List Value) (l : List Nat) (hown : w.ownsRow base 5 1 v n xs) (hx : Src w x l) (hb : n + l.length ≤ 140737488355328) (hbase : base ≤ w.heap.size) :
    ∃ ao cap w', (Builtin.append_ #[25, 25] ty #[v, x]).run Tryd.prog w = .ok (.slice ao (n + l.length) cap) w' ∧ w'.ownsRow base 5 1 (.slice ao (n + l.length) cap) (n + l.length) (xs ++ cellsOf l) ∧ w.grownBy w' v.ownBlock ∧
      ((Value.slice ao (n + l.length) cap).ownBlock = v.ownBlock ∨ (Value.slice ao (n + l.length) cap).ownBlock = some w.heap.size) := by
  obtain ⟨i0, hi, hz0, hz1, hz2⟩ := info_parts Tryd.info5
  rcases hx with ⟨rfl, rfl⟩ | ⟨g, o, c, rfl, hc⟩ | ⟨ad, c, rfl, rfl⟩
  · have hr := run_append_owned_none (P := Tryd.prog) w base 25 ty 5 i0 1 Tryd.underlying25 hi v n xs hown
    obtain ⟨ao, cap, rfl⟩ := own_form hown
    exact ⟨ao, cap, w, by simpa using hr, by simpa [cellsOf] using hown, ⟨rfl, rfl, rfl, Nat.le_refl _, fun _ _ _ => rfl⟩, .inl rfl⟩
  · obtain ⟨v', w', hr, h2, h3, _, h5⟩ := run_append_own_at (P := Tryd.prog) w base 25 ty 5 i0 (.int .u8 0) 1 1 Tryd.underlying25 hi hz0 hz1 hz2 rfl (by decide) v n xs hown ⟨g, o, none⟩ l.length c (cellsOf l) (by simp [cellsOf_length]) (fun j u hu => by
        have e : (⟨g, o, none⟩ : Addr).add j = ⟨g, o + j, none⟩ := by unfold Addr.add; split <;> simp_all
        rw [e]; exact hc j u hu) (cellsOf_one l) (by simp only [maxLen]; omega) (by omega) hbase
    obtain ⟨ao, cap, rfl⟩ := own_form h2
    exact ⟨ao, cap, w', hr, h2, h3, h5⟩
  · obtain ⟨v', w', hr, h2, h3, _, h5⟩ := run_append_own_at (P := Tryd.prog) w base 25 ty 5 i0 (.int .u8 0) 1 1 Tryd.underlying25 hi hz0 hz1 hz2 rfl (by decide) v n xs hown ad 0 c [] rfl (fun j u hu => by simp at hu) (fun u hu => by simp at hu) (by simp only [maxLen]; simp at hb; omega) (by simp at hb; omega) hbase
    obtain ⟨ao, cap, rfl⟩ := own_form h2
    exact ⟨ao, cap, w', hr, h2, h3, h5⟩

/-- append(v, s...) of a string. -/
theorem run_app_str (w : World) (ty base n : Nat) (v : Value) (xs : List Value) (s : ByteArray) (hown : w.ownsRow base 5 1 v n xs) (hb : n + s.size ≤ 140737488355328) (hbase : base ≤ w.heap.size) :
    ∃ ao cap w', (Builtin.append_ #[25, 9] ty #[v, .string s]).run Tryd.prog w = .ok (.slice ao (n + s.size) cap) w' ∧ w'.ownsRow base 5 1 (.slice ao (n + s.size) cap) (n + s.size) (xs ++ cellsOf (bytesOf s)) ∧ w.grownBy w' v.ownBlock ∧
      ((Value.slice ao (n + s.size) cap).ownBlock = v.ownBlock ∨ (Value.slice ao (n + s.size) cap).ownBlock = some w.heap.size) := by
  obtain ⟨i0, hi, hz0, hz1, hz2⟩ := info_parts Tryd.info5
  obtain ⟨v', w', hr, h2, h3, h4⟩ := Lib.run_append_own_string (P := Tryd.prog) w base 25 9 ty 5 i0 Tryd.underlying25 Tryd.underlying9 hi hz0 hz1 hz2 v n xs hown s (by simp only [maxLen]; omega) hb hbase
  have h5 : v'.ownBlock = v.ownBlock ∨ v'.ownBlock = some w.heap.size := by
    have hxl : xs.length = n := by simpa using hown.1
    rcases hown.2 with ⟨rfl, rfl⟩ | ⟨g, cap, cur, rfl, hbg, hg, hnc, hcm, hcs, htake⟩
    · by_cases hm : s.size = 0
      · exact .inl (by rw [h4.2 ⟨rfl, hm⟩])
      · have hr0 := run_append_nil_string (P := Tryd.prog) w 25 9 ty 5 i0 (.int .u8 0) Tryd.underlying25 Tryd.underlying9 hi hz0 s (by omega) (by omega) (by rw [hz2]; omega)
        rw [hr] at hr0
        injection hr0 with e1 _
        exact .inr (by rw [e1]; rfl)
    · by_cases hroom : n + s.size ≤ cap
      · have hr0 := Lib.run_append_room_string (P := Tryd.prog) w 25 9 ty 5 i0 Tryd.underlying25 Tryd.underlying9 hi hz1 g n cap cur hg s hroom (by omega)
        rw [hr] at hr0
        injection hr0 with e1 _
        exact .inl (by rw [e1]; rfl)
      · have hr0 := Lib.run_append_grow_string (P := Tryd.prog) w 25 9 ty 5 i0 (.int .u8 0) Tryd.underlying25 Tryd.underlying9 hi hz0 ⟨g, 0, none⟩ n cap xs (by rw [hz1]; simpa using hxl) (hown.cells (g := g) rfl) s (by omega) (by omega) (by rw [hz2]; exact growslice_fits (by omega) (by omega))
        rw [hr] at hr0
        injection hr0 with e1 _
        exact .inr (by rw [e1]; rfl)
  obtain ⟨ao, cap, rfl⟩ := own_form h2
  exact ⟨ao, cap, w', hr, by rw [cellsOf_bytesOf]; exact h2, h3, h5⟩

/-- A built-in append at a step of a region that draws, by its run. -/
theorem step_app {P : Program} {w w' : World} {ops : Array Oper} {o : Oper} {a : Act} {K : Act → World → Prop} {Q : Exit → Act → World → Prop} {E : Prop} (hgd : o.guard = none) (s x : Operand) (t u : TypeId)
    (ho : o.op = .call { callee := .builtin .append, args := #[s, x], argTypes := #[t, u] }) (vs vx v' : Value) (hs : a.eval s = vs) (hx : a.eval x = vx) (hr : (Builtin.append_ #[t, u] o.type #[vs, vx]).run P w = .ok v' w')
    (h : K (a.put o.dst v') w') : if Region.wanted o (yielded ops a.tmps) = true then Oper.wp P o a w K Q else E := by
  have hw : Region.wanted o (yielded ops a.tmps) = true := by simp [Region.wanted, hgd]
  rw [if_pos hw]
  unfold Oper.wp execOp
  simp only [ho, resolve, invoke, builtin, Sem.run_bind, Sem.run_pure, Result.andThen_ok, List.map_toArray, List.map_cons, List.map_nil, hs, hx, hr]
  exact h

/-- One append more, stored back, whatever the new value. -/
theorem Adv.stepv {w wr wa w1 : World} {b o n : Nat} {sv sv1 v' : Value} {l1 l2 : List Nat} {xs : List Value} (had : Adv w wr b o sv sv1 l1) (ha : Fr (fun _ => False) wr wa) (hgrow : wa.grownBy w1 sv1.ownBlock)
    (hown : w1.ownsRow (b + 1) 5 1 v' n xs) (hxs : xs = cellsOf l2) (hat : v'.ownBlock = sv1.ownBlock ∨ v'.ownBlock = some wa.heap.size) :
    Adv w (w1.setCell ⟨b, o, none⟩ v') b o sv v' l2 := by
  have hn : n = l2.length := by have := hown.1; rw [hxs] at this; simpa [cellsOf] using this.symm
  subst hxs
  have hb1 : b < wr.heap.size := lt_of_cell had.c2
  have hne : some b ≠ sv1.ownBlock := fun e => by have := had.own.lt b e.symm; omega
  have hba : b < wa.heap.size := Nat.lt_of_lt_of_le hb1 ha.size
  have hcell : ∀ i, w1.cell? ⟨b, i, none⟩ = wr.cell? ⟨b, i, none⟩ := fun i => (hgrow.cell_far ⟨b, i, none⟩ hba hne).trans (ha.cell hb1 (fun h => h))
  have hfz : ∀ i, w1.frozen? ⟨b, i, none⟩ = wr.frozen? ⟨b, i, none⟩ := fun i => (hgrow.frozen_far ⟨b, i, none⟩ hba hne).trans (ha.frozen hb1 (fun h => h))
  refine ⟨?_, ?_, ?_, ?_, ?_, ?_⟩
  · refine Fr.setCell (Fr.grown (had.fr.trans ha (fun _ _ h => h.elim)) hgrow had.row) (.inl (.inl rfl)) _
  · exact World.cell?_setCell_same _ _ _ ((hcell o).trans had.c2)
  · rw [← hn]; exact ownsRow_setCell_below hown (Nat.lt_succ_self b) _
  · intro i hi
    rw [World.cell?_setCell_other _ _ _ _ (by intro h; injection h with _ h2 _; exact hi h2.symm), hcell, had.cs i hi]
  · intro i; rw [World.frozen?_setCell, hfz, had.fz]
  · rcases hat with e | e
    · rcases had.at_ with e2 | ⟨g2, e2, hg2⟩
      · exact .inl (e.trans e2)
      · exact .inr ⟨g2, e.trans e2, hg2⟩
    · exact .inr ⟨_, e, Nat.le_trans had.fr.size ha.size⟩

end Go.Proofs.YtikolmpgnpkdbaaDoor

namespace Go.Proofs.YtikolmpgnpkdbaaDoor
open Go.ChangeShapes Go.WideShapes Go.ChangeAt Go.RowKit
set_option maxRecDepth 100000

theorem Tryd.ownKnob : ownKnob Tryd.prog.godebug = none := by kernel_rfl
theorem Tryd.nameES : Tryd.prog.typeName? 3 147 = some "*errors.errorString" := by kernel_rfl
theorem Tryd.cellsES : Tryd.prog.cellsOf 166 = 1 := by kernel_rfl
theorem Tryd.cellsS : Tryd.prog.cellsOf 9 = 1 := by kernel_rfl
theorem Tryd.cellsU8 : Tryd.prog.cellsOf 5 = 1 := by kernel_rfl
theorem Tryd.star : "*" ++ "errors.errorString" = "*errors.errorString" := by decide
theorem Tryd.rowES (u : TypeId) (h : Tryd.prog.typeName? 3 u = some "*errors.errorString") : u = 147 :=
  typeName_ptr_named (nm := "errors.errorString") (by rw [Tryd.star]; kernel_rfl) (by kernel_rfl) (by decide) u (by rw [Tryd.star]; exact h)

theorem laid_in {W : World} : ∀ {l : List (String × DataW Unit)} {ps : List MemPlace}, DataW.LaidVars Tryd.prog W l ps → ∀ {nm : String} {d : DataW Unit}, (nm, d) ∈ l →
    ∃ g t cs fuel p, Tryd.prog.globalNamed nm = some g ∧ (Tryd.prog.globals[g]?).map (·.type) = some t ∧ W.var? Tryd.prog nm = some cs ∧ DataW.trod (H := Unit) (fun _ => ()) Tryd.prog W 0 (fun _ => true) false fuel t cs.toList = some (d, p) ∧ ∀ x ∈ MemPlace.row ⟨g, 0, none⟩ cs.size, x ∈ ps := by
  intro l
  induction l with
  | nil => intro ps _ nm d hm; cases hm
  | cons y r ih =>
    intro ps h nm d hm
    obtain ⟨n, dd⟩ := y
    obtain ⟨g, t, cs, fuel, p, q, hg, ht, hv, hd, hr, rfl⟩ := h
    rcases List.mem_cons.1 hm with e | hm
    · cases e
      exact ⟨g, t, cs, fuel, p, hg, ht, hv, hd, fun x hx => by simp [hx]⟩
    · obtain ⟨g', t', cs', fuel', p', a1, a2, a3, a4, a5⟩ := ih hr hm
      exact ⟨g', t', cs', fuel', p', a1, a2, a3, a4, fun x hx => by simp [a5 x hx]⟩

/-- What a listed sentinel gives a walk: its variable's cell. -/
theorem sentinel_cell {W : World} {laid : List (String × DataW Unit)} (hL : laidMet Tryd.prog laid W) {nm : String} {text : List UInt8} (hm : (nm, DataW.iface "*errors.errorString" (.ptr (.agg [.lit (.string text)]))) ∈ laid) {g : Nat} (hg : Tryd.prog.globalNamed nm = some g) (hty : (Tryd.prog.globals[g]?).map (·.type) = some 35) :
    ∃ ea, W.cell? ⟨g, 0, none⟩ = some (.iface 147 (.pointer (some ea))) := by
  obtain ⟨ps, hv, hnd, hrows⟩ := hL
  obtain ⟨g', t, cs, fuel, p, a1, a2, a3, a4, a5⟩ := laid_in hv hm
  obtain rfl := Option.some.inj (hg.symm.trans a1)
  obtain rfl := Option.some.inj (hty.symm.trans a2)
  obtain ⟨l0⟩ := cs
  have hok0 : ∀ u v, l0 = [.iface u v] → Value.okWide Tryd.prog W .any 0 u v := fun u v e => by
    subst e
    exact (hrows g 0 (a5 _ (by simp [MemPlace.row]))).2 u v (by simpa using World.var?_cell hg a3 0)
  obtain ⟨a0, s0, rfl, hc0, hs0, hz0, rfl⟩ := errorString_of_trod Tryd.underlying35 Tryd.rowES Tryd.underlying147 Tryd.underlying166 rfl rfl Tryd.underlying9 Tryd.cellsES Tryd.cellsS a4 hok0
  exact ⟨a0, by simpa using World.var?_cell hg a3 0⟩

theorem bulk_lits {H : Type} (zs : List Int) : Rows.uptoBulkAll (lits .u8 zs : List (DataW H)) = zs.length := by
  induction zs with
  | nil => rfl
  | cons z r ih =>
    have e : (lits .u8 (z :: r) : List (DataW H)) = .lit (.int .u8 z) :: lits .u8 r := rfl
    rw [e, Rows.uptoBulkAll, ih, Rows.uptoBulk, List.length_cons]
    · omega
    · intro bytes h; cases h
/-- A slice of bytes that came in. -/
theorem src_of_reading {H : Type} {enc : TypeId × Value → H} {W : World} {base : Nat} {v : Value} {d : DataW H} {p : List MemPlace} (hval : Value.okWide Tryd.prog W .any base 25 v) (h : DataW.Trod enc Tryd.prog W 0 (fun _ => true) true 25 v d p) :
    ∃ l : List Nat, Src W v l ∧ l.length ≤ Rows.uptoBulk d := by
  obtain ⟨a0, len, cap, rfl⟩ := okWide_slice Tryd.underlying25 hval
  obtain ⟨fuel, hf⟩ := h
  rcases open_ints Tryd.underlying25 Tryd.underlying5 Tryd.cellsU8 hf with ⟨hcs, hx⟩ | ⟨a, len', cap', zs, hcs, _, hl, hm, hz, hx, hcell, hwz⟩
  · simp [Value.cells] at hcs
    obtain ⟨rfl, rfl, rfl⟩ := hcs
    exact ⟨[], .inl ⟨rfl, rfl⟩, Nat.zero_le _⟩
  · simp [Value.cells] at hcs
    obtain ⟨rfl, rfl, rfl⟩ := hcs
    simp only [Prod.mk.injEq] at hx
    obtain ⟨rfl, -⟩ := hx
    simp only [if_true] at hz
    have hlen : ((zs.take len).map Int.toNat).length = len := by simp; omega
    have hbulk : len ≤ Rows.uptoBulk (DataW.slice (lits .u8 (zs.take len)) (lits .u8 (zs.drop len)) : DataW H) := by
      have h1 := bulk_lits (H := H) (zs.take len)
      have h2 : (zs.take len).length = len := by simp; omega
      simp only [Rows.uptoBulk]
      omega
    by_cases h0 : len = 0
    · subst h0
      exact ⟨[], .inr (.inr ⟨a, cap, rfl, rfl⟩), Nat.zero_le _⟩
    · obtain ⟨b, off, rfl, hc⟩ := ints_at hcell (show 0 < zs.length by omega)
      refine ⟨(zs.take len).map Int.toNat, .inr (.inl ⟨b, off, cap, by rw [hlen], fun j v hv => ?_⟩), by rw [hlen]; exact hbulk⟩
      have hj : j < len := by
        have := (List.getElem?_eq_some_iff.1 hv).1
        simp [cellsOf] at this; omega
      rw [hc j (by omega)]
      have hw := bounds_u8 (hwz (zs.getD j 0) (by simp [List.getD, show j < zs.length by omega]))
      rw [← hv]
      simp [cellsOf, B, hj, show j < zs.length by omega] at hw ⊢
      omega
end Go.Proofs.YtikolmpgnpkdbaaDoor

