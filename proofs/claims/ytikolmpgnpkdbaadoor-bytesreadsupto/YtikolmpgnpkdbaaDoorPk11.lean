import Derived.Test.YtikolmpgnpkdbaaDoorPk10
import Derived.Laws.OwnMore
namespace Go.Proofs.YtikolmpgnpkdbaaDoor
open Go.RowKit

/-- The error that tells a fault. -/
def ErrV (w : World) (v : Value) (x : ByteArray × Nat × Nat) (E : Nat → Addr) : Prop :=
  (x.2.2 = 0 ∧ v = .nilIface) ∨ (1 ≤ x.2.2 ∧ x.2.2 ≤ 7 ∧ ∃ fb, v = .iface 64 (.pointer (some ⟨fb, 0, none⟩)) ∧ w.heap[fb]? = some (faultObj x.1 x.2.1 (E x.2.2)))
theorem ErrV.fr {w w' : World} {v : Value} {x : ByteArray × Nat × Nat} {E : Nat → Addr} (h : ErrV w v x E) (hf : Fr (fun _ => False) w w') : ErrV w' v x E := by
  rcases h with h | ⟨h1, h7, fb, rfl, hb⟩
  · exact .inl h
  · have hlt : fb < w.heap.size := by
      rcases Nat.lt_or_ge fb w.heap.size with hx | hx
      · exact hx
      · rw [Array.getElem?_eq_none hx] at hb; cases hb
    exact .inr ⟨h1, h7, fb, rfl, (hf.block fb hlt (fun h => h)).trans hb⟩
theorem told_any (w : World) (v : Value) (x : ByteArray × Nat × Nat) (E : Nat → Addr) (h : ErrV w v x E) (hg : G7 w E) :
    Calls Tryd.prog 28 #[v, .agg #[.string x.1, .int .i64 (x.2.1 : Nat), .int .i64 (x.2.2 : Nat)]] w fun e w' => e = .returned (.bool true) ∧ Fr (fun _ => False) w w' := by
  rcases h with ⟨h0, rfl⟩ | ⟨h1, h7, fb, rfl, hb⟩
  · rw [h0]; exact told_nil x.1 x.2.1 w
  · exact told_fault x.2.2 fb x.2.1 x.1 E w hg h1 h7 hb

theorem rAt_given (b : Nat) (F : Nat → Prop) (s : Rst) (what : ByteArray) (place : Nat) (ea : Addr) (w : World) (h : R w b F s) (hn : s.f = some (what, place, ea)) :
    Calls Tryd.prog 19 #[.pointer (some ⟨b, 0, none⟩)] w fun e w' => e = .returned (.int .i64 place) ∧ w' = w := by
  rcases h.st with ⟨h1, _⟩ | ⟨what', place', ea', fb, h1, h2, h3, h4, h5, h6, h7⟩
  · rw [hn] at h1; cases h1
  rw [hn] at h1
  obtain ⟨rfl, rfl, rfl⟩ : what = what' ∧ place = place' ∧ ea = ea' := by simpa using h1
  have c1 : w.cell? ⟨fb, 1, none⟩ = some (.int .i64 place) := by simp [World.cell?, h7, faultObj]
  clear h1 h2 h3 h5 h6 h7 h hn
  go_enter Tryd.func19, Tryd.ntmps19
  go_wp2
  go_ret
  exact ⟨rfl, rfl⟩
theorem rErr_given (b : Nat) (F : Nat → Prop) (s : Rst) (what : ByteArray) (place : Nat) (ea : Addr) (w : World) (h : R w b F s) (hn : s.f = some (what, place, ea)) :
    Calls Tryd.prog 17 #[.pointer (some ⟨b, 0, none⟩)] w fun e w' => e = .returned (.iface 64 (.pointer (some ⟨w.heap.size, 0, none⟩))) ∧ w' = w.alloc (faultObj what place ea) := by
  rcases h.st with ⟨h1, _⟩ | ⟨what', place', ea', fb, h1, h2, h3, h4, h5, h6, h7⟩
  · rw [hn] at h1; cases h1
  rw [hn] at h1
  obtain ⟨rfl, rfl, rfl⟩ : what = what' ∧ place = place' ∧ ea = ea' := by simpa using h1
  have HT := hide (told_some b fb place what ea w h4 h7)
  clear h1 h2 h3 h5 h6 h7 h hn
  go_enter Tryd.func17, Tryd.ntmps17
  go_wp2_with fail
  refine (unhide HT).mono ?_
  rintro e w' ⟨rfl, rfl⟩
  go_wp2_with fail
  go_ret
  exact ⟨rfl, rfl⟩
set_option maxRecDepth 100000 in
theorem rDone_given (b : Nat) (F : Nat → Prop) (s : Rst) (what : ByteArray) (place : Nat) (ea : Addr) (w : World) (h : R w b F s) (hn : s.f = some (what, place, ea)) :
    Calls Tryd.prog 18 #[.pointer (some ⟨b, 0, none⟩)] w fun e w' => ∃ fa, e = .returned (.iface 64 (.pointer (some ⟨fa, 0, none⟩))) ∧ w'.heap[fa]? = some (faultObj what place ea) ∧ Fr (fun _ => False) w w' := by
  rcases h.st with ⟨h1, _⟩ | ⟨what', place', ea', fb, h1, h2, h3, h4, h5, h6, h7⟩
  · rw [hn] at h1; cases h1
  rw [hn] at h1
  obtain ⟨rfl, rfl, rfl⟩ : what = what' ∧ place = place' ∧ ea = ea' := by simpa using h1
  have H7 := hide h7
  clear h1 h2 h3 h5 h6 h7 h hn
  go_enter Tryd.func18, Tryd.ntmps18
  go_wp2_with fail
  go_quiet (fail)
  go_wp2_with fail
  refine (told_some b fb place what ea (w.drewN nq) (by simpa using h4) (unhide H7)).mono ?_
  rintro e w' ⟨rfl, rfl⟩
  go_wp2_with fail
  go_ret
  exact ⟨_, rfl, heap_alloc_new _ _, ((Fr.refl _ _).drewN _).alloc _⟩

theorem at_any (q : Q) (b : Nat) (F : Nat → Prop) (E : Nat → Addr) (w : World) (h : R w b F (q.rst E)) :
    Calls Tryd.prog 19 #[.pointer (some ⟨b, 0, none⟩)] w fun e w' => e = .returned (.int .i64 q.at_) ∧ w' = w := by
  obtain ⟨nm, all, place, part, f⟩ := q
  cases f with
  | none => exact rAt_ok b F _ w h rfl
  | some y => exact rAt_given b F _ y.1 y.2.1 (E y.2.2) w h rfl
theorem err_any (q : Q) (b : Nat) (F : Nat → Prop) (E : Nat → Addr) (w : World) (h : R w b F (q.rst E)) (hq : q.ok) :
    Calls Tryd.prog 17 #[.pointer (some ⟨b, 0, none⟩)] w fun e w' => ∃ v, e = .returned v ∧ ErrV w' v (ftV q.f) E ∧ Fr (fun _ => False) w w' := by
  obtain ⟨nm, all, place, part, f⟩ := q
  cases f with
  | none =>
    refine (rErr_ok b F _ w h rfl).mono ?_
    rintro e w' ⟨rfl, rfl⟩
    exact ⟨_, rfl, .inl ⟨rfl, rfl⟩, Fr.refl _ _⟩
  | some y =>
    refine (rErr_given b F _ y.1 y.2.1 (E y.2.2) w h rfl).mono ?_
    rintro e w' ⟨rfl, rfl⟩
    exact ⟨_, rfl, .inr ⟨(hq.f y rfl).2.1, (hq.f y rfl).2.2, _, rfl, heap_alloc_new _ _⟩, box1 w _⟩
theorem done_any (q : Q) (b : Nat) (F : Nat → Prop) (E : Nat → Addr) (w : World) (h : R w b F (q.rst E)) (hq : q.ok) (hg : Gl w E) :
    Calls Tryd.prog 18 #[.pointer (some ⟨b, 0, none⟩)] w fun e w' => ∃ v, e = .returned v ∧ ErrV w' v q.ended E ∧ Fr (fun _ => False) w w' := by
  obtain ⟨nm, all, place, part, f⟩ := q
  cases f with
  | none =>
    by_cases hp : place < all.length
    · rw [Q.ended, if_pos ⟨rfl, hp⟩]
      refine (rDone_trail b F _ E w hg h rfl hp).mono ?_
      rintro e w' ⟨fb, rfl, hb, hf, _⟩
      exact ⟨_, rfl, .inr ⟨(by decide : 1 ≤ 3), (by decide : 3 ≤ 7), fb, rfl, hb⟩, hf⟩
    · rw [Q.ended, if_neg (fun x => hp x.2)]
      have hple : place = all.length := Nat.le_antisymm hq.place (by omega)
      refine (rDone_end b F _ w h rfl hple).mono ?_
      rintro e w' ⟨rfl, hf⟩
      exact ⟨_, rfl, .inl ⟨rfl, rfl⟩, hf⟩
  | some y =>
    rw [Q.ended, if_neg (fun x => by cases x.1)]
    refine (rDone_given b F _ y.1 y.2.1 (E y.2.2) w h rfl).mono ?_
    rintro e w' ⟨fb, rfl, hb, hf⟩
    exact ⟨_, rfl, .inr ⟨(hq.f y rfl).2.1, (hq.f y rfl).2.2, fb, rfl, hb⟩, hf⟩

/-- The seven cells of the ref's reader, and nothing old has turned. -/
abbrev TS (w0 : World) (g : Nat) (a0 a1 a2 a3 a4 a5 a6 : Value) (w : World) : Prop :=
  w.cell? ⟨g, 0, none⟩ = some a0 ∧ w.cell? ⟨g, 1, none⟩ = some a1 ∧ w.cell? ⟨g, 2, none⟩ = some a2 ∧ w.cell? ⟨g, 3, none⟩ = some a3 ∧ w.cell? ⟨g, 4, none⟩ = some a4 ∧ w.cell? ⟨g, 5, none⟩ = some a5 ∧ w.cell? ⟨g, 6, none⟩ = some a6 ∧ Fr (fun _ => False) w0 w
theorem TS.next {w0 w w' : World} {g : Nat} {a0 a1 a2 a3 a4 a5 a6 : Value} (h : TS w0 g a0 a1 a2 a3 a4 a5 a6 w) (hf : Fr (fun _ => False) w w') : TS w0 g a0 a1 a2 a3 a4 a5 a6 w' := by
  obtain ⟨h0, h1, h2, h3, h4, h5, h6, hF⟩ := h
  have key : ∀ {i : Nat} {v : Value}, w.cell? ⟨g, i, none⟩ = some v → w'.cell? ⟨g, i, none⟩ = some v := fun h => (hf.cell (lt_of_cell h) (fun h => h)).trans h
  exact ⟨key h0, key h1, key h2, key h3, key h4, key h5, key h6, hF.trans hf (fun _ _ h => h)⟩
theorem same_S {w0 w : World} {g : Nat} {a0 a1 a2 a3 a4 a5 a6 x y : Value} {a b : List Nat} (hS : TS w0 g a0 a1 a2 a3 a4 a5 a6 w) (hx : Src w0 x a) (hy : Src w0 y b) (hn : norm a = norm b) (ha : a.length ≤ 140737488355328) :
    Calls Tryd.prog 20 #[x, y] w fun e w' => e = .returned (.bool true) ∧ TS w0 g a0 a1 a2 a3 a4 a5 a6 w' := by
  refine (same_any x y a b w (hx.fr hS.2.2.2.2.2.2.2 (fun _ _ _ _ _ h => h)) (hy.fr hS.2.2.2.2.2.2.2 (fun _ _ _ _ _ h => h)) ha).mono ?_
  rintro e w' ⟨rfl, hd⟩
  exact ⟨by simp [sameB, hn], TS.next hS (Fr.of_drewN hd)⟩
theorem at_S {w0 w : World} {g b : Nat} {F : Nat → Prop} {E : Nat → Addr} {a0 a1 a2 a3 a4 a5 a6 : Value} {q : Q} (hS : TS w0 g a0 a1 a2 a3 a4 a5 a6 w) (h : R w0 b F (q.rst E)) :
    Calls Tryd.prog 19 #[.pointer (some ⟨b, 0, none⟩)] w fun e w' => e = .returned (.int .i64 q.at_) ∧ TS w0 g a0 a1 a2 a3 a4 a5 a6 w' := by
  refine (at_any q b F E w (h.frame hS.2.2.2.2.2.2.2 (fun _ _ h => h))).mono ?_
  rintro e w' ⟨rfl, rfl⟩
  exact ⟨rfl, hS⟩
theorem err_S {w0 w : World} {g b : Nat} {F : Nat → Prop} {E : Nat → Addr} {a0 a1 a2 a3 a4 a5 a6 : Value} {q : Q} (hS : TS w0 g a0 a1 a2 a3 a4 a5 a6 w) (h : R w0 b F (q.rst E)) (hq : q.ok) :
    Calls Tryd.prog 17 #[.pointer (some ⟨b, 0, none⟩)] w fun e w' => ∃ v, e = .returned v ∧ ErrV w' v (ftV q.f) E ∧ Fr (fun _ => False) w w' ∧ TS w0 g a0 a1 a2 a3 a4 a5 a6 w' := by
  refine (err_any q b F E w (h.frame hS.2.2.2.2.2.2.2 (fun _ _ h => h)) hq).mono ?_
  rintro e w' ⟨v, rfl, hE, hf⟩
  exact ⟨v, rfl, hE, hf, TS.next hS hf⟩
theorem done_S {w0 w : World} {g b : Nat} {F : Nat → Prop} {E : Nat → Addr} {a0 a1 a2 a3 a4 a5 a6 : Value} {q : Q} (hS : TS w0 g a0 a1 a2 a3 a4 a5 a6 w) (h : R w0 b F (q.rst E)) (hq : q.ok) (hg : G7 w0 E) :
    Calls Tryd.prog 18 #[.pointer (some ⟨b, 0, none⟩)] w fun e w' => ∃ v, e = .returned v ∧ ErrV w' v q.ended E ∧ Fr (fun _ => False) w w' ∧ TS w0 g a0 a1 a2 a3 a4 a5 a6 w' := by
  refine (done_any q b F E w (h.frame hS.2.2.2.2.2.2.2 (fun _ _ h => h)) hq (hg.gl.fr0 hS.2.2.2.2.2.2.2)).mono ?_
  rintro e w' ⟨v, rfl, hE, hf⟩
  exact ⟨v, rfl, hE, hf, TS.next hS hf⟩
theorem ended_S {w0 w : World} {g xc last : Nat} {xo : Option Addr} {a0 a1 a2 a3 a4 a5 a6 : Value} {q : Q} (hS : TS w0 g a0 a1 a2 a3 a4 a5 a6 w) (hq : q.ok) :
    Calls Tryd.prog 30 #[.agg #[.slice xo q.all.length xc, .int .i64 q.at_, .int .i64 last, .string q.nm, .string (ftV q.f).1, .int .i64 ((ftV q.f).2.1 : Nat), .int .i64 ((ftV q.f).2.2 : Nat)]] w fun e w' => e = .returned (.agg #[.string q.ended.1, .int .i64 (q.ended.2.1 : Nat), .int .i64 (q.ended.2.2 : Nat)]) ∧ Fr (fun _ => False) w w' ∧ TS w0 g a0 a1 a2 a3 a4 a5 a6 w' := by
  refine (ended_any q xo xc last w hq).mono ?_
  rintro e w' ⟨rfl, hf⟩
  exact ⟨rfl, hf, TS.next hS hf⟩
theorem told_S {w0 w : World} {g : Nat} {E : Nat → Addr} {v a0 a1 a2 a3 a4 a5 a6 : Value} {x : ByteArray × Nat × Nat} (hS : TS w0 g a0 a1 a2 a3 a4 a5 a6 w) (h : ErrV w v x E) (hg : G7 w0 E) :
    Calls Tryd.prog 28 #[v, .agg #[.string x.1, .int .i64 (x.2.1 : Nat), .int .i64 (x.2.2 : Nat)]] w fun e w' => e = .returned (.bool true) ∧ Fr (fun _ => False) w w' ∧ TS w0 g a0 a1 a2 a3 a4 a5 a6 w' := by
  refine (told_any w v x E h (hg.fr hS.2.2.2.2.2.2.2 (fun _ h => h.elim))).mono ?_
  rintro e w' ⟨rfl, hf⟩
  exact ⟨rfl, hf, TS.next hS hf⟩
end Go.Proofs.YtikolmpgnpkdbaaDoor

namespace Go.Proofs.YtikolmpgnpkdbaaDoor
open Go.RowKit

theorem make_bytes (n : Nat) (w : World) (hn : n ≤ 8) : ∃ w', (Instr.makeSlice 25 (.int .i64 (n : Int)) (.int .i64 (n : Int))).run Tryd.prog w = .ok (.slice (some ⟨w.heap.size, 0, none⟩) n n) w' ∧
    (∀ j, j < n → w'.cell? ⟨w.heap.size, j, none⟩ = some (.int .u8 0)) ∧ (∀ j, j < n → w'.frozen? ⟨w.heap.size, j, none⟩ = false) ∧ Fr (fun _ => False) w w' ∧ ∃ xs, w'.ownsRow w.heap.size 5 1 (.slice (some ⟨w.heap.size, 0, none⟩) n n) n xs := by
  have hz' : (Tryd.prog.info? 5).bind (·.zero) = some (.int .u8 0) := by kernel_rfl
  have hs' : (Tryd.prog.info? 5).map (·.size) = some 1 := by kernel_rfl
  have hb' : (Tryd.prog.info? 5).map (·.bytes) = some 1 := by kernel_rfl
  obtain ⟨i, hi, hz⟩ := Option.bind_eq_some_iff.1 hz'
  rw [hi] at hs' hb'
  have hs : i.size = 1 := by simpa using hs'
  have hb : i.bytes = 1 := by simpa using hb'
  obtain ⟨w', hr, ho, hg⟩ := run_makeSlice_full (P := Tryd.prog) w w.heap.size 25 5 i (.int .u8 0) 1 Tryd.underlying25 hi hz hs .i64 .i64 n (by omega) (by rw [hb]; omega) (by simp only [maxLen]; omega) (Nat.le_refl _)
  refine ⟨w', hr, fun j hj => ?_, fun j hj => ?_, (Fr.refl _ _).grown hg (fun _ h => by cases h), _, ho⟩
  · have h := ho.cells (g := w.heap.size) rfl j (.int .u8 0) (by simp [madeCells, hj, Value.cells, Nat.mod_one])
    have e : (⟨w.heap.size, 0, none⟩ : Addr).add j = ⟨w.heap.size, 0 + j, none⟩ := by unfold Addr.add; split <;> simp_all
    rw [e, Nat.zero_add] at h
    exact h
  · exact ho.frozenAt j

def NumI (w wr : World) (n v k : Nat) : Prop :=
  (∀ j, j < n → wr.cell? ⟨w.heap.size, j, none⟩ = some (if n - 1 - j < k then B (v / 256 ^ (n - 1 - j)) else .int .u8 0)) ∧ (∀ j, j < n → wr.frozen? ⟨w.heap.size, j, none⟩ = false) ∧ Fr (fun _ => False) w wr ∧ ∃ xs, wr.ownsRow w.heap.size 5 1 (.slice (some ⟨w.heap.size, 0, none⟩) n n) n xs
theorem NumI.step {w wr : World} {m v k : Nat} (h : NumI w wr (m + 1 + k) v k) : NumI w (wr.setCell ⟨w.heap.size, m, none⟩ (B (v / 256 ^ k))) (m + 1 + k) v (k + 1) := by
  obtain ⟨hc, hz, hf, xs, ho⟩ := h
  refine ⟨fun j hj => ?_, fun j hj => by rw [World.frozen?_setCell]; exact hz j hj, Fr.setCell hf (.inr (Nat.le_refl _)) _, _, (ho.stored m _).1⟩
  by_cases e : j = m
  · subst e
    rw [World.cell?_setCell_same _ _ _ (hc j hj), if_pos (by omega), show j + 1 + k - 1 - j = k from by omega]
  · rw [World.cell?_setCell_other _ _ _ _ (by intro h; injection h with _ h2 _; exact e h2.symm), hc j hj]
    by_cases h1 : m + 1 + k - 1 - j < k
    · rw [if_pos h1, if_pos (by omega)]
    · rw [if_neg h1, if_neg (by omega)]
theorem NumI.own {w wr : World} {n v : Nat} (h : NumI w wr n v n) : wr.ownsRow w.heap.size 5 1 (.slice (some ⟨w.heap.size, 0, none⟩) n n) n (cellsOf (be n v)) := by
  obtain ⟨hc, _, _, xs, ho⟩ := h
  have hl : xs.length = n := by simpa using ho.1
  have e : xs = cellsOf (be n v) := by
    apply List.ext_getElem (by rw [hl, cellsOf_length, be_length])
    intro j h1 h2
    have hlt : j < n := by omega
    have a := ho.cells (g := w.heap.size) rfl j xs[j] (List.getElem?_eq_getElem h1)
    have e : (⟨w.heap.size, 0, none⟩ : Addr).add j = ⟨w.heap.size, 0 + j, none⟩ := by unfold Addr.add; split <;> simp_all
    rw [e, Nat.zero_add, hc j hlt, if_pos (by omega)] at a
    rw [← Option.some.inj a]
    simp [cellsOf, be]
  rw [← e]
  exact ho

set_option maxRecDepth 100000 in
theorem gnumber_any (v n : Nat) (w : World) (hn : n ≤ 8) (hv : v < 18446744073709551616) : Calls Tryd.prog 96 #[.int .u64 v, .int .i64 n] w fun e w' => e = .returned (.slice (some ⟨w.heap.size, 0, none⟩) n n) ∧ w'.ownsRow w.heap.size 5 1 (.slice (some ⟨w.heap.size, 0, none⟩) n n) n (cellsOf (be n v)) ∧ Fr (fun _ => False) w w' := by
  obtain ⟨w1, hmk, hc, hz, hf, ho⟩ := make_bytes n w hn
  have H := hide (And.intro hc (And.intro hz (And.intro hf ho)))
  clear hc hz hf ho
  have hwr : IntKind.i64.wrap ((n : Int) - 1) = (n : Int) - 1 := by rw [IntKind.wrap_i64]; omega
  go_enter Tryd.func96, Tryd.ntmps96
  go_wp2_with fail
  go_loopw [0, 6] (fun x i wr => ∃ k : Nat, k ≤ n ∧ i = .int .i64 ((n : Int) - 1 - k) ∧ x = .int .u64 ((v / 256 ^ k : Nat)) ∧ NumI w wr n v k) (fun _ i _ => (intOf i + 1).toNat)
  case atStart => exact ⟨0, Nat.zero_le _, by simp, by simp, fun j hj => by rw [if_neg (by omega)]; exact (unhide H).1 j hj, (unhide H).2.1, (unhide H).2.2.1, (unhide H).2.2.2⟩
  case round =>
    obtain ⟨k, hk, rfl, rfl, hI⟩ := hrel
    rename World => wr
    by_cases hlt : k < n
    · obtain ⟨m, rfl⟩ : ∃ m, n = m + 1 + k := ⟨n - 1 - k, by omega⟩
      have hcell : wr.cell? ⟨w.heap.size, m, none⟩ = some (.int .u8 0) := by rw [hI.1 m (by omega), if_neg (by omega)]
      have hfr := hI.2.1 m (by omega)
      have hy : v / 256 ^ k < 18446744073709551616 := Nat.lt_of_le_of_lt (Nat.div_le_self _ _) hv
      have hst := hI.step
      have hnx : v / 256 ^ (k + 1) = v / 256 ^ k / 256 := by rw [Nat.pow_succ, Nat.div_div_eq_div_mul]
      have HS := hide (And.intro hst hnx)
      clear hst hnx hI
      have hix : ((m + 1 + k : Nat) : Int) - 1 - k = (m : Int) := by omega
      rw [hix]
      generalize hyy : v / 256 ^ k = y at *
      go_wp2
      refine ⟨⟨k + 1, by omega, congrArg (Value.int .i64) (by omega), congrArg (Value.int .u64) (by rw [(unhide HS).2]; omega), ?_⟩, by simp [intOf]⟩
      have h := (unhide HS).1
      rw [show B y = Value.int .u8 ((y : Int) % 256) from by simp [B]] at h
      exact h
    · have hkn : k = n := by omega
      subst hkn
      go_wp2
      go_ret
      exact ⟨rfl, hI.own, hI.2.2.1⟩
end Go.Proofs.YtikolmpgnpkdbaaDoor

namespace Go.Proofs.YtikolmpgnpkdbaaDoor
open Go.RowKit

/-- Why a part can't be laid, as the ref has it. -/
def wrongN (p : Pt) : Int := if p.k = 5 ∧ quantB (p.u % 4294967296) = false then 4 else if p.k = 6 ∧ p.m < (p.s.size : Int) then 2 else if p.k = 7 ∧ p.n < 0 then 4 else if p.k = 7 ∧ (p.m < p.n ∨ 4294967295 < p.n) then 2 else if p.k = 9 then p.n else 0

theorem gwrong1 (u : Nat) (s : ByteArray) (n m : Int) (w : World) : Calls Tryd.prog 66 #[.agg #[.int .i64 1, .int .u64 u, .string s, .int .i64 n, .int .i64 m]] w fun e w' => e = .returned (.int .i64 (wrongN ⟨1, u, s, n, m⟩)) ∧ Fr (fun _ => False) w w' := by
  have hr : wrongN ⟨1, u, s, n, m⟩ = 0 := by simp [wrongN]
  rw [hr]
  clear hr
  go_enter Tryd.func66, Tryd.ntmps66
  go_wp2_with fail
  go_ret
  exact ⟨rfl, box1 _ _⟩
theorem gwrong2 (u : Nat) (s : ByteArray) (n m : Int) (w : World) : Calls Tryd.prog 66 #[.agg #[.int .i64 2, .int .u64 u, .string s, .int .i64 n, .int .i64 m]] w fun e w' => e = .returned (.int .i64 (wrongN ⟨2, u, s, n, m⟩)) ∧ Fr (fun _ => False) w w' := by
  have hr : wrongN ⟨2, u, s, n, m⟩ = 0 := by simp [wrongN]
  rw [hr]
  clear hr
  go_enter Tryd.func66, Tryd.ntmps66
  go_wp2_with fail
  go_ret
  exact ⟨rfl, box1 _ _⟩
theorem gwrong4 (u : Nat) (s : ByteArray) (n m : Int) (w : World) : Calls Tryd.prog 66 #[.agg #[.int .i64 4, .int .u64 u, .string s, .int .i64 n, .int .i64 m]] w fun e w' => e = .returned (.int .i64 (wrongN ⟨4, u, s, n, m⟩)) ∧ Fr (fun _ => False) w w' := by
  have hr : wrongN ⟨4, u, s, n, m⟩ = 0 := by simp [wrongN]
  rw [hr]
  clear hr
  go_enter Tryd.func66, Tryd.ntmps66
  go_wp2_with fail
  go_ret
  exact ⟨rfl, box1 _ _⟩
theorem gwrong8 (u : Nat) (s : ByteArray) (n m : Int) (w : World) : Calls Tryd.prog 66 #[.agg #[.int .i64 8, .int .u64 u, .string s, .int .i64 n, .int .i64 m]] w fun e w' => e = .returned (.int .i64 (wrongN ⟨8, u, s, n, m⟩)) ∧ Fr (fun _ => False) w w' := by
  have hr : wrongN ⟨8, u, s, n, m⟩ = 0 := by simp [wrongN]
  rw [hr]
  clear hr
  go_enter Tryd.func66, Tryd.ntmps66
  go_wp2_with fail
  go_ret
  exact ⟨rfl, box1 _ _⟩
theorem gwrong10 (u : Nat) (s : ByteArray) (n m : Int) (w : World) : Calls Tryd.prog 66 #[.agg #[.int .i64 10, .int .u64 u, .string s, .int .i64 n, .int .i64 m]] w fun e w' => e = .returned (.int .i64 (wrongN ⟨10, u, s, n, m⟩)) ∧ Fr (fun _ => False) w w' := by
  have hr : wrongN ⟨10, u, s, n, m⟩ = 0 := by simp [wrongN]
  rw [hr]
  clear hr
  go_enter Tryd.func66, Tryd.ntmps66
  go_wp2_with fail
  go_ret
  exact ⟨rfl, box1 _ _⟩
theorem gwrong9 (u : Nat) (s : ByteArray) (n m : Int) (w : World) : Calls Tryd.prog 66 #[.agg #[.int .i64 9, .int .u64 u, .string s, .int .i64 n, .int .i64 m]] w fun e w' => e = .returned (.int .i64 (wrongN ⟨9, u, s, n, m⟩)) ∧ Fr (fun _ => False) w w' := by
  have hr : wrongN ⟨9, u, s, n, m⟩ = n := by simp [wrongN]
  rw [hr]
  clear hr
  go_enter Tryd.func66, Tryd.ntmps66
  go_wp2_with fail
  go_ret
  exact ⟨rfl, box1 _ _⟩
theorem gwrong6 (u : Nat) (s : ByteArray) (n m : Int) (w : World) : Calls Tryd.prog 66 #[.agg #[.int .i64 6, .int .u64 u, .string s, .int .i64 n, .int .i64 m]] w fun e w' => e = .returned (.int .i64 (wrongN ⟨6, u, s, n, m⟩)) ∧ Fr (fun _ => False) w w' := by
  by_cases h : m < (s.size : Int)
  · have hr : wrongN ⟨6, u, s, n, m⟩ = 2 := by simp [wrongN, h]
    rw [hr]
    clear hr
    go_enter Tryd.func66, Tryd.ntmps66
    go_wp2_with fail
    go_ret
    exact ⟨rfl, box1 _ _⟩
  · have hr : wrongN ⟨6, u, s, n, m⟩ = 0 := by simp [wrongN, h]
    rw [hr]
    clear hr
    go_enter Tryd.func66, Tryd.ntmps66
    go_wp2_with fail
    go_ret
    exact ⟨rfl, box1 _ _⟩
theorem gwrong5 (u : Nat) (s : ByteArray) (n m : Int) (w : World) (hu : u < 18446744073709551616) : Calls Tryd.prog 66 #[.agg #[.int .i64 5, .int .u64 u, .string s, .int .i64 n, .int .i64 m]] w fun e w' => e = .returned (.int .i64 (wrongN ⟨5, u, s, n, m⟩)) ∧ Fr (fun _ => False) w w' := by
  have hq := gquant_any (u % 4294967296) (w.alloc (.cells #[.int .i64 5, .int .u64 u, .string s, .int .i64 n, .int .i64 m] 31)) (by omega)
  have ec : ((u % 4294967296 : Nat) : Int) = (u : Int) % 4294967296 := by omega
  rw [ec] at hq
  have HQ := hide hq
  clear hq ec
  cases h : quantB (u % 4294967296)
  · have hr : wrongN ⟨5, u, s, n, m⟩ = 4 := by simp [wrongN, h]
    rw [hr]
    rw [h] at HQ
    clear hr
    go_enter Tryd.func66, Tryd.ntmps66
    go_wp2_with fail
    refine (unhide HQ).mono ?_
    rintro e w' ⟨rfl, rfl⟩
    go_wp2_with fail
    go_ret
    exact ⟨rfl, box1 _ _⟩
  · have hr : wrongN ⟨5, u, s, n, m⟩ = 0 := by simp [wrongN, h]
    rw [hr]
    rw [h] at HQ
    clear hr
    go_enter Tryd.func66, Tryd.ntmps66
    go_wp2_with fail
    refine (unhide HQ).mono ?_
    rintro e w' ⟨rfl, rfl⟩
    go_wp2_with fail
    go_ret
    exact ⟨rfl, box1 _ _⟩
end Go.Proofs.YtikolmpgnpkdbaaDoor

namespace Go.Proofs.YtikolmpgnpkdbaaDoor
open Go.RowKit

theorem gwrong7 (u : Nat) (s : ByteArray) (n m : Int) (w : World) : Calls Tryd.prog 66 #[.agg #[.int .i64 7, .int .u64 u, .string s, .int .i64 n, .int .i64 m]] w fun e w' => e = .returned (.int .i64 (wrongN ⟨7, u, s, n, m⟩)) ∧ Fr (fun _ => False) w w' := by
  by_cases h0 : n < 0
  · have hr : wrongN ⟨7, u, s, n, m⟩ = 4 := by simp [wrongN, h0]
    rw [hr]
    clear hr
    go_enter Tryd.func66, Tryd.ntmps66
    go_wp2_with fail
    go_ret
    exact ⟨rfl, box1 _ _⟩
  by_cases h1 : m < n
  · have hr : wrongN ⟨7, u, s, n, m⟩ = 2 := by simp [wrongN, h0, h1]
    rw [hr]
    clear hr
    go_enter Tryd.func66, Tryd.ntmps66
    go_wp2_with fail
    go_ret
    exact ⟨rfl, box1 _ _⟩
  by_cases h2 : 4294967295 < n
  · have hr : wrongN ⟨7, u, s, n, m⟩ = 2 := by simp [wrongN, h0, h2]
    rw [hr]
    clear hr
    go_enter Tryd.func66, Tryd.ntmps66
    go_wp2_with fail
    go_ret
    exact ⟨rfl, box1 _ _⟩
  · have hr : wrongN ⟨7, u, s, n, m⟩ = 0 := by simp [wrongN, h0, h1, h2]
    rw [hr]
    clear hr
    go_enter Tryd.func66, Tryd.ntmps66
    go_wp2_with fail
    go_ret
    exact ⟨rfl, box1 _ _⟩

theorem gwrong_any (p : Pt) (w : World) (hk : p.k ∈ kinds) (hu : p.u < 18446744073709551616) : Calls Tryd.prog 66 #[.agg #[.int .i64 p.k, .int .u64 p.u, .string p.s, .int .i64 p.n, .int .i64 p.m]] w fun e w' => e = .returned (.int .i64 (wrongN p)) ∧ Fr (fun _ => False) w w' := by
  obtain ⟨k, u, s, n, m⟩ := p
  simp only [kinds, List.mem_cons, List.not_mem_nil, or_false] at hk hu ⊢
  rcases hk with rfl | rfl | rfl | rfl | rfl | rfl | rfl | rfl | rfl
  · exact gwrong1 u s n m w
  · exact gwrong2 u s n m w
  · exact gwrong4 u s n m w
  · exact gwrong8 u s n m w
  · exact gwrong5 u s n m w hu
  · exact gwrong6 u s n m w
  · exact gwrong7 u s n m w
  · exact gwrong9 u s n m w
  · exact gwrong10 u s n m w

theorem gnumber_v (v n : Nat) (w : World) (hn : n ≤ 8) (hv : v < 18446744073709551616) : Calls Tryd.prog 96 #[.int .u64 v, .int .i64 n] w fun e w' => ∃ x, e = .returned x ∧ Src w' x (be n v) ∧ Fr (fun _ => False) w w' :=
  (gnumber_any v n w hn hv).mono (fun _ _ h => ⟨_, h.1, own_src (by rw [be_length]; exact h.2.1), h.2.2⟩)

theorem glaid1 (u : Nat) (s : ByteArray) (n m : Int) (w : World) (hu : u < 18446744073709551616) : Calls Tryd.prog 67 #[.agg #[.int .i64 1, .int .u64 u, .string s, .int .i64 n, .int .i64 m]] w fun e w' => ∃ v, e = .returned v ∧ Src w' v (be 1 u) ∧ Fr (fun _ => False) w w' := by
  go_enter Tryd.func67, Tryd.ntmps67
  go_wp2_with fail
  refine (gnumber_v u 1 _ (by decide) hu).mono ?_
  rintro e w' ⟨x, rfl, hs, hf⟩
  have H := hide (And.intro hs hf)
  clear hs hf
  go_wp2_with fail
  go_ret
  exact ⟨_, rfl, (unhide H).1, (box1 w _).trans (unhide H).2 (fun _ _ h => h)⟩
theorem glaid2 (u : Nat) (s : ByteArray) (n m : Int) (w : World) (hu : u < 18446744073709551616) : Calls Tryd.prog 67 #[.agg #[.int .i64 2, .int .u64 u, .string s, .int .i64 n, .int .i64 m]] w fun e w' => ∃ v, e = .returned v ∧ Src w' v (be 2 u) ∧ Fr (fun _ => False) w w' := by
  go_enter Tryd.func67, Tryd.ntmps67
  go_wp2_with fail
  refine (gnumber_v u 2 _ (by decide) hu).mono ?_
  rintro e w' ⟨x, rfl, hs, hf⟩
  have H := hide (And.intro hs hf)
  clear hs hf
  go_wp2_with fail
  go_ret
  exact ⟨_, rfl, (unhide H).1, (box1 w _).trans (unhide H).2 (fun _ _ h => h)⟩
theorem glaid4 (u : Nat) (s : ByteArray) (n m : Int) (w : World) (hu : u < 18446744073709551616) : Calls Tryd.prog 67 #[.agg #[.int .i64 4, .int .u64 u, .string s, .int .i64 n, .int .i64 m]] w fun e w' => ∃ v, e = .returned v ∧ Src w' v (be 4 u) ∧ Fr (fun _ => False) w w' := by
  go_enter Tryd.func67, Tryd.ntmps67
  go_wp2_with fail
  refine (gnumber_v u 4 _ (by decide) hu).mono ?_
  rintro e w' ⟨x, rfl, hs, hf⟩
  have H := hide (And.intro hs hf)
  clear hs hf
  go_wp2_with fail
  go_ret
  exact ⟨_, rfl, (unhide H).1, (box1 w _).trans (unhide H).2 (fun _ _ h => h)⟩
theorem glaid8 (u : Nat) (s : ByteArray) (n m : Int) (w : World) (hu : u < 18446744073709551616) : Calls Tryd.prog 67 #[.agg #[.int .i64 8, .int .u64 u, .string s, .int .i64 n, .int .i64 m]] w fun e w' => ∃ v, e = .returned v ∧ Src w' v (be 8 u) ∧ Fr (fun _ => False) w w' := by
  go_enter Tryd.func67, Tryd.ntmps67
  go_wp2_with fail
  refine (gnumber_v u 8 _ (by decide) hu).mono ?_
  rintro e w' ⟨x, rfl, hs, hf⟩
  have H := hide (And.intro hs hf)
  clear hs hf
  go_wp2_with fail
  go_ret
  exact ⟨_, rfl, (unhide H).1, (box1 w _).trans (unhide H).2 (fun _ _ h => h)⟩
theorem glaid5 (u : Nat) (s : ByteArray) (n m : Int) (w : World) (hu : u < 18446744073709551616) : Calls Tryd.prog 67 #[.agg #[.int .i64 5, .int .u64 u, .string s, .int .i64 n, .int .i64 m]] w fun e w' => ∃ v, e = .returned v ∧ Src w' v (be 4 u) ∧ Fr (fun _ => False) w w' := by
  go_enter Tryd.func67, Tryd.ntmps67
  go_wp2_with fail
  refine (gnumber_v u 4 _ (by decide) hu).mono ?_
  rintro e w' ⟨x, rfl, hs, hf⟩
  have H := hide (And.intro hs hf)
  clear hs hf
  go_wp2_with fail
  go_ret
  exact ⟨_, rfl, (unhide H).1, (box1 w _).trans (unhide H).2 (fun _ _ h => h)⟩
theorem glaid7 (u q : Nat) (s : ByteArray) (m : Int) (w : World) (hq : q < 9223372036854775808) : Calls Tryd.prog 67 #[.agg #[.int .i64 7, .int .u64 u, .string s, .int .i64 q, .int .i64 m]] w fun e w' => ∃ v, e = .returned v ∧ Src w' v (be 4 q) ∧ Fr (fun _ => False) w w' := by
  have hwr : IntKind.u64.wrap (q : Int) = (q : Int) := by rw [IntKind.wrap_u64]; omega
  go_enter Tryd.func67, Tryd.ntmps67
  go_wp2_with fail
  refine (gnumber_v q 4 _ (by decide) (by omega)).mono ?_
  rintro e w' ⟨x, rfl, hs, hf⟩
  have H := hide (And.intro hs hf)
  clear hs hf
  go_wp2_with fail
  go_ret
  exact ⟨_, rfl, (unhide H).1, (box1 w _).trans (unhide H).2 (fun _ _ h => h)⟩
theorem glaid9 (u : Nat) (s : ByteArray) (n m : Int) (w : World) : Calls Tryd.prog 67 #[.agg #[.int .i64 9, .int .u64 u, .string s, .int .i64 n, .int .i64 m]] w fun e w' => ∃ v, e = .returned v ∧ Src w' v [] ∧ Fr (fun _ => False) w w' := by
  go_enter Tryd.func67, Tryd.ntmps67
  go_wp2_with fail
  go_ret
  exact ⟨_, rfl, .inl ⟨rfl, rfl⟩, box1 w _⟩
end Go.Proofs.YtikolmpgnpkdbaaDoor

namespace Go.Proofs.YtikolmpgnpkdbaaDoor
open Go.RowKit

theorem gnumber_o (v n : Nat) (w : World) (hn : n ≤ 8) (hv : v < 18446744073709551616) : Calls Tryd.prog 96 #[.int .u64 v, .int .i64 n] w fun e w' => ∃ x, e = .returned x ∧ w'.ownsRow w.heap.size 5 1 x n (cellsOf (be n v)) ∧ Fr (fun _ => False) w w' :=
  (gnumber_any v n w hn hv).mono (fun _ _ h => ⟨_, h.1, h.2.1, h.2.2⟩)

set_option maxRecDepth 1000000 in
theorem glaid6 (u : Nat) (s : ByteArray) (n m : Int) (w : World) (hs : s.size < 140737488355000) : Calls Tryd.prog 67 #[.agg #[.int .i64 6, .int .u64 u, .string s, .int .i64 n, .int .i64 m]] w fun e w' => ∃ v, e = .returned v ∧ Src w' v (be 4 s.size ++ bytesOf s) ∧ Fr (fun _ => False) w w' := by
  obtain ⟨i0, hi, hz0, hz1, hz2⟩ := info_parts Tryd.info5
  have hwr : IntKind.u64.wrap (s.size : Int) = (s.size : Int) := by rw [IntKind.wrap_u64]; omega
  go_enter Tryd.func67, Tryd.ntmps67
  go_wp2_with fail
  refine (gnumber_o s.size 4 _ (by decide) (by omega)).mono ?_
  rintro e w1 ⟨x, rfl, ho, hf⟩
  have ho' := own_mono ho (base' := w.heap.size + 1) (by simp)
  have H := hide (And.intro ho' ((box1 w _).trans hf (fun _ _ h => h)))
  have hbx : w1.cell? ⟨w.heap.size, 2, none⟩ = some (.string s) := (hf.cell (by simp) (fun h => h)).trans (by simp)
  clear ho ho' hf
  go_wp2_with fail
  go_loopw [3, 4] (fun x i wr => ∃ k : Nat, k ≤ s.size ∧ i = .int .i64 k ∧ wr.ownsRow (w.heap.size + 1) 5 1 x (4 + k) (cellsOf (be 4 s.size ++ (bytesOf s).take k)) ∧ wr.cell? ⟨w.heap.size, 2, none⟩ = some (.string s) ∧ Fr (fun _ => False) w wr) (fun _ i _ => s.size - (intOf i).toNat)
  case atStart => exact ⟨0, Nat.zero_le _, rfl, by simpa using (unhide H).1, hbx, (unhide H).2⟩
  case round =>
    obtain ⟨k, hk, rfl, ho, hb, hf⟩ := hrel
    rename World => wr
    have H2 := hide (And.intro ho hf)
    clear ho hf
    by_cases hlt : k < s.size
    · have hlt' : k < s.data.size := hlt
      obtain ⟨ho, hf⟩ := unhide H2
      rename_i x'
      have hc : s[k].toNat < 256 := s[k].toNat_lt
      have hx1 := ownsRow_of_block (w' := wr.alloc (.cells #[.int .u8 (s[k].toNat : Int)] 5)) ho (fun g hg => Below.heap_alloc _ _ _ (ho.lt g hg).2)
      have hbl : w.heap.size < wr.heap.size := lt_of_cell hb
      obtain ⟨ao, c', w2, hr, hown, hgrow, hat⟩ := run_app_sl _ 25 (w.heap.size + 1) (4 + k) _ _ _ [s[k].toNat] hx1 (lit_src wr [s[k].toNat] #[.int .u8 (s[k].toNat : Int)] 1 1 rfl (by simp [cellsOf, B, Nat.mod_eq_of_lt hc])) (by simp; omega) (by simp; omega)
      have hf2 : Fr (fun _ => False) w w2 := (hf.alloc _).grown hgrow (fun g hg => .inr (by have := (ho.lt g hg).1; omega))
      have hb2 : w2.cell? ⟨w.heap.size, 2, none⟩ = some (.string s) := (hgrow.cell_far ⟨w.heap.size, 2, none⟩ (by simp; omega) (fun e => by have := (ho.lt w.heap.size e.symm).1; omega)).trans ((World.cell?_alloc_past _ _ _ hbl).trans hb)
      have ho2 : w2.ownsRow (w.heap.size + 1) 5 1 (.slice ao (4 + k + 1) c') (4 + (k + 1)) (cellsOf (be 4 s.size ++ (bytesOf s).take (k + 1))) := by
        have hk' : k < (bytesOf s).length := by rw [bytesOf_length]; exact hlt
        have e : (bytesOf s)[k] = s[k].toNat := by simp [bytesOf]; rfl
        rw [List.take_add_one, List.getElem?_eq_getElem hk', Option.toList_some, e, ← List.append_assoc, cellsOf_append _ [s[k].toNat]]
        exact hown
      have HR := hide hr
      have H3 := hide (And.intro ho2 (And.intro hb2 hf2))
      clear ho hf hx1 hr hown hgrow hat hf2 hb2 ho2
      go_wp2_with (at_builtin; refine wpList_app rfl (.tmp 56) (.tmp 61) 25 25 rfl _ _ _ rfl rfl (unhide HR) ?_)
      go_roundw
      case rel => exact ⟨k + 1, by omega, by go_num, (unhide H3).1, (unhide H3).2.1, (unhide H3).2.2⟩
      case measure => simp [intOf]; omega
    · have hkn : k = s.size := by omega
      subst hkn
      go_wp2_with fail
      go_ret
      have e : (bytesOf s).take s.size = bytesOf s := List.take_of_length_le (by rw [bytesOf_length]; exact Nat.le_refl _)
      have h := (unhide H2).1
      rw [e] at h
      exact ⟨_, rfl, own_src (by rw [List.length_append, be_length, bytesOf_length]; exact h), (unhide H2).2⟩
end Go.Proofs.YtikolmpgnpkdbaaDoor

namespace Go.Proofs.YtikolmpgnpkdbaaDoor
open Go.RowKit

/-- A part's bytes, as the ref lays them. -/
def lz (p : Pt) : List Nat := if p.k = 1 then be 1 p.u else if p.k = 2 then be 2 p.u else if p.k = 4 then be 4 p.u else if p.k = 8 then be 8 p.u else if p.k = 5 then be 4 p.u else if p.k = 7 then be 4 p.n.toNat else if p.k = 6 then be 4 p.s.size ++ bytesOf p.s else []

theorem glaid_any (p : Pt) (w : World) (hk : p.k ∈ kinds) (h10 : p.k ≠ 10) (hu : p.u < 18446744073709551616) (hn : p.n < 9223372036854775808) (hs : p.s.size < 140737488355000) (hw : wrongN p = 0) :
    Calls Tryd.prog 67 #[.agg #[.int .i64 p.k, .int .u64 p.u, .string p.s, .int .i64 p.n, .int .i64 p.m]] w fun e w' => ∃ v, e = .returned v ∧ Src w' v (lz p) ∧ Fr (fun _ => False) w w' := by
  obtain ⟨k, u, s, n, m⟩ := p
  simp only [kinds, List.mem_cons, List.not_mem_nil, or_false] at hk hu hn hs h10 ⊢
  rcases hk with rfl | rfl | rfl | rfl | rfl | rfl | rfl | rfl | rfl
  · exact glaid1 u s n m w hu
  · exact glaid2 u s n m w hu
  · exact glaid4 u s n m w hu
  · exact glaid8 u s n m w hu
  · exact glaid5 u s n m w hu
  · exact glaid6 u s n m w hs
  · have h0 : 0 ≤ n := by
      rcases Int.lt_or_le n 0 with h | h
      · simp [wrongN, h] at hw
      · exact h
    obtain ⟨q, rfl⟩ := Int.eq_ofNat_of_zero_le h0
    exact glaid7 u q s m w (by omega)
  · exact glaid9 u s n m w
  · exact absurd rfl h10

/-- The norm of what the ref lays is that of what the writer lays. -/
theorem norm_lz (p : Pt) (hk : p.k ∈ kinds) : norm (lz p) = norm (encA p) := by
  have key : ∀ a b : Nat, ∀ n, (∀ i, i < n → a / 256 ^ (n - 1 - i) % 256 = b / 256 ^ (n - 1 - i) % 256) → norm (be n a) = norm (be n b) := fun a b n h => by
    unfold norm be
    rw [List.map_map, List.map_map]
    apply List.map_congr_left
    intro i hi
    exact h i (by simpa using hi)
  have hm : ∀ (u n : Nat), norm (be n u) = norm (be n (u % 256 ^ n)) := fun u n => key _ _ n (fun i hi => by
    have e : 256 ^ n = 256 ^ (n - 1 - i) * (256 * 256 ^ i) := by
      rw [← Nat.mul_assoc, ← Nat.pow_succ, ← Nat.pow_add]
      congr 1
      omega
    rw [e, Nat.mod_mul_right_div_self, Nat.mod_mul_right_mod])
  obtain ⟨k, u, s, n, m⟩ := p
  simp only [kinds, List.mem_cons, List.not_mem_nil, or_false] at hk
  rcases hk with rfl | rfl | rfl | rfl | rfl | rfl | rfl | rfl | rfl
  · exact hm u 1
  · exact hm u 2
  · exact hm u 4
  · rfl
  · exact hm u 4
  · rfl
  · rfl
  · rfl
  · rfl
end Go.Proofs.YtikolmpgnpkdbaaDoor

namespace Go.Proofs.YtikolmpgnpkdbaaDoor
open Go.RowKit

/-- What the ref's Write tells of the calls that are left: the bytes, and the fault. -/
def writeM : List Pt → ByteArray → List Nat → List Nat × ByteArray × Nat × Int
  | [], _, b => (b, ⟨#[]⟩, 0, 0)
  | p :: r, nm, b => if p.k = 10 then writeM r p.s b else if wrongN p = 0 then writeM r nm (b ++ lz p) else ([], nm, b.length, wrongN p)
theorem lz_len (p : Pt) : (lz p).length ≤ 12 + p.s.size := by
  unfold lz
  repeat' split
  all_goals simp [be_length, bytesOf_length]
  all_goals omega

theorem weight_snoc (l : List Pt) (k : Nat) (h : k < l.length) : weight (l.take (k + 1)) = weight (l.take k) + (12 + l[k].s.size) := by
  rw [List.take_add_one, List.getElem?_eq_getElem h, Option.toList_some]
  simp only [weight, List.map_append, List.sum_append, List.map_cons, List.map_nil, List.sum_cons, List.sum_nil, Nat.add_zero]

theorem box_set {wr : World} {g : Nat} {a0 a1 a2 o0 o1 o2 : Value} (r0 : wr.cell? ⟨g, 0, none⟩ = some o0) (r1 : wr.cell? ⟨g, 1, none⟩ = some o1) (r2 : wr.cell? ⟨g, 2, none⟩ = some o2) :
    (((wr.setCell ⟨g, 0, none⟩ a0).setCell ⟨g, 1, none⟩ a1).setCell ⟨g, 2, none⟩ a2).cell? ⟨g, 0, none⟩ = some a0 ∧ (((wr.setCell ⟨g, 0, none⟩ a0).setCell ⟨g, 1, none⟩ a1).setCell ⟨g, 2, none⟩ a2).cell? ⟨g, 1, none⟩ = some a1 ∧
      (((wr.setCell ⟨g, 0, none⟩ a0).setCell ⟨g, 1, none⟩ a1).setCell ⟨g, 2, none⟩ a2).cell? ⟨g, 2, none⟩ = some a2 ∧ Fr (fun k => k = g) wr (((wr.setCell ⟨g, 0, none⟩ a0).setCell ⟨g, 1, none⟩ a1).setCell ⟨g, 2, none⟩ a2) := by
  have ne : ∀ i j : Nat, i ≠ j → (⟨g, i, none⟩ : Addr) ≠ ⟨g, j, none⟩ := fun i j h e => by injection e with _ h2 _; exact h h2
  refine ⟨?_, ?_, ?_, ?_⟩
  · rw [World.cell?_setCell_other _ _ _ _ (ne 2 0 (by decide)), World.cell?_setCell_other _ _ _ _ (ne 1 0 (by decide)), World.cell?_setCell_same _ _ _ r0]
  · rw [World.cell?_setCell_other _ _ _ _ (ne 2 1 (by decide)), World.cell?_setCell_same _ _ _ ((World.cell?_setCell_other _ _ _ _ (ne 0 1 (by decide))).trans r1)]
  · rw [World.cell?_setCell_same _ _ _ ((World.cell?_setCell_other _ _ _ _ (ne 1 2 (by decide))).trans ((World.cell?_setCell_other _ _ _ _ (ne 0 2 (by decide))).trans r2))]
  · exact Fr.setCell (S := fun k => k = g) (Fr.setCell (S := fun k => k = g) (Fr.setCell (S := fun k => k = g) (Fr.refl _ _) (.inl rfl) _) (.inl rfl) _) (.inl rfl) _

set_option maxRecDepth 1000000 in
set_option maxHeartbeats 2000000 in
theorem gwrite_any (x : Value) (L : List Pt) (w : World) (hx : PSrc w x L) (hL : L.length ≤ 16777216) (hk : ∀ p ∈ L, p.k ∈ kinds ∧ p.ok) (hwt : weight L ≤ 16777216) :
    Calls Tryd.prog 27 #[x] w fun e w' => ∃ v, e = .returned (.tuple #[v, .agg #[.string (writeM L ⟨#[]⟩ []).2.1, .int .i64 (writeM L ⟨#[]⟩ []).2.2.1, .int .i64 (writeM L ⟨#[]⟩ []).2.2.2]]) ∧ Src w' v (writeM L ⟨#[]⟩ []).1 ∧ Fr (fun _ => False) w w' := by
  obtain ⟨xo, xc, rfl⟩ := hx.form
  have HX := hide (And.intro hx hk)
  clear hx hk
  go_enter Tryd.func27, Tryd.ntmps27
  go_wp2_with fail
  generalize hwB : w.alloc (.cells #[.string ⟨#[]⟩, .int .i64 0, .int .i64 0] 55) = wB
  have hwBs : wB.heap.size = w.heap.size + 1 := by rw [← hwB]; simp
  have hFB : Fr (fun _ => False) w wB := by rw [← hwB]; exact box1 w _
  have k0 : wB.cell? ⟨w.heap.size, 0, none⟩ = some (.string ⟨#[]⟩) := by rw [← hwB]; simp
  have k1 : wB.cell? ⟨w.heap.size, 1, none⟩ = some (.int .i64 0) := by rw [← hwB]; simp
  have k2 : wB.cell? ⟨w.heap.size, 2, none⟩ = some (.int .i64 0) := by rw [← hwB]; simp
  have kz : ∀ i, wB.frozen? ⟨w.heap.size, i, none⟩ = false := fun i => by rw [← hwB]; simp
  have HB := hide (And.intro hFB (And.intro k0 (And.intro k1 (And.intro k2 kz))))
  clear hwB hFB k0 k1 k2 kz
  go_loopw [4, 5, 6] (fun bv nv i wr => ∃ (k : Nat) (nm : ByteArray) (b : List Nat), k ≤ L.length ∧ i = .int .i64 k ∧ nv = .string nm ∧ writeM L ⟨#[]⟩ [] = writeM (L.drop k) nm b ∧ b.length ≤ weight (L.take k) ∧ wr.ownsRow (w.heap.size + 1) 5 1 bv b.length (cellsOf b) ∧ Fr (fun _ => False) wB wr) (fun _ _ i _ => L.length - (intOf i).toNat)
  case atStart => exact ⟨0, ⟨#[]⟩, [], Nat.zero_le _, rfl, rfl, rfl, Nat.zero_le _, World.ownsRow_nil _ _ _ _, Fr.refl _ _⟩
  case round =>
    obtain ⟨k, nm, b, hk, rfl, rfl, hM, hbl, ho, hf⟩ := hrel
    rename World => wr
    have hfw := (unhide HB).1.trans hf (fun _ _ h => h)
    have r0 := (hf.cell (p := ⟨w.heap.size, 0, none⟩) (by show w.heap.size < wB.heap.size; omega) (fun h => h)).trans (unhide HB).2.1
    have r1 := (hf.cell (p := ⟨w.heap.size, 1, none⟩) (by show w.heap.size < wB.heap.size; omega) (fun h => h)).trans (unhide HB).2.2.1
    have r2 := (hf.cell (p := ⟨w.heap.size, 2, none⟩) (by show w.heap.size < wB.heap.size; omega) (fun h => h)).trans (unhide HB).2.2.2.1
    have rz : ∀ i, wr.frozen? ⟨w.heap.size, i, none⟩ = false := fun i => (hf.frozen (p := ⟨w.heap.size, i, none⟩) (by show w.heap.size < wB.heap.size; omega) (fun h => h)).trans ((unhide HB).2.2.2.2 i)
    obtain ⟨ao, ac, rfl⟩ := own_form ho
    have HI := hide (And.intro hM (And.intro ho (And.intro hf hfw)))
    by_cases hlt : k < L.length
    · obtain ⟨g, o, rfl, c0, c1, c2, c3, c4⟩ := (unhide HX).1.at_ hfw k hlt
      have hmem := (unhide HX).2 L[k] (List.getElem_mem _)
      have hd : L.drop k = L[k] :: L.drop (k + 1) := List.drop_eq_getElem_cons hlt
      have hws := weight_snoc L k hlt
      have hwm := weight_mem (List.getElem_mem hlt)
      have hlz := lz_len L[k]
      have htk := weight_take L (k + 1)
      generalize L[k] = P at *
      rw [hd] at hM
      have HM := hide (And.intro hM hmem)
      clear hM hd
      by_cases h10 : P.k = 10
      · have b10 : (P.k == 10) = true := by simp [h10]
        have HM2 : Hid (writeM L ⟨#[]⟩ [] = writeM (L.drop (k + 1)) P.s b) := hide ((unhide HM).1.trans (by rw [writeM, if_pos h10]))
        clear ho hf hfw
        go_wp2_with fail
        refine ⟨⟨k + 1, P.s, b, by omega, by go_num, rfl, unhide HM2, by omega, (unhide HI).2.1, (unhide HI).2.2.1⟩, by simp [intOf]; omega⟩
      · have b10 : (P.k == 10) = false := by simp [h10]
        clear ho hf hfw
        go_wp2_with fail
        refine (gwrong_any P wr (unhide HM).2.1 (unhide HM).2.2.1).mono ?_
        rintro e w4 ⟨rfl, hf4⟩
        have fc : ∀ {p : Addr} {v : Value}, wr.cell? p = some v → w4.cell? p = some v := fun h => (hf4.cell (lt_of_cell h) (fun h => h)).trans h
        have d0 := fc c0
        have d1 := fc c1
        have d2 := fc c2
        have d3 := fc c3
        have d4 := fc c4
        have s0 := fc r0
        have s1 := fc r1
        have s2 := fc r2
        have hws2 : w.heap.size < wr.heap.size := lt_of_cell r0
        have sz : ∀ i, w4.frozen? ⟨w.heap.size, i, none⟩ = false := fun i => (hf4.frozen (p := ⟨w.heap.size, i, none⟩) hws2 (fun h => h)).trans (rz i)
        have z0 := sz 0
        have z1 := sz 1
        have z2 := sz 2
        have ho4 := ownsRow_of_block (unhide HI).2.1 (fun g hg => hf4.block g ((unhide HI).2.1.lt g hg).2 (fun h => h))
        have hB4 := (unhide HI).2.2.1.trans hf4 (fun _ _ h => h)
        have hW4 := (unhide HI).2.2.2.trans hf4 (fun _ _ h => h)
        have H4 := hide (And.intro ho4 (And.intro hB4 hW4))
        clear c0 c1 c2 c3 c4 r0 r1 r2 rz fc ho4 hB4 hW4 hf4 sz
        by_cases hw0 : wrongN P = 0
        · rw [hw0]
          have HM2 : Hid (writeM L ⟨#[]⟩ [] = writeM (L.drop (k + 1)) nm (b ++ lz P)) := hide ((unhide HM).1.trans (by rw [writeM, if_neg h10, if_pos hw0]))
          go_wp2_with fail
          refine (glaid_any P w4 (unhide HM).2.1 h10 (unhide HM).2.2.1 (unhide HM).2.2.2.1 (by omega) hw0).mono ?_
          rintro e w5 ⟨v, rfl, hsv, hf5⟩
          have ho5 := ownsRow_of_block (unhide H4).1 (fun g hg => hf5.block g ((unhide H4).1.lt g hg).2 (fun h => h))
          have hB5 := (unhide H4).2.1.trans hf5 (fun _ _ h => h)
          have sB5 := hB5.size
          obtain ⟨ao2, c2', w6, hr6, hown6, hgrow6, hat6⟩ := run_app_sl w5 25 (w.heap.size + 1) b.length _ v _ (lz P) ho5 hsv (by omega) (by omega)
          have hB6 : Fr (fun _ => False) wB w6 := hB5.grown hgrow6 (fun g hg => .inr (by have := (ho5.lt g hg).1; omega))
          have HR := hide hr6
          have H6 := hide (And.intro (And.intro hown6 hB6) (unhide HM2))
          clear hr6 hown6 hgrow6 hat6 hB6 hB5 ho5 hsv hf5
          go_wp2_with (at_builtin; refine wpList_app rfl (.tmp 37) (.tmp 42) 25 25 rfl _ _ _ rfl rfl (unhide HR) ?_)
          go_roundw
          case rel => exact ⟨k + 1, nm, b ++ lz P, by omega, by go_num, rfl, (unhide H6).2, by rw [List.length_append]; omega, by rw [List.length_append, cellsOf_append]; exact (unhide H6).1.1, (unhide H6).1.2⟩
          case measure => simp [intOf]; omega
        · have bw : (wrongN P != 0) = true := by rw [bne_iff_ne]; exact hw0
          have HM2 : Hid (writeM L ⟨#[]⟩ [] = ([], nm, b.length, wrongN P)) := hide ((unhide HM).1.trans (by rw [writeM, if_neg h10, if_neg hw0]))
          go_wp2_with fail
          obtain ⟨q0, q1, q2, qf⟩ := box_set (a0 := .string nm) (a1 := .int .i64 b.length) (a2 := .int .i64 (wrongN P)) s0 s1 s2
          have HQ := hide qf
          clear qf
          generalize ((w4.setCell ⟨w.heap.size, 0, none⟩ (.string nm)).setCell ⟨w.heap.size, 1, none⟩ (.int .i64 b.length)).setCell ⟨w.heap.size, 2, none⟩ (.int .i64 (wrongN P)) = w5 at *
          refine bodyPost_ret (v := .tuple #[.slice none 0 0, .agg #[.string nm, .int .i64 b.length, .int .i64 (wrongN P)]]) (by simp [results, Tryd.results27, go_sem, q0, q1, q2]) rfl ⟨.slice none 0 0, ?_, ?_, ?_⟩
          · rw [unhide HM2]
          · rw [unhide HM2]; exact .inl ⟨rfl, rfl⟩
          · exact (unhide H4).2.2.trans (unhide HQ) (fun i hi h => by have h' : i = w.heap.size := h; omega)
    · have hkn : L.drop k = [] := List.drop_of_length_le (by omega)
      rw [hkn] at hM
      clear hkn HI
      have HE := hide (And.intro hM (And.intro ho hfw))
      clear hM ho hfw hf
      go_wp2_with fail
      obtain ⟨q0, q1, q2, qf⟩ := box_set (a0 := .string ⟨#[]⟩) (a1 := .int .i64 0) (a2 := .int .i64 0) r0 r1 r2
      have e1 : writeM [] nm b = (b, ⟨#[]⟩, 0, 0) := rfl
      have HQ := hide qf
      clear qf
      generalize ((wr.setCell ⟨w.heap.size, 0, none⟩ (.string ⟨#[]⟩)).setCell ⟨w.heap.size, 1, none⟩ (.int .i64 0)).setCell ⟨w.heap.size, 2, none⟩ (.int .i64 0) = w5 at *
      refine bodyPost_ret (v := .tuple #[.slice ao b.length ac, .agg #[.string ⟨#[]⟩, .int .i64 0, .int .i64 0]]) (by simp [results, Tryd.results27, go_sem, q0, q1, q2]) rfl ⟨.slice ao b.length ac, ?_, ?_, ?_⟩
      · rw [(unhide HE).1, e1]; rfl
      · rw [(unhide HE).1, e1]
        exact (own_src (unhide HE).2.1).fr (unhide HQ) (fun g o m c e h => by have h' : g = w.heap.size := h; have := ((unhide HE).2.1.lt g (by rw [e]; rfl)).1; omega)
      · exact (unhide HE).2.2.trans (unhide HQ) (fun i hi h => by have h' : i = w.heap.size := h; omega)
end Go.Proofs.YtikolmpgnpkdbaaDoor

namespace Go.Proofs.YtikolmpgnpkdbaaDoor
open Go.RowKit

/-- What any call makes of a writer. -/
def Wst.layW (st : Wst) (p : Pt) (E : Nat → Addr) : Wst := if p.k = 9 then st.failN E p.n.toNat else st.layA p (E 2) (E 4)
/-- A call that is fitted, small. -/
def Pt.fitted (p : Pt) : Prop := p.k ∈ kinds ∧ (p.k = 9 → 0 ≤ p.n ∧ p.n ≤ 7) ∧ p.s.size < 4294967296

theorem putB_f {st : Wst} {x : List Nat} (h : st.f ≠ none) : st.putB x = st := if_neg h
theorem fail_f {st : Wst} {a : Addr} (h : st.f ≠ none) : st.fail a = st := if_neg h
theorem layW_f {st : Wst} {p : Pt} {E : Nat → Addr} (h : st.f ≠ none) : (st.layW p E).f = st.f := by
  unfold Wst.layW Wst.failN Wst.layA Wst.flt Wst.lay Wst.txt Wst.cnt
  simp only [putB_f h, fail_f h]
  repeat' split
  all_goals rfl
theorem foldW_f (L : List Pt) (E : Nat → Addr) : ∀ st : Wst, st.f ≠ none → (L.foldl (fun st p => st.layW p E) st).f = st.f := by
  induction L with
  | nil => intro st _; rfl
  | cons p r ih =>
    intro st h
    rw [List.foldl_cons, ih _ (by rw [layW_f h]; exact h), layW_f h]

theorem layW_ok {st : Wst} {p : Pt} {E : Nat → Addr} (hn : st.f = none) (hp : p.fitted) (h10 : p.k ≠ 10) (hw : wrongN p = 0) : st.layW p E = { st with l := st.l ++ encA p } := by
  obtain ⟨k, u, s, n, m⟩ := p
  obtain ⟨hk, h9, hs⟩ := hp
  simp only [kinds, List.mem_cons, List.not_mem_nil, or_false] at hk h9 hs h10
  rcases hk with rfl | rfl | rfl | rfl | rfl | rfl | rfl | rfl | rfl
  · simp [Wst.layW, Wst.layA, Wst.lay, Wst.putB, encA, enc, hn]
  · simp [Wst.layW, Wst.layA, Wst.lay, Wst.putB, encA, enc, hn]
  · simp [Wst.layW, Wst.layA, Wst.lay, Wst.putB, encA, enc, hn]
  · simp [Wst.layW, Wst.layA, Wst.lay, Wst.putB, encA, enc, hn]
  · have hq : quantB (u % 4294967296) = true := by
      cases h : quantB (u % 4294967296)
      · simp [wrongN, h] at hw
      · rfl
    simp [Wst.layW, Wst.layA, Wst.flt, Wst.putB, encA, hn, hq]
  · have hq : (s.size : Int) ≤ m := by
      rcases Int.lt_or_le m s.size with h | h
      · simp [wrongN, h] at hw
      · exact h
    simp [Wst.layW, Wst.layA, Wst.lay, Wst.txt, Wst.putB, encA, enc, hn, hq, hs]
  · have h0 : ¬ n < 0 := fun h => by simp [wrongN, h] at hw
    have h1 : n ≤ m ∧ n < 4294967296 := by
      by_cases h : m < n ∨ 4294967295 < n
      · simp [wrongN, h0, h] at hw
      · omega
    simp [Wst.layW, Wst.layA, Wst.lay, Wst.cnt, Wst.putB, encA, enc, hn, h0, h1]
  · have h0 : n = 0 := by simpa [wrongN] using hw
    subst h0
    simp [Wst.layW, Wst.failN, encA, enc]
  · exact absurd rfl h10

theorem layW_bad {st : Wst} {p : Pt} {E : Nat → Addr} (hn : st.f = none) (hp : p.fitted) (hw : wrongN p ≠ 0) : (st.layW p E).f = some (st.nm, st.l.length, E (wrongN p).toNat) ∧ 1 ≤ wrongN p ∧ wrongN p ≤ 7 := by
  obtain ⟨k, u, s, n, m⟩ := p
  obtain ⟨hk, h9, hs⟩ := hp
  simp only [kinds, List.mem_cons, List.not_mem_nil, or_false] at hk h9 hs
  rcases hk with rfl | rfl | rfl | rfl | rfl | rfl | rfl | rfl | rfl
  · simp [wrongN] at hw
  · simp [wrongN] at hw
  · simp [wrongN] at hw
  · simp [wrongN] at hw
  · have hq : quantB (u % 4294967296) = false := by
      cases h : quantB (u % 4294967296)
      · rfl
      · simp [wrongN, h] at hw
    simp [Wst.layW, Wst.layA, Wst.flt, Wst.fail, hn, hq, wrongN]
  · have hq : m < s.size := by
      rcases Int.lt_or_le m s.size with h | h
      · exact h
      · have h' : ¬ m < s.size := by omega
        simp [wrongN, h'] at hw
    have h' : ¬ (s.size : Int) ≤ m := by omega
    simp [Wst.layW, Wst.layA, Wst.lay, Wst.txt, Wst.fail, hn, hq, h', wrongN]
  · by_cases h0 : n < 0
    · simp [Wst.layW, Wst.layA, Wst.lay, Wst.cnt, Wst.fail, hn, h0, wrongN]
    · by_cases h : m < n ∨ 4294967295 < n
      · have h' : ¬ (n ≤ m ∧ n < 4294967296) := by omega
        simp [Wst.layW, Wst.layA, Wst.lay, Wst.cnt, Wst.fail, hn, h0, h, h', wrongN]
      · simp [wrongN, h0, h] at hw
  · have e : wrongN ⟨9, u, s, n, m⟩ = n := by simp [wrongN]
    rw [e] at hw ⊢
    obtain ⟨a, b⟩ := h9 rfl
    have h0 : n.toNat ≠ 0 := by omega
    refine ⟨?_, by omega, b⟩
    simp only [Wst.layW, Wst.failN, Wst.fail, hn, if_true, if_neg h0]
  · simp [wrongN] at hw

/-- The writer and the ref's Write. -/
theorem write_agrees (L : List Pt) (E : Nat → Addr) : ∀ (st : Wst) (b : List Nat), st.f = none → norm b = norm st.l → (∀ p ∈ L, p.fitted) →
    ((writeM L st.nm b).2.2.2 = 0 ∧ (L.foldl (fun st p => st.layW p E) st).f = none ∧ norm (writeM L st.nm b).1 = norm (L.foldl (fun st p => st.layW p E) st).l) ∨
    (1 ≤ (writeM L st.nm b).2.2.2 ∧ (writeM L st.nm b).2.2.2 ≤ 7 ∧ (writeM L st.nm b).1 = [] ∧ (L.foldl (fun st p => st.layW p E) st).f = some ((writeM L st.nm b).2.1, (writeM L st.nm b).2.2.1, E (writeM L st.nm b).2.2.2.toNat)) := by
  induction L with
  | nil => intro st b hn hb _; exact .inl ⟨rfl, hn, hb⟩
  | cons p r ih =>
    intro st b hn hb hp
    have hp0 := hp p (List.mem_cons_self ..)
    have hpr := fun q hq => hp q (List.mem_cons_of_mem _ hq)
    rw [List.foldl_cons]
    by_cases h10 : p.k = 10
    · have e : st.layW p E = { st with nm := p.s } := by simp [Wst.layW, Wst.layA, h10]
      rw [e, writeM, if_pos h10]
      exact ih { st with nm := p.s } b hn hb hpr
    by_cases hw : wrongN p = 0
    · rw [layW_ok hn hp0 h10 hw, writeM, if_neg h10, if_pos hw]
      exact ih { st with l := st.l ++ encA p } (b ++ lz p) hn (by rw [norm_append, norm_append, hb, norm_lz p hp0.1]) hpr
    · obtain ⟨hf, h1, h7⟩ := layW_bad (E := E) hn hp0 hw
      have hl : b.length = st.l.length := by have := congrArg List.length hb; simpa [norm_length] using this
      rw [writeM, if_neg h10, if_neg hw]
      refine .inr ⟨h1, h7, rfl, ?_⟩
      rw [foldW_f r E _ (by rw [hf]; simp), hf, hl]
end Go.Proofs.YtikolmpgnpkdbaaDoor

