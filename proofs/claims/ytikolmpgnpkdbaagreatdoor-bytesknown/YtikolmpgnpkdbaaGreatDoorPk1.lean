import Derived.Test.YtikolmpgnpkdbaaGreatDoorGrf
import Derived.Test.YtikolmpgnpkdbaaGreatDoorRbg
import Derived.Test.YtikolmpgnpkdbaaGreatDoorTld
import Derived.Test.YtikolmpgnpkdbaaGreatDoorAwl
import Derived.Test.YtikolmpgnpkdbaaGreatDoorRfa
import Derived.Laws.OwnMore
namespace Go.Proofs.YtikolmpgnpkdbaaGreatDoor
open Go.RowKit

set_option maxRecDepth 1000000 in
theorem gread_6_end (xo : Option Addr) (all : List Nat) (xc place : Nat) (last fa : Int) (nm fw s : ByteArray) (u : Nat) (n m : Int) (w : World) (hx : Src w (.slice xo all.length xc) all) (hlc : all.length ≤ xc) (hl : all.length ≤ 140737488355328) (hs : 4 + place ≤ all.length) (hm : m < 9223372036854775808) (hv : (val ((all.drop place).take 4) : Int) ≤ m) (hxl : all.length < val ((all.drop place).take 4) + (place + 4)) :
    Calls Tryz.prog 22 #[rdV xo all.length xc place last nm fw fa 0, .agg #[.int .i64 6, .int .u64 u, .string s, .int .i64 n, .int .i64 m]] w fun e w' => e = .returned (.tuple #[rdV xo all.length xc place last nm nm place 1, .int .u64 0, .slice none 0 0]) ∧ Fr (fun _ => False) w w' := by
  have hw : IntKind.i64.wrap ((all.length : Int) - place) = (all.length : Int) - place := by rw [IntKind.wrap_i64]; omega
  have hw3 : IntKind.i64.wrap ((all.length : Int) - place - 4) = (all.length : Int) - place - 4 := by rw [IntKind.wrap_i64]; omega
  have hw4 : IntKind.u64.wrap ((all.length : Int) - place - 4) = (all.length : Int) - place - 4 := by rw [IntKind.wrap_u64]; omega
  have hd : decide ((all.length : Int) - place < 4) = false := by simp; omega
  have hcut := cut_at (n := 4) hx hlc hs (by decide)
  have hlen : ((all.drop place).take 4).length ≤ 8 := by simp; omega
  generalize (all.drop place).take 4 = l at *
  have HX := hide (And.intro hcut hlen)
  clear hx hcut hlen
  generalize all.length = len at *
  generalize hvx : val l = x at *
  have HVX := hide hvx
  clear hvx
  unfold rdV
  have hw2 : IntKind.u64.wrap m = m := by rw [IntKind.wrap_u64]; omega
  have hd0 : decide (m < 0) = false := by simp; omega
  have hd2 : decide (m < (x : Int)) = false := by simp; omega
  have hd3 : decide ((len : Int) - place - 4 < x) = true := by simp; omega
  go_enter Tryz.func22, Tryz.ntmps22
  go_wp2_with fail
  refine (value_any _ l _ ((unhide HX).1.fr (box3 w _ _ _) (fun _ _ _ _ _ h => h)) (unhide HX).2).mono ?_
  rintro e w' ⟨rfl, rfl⟩
  rw [unhide HVX]
  go_wp2_with fail
  exact bodyPost_ret (v := .tuple #[rdV xo len xc place last nm nm place 1, .int .u64 0, .slice none 0 0]) (by simp [results, Tryz.results22, go_sem, rdV]) rfl ⟨rfl, box3 w _ _ _⟩

theorem make0 (x : Nat) (w : World) (hx : x ≤ 16777216) : ∃ w', (Instr.makeSlice 28 (.int .i64 0) (.int .i64 (x : Int))).run Tryz.prog w = .ok (.slice (some ⟨w.heap.size, 0, none⟩) 0 x) w' ∧ w'.ownsRow w.heap.size 5 1 (.slice (some ⟨w.heap.size, 0, none⟩) 0 x) 0 [] ∧ Fr (fun _ => False) w w' := by
  have hz' : (Tryz.prog.info? 5).bind (·.zero) = some (.int .u8 0) := by kernel_rfl
  have hs' : (Tryz.prog.info? 5).map (·.size) = some 1 := by kernel_rfl
  have hb' : (Tryz.prog.info? 5).map (·.bytes) = some 1 := by kernel_rfl
  obtain ⟨i, hi, hz⟩ := Option.bind_eq_some_iff.1 hz'
  rw [hi] at hs' hb'
  have hs : i.size = 1 := by simpa using hs'
  have hb : i.bytes = 1 := by simpa using hb'
  obtain ⟨w', hr, ho, hg⟩ := run_makeSlice_owned (P := Tryz.prog) w w.heap.size 28 5 i (.int .u8 0) 1 Tryz.underlying28 hi hz hs .i64 .i64 x (by omega) (by rw [hb]; omega) (by simp only [maxLen]; omega) (Nat.le_refl _)
  exact ⟨w', hr, ho, (Fr.refl _ _).grown hg (fun _ h => by cases h)⟩
/-- Seven cells of one block. -/
def C7 (w : World) (g : Nat) (a0 a1 a2 a3 a4 a5 a6 : Value) : Prop :=
  w.cell? ⟨g, 0, none⟩ = some a0 ∧ w.cell? ⟨g, 1, none⟩ = some a1 ∧ w.cell? ⟨g, 2, none⟩ = some a2 ∧ w.cell? ⟨g, 3, none⟩ = some a3 ∧ w.cell? ⟨g, 4, none⟩ = some a4 ∧ w.cell? ⟨g, 5, none⟩ = some a5 ∧ w.cell? ⟨g, 6, none⟩ = some a6 ∧ ∀ i, w.frozen? ⟨g, i, none⟩ = false
theorem C7.fr {w w' : World} {g : Nat} {a0 a1 a2 a3 a4 a5 a6 : Value} {S : Nat → Prop} (h : C7 w g a0 a1 a2 a3 a4 a5 a6) (hf : Fr S w w') (hS : ¬ S g) : C7 w' g a0 a1 a2 a3 a4 a5 a6 := by
  obtain ⟨h0, h1, h2, h3, h4, h5, h6, hz⟩ := h
  have hg : g < w.heap.size := lt_of_cell h0
  have key : ∀ {i : Nat} {v : Value}, w.cell? ⟨g, i, none⟩ = some v → w'.cell? ⟨g, i, none⟩ = some v := fun h => (hf.cell hg hS).trans h
  exact ⟨key h0, key h1, key h2, key h3, key h4, key h5, key h6, fun i => (hf.frozen hg hS).trans (hz i)⟩

theorem c7_new (w : World) (a0 a1 a2 a3 a4 a5 a6 : Value) (t : TypeId) : C7 (w.alloc (.cells #[a0, a1, a2, a3, a4, a5, a6] t)) w.heap.size a0 a1 a2 a3 a4 a5 a6 := by simp [C7]
theorem c7_first (w : World) (a0 a1 a2 a3 a4 a5 a6 : Value) (t : TypeId) (o2 o3 : Obj) : C7 (((w.alloc (.cells #[a0, a1, a2, a3, a4, a5, a6] t)).alloc o2).alloc o3) w.heap.size a0 a1 a2 a3 a4 a5 a6 := (c7_new w a0 a1 a2 a3 a4 a5 a6 t).fr (box2 _ o2 o3) (fun h => h)
theorem c7_third (w : World) (o1 o2 : Obj) (a0 a1 a2 a3 a4 a5 a6 : Value) (t : TypeId) : C7 (((w.alloc o1).alloc o2).alloc (.cells #[a0, a1, a2, a3, a4, a5, a6] t)) (w.heap.size + 1 + 1) a0 a1 a2 a3 a4 a5 a6 := by
  have h := c7_new ((w.alloc o1).alloc o2) a0 a1 a2 a3 a4 a5 a6 t
  have e : ((w.alloc o1).alloc o2).heap.size = w.heap.size + 1 + 1 := by simp
  rw [e] at h
  exact h

theorem set_step {w : World} {g j : Nat} {f : Nat → Value} {v : Value} (h : ∀ i, i < 7 → w.cell? ⟨g, i, none⟩ = some (f i)) (hj : j < 7) : ∀ i, i < 7 → (w.setCell ⟨g, j, none⟩ v).cell? ⟨g, i, none⟩ = some (if i = j then v else f i) := fun i hi => by
  by_cases e : i = j
  · subst e
    rw [World.cell?_setCell_same _ _ _ (h i hi), if_pos rfl]
  · rw [World.cell?_setCell_other _ _ _ _ (by intro h; injection h with _ h2 _; exact e h2.symm), h i hi, if_neg e]
theorem set7 {w : World} {g : Nat} {o0 o1 o2 o3 o4 o5 o6 : Value} (a0 a1 a2 a3 a4 a5 a6 : Value) (h : C7 w g o0 o1 o2 o3 o4 o5 o6) :
    C7 (((((((w.setCell ⟨g, 0, none⟩ a0).setCell ⟨g, 1, none⟩ a1).setCell ⟨g, 2, none⟩ a2).setCell ⟨g, 3, none⟩ a3).setCell ⟨g, 4, none⟩ a4).setCell ⟨g, 5, none⟩ a5).setCell ⟨g, 6, none⟩ a6) g a0 a1 a2 a3 a4 a5 a6 ∧
      Fr (fun k => k = g) w (((((((w.setCell ⟨g, 0, none⟩ a0).setCell ⟨g, 1, none⟩ a1).setCell ⟨g, 2, none⟩ a2).setCell ⟨g, 3, none⟩ a3).setCell ⟨g, 4, none⟩ a4).setCell ⟨g, 5, none⟩ a5).setCell ⟨g, 6, none⟩ a6) := by
  obtain ⟨h0, h1, h2, h3, h4, h5, h6, hz⟩ := h
  have k : ∀ i, i < 7 → w.cell? ⟨g, i, none⟩ = some ([o0, o1, o2, o3, o4, o5, o6].getD i .nilIface) := fun i hi => by
    match i, hi with
    | 0, _ => exact h0
    | 1, _ => exact h1
    | 2, _ => exact h2
    | 3, _ => exact h3
    | 4, _ => exact h4
    | 5, _ => exact h5
    | 6, _ => exact h6
  have q := set_step (v := a6) (j := 6) (set_step (v := a5) (j := 5) (set_step (v := a4) (j := 4) (set_step (v := a3) (j := 3) (set_step (v := a2) (j := 2) (set_step (v := a1) (j := 1) (set_step (v := a0) (j := 0) k (by decide)) (by decide)) (by decide)) (by decide)) (by decide)) (by decide)) (by decide)
  refine ⟨⟨q 0 (by decide), q 1 (by decide), q 2 (by decide), q 3 (by decide), q 4 (by decide), q 5 (by decide), q 6 (by decide), fun i => by simp only [World.frozen?_setCell]; exact hz i⟩, ?_⟩
  have s : ∀ {a b : World} {p : Addr} (v : Value), p.block = g → Fr (fun k => k = g) a b → Fr (fun k => k = g) a (b.setCell p v) := fun v hp hf => Fr.setCell hf (.inl hp) v
  exact s _ rfl (s _ rfl (s _ rfl (s _ rfl (s _ rfl (s _ rfl (s _ rfl (Fr.refl _ _)))))))

theorem rd_end {w w2 : World} {xo ao : Option Addr} {len xc place x ac : Nat} {nm fw : ByteArray} {fa : Int} {l2 : List Nat} {b0 b1 b2 b3 b4 b5 b6 : Value} (hC : C7 w2 (w.heap.size + 1 + 1) b0 b1 b2 b3 b4 b5 b6)
    (hO : Src w2 (.slice ao x ac) l2 ∧ ∀ g o m c, (Value.slice ao x ac) = .slice (some ⟨g, o, none⟩) m c → w.heap.size + 1 + 1 + 1 ≤ g) (hF0 : Fr (fun _ => False) w w2) :
    ∃ W9, W9 = (((((((((w2.setCell ⟨w.heap.size, 2, none⟩ (.int .i64 place)).setCell ⟨w.heap.size, 1, none⟩ (.int .i64 ((place : Int) + 4 + x))).setCell ⟨w.heap.size + 1 + 1, 0, none⟩ (.slice xo len xc)).setCell ⟨w.heap.size + 1 + 1, 1, none⟩ (.int .i64 ((place : Int) + 4 + x))).setCell ⟨w.heap.size + 1 + 1, 2, none⟩ (.int .i64 place)).setCell ⟨w.heap.size + 1 + 1, 3, none⟩ (.string nm)).setCell ⟨w.heap.size + 1 + 1, 4, none⟩ (.string fw)).setCell ⟨w.heap.size + 1 + 1, 5, none⟩ (.int .i64 fa)).setCell ⟨w.heap.size + 1 + 1, 6, none⟩ (.int .i64 0)) ∧
      W9.cell? ⟨w.heap.size + 1 + 1, 0, none⟩ = some (.slice xo len xc) ∧ W9.cell? ⟨w.heap.size + 1 + 1, 1, none⟩ = some (.int .i64 ((place : Int) + 4 + x)) ∧ W9.cell? ⟨w.heap.size + 1 + 1, 2, none⟩ = some (.int .i64 place) ∧ W9.cell? ⟨w.heap.size + 1 + 1, 3, none⟩ = some (.string nm) ∧ W9.cell? ⟨w.heap.size + 1 + 1, 4, none⟩ = some (.string fw) ∧ W9.cell? ⟨w.heap.size + 1 + 1, 5, none⟩ = some (.int .i64 fa) ∧ W9.cell? ⟨w.heap.size + 1 + 1, 6, none⟩ = some (.int .i64 0) ∧ Src W9 (.slice ao x ac) l2 ∧ Fr (fun _ => False) w W9 := by
  have hF : Fr (fun k => k = w.heap.size) w2 ((w2.setCell ⟨w.heap.size, 2, none⟩ (.int .i64 place)).setCell ⟨w.heap.size, 1, none⟩ (.int .i64 ((place : Int) + 4 + x))) := Fr.setCell (S := fun k => k = w.heap.size) (Fr.setCell (S := fun k => k = w.heap.size) (Fr.refl _ _) (.inl rfl) _) (.inl rfl) _
  obtain ⟨⟨q0, q1, q2, q3, q4, q5, q6, qz⟩, hF2⟩ := set7 (.slice xo len xc) (.int .i64 ((place : Int) + 4 + x)) (.int .i64 place) (.string nm) (.string fw) (.int .i64 fa) (.int .i64 0) (hC.fr hF (by show ¬ w.heap.size + 1 + 1 = w.heap.size; omega))
  refine ⟨_, rfl, q0, q1, q2, q3, q4, q5, q6, ?_, ?_⟩
  · exact (hO.1.fr hF (fun g o m c e h => by have h' : g = w.heap.size := h; have := hO.2 g o m c e; omega)).fr hF2 (fun g o m c e h => by have h' : g = w.heap.size + 1 + 1 := h; have := hO.2 g o m c e; omega)
  · exact (hF0.soak hF (fun i e => by have e' : i = w.heap.size := e; omega)).soak hF2 (fun i e => by have e' : i = w.heap.size + 1 + 1 := e; omega)

set_option maxRecDepth 1000000 in
set_option maxHeartbeats 1000000 in
theorem gread_6_ok (xo : Option Addr) (all : List Nat) (xc place : Nat) (last fa : Int) (nm fw s : ByteArray) (u : Nat) (n m : Int) (w : World) (hx : Src w (.slice xo all.length xc) all) (hlc : all.length ≤ xc) (hl : all.length ≤ 16777216) (hs : 4 + place ≤ all.length) (hm : m < 9223372036854775808) (hv : (val ((all.drop place).take 4) : Int) ≤ m) (hxl : val ((all.drop place).take 4) + (place + 4) ≤ all.length) :
    Calls Tryz.prog 22 #[rdV xo all.length xc place last nm fw fa 0, .agg #[.int .i64 6, .int .u64 u, .string s, .int .i64 n, .int .i64 m]] w fun e w' => ∃ v, e = .returned (.tuple #[rdV xo all.length xc ((place + 4 + val ((all.drop place).take 4) : Nat) : Int) place nm fw fa 0, .int .u64 0, v]) ∧ Src w' v ((all.drop (place + 4)).take (val ((all.drop place).take 4))) ∧ (∀ g o m c, v = .slice (some ⟨g, o, none⟩) m c → w.heap.size ≤ g) ∧ Fr (fun _ => False) w w' := by
  have hw : IntKind.i64.wrap ((all.length : Int) - place) = (all.length : Int) - place := by rw [IntKind.wrap_i64]; omega
  have hw3 : IntKind.i64.wrap ((all.length : Int) - place - 4) = (all.length : Int) - place - 4 := by rw [IntKind.wrap_i64]; omega
  have hw4 : IntKind.u64.wrap ((all.length : Int) - place - 4) = (all.length : Int) - place - 4 := by rw [IntKind.wrap_u64]; omega
  have hd : decide ((all.length : Int) - place < 4) = false := by simp; omega
  have hcut := cut_at (n := 4) hx hlc hs (by decide)
  have hcut2 := hx.cut (place + 4) (val ((all.drop place).take 4)) (by omega) hlc
  have hlen : ((all.drop place).take 4).length ≤ 8 := by simp; omega
  generalize (all.drop place).take 4 = l at *
  generalize hvx : val l = x at *
  have HX := hide (And.intro hcut (And.intro hlen (And.intro hcut2 hvx)))
  clear hx hcut hlen hcut2 hvx
  have hL2 : ((all.drop (place + 4)).take x).length = x := by simp; omega
  generalize (all.drop (place + 4)).take x = l2 at *
  have HL2 := hide hL2
  clear hL2
  generalize all.length = len at *
  unfold rdV
  have hw2 : IntKind.u64.wrap m = m := by rw [IntKind.wrap_u64]; omega
  have hw5 : IntKind.i64.wrap (x : Int) = (x : Int) := by rw [IntKind.wrap_i64]; omega
  have hd0 : decide (m < 0) = false := by simp; omega
  have hd2 : decide (m < (x : Int)) = false := by simp; omega
  have hd3 : decide ((len : Int) - place - 4 < x) = false := by simp; omega
  go_enter Tryz.func22, Tryz.ntmps22
  go_wp2_with fail
  refine (value_any _ l _ ((unhide HX).1.fr (box3 w _ _ _) (fun _ _ _ _ _ h => h)) (unhide HX).2.1).mono ?_
  rintro e w' ⟨rfl, rfl⟩
  rw [(unhide HX).2.2.2]
  obtain ⟨w3, hw3⟩ : ∃ w3, w3 = (((w.alloc (.cells #[.slice xo len xc, .int .i64 place, .int .i64 last, .string nm, .string fw, .int .i64 fa, .int .i64 0] 55)).alloc (.cells #[.int .i64 6, .int .u64 u, .string s, .int .i64 n, .int .i64 m] 26)).alloc (.cells #[.slice none 0 0, .int .i64 0, .int .i64 0, .string ⟨#[]⟩, .string ⟨#[]⟩, .int .i64 0, .int .i64 0] 55)) := ⟨_, rfl⟩
  have hb3 : Fr (fun _ => False) w w3 := by rw [hw3]; exact box3 w _ _ _
  have r3 : C7 w3 w.heap.size (.slice xo len xc) (.int .i64 place) (.int .i64 last) (.string nm) (.string fw) (.int .i64 fa) (.int .i64 0) := by rw [hw3]; exact c7_first _ _ _ _ _ _ _ _ _ _ _
  have v3 : C7 w3 (w.heap.size + 1 + 1) (.slice none 0 0) (.int .i64 0) (.int .i64 0) (.string ⟨#[]⟩) (.string ⟨#[]⟩) (.int .i64 0) (.int .i64 0) := by rw [hw3]; exact c7_third _ _ _ _ _ _ _ _ _ _ _
  have hz3 : w3.heap.size = w.heap.size + 1 + 1 + 1 := by rw [hw3]; simp
  obtain ⟨w1, hmk, ho1, hf1⟩ := make0 x w3 (by omega)
  have r1 := r3.fr hf1 (fun h => h)
  have hS := (((unhide HX).2.2.1.fr hb3 (fun _ _ _ _ _ h => h)).fr hf1 (fun _ _ _ _ _ h => h))
  obtain ⟨ao, ac, w2, hr2, ho2, hg2, _⟩ := run_app_sl w1 28 w3.heap.size 0 _ _ [] l2 ho1 hS (by rw [unhide HL2]; omega) hf1.size
  have hf2 : Fr (fun _ => False) w3 w2 := hf1.grown hg2 (fun g hg => .inr (ho1.lt g hg).1)
  have r2 := r3.fr hf2 (fun h => h)
  have v2 := v3.fr hf2 (fun h => h)
  rw [unhide HL2, Nat.zero_add] at hr2 ho2
  have hO : Src w2 (.slice ao x ac) l2 ∧ ∀ g o m c, (Value.slice ao x ac) = .slice (some ⟨g, o, none⟩) m c → w.heap.size + 1 + 1 + 1 ≤ g := by
    have hl := unhide HL2
    have ho2' : w2.ownsRow w3.heap.size 5 1 (.slice ao x ac) l2.length (cellsOf l2) := by rw [hl]; simpa using ho2
    exact ⟨own_src ho2', fun g o m c e => by have := (ho2'.lt g (by rw [e]; rfl)).1; omega⟩
  have HO := hide (And.intro hO (hb3.trans hf2 (fun _ _ h => h)))
  clear hO
  have HV := hide v2
  obtain ⟨a0, a1, a2, a3, a4, a5, a6, az⟩ := r1
  obtain ⟨e0, e1, e2, e3, e4, e5, e6, ez⟩ := r2
  obtain ⟨d0, d1, d2, d3, d4, d5, d6, dz⟩ := v2
  rw [hz3] at hmk hr2
  rw [hw3] at hmk
  have HR := hide hr2
  clear r3 v3 hf1 ho1 hS hg2 hb3 hf2 ho2 hr2 hz3 hw3
  have ez1 := ez 1
  have ez2 := ez 2
  clear az ez
  have ex : place + 4 + x - (place + 4) = x := by omega
  by_cases hcp : xc = place + 4
  · subst hcp
    have HR2 : Hid ((Builtin.append_ #[28, 28] 28 #[.slice (some ⟨w.heap.size + 1 + 1 + 1, 0, none⟩) 0 x, .slice xo (place + 4 + x - (place + 4)) (place + 4 - (place + 4))]).run Tryz.prog w1 = .ok (.slice ao x ac) w2) := hide (by have h := unhide HR; rw [if_pos rfl] at h; rw [ex]; exact h)
    clear HR ex
    go_wp2_with (at_builtin; refine wpList_app rfl (.tmp 155) (.tmp 167) 28 28 rfl _ _ _ rfl rfl (unhide HR2) ?_)
    obtain ⟨W9, hq, q0, q1, q2, q3, q4, q5, q6, hf9⟩ := rd_end (xo := xo) (len := len) (xc := place + 4) (place := place) (x := x) (nm := nm) (fw := fw) (fa := fa) (unhide HV) (unhide HO).1 (unhide HO).2
    rw [← hq]
    exact bodyPost_ret (v := .tuple #[rdV xo len (place + 4) ((place + 4 + x : Nat) : Int) place nm fw fa 0, .int .u64 0, .slice ao x ac]) (by simp [results, Tryz.results22, go_sem, rdV, q0, q1, q2, q3, q4, q5, q6]) rfl ⟨_, rfl, by simpa [unhide HL2] using hf9.1, fun g o m c e => by have := (unhide HO).1.2 g o m c e; omega, hf9.2⟩
  · have HR2 : Hid ((Builtin.append_ #[28, 28] 28 #[.slice (some ⟨w.heap.size + 1 + 1 + 1, 0, none⟩) 0 x, .slice (Option.map (fun x => x.add (place + 4)) xo) (place + 4 + x - (place + 4)) (xc - (place + 4))]).run Tryz.prog w1 = .ok (.slice ao x ac) w2) := hide (by have h := unhide HR; rw [if_neg hcp] at h; rw [ex]; exact h)
    clear HR ex
    go_wp2_with (at_builtin; refine wpList_app rfl (.tmp 155) (.tmp 167) 28 28 rfl _ _ _ rfl rfl (unhide HR2) ?_)
    obtain ⟨W9, hq, q0, q1, q2, q3, q4, q5, q6, hf9⟩ := rd_end (xo := xo) (len := len) (xc := xc) (place := place) (x := x) (nm := nm) (fw := fw) (fa := fa) (unhide HV) (unhide HO).1 (unhide HO).2
    rw [← hq]
    exact bodyPost_ret (v := .tuple #[rdV xo len xc ((place + 4 + x : Nat) : Int) place nm fw fa 0, .int .u64 0, .slice ao x ac]) (by simp [results, Tryz.results22, go_sem, rdV, q0, q1, q2, q3, q4, q5, q6]) rfl ⟨_, rfl, by simpa [unhide HL2] using hf9.1, fun g o m c e => by have := (unhide HO).1.2 g o m c e; omega, hf9.2⟩
end Go.Proofs.YtikolmpgnpkdbaaGreatDoor

namespace Go.Proofs.YtikolmpgnpkdbaaGreatDoor
open Go.RowKit

/-- The fault of the ref's reader. -/
def ftV (x : Option (ByteArray × Nat × Nat)) : ByteArray × Nat × Nat := match x with
  | none => (⟨#[]⟩, 0, 0)
  | some y => y
/-- A ref's reader that has q. -/
def Q.ref (q : Q) (xo : Option Addr) (xc last : Nat) : Value := rdV xo q.all.length xc q.at_ last q.nm (ftV q.f).1 ((ftV q.f).2.1 : Nat) ((ftV q.f).2.2 : Nat)

set_option maxRecDepth 1000000 in
theorem ended_trail (xo : Option Addr) (len xc place : Nat) (last fa : Int) (nm fw : ByteArray) (w : World) (h : place < len) :
    Calls Tryz.prog 24 #[rdV xo len xc place last nm fw fa 0] w fun e w' => e = .returned (.agg #[.string nm, .int .i64 place, .int .i64 3]) ∧ Fr (fun _ => False) w w' := by
  unfold rdV
  go_enter Tryz.func24, Tryz.ntmps24
  go_wp2_with fail
  exact bodyPost_ret (v := .agg #[.string nm, .int .i64 place, .int .i64 3]) (by simp [results, Tryz.results24, go_sem]) rfl ⟨rfl, box2 w _ _⟩
set_option maxRecDepth 1000000 in
theorem ended_end (xo : Option Addr) (len xc place : Nat) (last fa : Int) (nm fw : ByteArray) (w : World) (h : len ≤ place) :
    Calls Tryz.prog 24 #[rdV xo len xc place last nm fw fa 0] w fun e w' => e = .returned (.agg #[.string fw, .int .i64 fa, .int .i64 0]) ∧ Fr (fun _ => False) w w' := by
  unfold rdV
  go_enter Tryz.func24, Tryz.ntmps24
  go_wp2_with fail
  exact bodyPost_ret (v := .agg #[.string fw, .int .i64 fa, .int .i64 0]) (by simp [results, Tryz.results24, go_sem]) rfl ⟨rfl, box2 w _ _⟩
set_option maxRecDepth 1000000 in
theorem ended_given (xo : Option Addr) (len xc : Nat) (place last fa fy : Int) (nm fw : ByteArray) (w : World) (h : fy ≠ 0) :
    Calls Tryz.prog 24 #[rdV xo len xc place last nm fw fa fy] w fun e w' => e = .returned (.agg #[.string fw, .int .i64 fa, .int .i64 fy]) ∧ Fr (fun _ => False) w w' := by
  have hy : (fy == 0) = false := by simp [h]
  clear h
  unfold rdV
  go_enter Tryz.func24, Tryz.ntmps24
  go_wp2_with fail
  exact bodyPost_ret (v := .agg #[.string fw, .int .i64 fa, .int .i64 fy]) (by simp [results, Tryz.results24, go_sem]) rfl ⟨rfl, box2 w _ _⟩
/-- The fault that Done tells. -/
def Q.ended (q : Q) : ByteArray × Nat × Nat := if q.f = none ∧ q.place < q.all.length then (q.nm, q.place, 3) else ftV q.f
theorem ended_any (q : Q) (xo : Option Addr) (xc last : Nat) (w : World) (hq : q.ok) :
    Calls Tryz.prog 24 #[q.ref xo xc last] w fun e w' => e = .returned (.agg #[.string q.ended.1, .int .i64 (q.ended.2.1 : Nat), .int .i64 (q.ended.2.2 : Nat)]) ∧ Fr (fun _ => False) w w' := by
  obtain ⟨nm, all, place, part, f⟩ := q
  cases f with
  | none =>
    by_cases h : place < all.length
    · rw [Q.ended, if_pos ⟨rfl, h⟩]
      exact ended_trail xo all.length xc place last 0 nm ⟨#[]⟩ w h
    · rw [Q.ended, if_neg (fun x => h x.2)]
      exact ended_end xo all.length xc place last 0 nm ⟨#[]⟩ w (by omega)
  | some y =>
    have h1 := (hq.f y rfl).2.1
    rw [Q.ended, if_neg (fun x => by cases x.1)]
    exact ended_given xo all.length xc y.2.1 last y.2.1 y.2.2 nm y.1 w (by omega)

/-- The ref's Read is the step. -/
theorem gread_any (q : Q) (p : Pt) (xo : Option Addr) (xc last : Nat) (w : World) (hq : q.ok) (hx : Src w (.slice xo q.all.length xc) q.all) (hlc : q.all.length ≤ xc) (hl : q.all.length ≤ 16777216) (hk : p.k ∈ kinds) (h9 : p.k = 9 → 0 ≤ p.n ∧ p.n ≤ 7) (hm : p.m < 9223372036854775808) (hla : q.f = none → last = q.part) :
    Calls Tryz.prog 22 #[q.ref xo xc last, .agg #[.int .i64 p.k, .int .u64 p.u, .string p.s, .int .i64 p.n, .int .i64 p.m]] w fun e w' => ∃ last' v, e = .returned (.tuple #[(q.step p).1.ref xo xc last', .int .u64 (q.step p).2.1, v]) ∧ Src w' v (q.step p).2.2 ∧ (∀ g o m c, v = .slice (some ⟨g, o, none⟩) m c → w.heap.size ≤ g) ∧ ((q.step p).1.f = none → last' = (q.step p).1.part) ∧ Fr (fun _ => False) w w' := by
  obtain ⟨k, u, s, n, m⟩ := p
  obtain ⟨nm, all, place, part, f⟩ := q
  simp only at hx hlc hl hk h9 hm hla
  have hpl := hq.place
  simp only at hpl
  have src0 : ∀ w', Src w' (.slice none 0 0) [] := fun _ => .inl ⟨rfl, rfl⟩
  have loc0 : ∀ g o m c, (Value.slice none 0 0) = .slice (some ⟨g, o, none⟩) m c → w.heap.size ≤ g := fun _ _ _ _ h => by cases h
  by_cases h10 : k = 10
  · subst h10
    refine (gread_10 xo all.length xc _ last _ _ nm (ftV f).1 s u n m w).mono ?_
    rintro e w' ⟨rfl, hf⟩
    refine ⟨last, .slice none 0 0, ?_, src0 _, loc0, hla, hf⟩
    cases f <;> rfl
  cases f with
  | some y =>
    have h1 := (hq.f y rfl).2.1
    have es : Q.step ⟨nm, all, place, part, some y⟩ ⟨k, u, s, n, m⟩ = (⟨nm, all, place, part, some y⟩, 0, []) := by simp [Q.step, h10]
    rw [es]
    refine (gread_given xo all.length xc y.2.1 last y.2.1 y.2.2 nm y.1 s k u n m w h10 (by omega)).mono ?_
    rintro e w' ⟨rfl, hf⟩
    exact ⟨last, .slice none 0 0, rfl, src0 _, loc0, (fun h => by cases h), hf⟩
  | none =>
    obtain rfl := hla rfl
    have fin : ∀ (q2 : Q) (v : Nat), q2.f = none → q2.part = place → ∀ (e : Ending) (w' : World), (e = .returned (.tuple #[q2.ref xo xc place, .int .u64 v, .slice none 0 0]) ∧ Fr (fun _ => False) w w') → ∃ last' v', e = .returned (.tuple #[q2.ref xo xc last', .int .u64 v, v']) ∧ Src w' v' [] ∧ (∀ g o m c, v' = .slice (some ⟨g, o, none⟩) m c → w.heap.size ≤ g) ∧ (q2.f = none → last' = q2.part) ∧ Fr (fun _ => False) w w' :=
      fun q2 v h1 h2 e w' ⟨he, hf⟩ => ⟨place, _, he, src0 _, loc0, fun _ => h2.symm, hf⟩
    have bad : ∀ (q2 : Q), q2.f ≠ none → ∀ (e : Ending) (w' : World), (e = .returned (.tuple #[q2.ref xo xc last, .int .u64 0, .slice none 0 0]) ∧ Fr (fun _ => False) w w') → ∃ last' v', e = .returned (.tuple #[q2.ref xo xc last', .int .u64 (0 : Nat), v']) ∧ Src w' v' [] ∧ (∀ g o m c, v' = .slice (some ⟨g, o, none⟩) m c → w.heap.size ≤ g) ∧ (q2.f = none → last' = q2.part) ∧ Fr (fun _ => False) w w' :=
      fun q2 h1 e w' ⟨he, hf⟩ => ⟨last, _, he, src0 _, loc0, fun h => absurd h h1, hf⟩
    by_cases hk9 : k = 9
    · subst hk9
      by_cases hn : n = 0
      · subst hn
        have es : Q.step ⟨nm, all, place, last, none⟩ ⟨9, u, s, 0, m⟩ = (⟨nm, all, place, last, none⟩, 0, []) := by simp [Q.step]
        rw [es]
        refine (gread_9z xo all.length xc place last 0 nm ⟨#[]⟩ s u m w).mono ?_
        rintro e w' ⟨rfl, hf⟩
        exact ⟨last, _, rfl, src0 _, loc0, fun _ => rfl, hf⟩
      · have es : Q.step ⟨nm, all, place, last, none⟩ ⟨9, u, s, n, m⟩ = (⟨nm, all, place, last, some (nm, last, n.toNat)⟩, 0, []) := by simp [Q.step, hn]
        rw [es]
        obtain ⟨n', rfl⟩ := Int.eq_ofNat_of_zero_le (h9 rfl).1
        rw [Int.toNat_natCast]
        exact (gread_9 xo all.length xc place last 0 nm ⟨#[]⟩ s u n' m w hn).mono (bad ⟨nm, all, place, last, some (nm, last, n')⟩ (by simp))
    simp only [kinds, List.mem_cons, List.not_mem_nil, or_false] at hk
    have hk' : k = 1 ∨ k = 2 ∨ k = 4 ∨ k = 8 ∨ k = 5 ∨ k = 6 ∨ k = 7 := by omega
    clear hk h9 h10 hk9
    rcases hk' with rfl | rfl | rfl | rfl | rfl | rfl | rfl
    · by_cases hs : all.length < 1 + place
      · have es : Q.step ⟨nm, all, place, last, none⟩ ⟨1, u, s, n, m⟩ = (⟨nm, all, place, last, some (nm, place, 1)⟩, 0, []) := by simp [Q.step, wid, Q.fail, hs]
        rw [es]
        exact (gread_1_short xo all.length xc place last 0 nm ⟨#[]⟩ s u n m w hpl hs).mono (bad ⟨nm, all, place, last, some (nm, place, 1)⟩ (by simp))
      · have es : Q.step ⟨nm, all, place, last, none⟩ ⟨1, u, s, n, m⟩ = (⟨nm, all, place + 1, place, none⟩, val ((all.drop place).take 1), []) := by simp [Q.step, wid, Q.num, hs]
        rw [es]
        exact (gread_1_ok xo all xc place last 0 nm ⟨#[]⟩ s u n m w hx hlc (by omega) (by omega)).mono (fin ⟨nm, all, place + 1, place, none⟩ _ rfl rfl)
    · by_cases hs : all.length < 2 + place
      · have es : Q.step ⟨nm, all, place, last, none⟩ ⟨2, u, s, n, m⟩ = (⟨nm, all, place, last, some (nm, place, 1)⟩, 0, []) := by simp [Q.step, wid, Q.fail, hs]
        rw [es]
        exact (gread_2_short xo all.length xc place last 0 nm ⟨#[]⟩ s u n m w hpl hs).mono (bad ⟨nm, all, place, last, some (nm, place, 1)⟩ (by simp))
      · have es : Q.step ⟨nm, all, place, last, none⟩ ⟨2, u, s, n, m⟩ = (⟨nm, all, place + 2, place, none⟩, val ((all.drop place).take 2), []) := by simp [Q.step, wid, Q.num, hs]
        rw [es]
        exact (gread_2_ok xo all xc place last 0 nm ⟨#[]⟩ s u n m w hx hlc (by omega) (by omega)).mono (fin ⟨nm, all, place + 2, place, none⟩ _ rfl rfl)
    · by_cases hs : all.length < 4 + place
      · have es : Q.step ⟨nm, all, place, last, none⟩ ⟨4, u, s, n, m⟩ = (⟨nm, all, place, last, some (nm, place, 1)⟩, 0, []) := by simp [Q.step, wid, Q.fail, hs]
        rw [es]
        exact (gread_4_short xo all.length xc place last 0 nm ⟨#[]⟩ s u n m w hpl hs).mono (bad ⟨nm, all, place, last, some (nm, place, 1)⟩ (by simp))
      · have es : Q.step ⟨nm, all, place, last, none⟩ ⟨4, u, s, n, m⟩ = (⟨nm, all, place + 4, place, none⟩, val ((all.drop place).take 4), []) := by simp [Q.step, wid, Q.num, hs]
        rw [es]
        exact (gread_4_ok xo all xc place last 0 nm ⟨#[]⟩ s u n m w hx hlc (by omega) (by omega)).mono (fin ⟨nm, all, place + 4, place, none⟩ _ rfl rfl)
    · by_cases hs : all.length < 8 + place
      · have es : Q.step ⟨nm, all, place, last, none⟩ ⟨8, u, s, n, m⟩ = (⟨nm, all, place, last, some (nm, place, 1)⟩, 0, []) := by simp [Q.step, wid, Q.fail, hs]
        rw [es]
        exact (gread_8_short xo all.length xc place last 0 nm ⟨#[]⟩ s u n m w hpl hs).mono (bad ⟨nm, all, place, last, some (nm, place, 1)⟩ (by simp))
      · have es : Q.step ⟨nm, all, place, last, none⟩ ⟨8, u, s, n, m⟩ = (⟨nm, all, place + 8, place, none⟩, val ((all.drop place).take 8), []) := by simp [Q.step, wid, Q.num, hs]
        rw [es]
        exact (gread_8_ok xo all xc place last 0 nm ⟨#[]⟩ s u n m w hx hlc (by omega) (by omega)).mono (fin ⟨nm, all, place + 8, place, none⟩ _ rfl rfl)
    · by_cases hs : all.length < 4 + place
      · have es : Q.step ⟨nm, all, place, last, none⟩ ⟨5, u, s, n, m⟩ = (⟨nm, all, place, last, some (nm, place, 1)⟩, 0, []) := by simp [Q.step, wid, Q.fail, hs]
        rw [es]
        exact (gread_5_short xo all.length xc place last 0 nm ⟨#[]⟩ s u n m w hpl hs).mono (bad ⟨nm, all, place, last, some (nm, place, 1)⟩ (by simp))
      cases hqb : quantB (val ((all.drop place).take 4)) with
      | false =>
        have es : Q.step ⟨nm, all, place, last, none⟩ ⟨5, u, s, n, m⟩ = (⟨nm, all, place, last, some (nm, place, 4)⟩, 0, []) := by simp [Q.step, wid, Q.fail, Q.num, hs, hqb]
        rw [es]
        exact (gread_5_bad xo all xc place last 0 nm ⟨#[]⟩ s u n m w hx hlc (by omega) (by omega) hqb).mono (bad ⟨nm, all, place, last, some (nm, place, 4)⟩ (by simp))
      | true =>
        have es : Q.step ⟨nm, all, place, last, none⟩ ⟨5, u, s, n, m⟩ = (⟨nm, all, place + 4, place, none⟩, val ((all.drop place).take 4), []) := by simp [Q.step, wid, Q.num, hs, hqb]
        rw [es]
        exact (gread_5_ok xo all xc place last 0 nm ⟨#[]⟩ s u n m w hx hlc (by omega) (by omega) hqb).mono (fin ⟨nm, all, place + 4, place, none⟩ _ rfl rfl)
    · by_cases hs : all.length < 4 + place
      · have es : Q.step ⟨nm, all, place, last, none⟩ ⟨6, u, s, n, m⟩ = (⟨nm, all, place, last, some (nm, place, 1)⟩, 0, []) := by simp [Q.step, wid, Q.fail, hs]
        rw [es]
        exact (gread_6_short xo all.length xc place last 0 nm ⟨#[]⟩ s u n m w hpl hs).mono (bad ⟨nm, all, place, last, some (nm, place, 1)⟩ (by simp))
      by_cases hv : m < (val ((all.drop place).take 4) : Int)
      · have es : Q.step ⟨nm, all, place, last, none⟩ ⟨6, u, s, n, m⟩ = (⟨nm, all, place, last, some (nm, place, 2)⟩, 0, []) := by simp [Q.step, wid, Q.fail, Q.num, hs, hv]
        rw [es]
        exact (gread_6_long xo all xc place last 0 nm ⟨#[]⟩ s u n m w hx hlc (by omega) (by omega) hm hv).mono (bad ⟨nm, all, place, last, some (nm, place, 2)⟩ (by simp))
      by_cases hxl : all.length < val ((all.drop place).take 4) + (place + 4)
      · have es : Q.step ⟨nm, all, place, last, none⟩ ⟨6, u, s, n, m⟩ = (⟨nm, all, place, last, some (nm, place, 1)⟩, 0, []) := by simp [Q.step, wid, Q.fail, Q.num, hs, hv, hxl]
        rw [es]
        exact (gread_6_end xo all xc place last 0 nm ⟨#[]⟩ s u n m w hx hlc (by omega) (by omega) hm (by omega) hxl).mono (bad ⟨nm, all, place, last, some (nm, place, 1)⟩ (by simp))
      · have es : Q.step ⟨nm, all, place, last, none⟩ ⟨6, u, s, n, m⟩ = (⟨nm, all, place + 4 + val ((all.drop place).take 4), place, none⟩, 0, (all.drop (place + 4)).take (val ((all.drop place).take 4))) := by simp [Q.step, wid, Q.num, hs, hv, hxl]
        rw [es]
        refine (gread_6_ok xo all xc place last 0 nm ⟨#[]⟩ s u n m w hx hlc hl (by omega) hm (by omega) (by omega)).mono ?_
        rintro e w' ⟨v, rfl, hsv, hlo, hf⟩
        exact ⟨place, v, rfl, hsv, hlo, fun _ => rfl, hf⟩
    · by_cases hs : all.length < 4 + place
      · have es : Q.step ⟨nm, all, place, last, none⟩ ⟨7, u, s, n, m⟩ = (⟨nm, all, place, last, some (nm, place, 1)⟩, 0, []) := by simp [Q.step, wid, Q.fail, hs]
        rw [es]
        exact (gread_7_short xo all.length xc place last 0 nm ⟨#[]⟩ s u n m w hpl hs).mono (bad ⟨nm, all, place, last, some (nm, place, 1)⟩ (by simp))
      by_cases hv : m < (val ((all.drop place).take 4) : Int)
      · have es : Q.step ⟨nm, all, place, last, none⟩ ⟨7, u, s, n, m⟩ = (⟨nm, all, place, last, some (nm, place, 2)⟩, 0, []) := by simp [Q.step, wid, Q.fail, Q.num, hs, hv]
        rw [es]
        exact (gread_7_long xo all xc place last 0 nm ⟨#[]⟩ s u n m w hx hlc (by omega) (by omega) hm hv).mono (bad ⟨nm, all, place, last, some (nm, place, 2)⟩ (by simp))
      · have es : Q.step ⟨nm, all, place, last, none⟩ ⟨7, u, s, n, m⟩ = (⟨nm, all, place + 4, place, none⟩, val ((all.drop place).take 4), []) := by simp [Q.step, wid, Q.num, hs, hv]
        rw [es]
        exact (gread_7_ok xo all xc place last 0 nm ⟨#[]⟩ s u n m w hx hlc (by omega) (by omega) hm (by omega)).mono (fin ⟨nm, all, place + 4, place, none⟩ _ rfl rfl)
end Go.Proofs.YtikolmpgnpkdbaaGreatDoor

namespace Go.Proofs.YtikolmpgnpkdbaaGreatDoor
open Go.RowKit

theorem norm_of_strOf {l l' : List Nat} (h : strOf l = strOf l') : norm l = norm l' := by
  have h1 : (l.map UInt8.ofNat).toArray = (l'.map UInt8.ofNat).toArray := by
    have := congrArg ByteArray.data h
    exact this
  have h2 : l.map UInt8.ofNat = l'.map UInt8.ofNat := by simpa using congrArg Array.toList h1
  have h3 := congrArg (List.map UInt8.toNat) h2
  simpa [norm, List.map_map, Function.comp_def, UInt8.toNat_ofNat'] using h3
theorem Q.rst_none {q : Q} {E : Nat → Addr} (h : q.f = none) : (q.rst E).f = none := by simp [Q.rst, h]
theorem Q.rst_some {q : Q} {E : Nat → Addr} (h : q.f ≠ none) : (q.rst E).f ≠ none := by
  simp only [Q.rst, ne_eq, Option.map_eq_none_iff]; exact h
theorem Ch.of_fr {w w' : World} {b : Nat} {F : Nat → Prop} (h : Fr (fun k => k = b) w w') (hb : F b) : Ch w w' F F := ⟨h.mono (fun _ _ e => by rw [e]; exact hb), fun _ hk => .inl hk⟩

/-- The reader is the step. -/
theorem read_any (q : Q) (p : Pt) (b : Nat) (F : Nat → Prop) (E : Nat → Addr) (w : World) (hg : G7 w E) (h : R w b F (q.rst E)) (hk : p.k ∈ kinds) (h9 : p.k = 9 → 0 ≤ p.n ∧ p.n ≤ 7) (hm : p.m < 9223372036854775808) (hal : q.all.length ≤ 140737488355328) :
    Calls Tryz.prog 23 #[.pointer (some ⟨b, 0, none⟩), .agg #[.int .i64 p.k, .int .u64 p.u, .string p.s, .int .i64 p.n, .int .i64 p.m]] w fun e w' => ∃ c l', e = .returned (.tuple #[.int .u64 (q.step p).2.1, c]) ∧ Src w' c l' ∧ norm l' = norm (q.step p).2.2 ∧ ∃ F', R w' b F' ((q.step p).1.rst E) ∧ Ch w w' F F' := by
  obtain ⟨k, u, s, n, m⟩ := p
  obtain ⟨nm, all, place, part, f⟩ := q
  simp only at hk h9 hm hal
  have src0 : ∀ w', Src w' (.slice none 0 0) [] := fun _ => .inl ⟨rfl, rfl⟩
  have hfb := h.fb
  have zero : ∀ (s' : Rst) (e : Ending) (w' : World), (∃ c, e = .returned (.tuple #[.int .u64 0, c]) ∧ Src w' c [] ∧ ∃ F', R w' b F' s' ∧ Ch w w' F F') → ∃ c l', e = .returned (.tuple #[.int .u64 (0 : Nat), c]) ∧ Src w' c l' ∧ norm l' = norm [] ∧ ∃ F', R w' b F' s' ∧ Ch w w' F F' :=
    fun s' e w' ⟨c, he, hs, hx⟩ => ⟨c, [], he, hs, rfl, hx⟩
  have one : ∀ (v : Nat) (s' : Rst) (e : Ending) (w' : World), (e = .returned (.tuple #[.int .u64 v, .slice none 0 0]) ∧ R w' b F s' ∧ Fr (fun k => k = b) w w') → ∃ c l', e = .returned (.tuple #[.int .u64 v, c]) ∧ Src w' c l' ∧ norm l' = norm [] ∧ ∃ F', R w' b F' s' ∧ Ch w w' F F' :=
    fun v s' e w' ⟨he, hR, hf⟩ => ⟨_, [], he, src0 _, rfl, F, hR, Ch.of_fr hf hfb⟩
  by_cases h10 : k = 10
  · subst h10
    have es : Q.step ⟨nm, all, place, part, f⟩ ⟨10, u, s, n, m⟩ = (⟨s, all, place, part, f⟩, 0, []) := by simp [Q.step]
    rw [es]
    cases f with
    | none => exact (rd10_ok b u s n m F _ w h rfl).mono (one 0 _)
    | some y => exact (rd10_given b u s n m F _ w h (by simp [Q.rst])).mono (one 0 _)
  by_cases hk9 : k = 9
  · subst hk9
    obtain ⟨n', rfl⟩ := Int.eq_ofNat_of_zero_le (h9 rfl).1
    have h7 := (h9 rfl).2
    have es : (Q.step ⟨nm, all, place, part, f⟩ ⟨9, u, s, (n' : Int), m⟩).2 = (0, []) ∧ (Q.step ⟨nm, all, place, part, f⟩ ⟨9, u, s, (n' : Int), m⟩).1.rst E = (Q.rst ⟨nm, all, place, part, f⟩ E).failN E n' := by
      cases f with
      | none =>
        by_cases h0 : n' = 0
        · subst h0; simp [Q.step, Rst.failN]
        · have h0' : ¬ (n' : Int) = 0 := by omega
          simp [Q.step, Rst.failN, h0, Q.rst]
      | some y => simp [Q.step, Rst.failN, Q.rst]
    rw [es.1, es.2]
    exact (rd9_any b u n' s m F _ E w (by omega) hg h).mono (zero _)
  simp only [kinds, List.mem_cons, List.not_mem_nil, or_false] at hk
  have hk' : k = 1 ∨ k = 2 ∨ k = 4 ∨ k = 8 ∨ k = 5 ∨ k = 6 ∨ k = 7 := by omega
  clear hk h9 hk9
  cases f with
  | some y =>
    have hs : (Q.rst ⟨nm, all, place, part, some y⟩ E).f ≠ none := by simp [Q.rst]
    have es : Q.step ⟨nm, all, place, part, some y⟩ ⟨k, u, s, n, m⟩ = (⟨nm, all, place, part, some y⟩, 0, []) := by simp [Q.step, h10]
    rw [es]
    clear es h10
    rcases hk' with rfl | rfl | rfl | rfl | rfl | rfl | rfl
    · exact (rd1_zero b u s n m F _ _ w h (fun wk _ hR => rU8_given b F _ wk hR hs)).mono (zero _)
    · exact (rd2_zero b u s n m F _ _ w h (fun wk _ hR => rU16_given b F _ wk hR hs)).mono (zero _)
    · exact (rd4_zero b u s n m F _ _ w h (fun wk _ hR => rU32_given b F _ wk hR hs)).mono (zero _)
    · exact (rd8_zero b u s n m F _ _ w h (fun wk _ hR => rU64_given b F _ wk hR hs)).mono (zero _)
    · exact (rd5_zero b u s n m F _ _ w h (fun wk _ hR => rF32_given b F _ wk hR hs)).mono (zero _)
    · cases hp : (n.tmod 2 == 0) with
      | true => exact (rd6t_zero b u s n m F _ _ w hp h (fun wk _ hR => rText_given b m F _ wk hR hs)).mono (zero _)
      | false => exact (rd6b_zero b u s n m F _ _ w hp h (fun wk _ hR => rBytes_given b m F _ wk hR hs)).mono (zero _)
    · exact (rd7_zero b u s n m F _ _ w h (fun wk _ hR => rCount_given b m F _ wk hR hs)).mono (zero _)
  | none =>
    have hs : (Q.rst ⟨nm, all, place, part, none⟩ E).f = none := rfl
    have hgl : ∀ wk, Fr (fun _ => False) w wk → Gl wk E := fun wk hf => hg.gl.fr0 hf
    have hrg : ∀ wk, Fr (fun _ => False) w wk → Rg wk (E 4) := fun wk hf => hg.e4.fr0 hf
    clear h10
    rcases hk' with rfl | rfl | rfl | rfl | rfl | rfl | rfl
    · by_cases hl : all.length < 1 + place
      · have es : Q.step ⟨nm, all, place, part, none⟩ ⟨1, u, s, n, m⟩ = (⟨nm, all, place, part, some (nm, place, 1)⟩, 0, []) := by simp [Q.step, wid, Q.fail, hl]
        rw [es]
        exact (rd1_zero b u s n m F _ _ w h (fun wk hf hR => rU8_bad b F _ E wk (hgl wk hf) hR hs hl)).mono (zero _)
      · have es : Q.step ⟨nm, all, place, part, none⟩ ⟨1, u, s, n, m⟩ = (⟨nm, all, place + 1, place, none⟩, val ((all.drop place).take 1), []) := by simp [Q.step, wid, Q.num, hl]
        rw [es]
        exact (rd1_ok b u s n m F _ E w hg.gl h hs (by show 1 + place ≤ all.length; omega)).mono (one _ _)
    · by_cases hl : all.length < 2 + place
      · have es : Q.step ⟨nm, all, place, part, none⟩ ⟨2, u, s, n, m⟩ = (⟨nm, all, place, part, some (nm, place, 1)⟩, 0, []) := by simp [Q.step, wid, Q.fail, hl]
        rw [es]
        exact (rd2_zero b u s n m F _ _ w h (fun wk hf hR => rU16_bad b F _ E wk (hgl wk hf) hR hs hl)).mono (zero _)
      · have es : Q.step ⟨nm, all, place, part, none⟩ ⟨2, u, s, n, m⟩ = (⟨nm, all, place + 2, place, none⟩, val ((all.drop place).take 2), []) := by simp [Q.step, wid, Q.num, hl]
        rw [es]
        exact (rd2_ok b u s n m F _ E w hg.gl h hs (by show 2 + place ≤ all.length; omega)).mono (one _ _)
    · by_cases hl : all.length < 4 + place
      · have es : Q.step ⟨nm, all, place, part, none⟩ ⟨4, u, s, n, m⟩ = (⟨nm, all, place, part, some (nm, place, 1)⟩, 0, []) := by simp [Q.step, wid, Q.fail, hl]
        rw [es]
        exact (rd4_zero b u s n m F _ _ w h (fun wk hf hR => rU32_bad b F _ E wk (hgl wk hf) hR hs hl)).mono (zero _)
      · have es : Q.step ⟨nm, all, place, part, none⟩ ⟨4, u, s, n, m⟩ = (⟨nm, all, place + 4, place, none⟩, val ((all.drop place).take 4), []) := by simp [Q.step, wid, Q.num, hl]
        rw [es]
        exact (rd4_ok b u s n m F _ E w hg.gl h hs (by show 4 + place ≤ all.length; omega)).mono (one _ _)
    · by_cases hl : all.length < 8 + place
      · have es : Q.step ⟨nm, all, place, part, none⟩ ⟨8, u, s, n, m⟩ = (⟨nm, all, place, part, some (nm, place, 1)⟩, 0, []) := by simp [Q.step, wid, Q.fail, hl]
        rw [es]
        exact (rd8_zero b u s n m F _ _ w h (fun wk hf hR => rU64_bad b F _ E wk (hgl wk hf) hR hs hl)).mono (zero _)
      · have es : Q.step ⟨nm, all, place, part, none⟩ ⟨8, u, s, n, m⟩ = (⟨nm, all, place + 8, place, none⟩, val ((all.drop place).take 8), []) := by simp [Q.step, wid, Q.num, hl]
        rw [es]
        exact (rd8_ok b u s n m F _ E w hg.gl h hs (by show 8 + place ≤ all.length; omega)).mono (one _ _)
    · by_cases hl : all.length < 4 + place
      · have es : Q.step ⟨nm, all, place, part, none⟩ ⟨5, u, s, n, m⟩ = (⟨nm, all, place, part, some (nm, place, 1)⟩, 0, []) := by simp [Q.step, wid, Q.fail, hl]
        rw [es]
        exact (rd5_zero b u s n m F _ _ w h (fun wk hf hR => rF32_short b F _ E wk (hgl wk hf) hR hs hl)).mono (zero _)
      cases hqb : quantB (val ((all.drop place).take 4)) with
      | false =>
        have es : Q.step ⟨nm, all, place, part, none⟩ ⟨5, u, s, n, m⟩ = (⟨nm, all, place, part, some (nm, place, 4)⟩, 0, []) := by simp [Q.step, wid, Q.fail, Q.num, hl, hqb]
        rw [es]
        exact (rd5_zero b u s n m F _ _ w h (fun wk hf hR => rF32_bad b F _ E (E 4) wk (hgl wk hf) (hrg wk hf) hR hs (by show 4 + place ≤ all.length; omega) hqb)).mono (zero _)
      | true =>
        have es : Q.step ⟨nm, all, place, part, none⟩ ⟨5, u, s, n, m⟩ = (⟨nm, all, place + 4, place, none⟩, val ((all.drop place).take 4), []) := by simp [Q.step, wid, Q.num, hl, hqb]
        rw [es]
        exact (rd5_ok b u s n m F _ E (E 4) w hg.gl hg.e4 h hs (by show 4 + place ≤ all.length; omega) hqb).mono (one _ _)
    · by_cases hl : all.length < 4 + place
      · have es : Q.step ⟨nm, all, place, part, none⟩ ⟨6, u, s, n, m⟩ = (⟨nm, all, place, part, some (nm, place, 1)⟩, 0, []) := by simp [Q.step, wid, Q.fail, hl]
        rw [es]
        cases hp : (n.tmod 2 == 0) with
        | true => exact (rd6t_zero b u s n m F _ _ w hp h (fun wk hf hR => rText_bad b m F _ E (E 1) wk (.inl ⟨hl, rfl⟩) hm (hgl wk hf) hR hs)).mono (zero _)
        | false => exact (rd6b_zero b u s n m F _ _ w hp h (fun wk hf hR => rBytes_bad b m F _ E (E 1) wk (.inl ⟨hl, rfl⟩) hm (hgl wk hf) hR hs)).mono (zero _)
      by_cases hv : m < (val ((all.drop place).take 4) : Int)
      · have es : Q.step ⟨nm, all, place, part, none⟩ ⟨6, u, s, n, m⟩ = (⟨nm, all, place, part, some (nm, place, 2)⟩, 0, []) := by simp [Q.step, wid, Q.fail, Q.num, hl, hv]
        rw [es]
        cases hp : (n.tmod 2 == 0) with
        | true => exact (rd6t_zero b u s n m F _ _ w hp h (fun wk hf hR => rText_bad b m F _ E (E 2) wk (.inr ⟨by show 4 + place ≤ all.length; omega, hv, rfl⟩) hm (hgl wk hf) hR hs)).mono (zero _)
        | false => exact (rd6b_zero b u s n m F _ _ w hp h (fun wk hf hR => rBytes_bad b m F _ E (E 2) wk (.inr ⟨by show 4 + place ≤ all.length; omega, hv, rfl⟩) hm (hgl wk hf) hR hs)).mono (zero _)
      by_cases hxl : all.length < val ((all.drop place).take 4) + (place + 4)
      · have es : Q.step ⟨nm, all, place, part, none⟩ ⟨6, u, s, n, m⟩ = (⟨nm, all, place, part, some (nm, place, 1)⟩, 0, []) := by simp [Q.step, wid, Q.fail, Q.num, hl, hv, hxl]
        rw [es]
        cases hp : (n.tmod 2 == 0) with
        | true => exact (rd6t_zero b u s n m F _ _ w hp h (fun wk hf hR => rText_cut b _ m F _ E wk hm (hgl wk hf) hR hs rfl (by show 4 + place ≤ all.length; omega) (by show (val ((all.drop place).take 4) : Int) ≤ m; omega) hxl)).mono (zero _)
        | false => exact (rd6b_zero b u s n m F _ _ w hp h (fun wk hf hR => rBytes_cut b _ m F _ E wk hm (hgl wk hf) hR hs rfl (by show 4 + place ≤ all.length; omega) (by show (val ((all.drop place).take 4) : Int) ≤ m; omega) hxl)).mono (zero _)
      · have es : Q.step ⟨nm, all, place, part, none⟩ ⟨6, u, s, n, m⟩ = (⟨nm, all, place + 4 + val ((all.drop place).take 4), place, none⟩, 0, (all.drop (place + 4)).take (val ((all.drop place).take 4))) := by simp [Q.step, wid, Q.num, hl, hv, hxl]
        rw [es]
        cases hp : (n.tmod 2 == 0) with
        | true =>
          refine (rd6t_ok b u (val ((all.drop place).take 4)) s n m F _ E w hp hm hg.gl h hs rfl (by show 4 + place ≤ all.length; omega) (by omega) (by show val ((all.drop place).take 4) + (place + 4) ≤ all.length; omega)).mono ?_
          rintro e w' ⟨c, l', he, hsv, hst, hR, hf⟩
          exact ⟨c, l', he, hsv, norm_of_strOf hst, F, hR, Ch.of_fr hf hfb⟩
        | false =>
          refine (rd6b_ok b u (val ((all.drop place).take 4)) s n m F _ E w hp hm hg.gl h hs rfl (by show 4 + place ≤ all.length; omega) (by omega) (by show val ((all.drop place).take 4) + (place + 4) ≤ all.length; omega) hal).mono ?_
          rintro e w' ⟨c, l', he, hsv, hst, hR, hf⟩
          exact ⟨c, l', he, hsv, norm_of_strOf hst, F, hR, Ch.of_fr hf hfb⟩
    · by_cases hl : all.length < 4 + place
      · have es : Q.step ⟨nm, all, place, part, none⟩ ⟨7, u, s, n, m⟩ = (⟨nm, all, place, part, some (nm, place, 1)⟩, 0, []) := by simp [Q.step, wid, Q.fail, hl]
        rw [es]
        exact (rd7_zero b u s n m F _ _ w h (fun wk hf hR => rCount_bad b m F _ E (E 1) wk (.inl ⟨hl, rfl⟩) hm (hgl wk hf) hR hs)).mono (zero _)
      by_cases hv : m < (val ((all.drop place).take 4) : Int)
      · have es : Q.step ⟨nm, all, place, part, none⟩ ⟨7, u, s, n, m⟩ = (⟨nm, all, place, part, some (nm, place, 2)⟩, 0, []) := by simp [Q.step, wid, Q.fail, Q.num, hl, hv]
        rw [es]
        exact (rd7_zero b u s n m F _ _ w h (fun wk hf hR => rCount_bad b m F _ E (E 2) wk (.inr ⟨by show 4 + place ≤ all.length; omega, hv, rfl⟩) hm (hgl wk hf) hR hs)).mono (zero _)
      · have es : Q.step ⟨nm, all, place, part, none⟩ ⟨7, u, s, n, m⟩ = (⟨nm, all, place + 4, place, none⟩, val ((all.drop place).take 4), []) := by simp [Q.step, wid, Q.num, hl, hv]
        rw [es]
        exact (rd7_ok b u s n m F _ E w hm hg.gl h hs (by show 4 + place ≤ all.length; omega) (by show (val ((all.drop place).take 4) : Int) ≤ m; omega)).mono (one _ _)
end Go.Proofs.YtikolmpgnpkdbaaGreatDoor

namespace Go.Proofs.YtikolmpgnpkdbaaGreatDoor
open Go.RowKit

/-- The error that tells a fault. -/
def ErrV (w : World) (v : Value) (x : ByteArray × Nat × Nat) (E : Nat → Addr) : Prop :=
  (x.2.2 = 0 ∧ v = .nilIface) ∨ (1 ≤ x.2.2 ∧ x.2.2 ≤ 7 ∧ ∃ fb, v = .iface 61 (.pointer (some ⟨fb, 0, none⟩)) ∧ w.heap[fb]? = some (faultObj x.1 x.2.1 (E x.2.2)))
theorem ErrV.fr {w w' : World} {v : Value} {x : ByteArray × Nat × Nat} {E : Nat → Addr} (h : ErrV w v x E) (hf : Fr (fun _ => False) w w') : ErrV w' v x E := by
  rcases h with h | ⟨h1, h7, fb, rfl, hb⟩
  · exact .inl h
  · have hlt : fb < w.heap.size := by
      rcases Nat.lt_or_ge fb w.heap.size with hx | hx
      · exact hx
      · rw [Array.getElem?_eq_none hx] at hb; cases hb
    exact .inr ⟨h1, h7, fb, rfl, (hf.block fb hlt (fun h => h)).trans hb⟩
theorem told_any (w : World) (v : Value) (x : ByteArray × Nat × Nat) (E : Nat → Addr) (h : ErrV w v x E) (hg : G7 w E) :
    Calls Tryz.prog 21 #[v, .agg #[.string x.1, .int .i64 (x.2.1 : Nat), .int .i64 (x.2.2 : Nat)]] w fun e w' => e = .returned (.bool true) ∧ Fr (fun _ => False) w w' := by
  rcases h with ⟨h0, rfl⟩ | ⟨h1, h7, fb, rfl, hb⟩
  · rw [h0]; exact told_nil x.1 x.2.1 w
  · exact told_fault x.2.2 fb x.2.1 x.1 E w hg h1 h7 hb

theorem rAt_given (b : Nat) (F : Nat → Prop) (s : Rst) (what : ByteArray) (place : Nat) (ea : Addr) (w : World) (h : R w b F s) (hn : s.f = some (what, place, ea)) :
    Calls Tryz.prog 15 #[.pointer (some ⟨b, 0, none⟩)] w fun e w' => e = .returned (.int .i64 place) ∧ w' = w := by
  rcases h.st with ⟨h1, _⟩ | ⟨what', place', ea', fb, h1, h2, h3, h4, h5, h6, h7⟩
  · rw [hn] at h1; cases h1
  rw [hn] at h1
  obtain ⟨rfl, rfl, rfl⟩ : what = what' ∧ place = place' ∧ ea = ea' := by simpa using h1
  have c1 : w.cell? ⟨fb, 1, none⟩ = some (.int .i64 place) := by simp [World.cell?, h7, faultObj]
  clear h1 h2 h3 h5 h6 h7 h hn
  go_enter Tryz.func15, Tryz.ntmps15
  go_wp2
  go_ret
  exact ⟨rfl, rfl⟩
theorem rErr_given (b : Nat) (F : Nat → Prop) (s : Rst) (what : ByteArray) (place : Nat) (ea : Addr) (w : World) (h : R w b F s) (hn : s.f = some (what, place, ea)) :
    Calls Tryz.prog 16 #[.pointer (some ⟨b, 0, none⟩)] w fun e w' => e = .returned (.iface 61 (.pointer (some ⟨w.heap.size, 0, none⟩))) ∧ w' = w.alloc (faultObj what place ea) := by
  rcases h.st with ⟨h1, _⟩ | ⟨what', place', ea', fb, h1, h2, h3, h4, h5, h6, h7⟩
  · rw [hn] at h1; cases h1
  rw [hn] at h1
  obtain ⟨rfl, rfl, rfl⟩ : what = what' ∧ place = place' ∧ ea = ea' := by simpa using h1
  have HT := hide (told_some b fb place what ea w h4 h7)
  clear h1 h2 h3 h5 h6 h7 h hn
  go_enter Tryz.func16, Tryz.ntmps16
  go_wp2_with fail
  refine (unhide HT).mono ?_
  rintro e w' ⟨rfl, rfl⟩
  go_wp2_with fail
  go_ret
  exact ⟨rfl, rfl⟩
set_option maxRecDepth 100000 in
theorem rDone_given (b : Nat) (F : Nat → Prop) (s : Rst) (what : ByteArray) (place : Nat) (ea : Addr) (w : World) (h : R w b F s) (hn : s.f = some (what, place, ea)) :
    Calls Tryz.prog 17 #[.pointer (some ⟨b, 0, none⟩)] w fun e w' => ∃ fa, e = .returned (.iface 61 (.pointer (some ⟨fa, 0, none⟩))) ∧ w'.heap[fa]? = some (faultObj what place ea) ∧ Fr (fun _ => False) w w' := by
  rcases h.st with ⟨h1, _⟩ | ⟨what', place', ea', fb, h1, h2, h3, h4, h5, h6, h7⟩
  · rw [hn] at h1; cases h1
  rw [hn] at h1
  obtain ⟨rfl, rfl, rfl⟩ : what = what' ∧ place = place' ∧ ea = ea' := by simpa using h1
  have H7 := hide h7
  clear h1 h2 h3 h5 h6 h7 h hn
  go_enter Tryz.func17, Tryz.ntmps17
  go_wp2_with fail
  go_quiet (fail)
  go_wp2_with fail
  refine (told_some b fb place what ea (w.drewN nq) (by simpa using h4) (unhide H7)).mono ?_
  rintro e w' ⟨rfl, rfl⟩
  go_wp2_with fail
  go_ret
  exact ⟨_, rfl, heap_alloc_new _ _, ((Fr.refl _ _).drewN _).alloc _⟩

theorem at_any (q : Q) (b : Nat) (F : Nat → Prop) (E : Nat → Addr) (w : World) (h : R w b F (q.rst E)) :
    Calls Tryz.prog 15 #[.pointer (some ⟨b, 0, none⟩)] w fun e w' => e = .returned (.int .i64 q.at_) ∧ w' = w := by
  obtain ⟨nm, all, place, part, f⟩ := q
  cases f with
  | none => exact rAt_ok b F _ w h rfl
  | some y => exact rAt_given b F _ y.1 y.2.1 (E y.2.2) w h rfl
theorem err_any (q : Q) (b : Nat) (F : Nat → Prop) (E : Nat → Addr) (w : World) (h : R w b F (q.rst E)) (hq : q.ok) :
    Calls Tryz.prog 16 #[.pointer (some ⟨b, 0, none⟩)] w fun e w' => ∃ v, e = .returned v ∧ ErrV w' v (ftV q.f) E ∧ Fr (fun _ => False) w w' := by
  obtain ⟨nm, all, place, part, f⟩ := q
  cases f with
  | none =>
    refine (rErr_ok b F _ w h rfl).mono ?_
    rintro e w' ⟨rfl, rfl⟩
    exact ⟨_, rfl, .inl ⟨rfl, rfl⟩, Fr.refl _ _⟩
  | some y =>
    refine (rErr_given b F _ y.1 y.2.1 (E y.2.2) w h rfl).mono ?_
    rintro e w' ⟨rfl, rfl⟩
    exact ⟨_, rfl, .inr ⟨(hq.f y rfl).2.1, (hq.f y rfl).2.2, _, rfl, heap_alloc_new _ _⟩, box1 w _⟩
theorem done_any (q : Q) (b : Nat) (F : Nat → Prop) (E : Nat → Addr) (w : World) (h : R w b F (q.rst E)) (hq : q.ok) (hg : Gl w E) :
    Calls Tryz.prog 17 #[.pointer (some ⟨b, 0, none⟩)] w fun e w' => ∃ v, e = .returned v ∧ ErrV w' v q.ended E ∧ Fr (fun _ => False) w w' := by
  obtain ⟨nm, all, place, part, f⟩ := q
  cases f with
  | none =>
    by_cases hp : place < all.length
    · rw [Q.ended, if_pos ⟨rfl, hp⟩]
      refine (rDone_trail b F _ E w hg h rfl hp).mono ?_
      rintro e w' ⟨fb, rfl, hb, hf, _⟩
      exact ⟨_, rfl, .inr ⟨(by decide : 1 ≤ 3), (by decide : 3 ≤ 7), fb, rfl, hb⟩, hf⟩
    · rw [Q.ended, if_neg (fun x => hp x.2)]
      have hple : place = all.length := Nat.le_antisymm hq.place (by omega)
      refine (rDone_end b F _ w h rfl hple).mono ?_
      rintro e w' ⟨rfl, hf⟩
      exact ⟨_, rfl, .inl ⟨rfl, rfl⟩, hf⟩
  | some y =>
    rw [Q.ended, if_neg (fun x => by cases x.1)]
    refine (rDone_given b F _ y.1 y.2.1 (E y.2.2) w h rfl).mono ?_
    rintro e w' ⟨fb, rfl, hb, hf⟩
    exact ⟨_, rfl, .inr ⟨(hq.f y rfl).2.1, (hq.f y rfl).2.2, fb, rfl, hb⟩, hf⟩

/-- The seven cells of the ref's reader, and nothing old has turned. -/
abbrev TS (w0 : World) (g : Nat) (a0 a1 a2 a3 a4 a5 a6 : Value) (w : World) : Prop :=
  w.cell? ⟨g, 0, none⟩ = some a0 ∧ w.cell? ⟨g, 1, none⟩ = some a1 ∧ w.cell? ⟨g, 2, none⟩ = some a2 ∧ w.cell? ⟨g, 3, none⟩ = some a3 ∧ w.cell? ⟨g, 4, none⟩ = some a4 ∧ w.cell? ⟨g, 5, none⟩ = some a5 ∧ w.cell? ⟨g, 6, none⟩ = some a6 ∧ Fr (fun _ => False) w0 w
theorem TS.next {w0 w w' : World} {g : Nat} {a0 a1 a2 a3 a4 a5 a6 : Value} (h : TS w0 g a0 a1 a2 a3 a4 a5 a6 w) (hf : Fr (fun _ => False) w w') : TS w0 g a0 a1 a2 a3 a4 a5 a6 w' := by
  obtain ⟨h0, h1, h2, h3, h4, h5, h6, hF⟩ := h
  have key : ∀ {i : Nat} {v : Value}, w.cell? ⟨g, i, none⟩ = some v → w'.cell? ⟨g, i, none⟩ = some v := fun h => (hf.cell (lt_of_cell h) (fun h => h)).trans h
  exact ⟨key h0, key h1, key h2, key h3, key h4, key h5, key h6, hF.trans hf (fun _ _ h => h)⟩
theorem same_S {w0 w : World} {g : Nat} {a0 a1 a2 a3 a4 a5 a6 x y : Value} {a b : List Nat} (hS : TS w0 g a0 a1 a2 a3 a4 a5 a6 w) (hx : Src w0 x a) (hy : Src w0 y b) (hn : norm a = norm b) (ha : a.length ≤ 140737488355328) :
    Calls Tryz.prog 12 #[x, y] w fun e w' => e = .returned (.bool true) ∧ TS w0 g a0 a1 a2 a3 a4 a5 a6 w' := by
  refine (same_any x y a b w (hx.fr hS.2.2.2.2.2.2.2 (fun _ _ _ _ _ h => h)) (hy.fr hS.2.2.2.2.2.2.2 (fun _ _ _ _ _ h => h)) ha).mono ?_
  rintro e w' ⟨rfl, hd⟩
  exact ⟨by simp [sameB, hn], TS.next hS (Fr.of_drewN hd)⟩
theorem at_S {w0 w : World} {g b : Nat} {F : Nat → Prop} {E : Nat → Addr} {a0 a1 a2 a3 a4 a5 a6 : Value} {q : Q} (hS : TS w0 g a0 a1 a2 a3 a4 a5 a6 w) (h : R w0 b F (q.rst E)) :
    Calls Tryz.prog 15 #[.pointer (some ⟨b, 0, none⟩)] w fun e w' => e = .returned (.int .i64 q.at_) ∧ TS w0 g a0 a1 a2 a3 a4 a5 a6 w' := by
  refine (at_any q b F E w (h.frame hS.2.2.2.2.2.2.2 (fun _ _ h => h))).mono ?_
  rintro e w' ⟨rfl, rfl⟩
  exact ⟨rfl, hS⟩
theorem err_S {w0 w : World} {g b : Nat} {F : Nat → Prop} {E : Nat → Addr} {a0 a1 a2 a3 a4 a5 a6 : Value} {q : Q} (hS : TS w0 g a0 a1 a2 a3 a4 a5 a6 w) (h : R w0 b F (q.rst E)) (hq : q.ok) :
    Calls Tryz.prog 16 #[.pointer (some ⟨b, 0, none⟩)] w fun e w' => ∃ v, e = .returned v ∧ ErrV w' v (ftV q.f) E ∧ Fr (fun _ => False) w w' ∧ TS w0 g a0 a1 a2 a3 a4 a5 a6 w' := by
  refine (err_any q b F E w (h.frame hS.2.2.2.2.2.2.2 (fun _ _ h => h)) hq).mono ?_
  rintro e w' ⟨v, rfl, hE, hf⟩
  exact ⟨v, rfl, hE, hf, TS.next hS hf⟩
theorem done_S {w0 w : World} {g b : Nat} {F : Nat → Prop} {E : Nat → Addr} {a0 a1 a2 a3 a4 a5 a6 : Value} {q : Q} (hS : TS w0 g a0 a1 a2 a3 a4 a5 a6 w) (h : R w0 b F (q.rst E)) (hq : q.ok) (hg : G7 w0 E) :
    Calls Tryz.prog 17 #[.pointer (some ⟨b, 0, none⟩)] w fun e w' => ∃ v, e = .returned v ∧ ErrV w' v q.ended E ∧ Fr (fun _ => False) w w' ∧ TS w0 g a0 a1 a2 a3 a4 a5 a6 w' := by
  refine (done_any q b F E w (h.frame hS.2.2.2.2.2.2.2 (fun _ _ h => h)) hq (hg.gl.fr0 hS.2.2.2.2.2.2.2)).mono ?_
  rintro e w' ⟨v, rfl, hE, hf⟩
  exact ⟨v, rfl, hE, hf, TS.next hS hf⟩
theorem ended_S {w0 w : World} {g xc last : Nat} {xo : Option Addr} {a0 a1 a2 a3 a4 a5 a6 : Value} {q : Q} (hS : TS w0 g a0 a1 a2 a3 a4 a5 a6 w) (hq : q.ok) :
    Calls Tryz.prog 24 #[.agg #[.slice xo q.all.length xc, .int .i64 q.at_, .int .i64 last, .string q.nm, .string (ftV q.f).1, .int .i64 ((ftV q.f).2.1 : Nat), .int .i64 ((ftV q.f).2.2 : Nat)]] w fun e w' => e = .returned (.agg #[.string q.ended.1, .int .i64 (q.ended.2.1 : Nat), .int .i64 (q.ended.2.2 : Nat)]) ∧ Fr (fun _ => False) w w' ∧ TS w0 g a0 a1 a2 a3 a4 a5 a6 w' := by
  refine (ended_any q xo xc last w hq).mono ?_
  rintro e w' ⟨rfl, hf⟩
  exact ⟨rfl, hf, TS.next hS hf⟩
theorem told_S {w0 w : World} {g : Nat} {E : Nat → Addr} {v a0 a1 a2 a3 a4 a5 a6 : Value} {x : ByteArray × Nat × Nat} (hS : TS w0 g a0 a1 a2 a3 a4 a5 a6 w) (h : ErrV w v x E) (hg : G7 w0 E) :
    Calls Tryz.prog 21 #[v, .agg #[.string x.1, .int .i64 (x.2.1 : Nat), .int .i64 (x.2.2 : Nat)]] w fun e w' => e = .returned (.bool true) ∧ Fr (fun _ => False) w w' ∧ TS w0 g a0 a1 a2 a3 a4 a5 a6 w' := by
  refine (told_any w v x E h (hg.fr hS.2.2.2.2.2.2.2 (fun _ h => h.elim))).mono ?_
  rintro e w' ⟨rfl, hf⟩
  exact ⟨rfl, hf, TS.next hS hf⟩
end Go.Proofs.YtikolmpgnpkdbaaGreatDoor

namespace Go.Proofs.YtikolmpgnpkdbaaGreatDoor
open Go.RowKit

theorem make_bytes (n : Nat) (w : World) (hn : n ≤ 8) : ∃ w', (Instr.makeSlice 28 (.int .i64 (n : Int)) (.int .i64 (n : Int))).run Tryz.prog w = .ok (.slice (some ⟨w.heap.size, 0, none⟩) n n) w' ∧
    (∀ j, j < n → w'.cell? ⟨w.heap.size, j, none⟩ = some (.int .u8 0)) ∧ (∀ j, j < n → w'.frozen? ⟨w.heap.size, j, none⟩ = false) ∧ Fr (fun _ => False) w w' ∧ ∃ xs, w'.ownsRow w.heap.size 5 1 (.slice (some ⟨w.heap.size, 0, none⟩) n n) n xs := by
  have hz' : (Tryz.prog.info? 5).bind (·.zero) = some (.int .u8 0) := by kernel_rfl
  have hs' : (Tryz.prog.info? 5).map (·.size) = some 1 := by kernel_rfl
  have hb' : (Tryz.prog.info? 5).map (·.bytes) = some 1 := by kernel_rfl
  obtain ⟨i, hi, hz⟩ := Option.bind_eq_some_iff.1 hz'
  rw [hi] at hs' hb'
  have hs : i.size = 1 := by simpa using hs'
  have hb : i.bytes = 1 := by simpa using hb'
  obtain ⟨w', hr, ho, hg⟩ := run_makeSlice_full (P := Tryz.prog) w w.heap.size 28 5 i (.int .u8 0) 1 Tryz.underlying28 hi hz hs .i64 .i64 n (by omega) (by rw [hb]; omega) (by simp only [maxLen]; omega) (Nat.le_refl _)
  refine ⟨w', hr, fun j hj => ?_, fun j hj => ?_, (Fr.refl _ _).grown hg (fun _ h => by cases h), _, ho⟩
  · have h := ho.cells (g := w.heap.size) rfl j (.int .u8 0) (by simp [madeCells, hj, Value.cells, Nat.mod_one])
    have e : (⟨w.heap.size, 0, none⟩ : Addr).add j = ⟨w.heap.size, 0 + j, none⟩ := by unfold Addr.add; split <;> simp_all
    rw [e, Nat.zero_add] at h
    exact h
  · exact ho.frozenAt j

def NumI (w wr : World) (n v k : Nat) : Prop :=
  (∀ j, j < n → wr.cell? ⟨w.heap.size, j, none⟩ = some (if n - 1 - j < k then B (v / 256 ^ (n - 1 - j)) else .int .u8 0)) ∧ (∀ j, j < n → wr.frozen? ⟨w.heap.size, j, none⟩ = false) ∧ Fr (fun _ => False) w wr ∧ ∃ xs, wr.ownsRow w.heap.size 5 1 (.slice (some ⟨w.heap.size, 0, none⟩) n n) n xs
theorem NumI.step {w wr : World} {m v k : Nat} (h : NumI w wr (m + 1 + k) v k) : NumI w (wr.setCell ⟨w.heap.size, m, none⟩ (B (v / 256 ^ k))) (m + 1 + k) v (k + 1) := by
  obtain ⟨hc, hz, hf, xs, ho⟩ := h
  refine ⟨fun j hj => ?_, fun j hj => by rw [World.frozen?_setCell]; exact hz j hj, Fr.setCell hf (.inr (Nat.le_refl _)) _, _, (ho.stored m _).1⟩
  by_cases e : j = m
  · subst e
    rw [World.cell?_setCell_same _ _ _ (hc j hj), if_pos (by omega), show j + 1 + k - 1 - j = k from by omega]
  · rw [World.cell?_setCell_other _ _ _ _ (by intro h; injection h with _ h2 _; exact e h2.symm), hc j hj]
    by_cases h1 : m + 1 + k - 1 - j < k
    · rw [if_pos h1, if_pos (by omega)]
    · rw [if_neg h1, if_neg (by omega)]
theorem NumI.own {w wr : World} {n v : Nat} (h : NumI w wr n v n) : wr.ownsRow w.heap.size 5 1 (.slice (some ⟨w.heap.size, 0, none⟩) n n) n (cellsOf (be n v)) := by
  obtain ⟨hc, _, _, xs, ho⟩ := h
  have hl : xs.length = n := by simpa using ho.1
  have e : xs = cellsOf (be n v) := by
    apply List.ext_getElem (by rw [hl, cellsOf_length, be_length])
    intro j h1 h2
    have hlt : j < n := by omega
    have a := ho.cells (g := w.heap.size) rfl j xs[j] (List.getElem?_eq_getElem h1)
    have e : (⟨w.heap.size, 0, none⟩ : Addr).add j = ⟨w.heap.size, 0 + j, none⟩ := by unfold Addr.add; split <;> simp_all
    rw [e, Nat.zero_add, hc j hlt, if_pos (by omega)] at a
    rw [← Option.some.inj a]
    simp [cellsOf, be]
  rw [← e]
  exact ho

set_option maxRecDepth 100000 in
theorem gnumber_any (v n : Nat) (w : World) (hn : n ≤ 8) (hv : v < 18446744073709551616) : Calls Tryz.prog 74 #[.int .u64 v, .int .i64 n] w fun e w' => e = .returned (.slice (some ⟨w.heap.size, 0, none⟩) n n) ∧ w'.ownsRow w.heap.size 5 1 (.slice (some ⟨w.heap.size, 0, none⟩) n n) n (cellsOf (be n v)) ∧ Fr (fun _ => False) w w' := by
  obtain ⟨w1, hmk, hc, hz, hf, ho⟩ := make_bytes n w hn
  have H := hide (And.intro hc (And.intro hz (And.intro hf ho)))
  clear hc hz hf ho
  have hwr : IntKind.i64.wrap ((n : Int) - 1) = (n : Int) - 1 := by rw [IntKind.wrap_i64]; omega
  go_enter Tryz.func74, Tryz.ntmps74
  go_wp2_with fail
  go_loopw [0, 6] (fun x i wr => ∃ k : Nat, k ≤ n ∧ i = .int .i64 ((n : Int) - 1 - k) ∧ x = .int .u64 ((v / 256 ^ k : Nat)) ∧ NumI w wr n v k) (fun _ i _ => (intOf i + 1).toNat)
  case atStart => exact ⟨0, Nat.zero_le _, by simp, by simp, fun j hj => by rw [if_neg (by omega)]; exact (unhide H).1 j hj, (unhide H).2.1, (unhide H).2.2.1, (unhide H).2.2.2⟩
  case round =>
    obtain ⟨k, hk, rfl, rfl, hI⟩ := hrel
    rename World => wr
    by_cases hlt : k < n
    · obtain ⟨m, rfl⟩ : ∃ m, n = m + 1 + k := ⟨n - 1 - k, by omega⟩
      have hcell : wr.cell? ⟨w.heap.size, m, none⟩ = some (.int .u8 0) := by rw [hI.1 m (by omega), if_neg (by omega)]
      have hfr := hI.2.1 m (by omega)
      have hy : v / 256 ^ k < 18446744073709551616 := Nat.lt_of_le_of_lt (Nat.div_le_self _ _) hv
      have hst := hI.step
      have hnx : v / 256 ^ (k + 1) = v / 256 ^ k / 256 := by rw [Nat.pow_succ, Nat.div_div_eq_div_mul]
      have HS := hide (And.intro hst hnx)
      clear hst hnx hI
      have hix : ((m + 1 + k : Nat) : Int) - 1 - k = (m : Int) := by omega
      rw [hix]
      generalize hyy : v / 256 ^ k = y at *
      go_wp2
      refine ⟨⟨k + 1, by omega, congrArg (Value.int .i64) (by omega), congrArg (Value.int .u64) (by rw [(unhide HS).2]; omega), ?_⟩, by simp [intOf]⟩
      have h := (unhide HS).1
      rw [show B y = Value.int .u8 ((y : Int) % 256) from by simp [B]] at h
      exact h
    · have hkn : k = n := by omega
      subst hkn
      go_wp2
      go_ret
      exact ⟨rfl, hI.own, hI.2.2.1⟩
end Go.Proofs.YtikolmpgnpkdbaaGreatDoor

namespace Go.Proofs.YtikolmpgnpkdbaaGreatDoor
open Go.RowKit

/-- Why a part can't be laid, as the ref has it. -/
def wrongN (p : Pt) : Int := if p.k = 5 ∧ quantB (p.u % 4294967296) = false then 4 else if p.k = 6 ∧ p.m < (p.s.size : Int) then 2 else if p.k = 7 ∧ p.n < 0 then 4 else if p.k = 7 ∧ (p.m < p.n ∨ 4294967295 < p.n) then 2 else if p.k = 9 then p.n else 0

theorem gwrong1 (u : Nat) (s : ByteArray) (n m : Int) (w : World) : Calls Tryz.prog 49 #[.agg #[.int .i64 1, .int .u64 u, .string s, .int .i64 n, .int .i64 m]] w fun e w' => e = .returned (.int .i64 (wrongN ⟨1, u, s, n, m⟩)) ∧ Fr (fun _ => False) w w' := by
  have hr : wrongN ⟨1, u, s, n, m⟩ = 0 := by simp [wrongN]
  rw [hr]
  clear hr
  go_enter Tryz.func49, Tryz.ntmps49
  go_wp2_with fail
  go_ret
  exact ⟨rfl, box1 _ _⟩
theorem gwrong2 (u : Nat) (s : ByteArray) (n m : Int) (w : World) : Calls Tryz.prog 49 #[.agg #[.int .i64 2, .int .u64 u, .string s, .int .i64 n, .int .i64 m]] w fun e w' => e = .returned (.int .i64 (wrongN ⟨2, u, s, n, m⟩)) ∧ Fr (fun _ => False) w w' := by
  have hr : wrongN ⟨2, u, s, n, m⟩ = 0 := by simp [wrongN]
  rw [hr]
  clear hr
  go_enter Tryz.func49, Tryz.ntmps49
  go_wp2_with fail
  go_ret
  exact ⟨rfl, box1 _ _⟩
theorem gwrong4 (u : Nat) (s : ByteArray) (n m : Int) (w : World) : Calls Tryz.prog 49 #[.agg #[.int .i64 4, .int .u64 u, .string s, .int .i64 n, .int .i64 m]] w fun e w' => e = .returned (.int .i64 (wrongN ⟨4, u, s, n, m⟩)) ∧ Fr (fun _ => False) w w' := by
  have hr : wrongN ⟨4, u, s, n, m⟩ = 0 := by simp [wrongN]
  rw [hr]
  clear hr
  go_enter Tryz.func49, Tryz.ntmps49
  go_wp2_with fail
  go_ret
  exact ⟨rfl, box1 _ _⟩
theorem gwrong8 (u : Nat) (s : ByteArray) (n m : Int) (w : World) : Calls Tryz.prog 49 #[.agg #[.int .i64 8, .int .u64 u, .string s, .int .i64 n, .int .i64 m]] w fun e w' => e = .returned (.int .i64 (wrongN ⟨8, u, s, n, m⟩)) ∧ Fr (fun _ => False) w w' := by
  have hr : wrongN ⟨8, u, s, n, m⟩ = 0 := by simp [wrongN]
  rw [hr]
  clear hr
  go_enter Tryz.func49, Tryz.ntmps49
  go_wp2_with fail
  go_ret
  exact ⟨rfl, box1 _ _⟩
theorem gwrong10 (u : Nat) (s : ByteArray) (n m : Int) (w : World) : Calls Tryz.prog 49 #[.agg #[.int .i64 10, .int .u64 u, .string s, .int .i64 n, .int .i64 m]] w fun e w' => e = .returned (.int .i64 (wrongN ⟨10, u, s, n, m⟩)) ∧ Fr (fun _ => False) w w' := by
  have hr : wrongN ⟨10, u, s, n, m⟩ = 0 := by simp [wrongN]
  rw [hr]
  clear hr
  go_enter Tryz.func49, Tryz.ntmps49
  go_wp2_with fail
  go_ret
  exact ⟨rfl, box1 _ _⟩
theorem gwrong9 (u : Nat) (s : ByteArray) (n m : Int) (w : World) : Calls Tryz.prog 49 #[.agg #[.int .i64 9, .int .u64 u, .string s, .int .i64 n, .int .i64 m]] w fun e w' => e = .returned (.int .i64 (wrongN ⟨9, u, s, n, m⟩)) ∧ Fr (fun _ => False) w w' := by
  have hr : wrongN ⟨9, u, s, n, m⟩ = n := by simp [wrongN]
  rw [hr]
  clear hr
  go_enter Tryz.func49, Tryz.ntmps49
  go_wp2_with fail
  go_ret
  exact ⟨rfl, box1 _ _⟩
theorem gwrong6 (u : Nat) (s : ByteArray) (n m : Int) (w : World) : Calls Tryz.prog 49 #[.agg #[.int .i64 6, .int .u64 u, .string s, .int .i64 n, .int .i64 m]] w fun e w' => e = .returned (.int .i64 (wrongN ⟨6, u, s, n, m⟩)) ∧ Fr (fun _ => False) w w' := by
  by_cases h : m < (s.size : Int)
  · have hr : wrongN ⟨6, u, s, n, m⟩ = 2 := by simp [wrongN, h]
    rw [hr]
    clear hr
    go_enter Tryz.func49, Tryz.ntmps49
    go_wp2_with fail
    go_ret
    exact ⟨rfl, box1 _ _⟩
  · have hr : wrongN ⟨6, u, s, n, m⟩ = 0 := by simp [wrongN, h]
    rw [hr]
    clear hr
    go_enter Tryz.func49, Tryz.ntmps49
    go_wp2_with fail
    go_ret
    exact ⟨rfl, box1 _ _⟩
theorem gwrong5 (u : Nat) (s : ByteArray) (n m : Int) (w : World) (hu : u < 18446744073709551616) : Calls Tryz.prog 49 #[.agg #[.int .i64 5, .int .u64 u, .string s, .int .i64 n, .int .i64 m]] w fun e w' => e = .returned (.int .i64 (wrongN ⟨5, u, s, n, m⟩)) ∧ Fr (fun _ => False) w w' := by
  have hq := gquant_any (u % 4294967296) (w.alloc (.cells #[.int .i64 5, .int .u64 u, .string s, .int .i64 n, .int .i64 m] 26)) (by omega)
  have ec : ((u % 4294967296 : Nat) : Int) = (u : Int) % 4294967296 := by omega
  rw [ec] at hq
  have HQ := hide hq
  clear hq ec
  cases h : quantB (u % 4294967296)
  · have hr : wrongN ⟨5, u, s, n, m⟩ = 4 := by simp [wrongN, h]
    rw [hr]
    rw [h] at HQ
    clear hr
    go_enter Tryz.func49, Tryz.ntmps49
    go_wp2_with fail
    refine (unhide HQ).mono ?_
    rintro e w' ⟨rfl, rfl⟩
    go_wp2_with fail
    go_ret
    exact ⟨rfl, box1 _ _⟩
  · have hr : wrongN ⟨5, u, s, n, m⟩ = 0 := by simp [wrongN, h]
    rw [hr]
    rw [h] at HQ
    clear hr
    go_enter Tryz.func49, Tryz.ntmps49
    go_wp2_with fail
    refine (unhide HQ).mono ?_
    rintro e w' ⟨rfl, rfl⟩
    go_wp2_with fail
    go_ret
    exact ⟨rfl, box1 _ _⟩
end Go.Proofs.YtikolmpgnpkdbaaGreatDoor

namespace Go.Proofs.YtikolmpgnpkdbaaGreatDoor
open Go.RowKit

theorem gwrong7 (u : Nat) (s : ByteArray) (n m : Int) (w : World) : Calls Tryz.prog 49 #[.agg #[.int .i64 7, .int .u64 u, .string s, .int .i64 n, .int .i64 m]] w fun e w' => e = .returned (.int .i64 (wrongN ⟨7, u, s, n, m⟩)) ∧ Fr (fun _ => False) w w' := by
  by_cases h0 : n < 0
  · have hr : wrongN ⟨7, u, s, n, m⟩ = 4 := by simp [wrongN, h0]
    rw [hr]
    clear hr
    go_enter Tryz.func49, Tryz.ntmps49
    go_wp2_with fail
    go_ret
    exact ⟨rfl, box1 _ _⟩
  by_cases h1 : m < n
  · have hr : wrongN ⟨7, u, s, n, m⟩ = 2 := by simp [wrongN, h0, h1]
    rw [hr]
    clear hr
    go_enter Tryz.func49, Tryz.ntmps49
    go_wp2_with fail
    go_ret
    exact ⟨rfl, box1 _ _⟩
  by_cases h2 : 4294967295 < n
  · have hr : wrongN ⟨7, u, s, n, m⟩ = 2 := by simp [wrongN, h0, h2]
    rw [hr]
    clear hr
    go_enter Tryz.func49, Tryz.ntmps49
    go_wp2_with fail
    go_ret
    exact ⟨rfl, box1 _ _⟩
  · have hr : wrongN ⟨7, u, s, n, m⟩ = 0 := by simp [wrongN, h0, h1, h2]
    rw [hr]
    clear hr
    go_enter Tryz.func49, Tryz.ntmps49
    go_wp2_with fail
    go_ret
    exact ⟨rfl, box1 _ _⟩

theorem gwrong_any (p : Pt) (w : World) (hk : p.k ∈ kinds) (hu : p.u < 18446744073709551616) : Calls Tryz.prog 49 #[.agg #[.int .i64 p.k, .int .u64 p.u, .string p.s, .int .i64 p.n, .int .i64 p.m]] w fun e w' => e = .returned (.int .i64 (wrongN p)) ∧ Fr (fun _ => False) w w' := by
  obtain ⟨k, u, s, n, m⟩ := p
  simp only [kinds, List.mem_cons, List.not_mem_nil, or_false] at hk hu ⊢
  rcases hk with rfl | rfl | rfl | rfl | rfl | rfl | rfl | rfl | rfl
  · exact gwrong1 u s n m w
  · exact gwrong2 u s n m w
  · exact gwrong4 u s n m w
  · exact gwrong8 u s n m w
  · exact gwrong5 u s n m w hu
  · exact gwrong6 u s n m w
  · exact gwrong7 u s n m w
  · exact gwrong9 u s n m w
  · exact gwrong10 u s n m w

theorem gnumber_v (v n : Nat) (w : World) (hn : n ≤ 8) (hv : v < 18446744073709551616) : Calls Tryz.prog 74 #[.int .u64 v, .int .i64 n] w fun e w' => ∃ x, e = .returned x ∧ Src w' x (be n v) ∧ Fr (fun _ => False) w w' :=
  (gnumber_any v n w hn hv).mono (fun _ _ h => ⟨_, h.1, own_src (by rw [be_length]; exact h.2.1), h.2.2⟩)

theorem glaid1 (u : Nat) (s : ByteArray) (n m : Int) (w : World) (hu : u < 18446744073709551616) : Calls Tryz.prog 50 #[.agg #[.int .i64 1, .int .u64 u, .string s, .int .i64 n, .int .i64 m]] w fun e w' => ∃ v, e = .returned v ∧ Src w' v (be 1 u) ∧ Fr (fun _ => False) w w' := by
  go_enter Tryz.func50, Tryz.ntmps50
  go_wp2_with fail
  refine (gnumber_v u 1 _ (by decide) hu).mono ?_
  rintro e w' ⟨x, rfl, hs, hf⟩
  have H := hide (And.intro hs hf)
  clear hs hf
  go_wp2_with fail
  go_ret
  exact ⟨_, rfl, (unhide H).1, (box1 w _).trans (unhide H).2 (fun _ _ h => h)⟩
theorem glaid2 (u : Nat) (s : ByteArray) (n m : Int) (w : World) (hu : u < 18446744073709551616) : Calls Tryz.prog 50 #[.agg #[.int .i64 2, .int .u64 u, .string s, .int .i64 n, .int .i64 m]] w fun e w' => ∃ v, e = .returned v ∧ Src w' v (be 2 u) ∧ Fr (fun _ => False) w w' := by
  go_enter Tryz.func50, Tryz.ntmps50
  go_wp2_with fail
  refine (gnumber_v u 2 _ (by decide) hu).mono ?_
  rintro e w' ⟨x, rfl, hs, hf⟩
  have H := hide (And.intro hs hf)
  clear hs hf
  go_wp2_with fail
  go_ret
  exact ⟨_, rfl, (unhide H).1, (box1 w _).trans (unhide H).2 (fun _ _ h => h)⟩
theorem glaid4 (u : Nat) (s : ByteArray) (n m : Int) (w : World) (hu : u < 18446744073709551616) : Calls Tryz.prog 50 #[.agg #[.int .i64 4, .int .u64 u, .string s, .int .i64 n, .int .i64 m]] w fun e w' => ∃ v, e = .returned v ∧ Src w' v (be 4 u) ∧ Fr (fun _ => False) w w' := by
  go_enter Tryz.func50, Tryz.ntmps50
  go_wp2_with fail
  refine (gnumber_v u 4 _ (by decide) hu).mono ?_
  rintro e w' ⟨x, rfl, hs, hf⟩
  have H := hide (And.intro hs hf)
  clear hs hf
  go_wp2_with fail
  go_ret
  exact ⟨_, rfl, (unhide H).1, (box1 w _).trans (unhide H).2 (fun _ _ h => h)⟩
theorem glaid8 (u : Nat) (s : ByteArray) (n m : Int) (w : World) (hu : u < 18446744073709551616) : Calls Tryz.prog 50 #[.agg #[.int .i64 8, .int .u64 u, .string s, .int .i64 n, .int .i64 m]] w fun e w' => ∃ v, e = .returned v ∧ Src w' v (be 8 u) ∧ Fr (fun _ => False) w w' := by
  go_enter Tryz.func50, Tryz.ntmps50
  go_wp2_with fail
  refine (gnumber_v u 8 _ (by decide) hu).mono ?_
  rintro e w' ⟨x, rfl, hs, hf⟩
  have H := hide (And.intro hs hf)
  clear hs hf
  go_wp2_with fail
  go_ret
  exact ⟨_, rfl, (unhide H).1, (box1 w _).trans (unhide H).2 (fun _ _ h => h)⟩
theorem glaid5 (u : Nat) (s : ByteArray) (n m : Int) (w : World) (hu : u < 18446744073709551616) : Calls Tryz.prog 50 #[.agg #[.int .i64 5, .int .u64 u, .string s, .int .i64 n, .int .i64 m]] w fun e w' => ∃ v, e = .returned v ∧ Src w' v (be 4 u) ∧ Fr (fun _ => False) w w' := by
  go_enter Tryz.func50, Tryz.ntmps50
  go_wp2_with fail
  refine (gnumber_v u 4 _ (by decide) hu).mono ?_
  rintro e w' ⟨x, rfl, hs, hf⟩
  have H := hide (And.intro hs hf)
  clear hs hf
  go_wp2_with fail
  go_ret
  exact ⟨_, rfl, (unhide H).1, (box1 w _).trans (unhide H).2 (fun _ _ h => h)⟩
theorem glaid7 (u q : Nat) (s : ByteArray) (m : Int) (w : World) (hq : q < 9223372036854775808) : Calls Tryz.prog 50 #[.agg #[.int .i64 7, .int .u64 u, .string s, .int .i64 q, .int .i64 m]] w fun e w' => ∃ v, e = .returned v ∧ Src w' v (be 4 q) ∧ Fr (fun _ => False) w w' := by
  have hwr : IntKind.u64.wrap (q : Int) = (q : Int) := by rw [IntKind.wrap_u64]; omega
  go_enter Tryz.func50, Tryz.ntmps50
  go_wp2_with fail
  refine (gnumber_v q 4 _ (by decide) (by omega)).mono ?_
  rintro e w' ⟨x, rfl, hs, hf⟩
  have H := hide (And.intro hs hf)
  clear hs hf
  go_wp2_with fail
  go_ret
  exact ⟨_, rfl, (unhide H).1, (box1 w _).trans (unhide H).2 (fun _ _ h => h)⟩
theorem glaid9 (u : Nat) (s : ByteArray) (n m : Int) (w : World) : Calls Tryz.prog 50 #[.agg #[.int .i64 9, .int .u64 u, .string s, .int .i64 n, .int .i64 m]] w fun e w' => ∃ v, e = .returned v ∧ Src w' v [] ∧ Fr (fun _ => False) w w' := by
  go_enter Tryz.func50, Tryz.ntmps50
  go_wp2_with fail
  go_ret
  exact ⟨_, rfl, .inl ⟨rfl, rfl⟩, box1 w _⟩
end Go.Proofs.YtikolmpgnpkdbaaGreatDoor

namespace Go.Proofs.YtikolmpgnpkdbaaGreatDoor
open Go.RowKit

theorem gnumber_o (v n : Nat) (w : World) (hn : n ≤ 8) (hv : v < 18446744073709551616) : Calls Tryz.prog 74 #[.int .u64 v, .int .i64 n] w fun e w' => ∃ x, e = .returned x ∧ w'.ownsRow w.heap.size 5 1 x n (cellsOf (be n v)) ∧ Fr (fun _ => False) w w' :=
  (gnumber_any v n w hn hv).mono (fun _ _ h => ⟨_, h.1, h.2.1, h.2.2⟩)

set_option maxRecDepth 1000000 in
theorem glaid6 (u : Nat) (s : ByteArray) (n m : Int) (w : World) (hs : s.size < 140737488355000) : Calls Tryz.prog 50 #[.agg #[.int .i64 6, .int .u64 u, .string s, .int .i64 n, .int .i64 m]] w fun e w' => ∃ v, e = .returned v ∧ Src w' v (be 4 s.size ++ bytesOf s) ∧ Fr (fun _ => False) w w' := by
  obtain ⟨i0, hi, hz0, hz1, hz2⟩ := info_parts Tryz.info5
  have hwr : IntKind.u64.wrap (s.size : Int) = (s.size : Int) := by rw [IntKind.wrap_u64]; omega
  go_enter Tryz.func50, Tryz.ntmps50
  go_wp2_with fail
  refine (gnumber_o s.size 4 _ (by decide) (by omega)).mono ?_
  rintro e w1 ⟨x, rfl, ho, hf⟩
  have ho' := own_mono ho (base' := w.heap.size + 1) (by simp)
  have H := hide (And.intro ho' ((box1 w _).trans hf (fun _ _ h => h)))
  have hbx : w1.cell? ⟨w.heap.size, 2, none⟩ = some (.string s) := (hf.cell (by simp) (fun h => h)).trans (by simp)
  clear ho ho' hf
  go_wp2_with fail
  go_loopw [3, 4] (fun x i wr => ∃ k : Nat, k ≤ s.size ∧ i = .int .i64 k ∧ wr.ownsRow (w.heap.size + 1) 5 1 x (4 + k) (cellsOf (be 4 s.size ++ (bytesOf s).take k)) ∧ wr.cell? ⟨w.heap.size, 2, none⟩ = some (.string s) ∧ Fr (fun _ => False) w wr) (fun _ i _ => s.size - (intOf i).toNat)
  case atStart => exact ⟨0, Nat.zero_le _, rfl, by simpa using (unhide H).1, hbx, (unhide H).2⟩
  case round =>
    obtain ⟨k, hk, rfl, ho, hb, hf⟩ := hrel
    rename World => wr
    have H2 := hide (And.intro ho hf)
    clear ho hf
    by_cases hlt : k < s.size
    · have hlt' : k < s.data.size := hlt
      obtain ⟨ho, hf⟩ := unhide H2
      rename_i x'
      have hc : s[k].toNat < 256 := s[k].toNat_lt
      have hx1 := ownsRow_of_block (w' := wr.alloc (.cells #[.int .u8 (s[k].toNat : Int)] 5)) ho (fun g hg => Below.heap_alloc _ _ _ (ho.lt g hg).2)
      have hbl : w.heap.size < wr.heap.size := lt_of_cell hb
      obtain ⟨ao, c', w2, hr, hown, hgrow, hat⟩ := run_app_sl _ 28 (w.heap.size + 1) (4 + k) _ _ _ [s[k].toNat] hx1 (lit_src wr [s[k].toNat] #[.int .u8 (s[k].toNat : Int)] 1 1 rfl (by simp [cellsOf, B, Nat.mod_eq_of_lt hc])) (by simp; omega) (by simp; omega)
      have hf2 : Fr (fun _ => False) w w2 := (hf.alloc _).grown hgrow (fun g hg => .inr (by have := (ho.lt g hg).1; omega))
      have hb2 : w2.cell? ⟨w.heap.size, 2, none⟩ = some (.string s) := (hgrow.cell_far ⟨w.heap.size, 2, none⟩ (by simp; omega) (fun e => by have := (ho.lt w.heap.size e.symm).1; omega)).trans ((World.cell?_alloc_past _ _ _ hbl).trans hb)
      have ho2 : w2.ownsRow (w.heap.size + 1) 5 1 (.slice ao (4 + k + 1) c') (4 + (k + 1)) (cellsOf (be 4 s.size ++ (bytesOf s).take (k + 1))) := by
        have hk' : k < (bytesOf s).length := by rw [bytesOf_length]; exact hlt
        have e : (bytesOf s)[k] = s[k].toNat := by simp [bytesOf]; rfl
        rw [List.take_add_one, List.getElem?_eq_getElem hk', Option.toList_some, e, ← List.append_assoc, cellsOf_append _ [s[k].toNat]]
        exact hown
      have HR := hide hr
      have H3 := hide (And.intro ho2 (And.intro hb2 hf2))
      clear ho hf hx1 hr hown hgrow hat hf2 hb2 ho2
      go_wp2_with (at_builtin; refine wpList_app rfl (.tmp 56) (.tmp 61) 28 28 rfl _ _ _ rfl rfl (unhide HR) ?_)
      go_roundw
      case rel => exact ⟨k + 1, by omega, by go_num, (unhide H3).1, (unhide H3).2.1, (unhide H3).2.2⟩
      case measure => simp [intOf]; omega
    · have hkn : k = s.size := by omega
      subst hkn
      go_wp2_with fail
      go_ret
      have e : (bytesOf s).take s.size = bytesOf s := List.take_of_length_le (by rw [bytesOf_length]; exact Nat.le_refl _)
      have h := (unhide H2).1
      rw [e] at h
      exact ⟨_, rfl, own_src (by rw [List.length_append, be_length, bytesOf_length]; exact h), (unhide H2).2⟩
end Go.Proofs.YtikolmpgnpkdbaaGreatDoor

namespace Go.Proofs.YtikolmpgnpkdbaaGreatDoor
open Go.RowKit

/-- A part's bytes, as the ref lays them. -/
def lz (p : Pt) : List Nat := if p.k = 1 then be 1 p.u else if p.k = 2 then be 2 p.u else if p.k = 4 then be 4 p.u else if p.k = 8 then be 8 p.u else if p.k = 5 then be 4 p.u else if p.k = 7 then be 4 p.n.toNat else if p.k = 6 then be 4 p.s.size ++ bytesOf p.s else []

theorem glaid_any (p : Pt) (w : World) (hk : p.k ∈ kinds) (h10 : p.k ≠ 10) (hu : p.u < 18446744073709551616) (hn : p.n < 9223372036854775808) (hs : p.s.size < 140737488355000) (hw : wrongN p = 0) :
    Calls Tryz.prog 50 #[.agg #[.int .i64 p.k, .int .u64 p.u, .string p.s, .int .i64 p.n, .int .i64 p.m]] w fun e w' => ∃ v, e = .returned v ∧ Src w' v (lz p) ∧ Fr (fun _ => False) w w' := by
  obtain ⟨k, u, s, n, m⟩ := p
  simp only [kinds, List.mem_cons, List.not_mem_nil, or_false] at hk hu hn hs h10 ⊢
  rcases hk with rfl | rfl | rfl | rfl | rfl | rfl | rfl | rfl | rfl
  · exact glaid1 u s n m w hu
  · exact glaid2 u s n m w hu
  · exact glaid4 u s n m w hu
  · exact glaid8 u s n m w hu
  · exact glaid5 u s n m w hu
  · exact glaid6 u s n m w hs
  · have h0 : 0 ≤ n := by
      rcases Int.lt_or_le n 0 with h | h
      · simp [wrongN, h] at hw
      · exact h
    obtain ⟨q, rfl⟩ := Int.eq_ofNat_of_zero_le h0
    exact glaid7 u q s m w (by omega)
  · exact glaid9 u s n m w
  · exact absurd rfl h10

/-- The norm of what the ref lays is that of what the writer lays. -/
theorem norm_lz (p : Pt) (hk : p.k ∈ kinds) : norm (lz p) = norm (encA p) := by
  have key : ∀ a b : Nat, ∀ n, (∀ i, i < n → a / 256 ^ (n - 1 - i) % 256 = b / 256 ^ (n - 1 - i) % 256) → norm (be n a) = norm (be n b) := fun a b n h => by
    unfold norm be
    rw [List.map_map, List.map_map]
    apply List.map_congr_left
    intro i hi
    exact h i (by simpa using hi)
  have hm : ∀ (u n : Nat), norm (be n u) = norm (be n (u % 256 ^ n)) := fun u n => key _ _ n (fun i hi => by
    have e : 256 ^ n = 256 ^ (n - 1 - i) * (256 * 256 ^ i) := by
      rw [← Nat.mul_assoc, ← Nat.pow_succ, ← Nat.pow_add]
      congr 1
      omega
    rw [e, Nat.mod_mul_right_div_self, Nat.mod_mul_right_mod])
  obtain ⟨k, u, s, n, m⟩ := p
  simp only [kinds, List.mem_cons, List.not_mem_nil, or_false] at hk
  rcases hk with rfl | rfl | rfl | rfl | rfl | rfl | rfl | rfl | rfl
  · exact hm u 1
  · exact hm u 2
  · exact hm u 4
  · rfl
  · exact hm u 4
  · rfl
  · rfl
  · rfl
  · rfl
end Go.Proofs.YtikolmpgnpkdbaaGreatDoor

