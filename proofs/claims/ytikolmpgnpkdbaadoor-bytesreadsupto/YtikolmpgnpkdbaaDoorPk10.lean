import Derived.Test.YtikolmpgnpkdbaaDoorPk9
namespace Go.Proofs.YtikolmpgnpkdbaaDoor
open Go.RowKit

theorem val4_lt (all : List Nat) (place : Nat) : val ((all.drop place).take 4) < 4294967296 := by
  have h1 := val_lt ((all.drop place).take 4)
  have h2 : ((all.drop place).take 4).length ≤ 4 := by simp; omega
  exact Nat.lt_of_lt_of_le h1 (Nat.le_trans (Nat.pow_le_pow_right (by decide) h2) (by decide))

set_option maxRecDepth 1000000 in
theorem gread_5_ok (xo : Option Addr) (all : List Nat) (xc place : Nat) (last fa : Int) (nm fw s : ByteArray) (u : Nat) (n m : Int) (w : World) (hx : Src w (.slice xo all.length xc) all) (hlc : all.length ≤ xc) (hl : all.length ≤ 140737488355328) (hs : 4 + place ≤ all.length) (hq : quantB (val ((all.drop place).take 4)) = true) :
    Calls Tryd.prog 29 #[rdV xo all.length xc place last nm fw fa 0, .agg #[.int .i64 5, .int .u64 u, .string s, .int .i64 n, .int .i64 m]] w fun e w' => e = .returned (.tuple #[rdV xo all.length xc ((place + 4 : Nat) : Int) place nm fw fa 0, .int .u64 (val ((all.drop place).take 4)), .slice none 0 0]) ∧ Fr (fun _ => False) w w' := by
  have hw : IntKind.i64.wrap ((all.length : Int) - place) = (all.length : Int) - place := by rw [IntKind.wrap_i64]; omega
  have hd : decide ((all.length : Int) - place < 4) = false := by simp; omega
  have hcut := cut_at (n := 4) hx hlc hs (by decide)
  have hlen : ((all.drop place).take 4).length ≤ 8 := by simp; omega
  have hv := val4_lt all place
  generalize (all.drop place).take 4 = l at *
  have HX := hide (And.intro hcut (And.intro hlen (And.intro hq hv)))
  clear hx hcut hlen hq
  generalize all.length = len at *
  unfold rdV
  go_enter Tryd.func29, Tryd.ntmps29
  go_wp2_with fail
  refine (value_any _ l _ ((unhide HX).1.fr (box3 w _ _ _) (fun _ _ _ _ _ h => h)) (unhide HX).2.1).mono ?_
  rintro e w' ⟨rfl, rfl⟩
  go_wp2_with fail
  refine (gquant_any (val l) _ (by omega)).mono ?_
  rintro e w' ⟨rfl, rfl⟩
  rw [(unhide HX).2.2.1]
  go_wp2_with fail
  exact bodyPost_ret (v := .tuple #[rdV xo len xc ((place + 4 : Nat) : Int) place nm fw fa 0, .int .u64 (val l), .slice none 0 0]) (by simp [results, Tryd.results29, go_sem, rdV]) rfl ⟨rfl, box3 w _ _ _⟩

set_option maxRecDepth 1000000 in
theorem gread_5_bad (xo : Option Addr) (all : List Nat) (xc place : Nat) (last fa : Int) (nm fw s : ByteArray) (u : Nat) (n m : Int) (w : World) (hx : Src w (.slice xo all.length xc) all) (hlc : all.length ≤ xc) (hl : all.length ≤ 140737488355328) (hs : 4 + place ≤ all.length) (hq : quantB (val ((all.drop place).take 4)) = false) :
    Calls Tryd.prog 29 #[rdV xo all.length xc place last nm fw fa 0, .agg #[.int .i64 5, .int .u64 u, .string s, .int .i64 n, .int .i64 m]] w fun e w' => e = .returned (.tuple #[rdV xo all.length xc place last nm nm place 4, .int .u64 0, .slice none 0 0]) ∧ Fr (fun _ => False) w w' := by
  have hw : IntKind.i64.wrap ((all.length : Int) - place) = (all.length : Int) - place := by rw [IntKind.wrap_i64]; omega
  have hd : decide ((all.length : Int) - place < 4) = false := by simp; omega
  have hcut := cut_at (n := 4) hx hlc hs (by decide)
  have hlen : ((all.drop place).take 4).length ≤ 8 := by simp; omega
  have hv := val4_lt all place
  generalize (all.drop place).take 4 = l at *
  have HX := hide (And.intro hcut (And.intro hlen (And.intro hq hv)))
  clear hx hcut hlen hq
  generalize all.length = len at *
  unfold rdV
  go_enter Tryd.func29, Tryd.ntmps29
  go_wp2_with fail
  refine (value_any _ l _ ((unhide HX).1.fr (box3 w _ _ _) (fun _ _ _ _ _ h => h)) (unhide HX).2.1).mono ?_
  rintro e w' ⟨rfl, rfl⟩
  go_wp2_with fail
  refine (gquant_any (val l) _ (by omega)).mono ?_
  rintro e w' ⟨rfl, rfl⟩
  rw [(unhide HX).2.2.1]
  go_wp2_with fail
  exact bodyPost_ret (v := .tuple #[rdV xo len xc place last nm nm place 4, .int .u64 0, .slice none 0 0]) (by simp [results, Tryd.results29, go_sem, rdV]) rfl ⟨rfl, box3 w _ _ _⟩

set_option maxRecDepth 1000000 in
theorem gread_6_long (xo : Option Addr) (all : List Nat) (xc place : Nat) (last fa : Int) (nm fw s : ByteArray) (u : Nat) (n m : Int) (w : World) (hx : Src w (.slice xo all.length xc) all) (hlc : all.length ≤ xc) (hl : all.length ≤ 140737488355328) (hs : 4 + place ≤ all.length) (hm : m < 9223372036854775808) (hv : m < (val ((all.drop place).take 4) : Int)) :
    Calls Tryd.prog 29 #[rdV xo all.length xc place last nm fw fa 0, .agg #[.int .i64 6, .int .u64 u, .string s, .int .i64 n, .int .i64 m]] w fun e w' => e = .returned (.tuple #[rdV xo all.length xc place last nm nm place 2, .int .u64 0, .slice none 0 0]) ∧ Fr (fun _ => False) w w' := by
  have hw : IntKind.i64.wrap ((all.length : Int) - place) = (all.length : Int) - place := by rw [IntKind.wrap_i64]; omega
  have hd : decide ((all.length : Int) - place < 4) = false := by simp; omega
  have hcut := cut_at (n := 4) hx hlc hs (by decide)
  have hlen : ((all.drop place).take 4).length ≤ 8 := by simp; omega
  generalize (all.drop place).take 4 = l at *
  have HX := hide (And.intro hcut hlen)
  clear hx hcut hlen
  generalize all.length = len at *
  generalize hvx : val l = x at *
  have HVX := hide hvx
  clear hvx
  unfold rdV
  by_cases h0 : m < 0
  · go_enter Tryd.func29, Tryd.ntmps29
    go_wp2_with fail
    refine (value_any _ l _ ((unhide HX).1.fr (box3 w _ _ _) (fun _ _ _ _ _ h => h)) (unhide HX).2).mono ?_
    rintro e w' ⟨rfl, rfl⟩
    rw [unhide HVX]
    go_wp2_with fail
    exact bodyPost_ret (v := .tuple #[rdV xo len xc place last nm nm place 2, .int .u64 0, .slice none 0 0]) (by simp [results, Tryd.results29, go_sem, rdV]) rfl ⟨rfl, box3 w _ _ _⟩
  · have hw2 : IntKind.u64.wrap m = m := by rw [IntKind.wrap_u64]; omega
    have hd0 : decide (m < 0) = false := by simp; omega
    have hd2 : decide (m < (x : Int)) = true := by simp; omega
    go_enter Tryd.func29, Tryd.ntmps29
    go_wp2_with fail
    refine (value_any _ l _ ((unhide HX).1.fr (box3 w _ _ _) (fun _ _ _ _ _ h => h)) (unhide HX).2).mono ?_
    rintro e w' ⟨rfl, rfl⟩
    rw [unhide HVX]
    go_wp2_with fail
    exact bodyPost_ret (v := .tuple #[rdV xo len xc place last nm nm place 2, .int .u64 0, .slice none 0 0]) (by simp [results, Tryd.results29, go_sem, rdV]) rfl ⟨rfl, box3 w _ _ _⟩
set_option maxRecDepth 1000000 in
theorem gread_7_long (xo : Option Addr) (all : List Nat) (xc place : Nat) (last fa : Int) (nm fw s : ByteArray) (u : Nat) (n m : Int) (w : World) (hx : Src w (.slice xo all.length xc) all) (hlc : all.length ≤ xc) (hl : all.length ≤ 140737488355328) (hs : 4 + place ≤ all.length) (hm : m < 9223372036854775808) (hv : m < (val ((all.drop place).take 4) : Int)) :
    Calls Tryd.prog 29 #[rdV xo all.length xc place last nm fw fa 0, .agg #[.int .i64 7, .int .u64 u, .string s, .int .i64 n, .int .i64 m]] w fun e w' => e = .returned (.tuple #[rdV xo all.length xc place last nm nm place 2, .int .u64 0, .slice none 0 0]) ∧ Fr (fun _ => False) w w' := by
  have hw : IntKind.i64.wrap ((all.length : Int) - place) = (all.length : Int) - place := by rw [IntKind.wrap_i64]; omega
  have hd : decide ((all.length : Int) - place < 4) = false := by simp; omega
  have hcut := cut_at (n := 4) hx hlc hs (by decide)
  have hlen : ((all.drop place).take 4).length ≤ 8 := by simp; omega
  generalize (all.drop place).take 4 = l at *
  have HX := hide (And.intro hcut hlen)
  clear hx hcut hlen
  generalize all.length = len at *
  generalize hvx : val l = x at *
  have HVX := hide hvx
  clear hvx
  unfold rdV
  by_cases h0 : m < 0
  · go_enter Tryd.func29, Tryd.ntmps29
    go_wp2_with fail
    refine (value_any _ l _ ((unhide HX).1.fr (box3 w _ _ _) (fun _ _ _ _ _ h => h)) (unhide HX).2).mono ?_
    rintro e w' ⟨rfl, rfl⟩
    rw [unhide HVX]
    go_wp2_with fail
    exact bodyPost_ret (v := .tuple #[rdV xo len xc place last nm nm place 2, .int .u64 0, .slice none 0 0]) (by simp [results, Tryd.results29, go_sem, rdV]) rfl ⟨rfl, box3 w _ _ _⟩
  · have hw2 : IntKind.u64.wrap m = m := by rw [IntKind.wrap_u64]; omega
    have hd0 : decide (m < 0) = false := by simp; omega
    have hd2 : decide (m < (x : Int)) = true := by simp; omega
    go_enter Tryd.func29, Tryd.ntmps29
    go_wp2_with fail
    refine (value_any _ l _ ((unhide HX).1.fr (box3 w _ _ _) (fun _ _ _ _ _ h => h)) (unhide HX).2).mono ?_
    rintro e w' ⟨rfl, rfl⟩
    rw [unhide HVX]
    go_wp2_with fail
    exact bodyPost_ret (v := .tuple #[rdV xo len xc place last nm nm place 2, .int .u64 0, .slice none 0 0]) (by simp [results, Tryd.results29, go_sem, rdV]) rfl ⟨rfl, box3 w _ _ _⟩

set_option maxRecDepth 1000000 in
theorem gread_7_ok (xo : Option Addr) (all : List Nat) (xc place : Nat) (last fa : Int) (nm fw s : ByteArray) (u : Nat) (n m : Int) (w : World) (hx : Src w (.slice xo all.length xc) all) (hlc : all.length ≤ xc) (hl : all.length ≤ 140737488355328) (hs : 4 + place ≤ all.length) (hm : m < 9223372036854775808) (hv : (val ((all.drop place).take 4) : Int) ≤ m) :
    Calls Tryd.prog 29 #[rdV xo all.length xc place last nm fw fa 0, .agg #[.int .i64 7, .int .u64 u, .string s, .int .i64 n, .int .i64 m]] w fun e w' => e = .returned (.tuple #[rdV xo all.length xc ((place + 4 : Nat) : Int) place nm fw fa 0, .int .u64 (val ((all.drop place).take 4)), .slice none 0 0]) ∧ Fr (fun _ => False) w w' := by
  have hw : IntKind.i64.wrap ((all.length : Int) - place) = (all.length : Int) - place := by rw [IntKind.wrap_i64]; omega
  have hd : decide ((all.length : Int) - place < 4) = false := by simp; omega
  have hcut := cut_at (n := 4) hx hlc hs (by decide)
  have hlen : ((all.drop place).take 4).length ≤ 8 := by simp; omega
  generalize (all.drop place).take 4 = l at *
  have HX := hide (And.intro hcut hlen)
  clear hx hcut hlen
  generalize all.length = len at *
  generalize hvx : val l = x at *
  have HVX := hide hvx
  clear hvx
  unfold rdV
  have hw2 : IntKind.u64.wrap m = m := by rw [IntKind.wrap_u64]; omega
  have hd0 : decide (m < 0) = false := by simp; omega
  have hd2 : decide (m < (x : Int)) = false := by simp; omega
  go_enter Tryd.func29, Tryd.ntmps29
  go_wp2_with fail
  refine (value_any _ l _ ((unhide HX).1.fr (box3 w _ _ _) (fun _ _ _ _ _ h => h)) (unhide HX).2).mono ?_
  rintro e w' ⟨rfl, rfl⟩
  rw [unhide HVX]
  go_wp2_with fail
  exact bodyPost_ret (v := .tuple #[rdV xo len xc ((place + 4 : Nat) : Int) place nm fw fa 0, .int .u64 x, .slice none 0 0]) (by simp [results, Tryd.results29, go_sem, rdV]) rfl ⟨rfl, box3 w _ _ _⟩
end Go.Proofs.YtikolmpgnpkdbaaDoor

namespace Go.Proofs.YtikolmpgnpkdbaaDoor
open Go.RowKit

set_option maxRecDepth 1000000 in
theorem gread_6_end (xo : Option Addr) (all : List Nat) (xc place : Nat) (last fa : Int) (nm fw s : ByteArray) (u : Nat) (n m : Int) (w : World) (hx : Src w (.slice xo all.length xc) all) (hlc : all.length ≤ xc) (hl : all.length ≤ 140737488355328) (hs : 4 + place ≤ all.length) (hm : m < 9223372036854775808) (hv : (val ((all.drop place).take 4) : Int) ≤ m) (hxl : all.length < val ((all.drop place).take 4) + (place + 4)) :
    Calls Tryd.prog 29 #[rdV xo all.length xc place last nm fw fa 0, .agg #[.int .i64 6, .int .u64 u, .string s, .int .i64 n, .int .i64 m]] w fun e w' => e = .returned (.tuple #[rdV xo all.length xc place last nm nm place 1, .int .u64 0, .slice none 0 0]) ∧ Fr (fun _ => False) w w' := by
  have hw : IntKind.i64.wrap ((all.length : Int) - place) = (all.length : Int) - place := by rw [IntKind.wrap_i64]; omega
  have hw3 : IntKind.i64.wrap ((all.length : Int) - place - 4) = (all.length : Int) - place - 4 := by rw [IntKind.wrap_i64]; omega
  have hw4 : IntKind.u64.wrap ((all.length : Int) - place - 4) = (all.length : Int) - place - 4 := by rw [IntKind.wrap_u64]; omega
  have hd : decide ((all.length : Int) - place < 4) = false := by simp; omega
  have hcut := cut_at (n := 4) hx hlc hs (by decide)
  have hlen : ((all.drop place).take 4).length ≤ 8 := by simp; omega
  generalize (all.drop place).take 4 = l at *
  have HX := hide (And.intro hcut hlen)
  clear hx hcut hlen
  generalize all.length = len at *
  generalize hvx : val l = x at *
  have HVX := hide hvx
  clear hvx
  unfold rdV
  have hw2 : IntKind.u64.wrap m = m := by rw [IntKind.wrap_u64]; omega
  have hd0 : decide (m < 0) = false := by simp; omega
  have hd2 : decide (m < (x : Int)) = false := by simp; omega
  have hd3 : decide ((len : Int) - place - 4 < x) = true := by simp; omega
  go_enter Tryd.func29, Tryd.ntmps29
  go_wp2_with fail
  refine (value_any _ l _ ((unhide HX).1.fr (box3 w _ _ _) (fun _ _ _ _ _ h => h)) (unhide HX).2).mono ?_
  rintro e w' ⟨rfl, rfl⟩
  rw [unhide HVX]
  go_wp2_with fail
  exact bodyPost_ret (v := .tuple #[rdV xo len xc place last nm nm place 1, .int .u64 0, .slice none 0 0]) (by simp [results, Tryd.results29, go_sem, rdV]) rfl ⟨rfl, box3 w _ _ _⟩

theorem make0 (x : Nat) (w : World) (hx : x ≤ 16777216) : ∃ w', (Instr.makeSlice 25 (.int .i64 0) (.int .i64 (x : Int))).run Tryd.prog w = .ok (.slice (some ⟨w.heap.size, 0, none⟩) 0 x) w' ∧ w'.ownsRow w.heap.size 5 1 (.slice (some ⟨w.heap.size, 0, none⟩) 0 x) 0 [] ∧ Fr (fun _ => False) w w' := by
  have hz' : (Tryd.prog.info? 5).bind (·.zero) = some (.int .u8 0) := by kernel_rfl
  have hs' : (Tryd.prog.info? 5).map (·.size) = some 1 := by kernel_rfl
  have hb' : (Tryd.prog.info? 5).map (·.bytes) = some 1 := by kernel_rfl
  obtain ⟨i, hi, hz⟩ := Option.bind_eq_some_iff.1 hz'
  rw [hi] at hs' hb'
  have hs : i.size = 1 := by simpa using hs'
  have hb : i.bytes = 1 := by simpa using hb'
  obtain ⟨w', hr, ho, hg⟩ := run_makeSlice_owned (P := Tryd.prog) w w.heap.size 25 5 i (.int .u8 0) 1 Tryd.underlying25 hi hz hs .i64 .i64 x (by omega) (by rw [hb]; omega) (by simp only [maxLen]; omega) (Nat.le_refl _)
  exact ⟨w', hr, ho, (Fr.refl _ _).grown hg (fun _ h => by cases h)⟩
/-- Seven cells of one block. -/
def C7 (w : World) (g : Nat) (a0 a1 a2 a3 a4 a5 a6 : Value) : Prop :=
  w.cell? ⟨g, 0, none⟩ = some a0 ∧ w.cell? ⟨g, 1, none⟩ = some a1 ∧ w.cell? ⟨g, 2, none⟩ = some a2 ∧ w.cell? ⟨g, 3, none⟩ = some a3 ∧ w.cell? ⟨g, 4, none⟩ = some a4 ∧ w.cell? ⟨g, 5, none⟩ = some a5 ∧ w.cell? ⟨g, 6, none⟩ = some a6 ∧ ∀ i, w.frozen? ⟨g, i, none⟩ = false
theorem C7.fr {w w' : World} {g : Nat} {a0 a1 a2 a3 a4 a5 a6 : Value} {S : Nat → Prop} (h : C7 w g a0 a1 a2 a3 a4 a5 a6) (hf : Fr S w w') (hS : ¬ S g) : C7 w' g a0 a1 a2 a3 a4 a5 a6 := by
  obtain ⟨h0, h1, h2, h3, h4, h5, h6, hz⟩ := h
  have hg : g < w.heap.size := lt_of_cell h0
  have key : ∀ {i : Nat} {v : Value}, w.cell? ⟨g, i, none⟩ = some v → w'.cell? ⟨g, i, none⟩ = some v := fun h => (hf.cell hg hS).trans h
  exact ⟨key h0, key h1, key h2, key h3, key h4, key h5, key h6, fun i => (hf.frozen hg hS).trans (hz i)⟩

theorem c7_new (w : World) (a0 a1 a2 a3 a4 a5 a6 : Value) (t : TypeId) : C7 (w.alloc (.cells #[a0, a1, a2, a3, a4, a5, a6] t)) w.heap.size a0 a1 a2 a3 a4 a5 a6 := by simp [C7]
theorem c7_first (w : World) (a0 a1 a2 a3 a4 a5 a6 : Value) (t : TypeId) (o2 o3 : Obj) : C7 (((w.alloc (.cells #[a0, a1, a2, a3, a4, a5, a6] t)).alloc o2).alloc o3) w.heap.size a0 a1 a2 a3 a4 a5 a6 := (c7_new w a0 a1 a2 a3 a4 a5 a6 t).fr (box2 _ o2 o3) (fun h => h)
theorem c7_third (w : World) (o1 o2 : Obj) (a0 a1 a2 a3 a4 a5 a6 : Value) (t : TypeId) : C7 (((w.alloc o1).alloc o2).alloc (.cells #[a0, a1, a2, a3, a4, a5, a6] t)) (w.heap.size + 1 + 1) a0 a1 a2 a3 a4 a5 a6 := by
  have h := c7_new ((w.alloc o1).alloc o2) a0 a1 a2 a3 a4 a5 a6 t
  have e : ((w.alloc o1).alloc o2).heap.size = w.heap.size + 1 + 1 := by simp
  rw [e] at h
  exact h

theorem set_step {w : World} {g j : Nat} {f : Nat → Value} {v : Value} (h : ∀ i, i < 7 → w.cell? ⟨g, i, none⟩ = some (f i)) (hj : j < 7) : ∀ i, i < 7 → (w.setCell ⟨g, j, none⟩ v).cell? ⟨g, i, none⟩ = some (if i = j then v else f i) := fun i hi => by
  by_cases e : i = j
  · subst e
    rw [World.cell?_setCell_same _ _ _ (h i hi), if_pos rfl]
  · rw [World.cell?_setCell_other _ _ _ _ (by intro h; injection h with _ h2 _; exact e h2.symm), h i hi, if_neg e]
theorem set7 {w : World} {g : Nat} {o0 o1 o2 o3 o4 o5 o6 : Value} (a0 a1 a2 a3 a4 a5 a6 : Value) (h : C7 w g o0 o1 o2 o3 o4 o5 o6) :
    C7 (((((((w.setCell ⟨g, 0, none⟩ a0).setCell ⟨g, 1, none⟩ a1).setCell ⟨g, 2, none⟩ a2).setCell ⟨g, 3, none⟩ a3).setCell ⟨g, 4, none⟩ a4).setCell ⟨g, 5, none⟩ a5).setCell ⟨g, 6, none⟩ a6) g a0 a1 a2 a3 a4 a5 a6 ∧
      Fr (fun k => k = g) w (((((((w.setCell ⟨g, 0, none⟩ a0).setCell ⟨g, 1, none⟩ a1).setCell ⟨g, 2, none⟩ a2).setCell ⟨g, 3, none⟩ a3).setCell ⟨g, 4, none⟩ a4).setCell ⟨g, 5, none⟩ a5).setCell ⟨g, 6, none⟩ a6) := by
  obtain ⟨h0, h1, h2, h3, h4, h5, h6, hz⟩ := h
  have k : ∀ i, i < 7 → w.cell? ⟨g, i, none⟩ = some ([o0, o1, o2, o3, o4, o5, o6].getD i .nilIface) := fun i hi => by
    match i, hi with
    | 0, _ => exact h0
    | 1, _ => exact h1
    | 2, _ => exact h2
    | 3, _ => exact h3
    | 4, _ => exact h4
    | 5, _ => exact h5
    | 6, _ => exact h6
  have q := set_step (v := a6) (j := 6) (set_step (v := a5) (j := 5) (set_step (v := a4) (j := 4) (set_step (v := a3) (j := 3) (set_step (v := a2) (j := 2) (set_step (v := a1) (j := 1) (set_step (v := a0) (j := 0) k (by decide)) (by decide)) (by decide)) (by decide)) (by decide)) (by decide)) (by decide)
  refine ⟨⟨q 0 (by decide), q 1 (by decide), q 2 (by decide), q 3 (by decide), q 4 (by decide), q 5 (by decide), q 6 (by decide), fun i => by simp only [World.frozen?_setCell]; exact hz i⟩, ?_⟩
  have s : ∀ {a b : World} {p : Addr} (v : Value), p.block = g → Fr (fun k => k = g) a b → Fr (fun k => k = g) a (b.setCell p v) := fun v hp hf => Fr.setCell hf (.inl hp) v
  exact s _ rfl (s _ rfl (s _ rfl (s _ rfl (s _ rfl (s _ rfl (s _ rfl (Fr.refl _ _)))))))

theorem rd_end {w w2 : World} {xo ao : Option Addr} {len xc place x ac : Nat} {nm fw : ByteArray} {fa : Int} {l2 : List Nat} {b0 b1 b2 b3 b4 b5 b6 : Value} (hC : C7 w2 (w.heap.size + 1 + 1) b0 b1 b2 b3 b4 b5 b6)
    (hO : Src w2 (.slice ao x ac) l2 ∧ ∀ g o m c, (Value.slice ao x ac) = .slice (some ⟨g, o, none⟩) m c → w.heap.size + 1 + 1 + 1 ≤ g) (hF0 : Fr (fun _ => False) w w2) :
    ∃ W9, W9 = (((((((((w2.setCell ⟨w.heap.size, 2, none⟩ (.int .i64 place)).setCell ⟨w.heap.size, 1, none⟩ (.int .i64 ((place : Int) + 4 + x))).setCell ⟨w.heap.size + 1 + 1, 0, none⟩ (.slice xo len xc)).setCell ⟨w.heap.size + 1 + 1, 1, none⟩ (.int .i64 ((place : Int) + 4 + x))).setCell ⟨w.heap.size + 1 + 1, 2, none⟩ (.int .i64 place)).setCell ⟨w.heap.size + 1 + 1, 3, none⟩ (.string nm)).setCell ⟨w.heap.size + 1 + 1, 4, none⟩ (.string fw)).setCell ⟨w.heap.size + 1 + 1, 5, none⟩ (.int .i64 fa)).setCell ⟨w.heap.size + 1 + 1, 6, none⟩ (.int .i64 0)) ∧
      W9.cell? ⟨w.heap.size + 1 + 1, 0, none⟩ = some (.slice xo len xc) ∧ W9.cell? ⟨w.heap.size + 1 + 1, 1, none⟩ = some (.int .i64 ((place : Int) + 4 + x)) ∧ W9.cell? ⟨w.heap.size + 1 + 1, 2, none⟩ = some (.int .i64 place) ∧ W9.cell? ⟨w.heap.size + 1 + 1, 3, none⟩ = some (.string nm) ∧ W9.cell? ⟨w.heap.size + 1 + 1, 4, none⟩ = some (.string fw) ∧ W9.cell? ⟨w.heap.size + 1 + 1, 5, none⟩ = some (.int .i64 fa) ∧ W9.cell? ⟨w.heap.size + 1 + 1, 6, none⟩ = some (.int .i64 0) ∧ Src W9 (.slice ao x ac) l2 ∧ Fr (fun _ => False) w W9 := by
  have hF : Fr (fun k => k = w.heap.size) w2 ((w2.setCell ⟨w.heap.size, 2, none⟩ (.int .i64 place)).setCell ⟨w.heap.size, 1, none⟩ (.int .i64 ((place : Int) + 4 + x))) := Fr.setCell (S := fun k => k = w.heap.size) (Fr.setCell (S := fun k => k = w.heap.size) (Fr.refl _ _) (.inl rfl) _) (.inl rfl) _
  obtain ⟨⟨q0, q1, q2, q3, q4, q5, q6, qz⟩, hF2⟩ := set7 (.slice xo len xc) (.int .i64 ((place : Int) + 4 + x)) (.int .i64 place) (.string nm) (.string fw) (.int .i64 fa) (.int .i64 0) (hC.fr hF (by show ¬ w.heap.size + 1 + 1 = w.heap.size; omega))
  refine ⟨_, rfl, q0, q1, q2, q3, q4, q5, q6, ?_, ?_⟩
  · exact (hO.1.fr hF (fun g o m c e h => by have h' : g = w.heap.size := h; have := hO.2 g o m c e; omega)).fr hF2 (fun g o m c e h => by have h' : g = w.heap.size + 1 + 1 := h; have := hO.2 g o m c e; omega)
  · exact (hF0.soak hF (fun i e => by have e' : i = w.heap.size := e; omega)).soak hF2 (fun i e => by have e' : i = w.heap.size + 1 + 1 := e; omega)

set_option maxRecDepth 1000000 in
set_option maxHeartbeats 1000000 in
theorem gread_6_ok (xo : Option Addr) (all : List Nat) (xc place : Nat) (last fa : Int) (nm fw s : ByteArray) (u : Nat) (n m : Int) (w : World) (hx : Src w (.slice xo all.length xc) all) (hlc : all.length ≤ xc) (hl : all.length ≤ 16777216) (hs : 4 + place ≤ all.length) (hm : m < 9223372036854775808) (hv : (val ((all.drop place).take 4) : Int) ≤ m) (hxl : val ((all.drop place).take 4) + (place + 4) ≤ all.length) :
    Calls Tryd.prog 29 #[rdV xo all.length xc place last nm fw fa 0, .agg #[.int .i64 6, .int .u64 u, .string s, .int .i64 n, .int .i64 m]] w fun e w' => ∃ v, e = .returned (.tuple #[rdV xo all.length xc ((place + 4 + val ((all.drop place).take 4) : Nat) : Int) place nm fw fa 0, .int .u64 0, v]) ∧ Src w' v ((all.drop (place + 4)).take (val ((all.drop place).take 4))) ∧ (∀ g o m c, v = .slice (some ⟨g, o, none⟩) m c → w.heap.size ≤ g) ∧ Fr (fun _ => False) w w' := by
  have hw : IntKind.i64.wrap ((all.length : Int) - place) = (all.length : Int) - place := by rw [IntKind.wrap_i64]; omega
  have hw3 : IntKind.i64.wrap ((all.length : Int) - place - 4) = (all.length : Int) - place - 4 := by rw [IntKind.wrap_i64]; omega
  have hw4 : IntKind.u64.wrap ((all.length : Int) - place - 4) = (all.length : Int) - place - 4 := by rw [IntKind.wrap_u64]; omega
  have hd : decide ((all.length : Int) - place < 4) = false := by simp; omega
  have hcut := cut_at (n := 4) hx hlc hs (by decide)
  have hcut2 := hx.cut (place + 4) (val ((all.drop place).take 4)) (by omega) hlc
  have hlen : ((all.drop place).take 4).length ≤ 8 := by simp; omega
  generalize (all.drop place).take 4 = l at *
  generalize hvx : val l = x at *
  have HX := hide (And.intro hcut (And.intro hlen (And.intro hcut2 hvx)))
  clear hx hcut hlen hcut2 hvx
  have hL2 : ((all.drop (place + 4)).take x).length = x := by simp; omega
  generalize (all.drop (place + 4)).take x = l2 at *
  have HL2 := hide hL2
  clear hL2
  generalize all.length = len at *
  unfold rdV
  have hw2 : IntKind.u64.wrap m = m := by rw [IntKind.wrap_u64]; omega
  have hw5 : IntKind.i64.wrap (x : Int) = (x : Int) := by rw [IntKind.wrap_i64]; omega
  have hd0 : decide (m < 0) = false := by simp; omega
  have hd2 : decide (m < (x : Int)) = false := by simp; omega
  have hd3 : decide ((len : Int) - place - 4 < x) = false := by simp; omega
  go_enter Tryd.func29, Tryd.ntmps29
  go_wp2_with fail
  refine (value_any _ l _ ((unhide HX).1.fr (box3 w _ _ _) (fun _ _ _ _ _ h => h)) (unhide HX).2.1).mono ?_
  rintro e w' ⟨rfl, rfl⟩
  rw [(unhide HX).2.2.2]
  obtain ⟨w3, hw3⟩ : ∃ w3, w3 = (((w.alloc (.cells #[.slice xo len xc, .int .i64 place, .int .i64 last, .string nm, .string fw, .int .i64 fa, .int .i64 0] 60)).alloc (.cells #[.int .i64 6, .int .u64 u, .string s, .int .i64 n, .int .i64 m] 31)).alloc (.cells #[.slice none 0 0, .int .i64 0, .int .i64 0, .string ⟨#[]⟩, .string ⟨#[]⟩, .int .i64 0, .int .i64 0] 60)) := ⟨_, rfl⟩
  have hb3 : Fr (fun _ => False) w w3 := by rw [hw3]; exact box3 w _ _ _
  have r3 : C7 w3 w.heap.size (.slice xo len xc) (.int .i64 place) (.int .i64 last) (.string nm) (.string fw) (.int .i64 fa) (.int .i64 0) := by rw [hw3]; exact c7_first _ _ _ _ _ _ _ _ _ _ _
  have v3 : C7 w3 (w.heap.size + 1 + 1) (.slice none 0 0) (.int .i64 0) (.int .i64 0) (.string ⟨#[]⟩) (.string ⟨#[]⟩) (.int .i64 0) (.int .i64 0) := by rw [hw3]; exact c7_third _ _ _ _ _ _ _ _ _ _ _
  have hz3 : w3.heap.size = w.heap.size + 1 + 1 + 1 := by rw [hw3]; simp
  obtain ⟨w1, hmk, ho1, hf1⟩ := make0 x w3 (by omega)
  have r1 := r3.fr hf1 (fun h => h)
  have hS := (((unhide HX).2.2.1.fr hb3 (fun _ _ _ _ _ h => h)).fr hf1 (fun _ _ _ _ _ h => h))
  obtain ⟨ao, ac, w2, hr2, ho2, hg2, _⟩ := run_app_sl w1 25 w3.heap.size 0 _ _ [] l2 ho1 hS (by rw [unhide HL2]; omega) hf1.size
  have hf2 : Fr (fun _ => False) w3 w2 := hf1.grown hg2 (fun g hg => .inr (ho1.lt g hg).1)
  have r2 := r3.fr hf2 (fun h => h)
  have v2 := v3.fr hf2 (fun h => h)
  rw [unhide HL2, Nat.zero_add] at hr2 ho2
  have hO : Src w2 (.slice ao x ac) l2 ∧ ∀ g o m c, (Value.slice ao x ac) = .slice (some ⟨g, o, none⟩) m c → w.heap.size + 1 + 1 + 1 ≤ g := by
    have hl := unhide HL2
    have ho2' : w2.ownsRow w3.heap.size 5 1 (.slice ao x ac) l2.length (cellsOf l2) := by rw [hl]; simpa using ho2
    exact ⟨own_src ho2', fun g o m c e => by have := (ho2'.lt g (by rw [e]; rfl)).1; omega⟩
  have HO := hide (And.intro hO (hb3.trans hf2 (fun _ _ h => h)))
  clear hO
  have HV := hide v2
  obtain ⟨a0, a1, a2, a3, a4, a5, a6, az⟩ := r1
  obtain ⟨e0, e1, e2, e3, e4, e5, e6, ez⟩ := r2
  obtain ⟨d0, d1, d2, d3, d4, d5, d6, dz⟩ := v2
  rw [hz3] at hmk hr2
  rw [hw3] at hmk
  have HR := hide hr2
  clear r3 v3 hf1 ho1 hS hg2 hb3 hf2 ho2 hr2 hz3 hw3
  have ez1 := ez 1
  have ez2 := ez 2
  clear az ez
  have ex : place + 4 + x - (place + 4) = x := by omega
  by_cases hcp : xc = place + 4
  · subst hcp
    have HR2 : Hid ((Builtin.append_ #[25, 25] 25 #[.slice (some ⟨w.heap.size + 1 + 1 + 1, 0, none⟩) 0 x, .slice xo (place + 4 + x - (place + 4)) (place + 4 - (place + 4))]).run Tryd.prog w1 = .ok (.slice ao x ac) w2) := hide (by have h := unhide HR; rw [if_pos rfl] at h; rw [ex]; exact h)
    clear HR ex
    go_wp2_with (at_builtin; refine wpList_app rfl (.tmp 155) (.tmp 167) 25 25 rfl _ _ _ rfl rfl (unhide HR2) ?_)
    obtain ⟨W9, hq, q0, q1, q2, q3, q4, q5, q6, hf9⟩ := rd_end (xo := xo) (len := len) (xc := place + 4) (place := place) (x := x) (nm := nm) (fw := fw) (fa := fa) (unhide HV) (unhide HO).1 (unhide HO).2
    rw [← hq]
    exact bodyPost_ret (v := .tuple #[rdV xo len (place + 4) ((place + 4 + x : Nat) : Int) place nm fw fa 0, .int .u64 0, .slice ao x ac]) (by simp [results, Tryd.results29, go_sem, rdV, q0, q1, q2, q3, q4, q5, q6]) rfl ⟨_, rfl, by simpa [unhide HL2] using hf9.1, fun g o m c e => by have := (unhide HO).1.2 g o m c e; omega, hf9.2⟩
  · have HR2 : Hid ((Builtin.append_ #[25, 25] 25 #[.slice (some ⟨w.heap.size + 1 + 1 + 1, 0, none⟩) 0 x, .slice (Option.map (fun x => x.add (place + 4)) xo) (place + 4 + x - (place + 4)) (xc - (place + 4))]).run Tryd.prog w1 = .ok (.slice ao x ac) w2) := hide (by have h := unhide HR; rw [if_neg hcp] at h; rw [ex]; exact h)
    clear HR ex
    go_wp2_with (at_builtin; refine wpList_app rfl (.tmp 155) (.tmp 167) 25 25 rfl _ _ _ rfl rfl (unhide HR2) ?_)
    obtain ⟨W9, hq, q0, q1, q2, q3, q4, q5, q6, hf9⟩ := rd_end (xo := xo) (len := len) (xc := xc) (place := place) (x := x) (nm := nm) (fw := fw) (fa := fa) (unhide HV) (unhide HO).1 (unhide HO).2
    rw [← hq]
    exact bodyPost_ret (v := .tuple #[rdV xo len xc ((place + 4 + x : Nat) : Int) place nm fw fa 0, .int .u64 0, .slice ao x ac]) (by simp [results, Tryd.results29, go_sem, rdV, q0, q1, q2, q3, q4, q5, q6]) rfl ⟨_, rfl, by simpa [unhide HL2] using hf9.1, fun g o m c e => by have := (unhide HO).1.2 g o m c e; omega, hf9.2⟩
end Go.Proofs.YtikolmpgnpkdbaaDoor

namespace Go.Proofs.YtikolmpgnpkdbaaDoor
open Go.RowKit

/-- The fault of the ref's reader. -/
def ftV (x : Option (ByteArray × Nat × Nat)) : ByteArray × Nat × Nat := match x with
  | none => (⟨#[]⟩, 0, 0)
  | some y => y
/-- A ref's reader that has q. -/
def Q.ref (q : Q) (xo : Option Addr) (xc last : Nat) : Value := rdV xo q.all.length xc q.at_ last q.nm (ftV q.f).1 ((ftV q.f).2.1 : Nat) ((ftV q.f).2.2 : Nat)

set_option maxRecDepth 1000000 in
theorem ended_trail (xo : Option Addr) (len xc place : Nat) (last fa : Int) (nm fw : ByteArray) (w : World) (h : place < len) :
    Calls Tryd.prog 30 #[rdV xo len xc place last nm fw fa 0] w fun e w' => e = .returned (.agg #[.string nm, .int .i64 place, .int .i64 3]) ∧ Fr (fun _ => False) w w' := by
  unfold rdV
  go_enter Tryd.func30, Tryd.ntmps30
  go_wp2_with fail
  exact bodyPost_ret (v := .agg #[.string nm, .int .i64 place, .int .i64 3]) (by simp [results, Tryd.results30, go_sem]) rfl ⟨rfl, box2 w _ _⟩
set_option maxRecDepth 1000000 in
theorem ended_end (xo : Option Addr) (len xc place : Nat) (last fa : Int) (nm fw : ByteArray) (w : World) (h : len ≤ place) :
    Calls Tryd.prog 30 #[rdV xo len xc place last nm fw fa 0] w fun e w' => e = .returned (.agg #[.string fw, .int .i64 fa, .int .i64 0]) ∧ Fr (fun _ => False) w w' := by
  unfold rdV
  go_enter Tryd.func30, Tryd.ntmps30
  go_wp2_with fail
  exact bodyPost_ret (v := .agg #[.string fw, .int .i64 fa, .int .i64 0]) (by simp [results, Tryd.results30, go_sem]) rfl ⟨rfl, box2 w _ _⟩
set_option maxRecDepth 1000000 in
theorem ended_given (xo : Option Addr) (len xc : Nat) (place last fa fy : Int) (nm fw : ByteArray) (w : World) (h : fy ≠ 0) :
    Calls Tryd.prog 30 #[rdV xo len xc place last nm fw fa fy] w fun e w' => e = .returned (.agg #[.string fw, .int .i64 fa, .int .i64 fy]) ∧ Fr (fun _ => False) w w' := by
  have hy : (fy == 0) = false := by simp [h]
  clear h
  unfold rdV
  go_enter Tryd.func30, Tryd.ntmps30
  go_wp2_with fail
  exact bodyPost_ret (v := .agg #[.string fw, .int .i64 fa, .int .i64 fy]) (by simp [results, Tryd.results30, go_sem]) rfl ⟨rfl, box2 w _ _⟩
/-- The fault that Done tells. -/
def Q.ended (q : Q) : ByteArray × Nat × Nat := if q.f = none ∧ q.place < q.all.length then (q.nm, q.place, 3) else ftV q.f
theorem ended_any (q : Q) (xo : Option Addr) (xc last : Nat) (w : World) (hq : q.ok) :
    Calls Tryd.prog 30 #[q.ref xo xc last] w fun e w' => e = .returned (.agg #[.string q.ended.1, .int .i64 (q.ended.2.1 : Nat), .int .i64 (q.ended.2.2 : Nat)]) ∧ Fr (fun _ => False) w w' := by
  obtain ⟨nm, all, place, part, f⟩ := q
  cases f with
  | none =>
    by_cases h : place < all.length
    · rw [Q.ended, if_pos ⟨rfl, h⟩]
      exact ended_trail xo all.length xc place last 0 nm ⟨#[]⟩ w h
    · rw [Q.ended, if_neg (fun x => h x.2)]
      exact ended_end xo all.length xc place last 0 nm ⟨#[]⟩ w (by omega)
  | some y =>
    have h1 := (hq.f y rfl).2.1
    rw [Q.ended, if_neg (fun x => by cases x.1)]
    exact ended_given xo all.length xc y.2.1 last y.2.1 y.2.2 nm y.1 w (by omega)

/-- The ref's Read is the step. -/
theorem gread_any (q : Q) (p : Pt) (xo : Option Addr) (xc last : Nat) (w : World) (hq : q.ok) (hx : Src w (.slice xo q.all.length xc) q.all) (hlc : q.all.length ≤ xc) (hl : q.all.length ≤ 16777216) (hk : p.k ∈ kinds) (h9 : p.k = 9 → 0 ≤ p.n ∧ p.n ≤ 7) (hm : p.m < 9223372036854775808) (hla : q.f = none → last = q.part) :
    Calls Tryd.prog 29 #[q.ref xo xc last, .agg #[.int .i64 p.k, .int .u64 p.u, .string p.s, .int .i64 p.n, .int .i64 p.m]] w fun e w' => ∃ last' v, e = .returned (.tuple #[(q.step p).1.ref xo xc last', .int .u64 (q.step p).2.1, v]) ∧ Src w' v (q.step p).2.2 ∧ (∀ g o m c, v = .slice (some ⟨g, o, none⟩) m c → w.heap.size ≤ g) ∧ ((q.step p).1.f = none → last' = (q.step p).1.part) ∧ Fr (fun _ => False) w w' := by
  obtain ⟨k, u, s, n, m⟩ := p
  obtain ⟨nm, all, place, part, f⟩ := q
  simp only at hx hlc hl hk h9 hm hla
  have hpl := hq.place
  simp only at hpl
  have src0 : ∀ w', Src w' (.slice none 0 0) [] := fun _ => .inl ⟨rfl, rfl⟩
  have loc0 : ∀ g o m c, (Value.slice none 0 0) = .slice (some ⟨g, o, none⟩) m c → w.heap.size ≤ g := fun _ _ _ _ h => by cases h
  by_cases h10 : k = 10
  · subst h10
    refine (gread_10 xo all.length xc _ last _ _ nm (ftV f).1 s u n m w).mono ?_
    rintro e w' ⟨rfl, hf⟩
    refine ⟨last, .slice none 0 0, ?_, src0 _, loc0, hla, hf⟩
    cases f <;> rfl
  cases f with
  | some y =>
    have h1 := (hq.f y rfl).2.1
    have es : Q.step ⟨nm, all, place, part, some y⟩ ⟨k, u, s, n, m⟩ = (⟨nm, all, place, part, some y⟩, 0, []) := by simp [Q.step, h10]
    rw [es]
    refine (gread_given xo all.length xc y.2.1 last y.2.1 y.2.2 nm y.1 s k u n m w h10 (by omega)).mono ?_
    rintro e w' ⟨rfl, hf⟩
    exact ⟨last, .slice none 0 0, rfl, src0 _, loc0, (fun h => by cases h), hf⟩
  | none =>
    obtain rfl := hla rfl
    have fin : ∀ (q2 : Q) (v : Nat), q2.f = none → q2.part = place → ∀ (e : Ending) (w' : World), (e = .returned (.tuple #[q2.ref xo xc place, .int .u64 v, .slice none 0 0]) ∧ Fr (fun _ => False) w w') → ∃ last' v', e = .returned (.tuple #[q2.ref xo xc last', .int .u64 v, v']) ∧ Src w' v' [] ∧ (∀ g o m c, v' = .slice (some ⟨g, o, none⟩) m c → w.heap.size ≤ g) ∧ (q2.f = none → last' = q2.part) ∧ Fr (fun _ => False) w w' :=
      fun q2 v h1 h2 e w' ⟨he, hf⟩ => ⟨place, _, he, src0 _, loc0, fun _ => h2.symm, hf⟩
    have bad : ∀ (q2 : Q), q2.f ≠ none → ∀ (e : Ending) (w' : World), (e = .returned (.tuple #[q2.ref xo xc last, .int .u64 0, .slice none 0 0]) ∧ Fr (fun _ => False) w w') → ∃ last' v', e = .returned (.tuple #[q2.ref xo xc last', .int .u64 (0 : Nat), v']) ∧ Src w' v' [] ∧ (∀ g o m c, v' = .slice (some ⟨g, o, none⟩) m c → w.heap.size ≤ g) ∧ (q2.f = none → last' = q2.part) ∧ Fr (fun _ => False) w w' :=
      fun q2 h1 e w' ⟨he, hf⟩ => ⟨last, _, he, src0 _, loc0, fun h => absurd h h1, hf⟩
    by_cases hk9 : k = 9
    · subst hk9
      by_cases hn : n = 0
      · subst hn
        have es : Q.step ⟨nm, all, place, last, none⟩ ⟨9, u, s, 0, m⟩ = (⟨nm, all, place, last, none⟩, 0, []) := by simp [Q.step]
        rw [es]
        refine (gread_9z xo all.length xc place last 0 nm ⟨#[]⟩ s u m w).mono ?_
        rintro e w' ⟨rfl, hf⟩
        exact ⟨last, _, rfl, src0 _, loc0, fun _ => rfl, hf⟩
      · have es : Q.step ⟨nm, all, place, last, none⟩ ⟨9, u, s, n, m⟩ = (⟨nm, all, place, last, some (nm, last, n.toNat)⟩, 0, []) := by simp [Q.step, hn]
        rw [es]
        obtain ⟨n', rfl⟩ := Int.eq_ofNat_of_zero_le (h9 rfl).1
        rw [Int.toNat_natCast]
        exact (gread_9 xo all.length xc place last 0 nm ⟨#[]⟩ s u n' m w hn).mono (bad ⟨nm, all, place, last, some (nm, last, n')⟩ (by simp))
    simp only [kinds, List.mem_cons, List.not_mem_nil, or_false] at hk
    have hk' : k = 1 ∨ k = 2 ∨ k = 4 ∨ k = 8 ∨ k = 5 ∨ k = 6 ∨ k = 7 := by omega
    clear hk h9 h10 hk9
    rcases hk' with rfl | rfl | rfl | rfl | rfl | rfl | rfl
    · by_cases hs : all.length < 1 + place
      · have es : Q.step ⟨nm, all, place, last, none⟩ ⟨1, u, s, n, m⟩ = (⟨nm, all, place, last, some (nm, place, 1)⟩, 0, []) := by simp [Q.step, wid, Q.fail, hs]
        rw [es]
        exact (gread_1_short xo all.length xc place last 0 nm ⟨#[]⟩ s u n m w hpl hs).mono (bad ⟨nm, all, place, last, some (nm, place, 1)⟩ (by simp))
      · have es : Q.step ⟨nm, all, place, last, none⟩ ⟨1, u, s, n, m⟩ = (⟨nm, all, place + 1, place, none⟩, val ((all.drop place).take 1), []) := by simp [Q.step, wid, Q.num, hs]
        rw [es]
        exact (gread_1_ok xo all xc place last 0 nm ⟨#[]⟩ s u n m w hx hlc (by omega) (by omega)).mono (fin ⟨nm, all, place + 1, place, none⟩ _ rfl rfl)
    · by_cases hs : all.length < 2 + place
      · have es : Q.step ⟨nm, all, place, last, none⟩ ⟨2, u, s, n, m⟩ = (⟨nm, all, place, last, some (nm, place, 1)⟩, 0, []) := by simp [Q.step, wid, Q.fail, hs]
        rw [es]
        exact (gread_2_short xo all.length xc place last 0 nm ⟨#[]⟩ s u n m w hpl hs).mono (bad ⟨nm, all, place, last, some (nm, place, 1)⟩ (by simp))
      · have es : Q.step ⟨nm, all, place, last, none⟩ ⟨2, u, s, n, m⟩ = (⟨nm, all, place + 2, place, none⟩, val ((all.drop place).take 2), []) := by simp [Q.step, wid, Q.num, hs]
        rw [es]
        exact (gread_2_ok xo all xc place last 0 nm ⟨#[]⟩ s u n m w hx hlc (by omega) (by omega)).mono (fin ⟨nm, all, place + 2, place, none⟩ _ rfl rfl)
    · by_cases hs : all.length < 4 + place
      · have es : Q.step ⟨nm, all, place, last, none⟩ ⟨4, u, s, n, m⟩ = (⟨nm, all, place, last, some (nm, place, 1)⟩, 0, []) := by simp [Q.step, wid, Q.fail, hs]
        rw [es]
        exact (gread_4_short xo all.length xc place last 0 nm ⟨#[]⟩ s u n m w hpl hs).mono (bad ⟨nm, all, place, last, some (nm, place, 1)⟩ (by simp))
      · have es : Q.step ⟨nm, all, place, last, none⟩ ⟨4, u, s, n, m⟩ = (⟨nm, all, place + 4, place, none⟩, val ((all.drop place).take 4), []) := by simp [Q.step, wid, Q.num, hs]
        rw [es]
        exact (gread_4_ok xo all xc place last 0 nm ⟨#[]⟩ s u n m w hx hlc (by omega) (by omega)).mono (fin ⟨nm, all, place + 4, place, none⟩ _ rfl rfl)
    · by_cases hs : all.length < 8 + place
      · have es : Q.step ⟨nm, all, place, last, none⟩ ⟨8, u, s, n, m⟩ = (⟨nm, all, place, last, some (nm, place, 1)⟩, 0, []) := by simp [Q.step, wid, Q.fail, hs]
        rw [es]
        exact (gread_8_short xo all.length xc place last 0 nm ⟨#[]⟩ s u n m w hpl hs).mono (bad ⟨nm, all, place, last, some (nm, place, 1)⟩ (by simp))
      · have es : Q.step ⟨nm, all, place, last, none⟩ ⟨8, u, s, n, m⟩ = (⟨nm, all, place + 8, place, none⟩, val ((all.drop place).take 8), []) := by simp [Q.step, wid, Q.num, hs]
        rw [es]
        exact (gread_8_ok xo all xc place last 0 nm ⟨#[]⟩ s u n m w hx hlc (by omega) (by omega)).mono (fin ⟨nm, all, place + 8, place, none⟩ _ rfl rfl)
    · by_cases hs : all.length < 4 + place
      · have es : Q.step ⟨nm, all, place, last, none⟩ ⟨5, u, s, n, m⟩ = (⟨nm, all, place, last, some (nm, place, 1)⟩, 0, []) := by simp [Q.step, wid, Q.fail, hs]
        rw [es]
        exact (gread_5_short xo all.length xc place last 0 nm ⟨#[]⟩ s u n m w hpl hs).mono (bad ⟨nm, all, place, last, some (nm, place, 1)⟩ (by simp))
      cases hqb : quantB (val ((all.drop place).take 4)) with
      | false =>
        have es : Q.step ⟨nm, all, place, last, none⟩ ⟨5, u, s, n, m⟩ = (⟨nm, all, place, last, some (nm, place, 4)⟩, 0, []) := by simp [Q.step, wid, Q.fail, Q.num, hs, hqb]
        rw [es]
        exact (gread_5_bad xo all xc place last 0 nm ⟨#[]⟩ s u n m w hx hlc (by omega) (by omega) hqb).mono (bad ⟨nm, all, place, last, some (nm, place, 4)⟩ (by simp))
      | true =>
        have es : Q.step ⟨nm, all, place, last, none⟩ ⟨5, u, s, n, m⟩ = (⟨nm, all, place + 4, place, none⟩, val ((all.drop place).take 4), []) := by simp [Q.step, wid, Q.num, hs, hqb]
        rw [es]
        exact (gread_5_ok xo all xc place last 0 nm ⟨#[]⟩ s u n m w hx hlc (by omega) (by omega) hqb).mono (fin ⟨nm, all, place + 4, place, none⟩ _ rfl rfl)
    · by_cases hs : all.length < 4 + place
      · have es : Q.step ⟨nm, all, place, last, none⟩ ⟨6, u, s, n, m⟩ = (⟨nm, all, place, last, some (nm, place, 1)⟩, 0, []) := by simp [Q.step, wid, Q.fail, hs]
        rw [es]
        exact (gread_6_short xo all.length xc place last 0 nm ⟨#[]⟩ s u n m w hpl hs).mono (bad ⟨nm, all, place, last, some (nm, place, 1)⟩ (by simp))
      by_cases hv : m < (val ((all.drop place).take 4) : Int)
      · have es : Q.step ⟨nm, all, place, last, none⟩ ⟨6, u, s, n, m⟩ = (⟨nm, all, place, last, some (nm, place, 2)⟩, 0, []) := by simp [Q.step, wid, Q.fail, Q.num, hs, hv]
        rw [es]
        exact (gread_6_long xo all xc place last 0 nm ⟨#[]⟩ s u n m w hx hlc (by omega) (by omega) hm hv).mono (bad ⟨nm, all, place, last, some (nm, place, 2)⟩ (by simp))
      by_cases hxl : all.length < val ((all.drop place).take 4) + (place + 4)
      · have es : Q.step ⟨nm, all, place, last, none⟩ ⟨6, u, s, n, m⟩ = (⟨nm, all, place, last, some (nm, place, 1)⟩, 0, []) := by simp [Q.step, wid, Q.fail, Q.num, hs, hv, hxl]
        rw [es]
        exact (gread_6_end xo all xc place last 0 nm ⟨#[]⟩ s u n m w hx hlc (by omega) (by omega) hm (by omega) hxl).mono (bad ⟨nm, all, place, last, some (nm, place, 1)⟩ (by simp))
      · have es : Q.step ⟨nm, all, place, last, none⟩ ⟨6, u, s, n, m⟩ = (⟨nm, all, place + 4 + val ((all.drop place).take 4), place, none⟩, 0, (all.drop (place + 4)).take (val ((all.drop place).take 4))) := by simp [Q.step, wid, Q.num, hs, hv, hxl]
        rw [es]
        refine (gread_6_ok xo all xc place last 0 nm ⟨#[]⟩ s u n m w hx hlc hl (by omega) hm (by omega) (by omega)).mono ?_
        rintro e w' ⟨v, rfl, hsv, hlo, hf⟩
        exact ⟨place, v, rfl, hsv, hlo, fun _ => rfl, hf⟩
    · by_cases hs : all.length < 4 + place
      · have es : Q.step ⟨nm, all, place, last, none⟩ ⟨7, u, s, n, m⟩ = (⟨nm, all, place, last, some (nm, place, 1)⟩, 0, []) := by simp [Q.step, wid, Q.fail, hs]
        rw [es]
        exact (gread_7_short xo all.length xc place last 0 nm ⟨#[]⟩ s u n m w hpl hs).mono (bad ⟨nm, all, place, last, some (nm, place, 1)⟩ (by simp))
      by_cases hv : m < (val ((all.drop place).take 4) : Int)
      · have es : Q.step ⟨nm, all, place, last, none⟩ ⟨7, u, s, n, m⟩ = (⟨nm, all, place, last, some (nm, place, 2)⟩, 0, []) := by simp [Q.step, wid, Q.fail, Q.num, hs, hv]
        rw [es]
        exact (gread_7_long xo all xc place last 0 nm ⟨#[]⟩ s u n m w hx hlc (by omega) (by omega) hm hv).mono (bad ⟨nm, all, place, last, some (nm, place, 2)⟩ (by simp))
      · have es : Q.step ⟨nm, all, place, last, none⟩ ⟨7, u, s, n, m⟩ = (⟨nm, all, place + 4, place, none⟩, val ((all.drop place).take 4), []) := by simp [Q.step, wid, Q.num, hs, hv]
        rw [es]
        exact (gread_7_ok xo all xc place last 0 nm ⟨#[]⟩ s u n m w hx hlc (by omega) (by omega) hm (by omega)).mono (fin ⟨nm, all, place + 4, place, none⟩ _ rfl rfl)
end Go.Proofs.YtikolmpgnpkdbaaDoor

namespace Go.Proofs.YtikolmpgnpkdbaaDoor
open Go.RowKit

theorem norm_of_strOf {l l' : List Nat} (h : strOf l = strOf l') : norm l = norm l' := by
  have h1 : (l.map UInt8.ofNat).toArray = (l'.map UInt8.ofNat).toArray := by
    have := congrArg ByteArray.data h
    exact this
  have h2 : l.map UInt8.ofNat = l'.map UInt8.ofNat := by simpa using congrArg Array.toList h1
  have h3 := congrArg (List.map UInt8.toNat) h2
  simpa [norm, List.map_map, Function.comp_def, UInt8.toNat_ofNat'] using h3
theorem Q.rst_none {q : Q} {E : Nat → Addr} (h : q.f = none) : (q.rst E).f = none := by simp [Q.rst, h]
theorem Q.rst_some {q : Q} {E : Nat → Addr} (h : q.f ≠ none) : (q.rst E).f ≠ none := by
  simp only [Q.rst, ne_eq, Option.map_eq_none_iff]; exact h
theorem Ch.of_fr {w w' : World} {b : Nat} {F : Nat → Prop} (h : Fr (fun k => k = b) w w') (hb : F b) : Ch w w' F F := ⟨h.mono (fun _ _ e => by rw [e]; exact hb), fun _ hk => .inl hk⟩

/-- The reader is the step. -/
theorem read_any (q : Q) (p : Pt) (b : Nat) (F : Nat → Prop) (E : Nat → Addr) (w : World) (hg : G7 w E) (h : R w b F (q.rst E)) (hk : p.k ∈ kinds) (h9 : p.k = 9 → 0 ≤ p.n ∧ p.n ≤ 7) (hm : p.m < 9223372036854775808) (hal : q.all.length ≤ 140737488355328) :
    Calls Tryd.prog 16 #[.pointer (some ⟨b, 0, none⟩), .agg #[.int .i64 p.k, .int .u64 p.u, .string p.s, .int .i64 p.n, .int .i64 p.m]] w fun e w' => ∃ c l', e = .returned (.tuple #[.int .u64 (q.step p).2.1, c]) ∧ Src w' c l' ∧ norm l' = norm (q.step p).2.2 ∧ ∃ F', R w' b F' ((q.step p).1.rst E) ∧ Ch w w' F F' := by
  obtain ⟨k, u, s, n, m⟩ := p
  obtain ⟨nm, all, place, part, f⟩ := q
  simp only at hk h9 hm hal
  have src0 : ∀ w', Src w' (.slice none 0 0) [] := fun _ => .inl ⟨rfl, rfl⟩
  have hfb := h.fb
  have zero : ∀ (s' : Rst) (e : Ending) (w' : World), (∃ c, e = .returned (.tuple #[.int .u64 0, c]) ∧ Src w' c [] ∧ ∃ F', R w' b F' s' ∧ Ch w w' F F') → ∃ c l', e = .returned (.tuple #[.int .u64 (0 : Nat), c]) ∧ Src w' c l' ∧ norm l' = norm [] ∧ ∃ F', R w' b F' s' ∧ Ch w w' F F' :=
    fun s' e w' ⟨c, he, hs, hx⟩ => ⟨c, [], he, hs, rfl, hx⟩
  have one : ∀ (v : Nat) (s' : Rst) (e : Ending) (w' : World), (e = .returned (.tuple #[.int .u64 v, .slice none 0 0]) ∧ R w' b F s' ∧ Fr (fun k => k = b) w w') → ∃ c l', e = .returned (.tuple #[.int .u64 v, c]) ∧ Src w' c l' ∧ norm l' = norm [] ∧ ∃ F', R w' b F' s' ∧ Ch w w' F F' :=
    fun v s' e w' ⟨he, hR, hf⟩ => ⟨_, [], he, src0 _, rfl, F, hR, Ch.of_fr hf hfb⟩
  by_cases h10 : k = 10
  · subst h10
    have es : Q.step ⟨nm, all, place, part, f⟩ ⟨10, u, s, n, m⟩ = (⟨s, all, place, part, f⟩, 0, []) := by simp [Q.step]
    rw [es]
    cases f with
    | none => exact (rd10_ok b u s n m F _ w h rfl).mono (one 0 _)
    | some y => exact (rd10_given b u s n m F _ w h (by simp [Q.rst])).mono (one 0 _)
  by_cases hk9 : k = 9
  · subst hk9
    obtain ⟨n', rfl⟩ := Int.eq_ofNat_of_zero_le (h9 rfl).1
    have h7 := (h9 rfl).2
    have es : (Q.step ⟨nm, all, place, part, f⟩ ⟨9, u, s, (n' : Int), m⟩).2 = (0, []) ∧ (Q.step ⟨nm, all, place, part, f⟩ ⟨9, u, s, (n' : Int), m⟩).1.rst E = (Q.rst ⟨nm, all, place, part, f⟩ E).failN E n' := by
      cases f with
      | none =>
        by_cases h0 : n' = 0
        · subst h0; simp [Q.step, Rst.failN]
        · have h0' : ¬ (n' : Int) = 0 := by omega
          simp [Q.step, Rst.failN, h0, Q.rst]
      | some y => simp [Q.step, Rst.failN, Q.rst]
    rw [es.1, es.2]
    exact (rd9_any b u n' s m F _ E w (by omega) hg h).mono (zero _)
  simp only [kinds, List.mem_cons, List.not_mem_nil, or_false] at hk
  have hk' : k = 1 ∨ k = 2 ∨ k = 4 ∨ k = 8 ∨ k = 5 ∨ k = 6 ∨ k = 7 := by omega
  clear hk h9 hk9
  cases f with
  | some y =>
    have hs : (Q.rst ⟨nm, all, place, part, some y⟩ E).f ≠ none := by simp [Q.rst]
    have es : Q.step ⟨nm, all, place, part, some y⟩ ⟨k, u, s, n, m⟩ = (⟨nm, all, place, part, some y⟩, 0, []) := by simp [Q.step, h10]
    rw [es]
    clear es h10
    rcases hk' with rfl | rfl | rfl | rfl | rfl | rfl | rfl
    · exact (rd1_zero b u s n m F _ _ w h (fun wk _ hR => rU8_given b F _ wk hR hs)).mono (zero _)
    · exact (rd2_zero b u s n m F _ _ w h (fun wk _ hR => rU16_given b F _ wk hR hs)).mono (zero _)
    · exact (rd4_zero b u s n m F _ _ w h (fun wk _ hR => rU32_given b F _ wk hR hs)).mono (zero _)
    · exact (rd8_zero b u s n m F _ _ w h (fun wk _ hR => rU64_given b F _ wk hR hs)).mono (zero _)
    · exact (rd5_zero b u s n m F _ _ w h (fun wk _ hR => rF32_given b F _ wk hR hs)).mono (zero _)
    · cases hp : (n.tmod 2 == 0) with
      | true => exact (rd6t_zero b u s n m F _ _ w hp h (fun wk _ hR => rText_given b m F _ wk hR hs)).mono (zero _)
      | false => exact (rd6b_zero b u s n m F _ _ w hp h (fun wk _ hR => rBytes_given b m F _ wk hR hs)).mono (zero _)
    · exact (rd7_zero b u s n m F _ _ w h (fun wk _ hR => rCount_given b m F _ wk hR hs)).mono (zero _)
  | none =>
    have hs : (Q.rst ⟨nm, all, place, part, none⟩ E).f = none := rfl
    have hgl : ∀ wk, Fr (fun _ => False) w wk → Gl wk E := fun wk hf => hg.gl.fr0 hf
    have hrg : ∀ wk, Fr (fun _ => False) w wk → Rg wk (E 4) := fun wk hf => hg.e4.fr0 hf
    clear h10
    rcases hk' with rfl | rfl | rfl | rfl | rfl | rfl | rfl
    · by_cases hl : all.length < 1 + place
      · have es : Q.step ⟨nm, all, place, part, none⟩ ⟨1, u, s, n, m⟩ = (⟨nm, all, place, part, some (nm, place, 1)⟩, 0, []) := by simp [Q.step, wid, Q.fail, hl]
        rw [es]
        exact (rd1_zero b u s n m F _ _ w h (fun wk hf hR => rU8_bad b F _ E wk (hgl wk hf) hR hs hl)).mono (zero _)
      · have es : Q.step ⟨nm, all, place, part, none⟩ ⟨1, u, s, n, m⟩ = (⟨nm, all, place + 1, place, none⟩, val ((all.drop place).take 1), []) := by simp [Q.step, wid, Q.num, hl]
        rw [es]
        exact (rd1_ok b u s n m F _ E w hg.gl h hs (by show 1 + place ≤ all.length; omega)).mono (one _ _)
    · by_cases hl : all.length < 2 + place
      · have es : Q.step ⟨nm, all, place, part, none⟩ ⟨2, u, s, n, m⟩ = (⟨nm, all, place, part, some (nm, place, 1)⟩, 0, []) := by simp [Q.step, wid, Q.fail, hl]
        rw [es]
        exact (rd2_zero b u s n m F _ _ w h (fun wk hf hR => rU16_bad b F _ E wk (hgl wk hf) hR hs hl)).mono (zero _)
      · have es : Q.step ⟨nm, all, place, part, none⟩ ⟨2, u, s, n, m⟩ = (⟨nm, all, place + 2, place, none⟩, val ((all.drop place).take 2), []) := by simp [Q.step, wid, Q.num, hl]
        rw [es]
        exact (rd2_ok b u s n m F _ E w hg.gl h hs (by show 2 + place ≤ all.length; omega)).mono (one _ _)
    · by_cases hl : all.length < 4 + place
      · have es : Q.step ⟨nm, all, place, part, none⟩ ⟨4, u, s, n, m⟩ = (⟨nm, all, place, part, some (nm, place, 1)⟩, 0, []) := by simp [Q.step, wid, Q.fail, hl]
        rw [es]
        exact (rd4_zero b u s n m F _ _ w h (fun wk hf hR => rU32_bad b F _ E wk (hgl wk hf) hR hs hl)).mono (zero _)
      · have es : Q.step ⟨nm, all, place, part, none⟩ ⟨4, u, s, n, m⟩ = (⟨nm, all, place + 4, place, none⟩, val ((all.drop place).take 4), []) := by simp [Q.step, wid, Q.num, hl]
        rw [es]
        exact (rd4_ok b u s n m F _ E w hg.gl h hs (by show 4 + place ≤ all.length; omega)).mono (one _ _)
    · by_cases hl : all.length < 8 + place
      · have es : Q.step ⟨nm, all, place, part, none⟩ ⟨8, u, s, n, m⟩ = (⟨nm, all, place, part, some (nm, place, 1)⟩, 0, []) := by simp [Q.step, wid, Q.fail, hl]
        rw [es]
        exact (rd8_zero b u s n m F _ _ w h (fun wk hf hR => rU64_bad b F _ E wk (hgl wk hf) hR hs hl)).mono (zero _)
      · have es : Q.step ⟨nm, all, place, part, none⟩ ⟨8, u, s, n, m⟩ = (⟨nm, all, place + 8, place, none⟩, val ((all.drop place).take 8), []) := by simp [Q.step, wid, Q.num, hl]
        rw [es]
        exact (rd8_ok b u s n m F _ E w hg.gl h hs (by show 8 + place ≤ all.length; omega)).mono (one _ _)
    · by_cases hl : all.length < 4 + place
      · have es : Q.step ⟨nm, all, place, part, none⟩ ⟨5, u, s, n, m⟩ = (⟨nm, all, place, part, some (nm, place, 1)⟩, 0, []) := by simp [Q.step, wid, Q.fail, hl]
        rw [es]
        exact (rd5_zero b u s n m F _ _ w h (fun wk hf hR => rF32_short b F _ E wk (hgl wk hf) hR hs hl)).mono (zero _)
      cases hqb : quantB (val ((all.drop place).take 4)) with
      | false =>
        have es : Q.step ⟨nm, all, place, part, none⟩ ⟨5, u, s, n, m⟩ = (⟨nm, all, place, part, some (nm, place, 4)⟩, 0, []) := by simp [Q.step, wid, Q.fail, Q.num, hl, hqb]
        rw [es]
        exact (rd5_zero b u s n m F _ _ w h (fun wk hf hR => rF32_bad b F _ E (E 4) wk (hgl wk hf) (hrg wk hf) hR hs (by show 4 + place ≤ all.length; omega) hqb)).mono (zero _)
      | true =>
        have es : Q.step ⟨nm, all, place, part, none⟩ ⟨5, u, s, n, m⟩ = (⟨nm, all, place + 4, place, none⟩, val ((all.drop place).take 4), []) := by simp [Q.step, wid, Q.num, hl, hqb]
        rw [es]
        exact (rd5_ok b u s n m F _ E (E 4) w hg.gl hg.e4 h hs (by show 4 + place ≤ all.length; omega) hqb).mono (one _ _)
    · by_cases hl : all.length < 4 + place
      · have es : Q.step ⟨nm, all, place, part, none⟩ ⟨6, u, s, n, m⟩ = (⟨nm, all, place, part, some (nm, place, 1)⟩, 0, []) := by simp [Q.step, wid, Q.fail, hl]
        rw [es]
        cases hp : (n.tmod 2 == 0) with
        | true => exact (rd6t_zero b u s n m F _ _ w hp h (fun wk hf hR => rText_bad b m F _ E (E 1) wk (.inl ⟨hl, rfl⟩) hm (hgl wk hf) hR hs)).mono (zero _)
        | false => exact (rd6b_zero b u s n m F _ _ w hp h (fun wk hf hR => rBytes_bad b m F _ E (E 1) wk (.inl ⟨hl, rfl⟩) hm (hgl wk hf) hR hs)).mono (zero _)
      by_cases hv : m < (val ((all.drop place).take 4) : Int)
      · have es : Q.step ⟨nm, all, place, part, none⟩ ⟨6, u, s, n, m⟩ = (⟨nm, all, place, part, some (nm, place, 2)⟩, 0, []) := by simp [Q.step, wid, Q.fail, Q.num, hl, hv]
        rw [es]
        cases hp : (n.tmod 2 == 0) with
        | true => exact (rd6t_zero b u s n m F _ _ w hp h (fun wk hf hR => rText_bad b m F _ E (E 2) wk (.inr ⟨by show 4 + place ≤ all.length; omega, hv, rfl⟩) hm (hgl wk hf) hR hs)).mono (zero _)
        | false => exact (rd6b_zero b u s n m F _ _ w hp h (fun wk hf hR => rBytes_bad b m F _ E (E 2) wk (.inr ⟨by show 4 + place ≤ all.length; omega, hv, rfl⟩) hm (hgl wk hf) hR hs)).mono (zero _)
      by_cases hxl : all.length < val ((all.drop place).take 4) + (place + 4)
      · have es : Q.step ⟨nm, all, place, part, none⟩ ⟨6, u, s, n, m⟩ = (⟨nm, all, place, part, some (nm, place, 1)⟩, 0, []) := by simp [Q.step, wid, Q.fail, Q.num, hl, hv, hxl]
        rw [es]
        cases hp : (n.tmod 2 == 0) with
        | true => exact (rd6t_zero b u s n m F _ _ w hp h (fun wk hf hR => rText_cut b _ m F _ E wk hm (hgl wk hf) hR hs rfl (by show 4 + place ≤ all.length; omega) (by show (val ((all.drop place).take 4) : Int) ≤ m; omega) hxl)).mono (zero _)
        | false => exact (rd6b_zero b u s n m F _ _ w hp h (fun wk hf hR => rBytes_cut b _ m F _ E wk hm (hgl wk hf) hR hs rfl (by show 4 + place ≤ all.length; omega) (by show (val ((all.drop place).take 4) : Int) ≤ m; omega) hxl)).mono (zero _)
      · have es : Q.step ⟨nm, all, place, part, none⟩ ⟨6, u, s, n, m⟩ = (⟨nm, all, place + 4 + val ((all.drop place).take 4), place, none⟩, 0, (all.drop (place + 4)).take (val ((all.drop place).take 4))) := by simp [Q.step, wid, Q.num, hl, hv, hxl]
        rw [es]
        cases hp : (n.tmod 2 == 0) with
        | true =>
          refine (rd6t_ok b u (val ((all.drop place).take 4)) s n m F _ E w hp hm hg.gl h hs rfl (by show 4 + place ≤ all.length; omega) (by omega) (by show val ((all.drop place).take 4) + (place + 4) ≤ all.length; omega)).mono ?_
          rintro e w' ⟨c, l', he, hsv, hst, hR, hf⟩
          exact ⟨c, l', he, hsv, norm_of_strOf hst, F, hR, Ch.of_fr hf hfb⟩
        | false =>
          refine (rd6b_ok b u (val ((all.drop place).take 4)) s n m F _ E w hp hm hg.gl h hs rfl (by show 4 + place ≤ all.length; omega) (by omega) (by show val ((all.drop place).take 4) + (place + 4) ≤ all.length; omega) hal).mono ?_
          rintro e w' ⟨c, l', he, hsv, hst, hR, hf⟩
          exact ⟨c, l', he, hsv, norm_of_strOf hst, F, hR, Ch.of_fr hf hfb⟩
    · by_cases hl : all.length < 4 + place
      · have es : Q.step ⟨nm, all, place, part, none⟩ ⟨7, u, s, n, m⟩ = (⟨nm, all, place, part, some (nm, place, 1)⟩, 0, []) := by simp [Q.step, wid, Q.fail, hl]
        rw [es]
        exact (rd7_zero b u s n m F _ _ w h (fun wk hf hR => rCount_bad b m F _ E (E 1) wk (.inl ⟨hl, rfl⟩) hm (hgl wk hf) hR hs)).mono (zero _)
      by_cases hv : m < (val ((all.drop place).take 4) : Int)
      · have es : Q.step ⟨nm, all, place, part, none⟩ ⟨7, u, s, n, m⟩ = (⟨nm, all, place, part, some (nm, place, 2)⟩, 0, []) := by simp [Q.step, wid, Q.fail, Q.num, hl, hv]
        rw [es]
        exact (rd7_zero b u s n m F _ _ w h (fun wk hf hR => rCount_bad b m F _ E (E 2) wk (.inr ⟨by show 4 + place ≤ all.length; omega, hv, rfl⟩) hm (hgl wk hf) hR hs)).mono (zero _)
      · have es : Q.step ⟨nm, all, place, part, none⟩ ⟨7, u, s, n, m⟩ = (⟨nm, all, place + 4, place, none⟩, val ((all.drop place).take 4), []) := by simp [Q.step, wid, Q.num, hl, hv]
        rw [es]
        exact (rd7_ok b u s n m F _ E w hm hg.gl h hs (by show 4 + place ≤ all.length; omega) (by show (val ((all.drop place).take 4) : Int) ≤ m; omega)).mono (one _ _)
end Go.Proofs.YtikolmpgnpkdbaaDoor

