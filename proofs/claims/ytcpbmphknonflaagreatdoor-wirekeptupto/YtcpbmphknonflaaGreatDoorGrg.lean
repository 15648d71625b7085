import Derived.Test.YtcpbmphknonflaaGreatDoorGrf
namespace Go.Proofs.YtcpbmphknonflaaGreatDoor
open Go.RowKit

set_option maxRecDepth 1000000 in
theorem gread_6_end (xo : Option Addr) (all : List Nat) (xc place : Nat) (last fa : Int) (nm fw s : ByteArray) (u : Nat) (n m : Int) (w : World) (hx : Src w (.slice xo all.length xc) all) (hlc : all.length ≤ xc) (hl : all.length ≤ 140737488355328) (hs : 4 + place ≤ all.length) (hm : m < 9223372036854775808) (hv : (val ((all.drop place).take 4) : Int) ≤ m) (hxl : all.length < val ((all.drop place).take 4) + (place + 4)) :
    Calls Tryz.prog 127 #[rdV xo all.length xc place last nm fw fa 0, .agg #[.int .i64 6, .int .u64 u, .string s, .int .i64 n, .int .i64 m]] w fun e w' => e = .returned (.tuple #[rdV xo all.length xc place last nm nm place 1, .int .u64 0, .slice none 0 0]) ∧ Fr (fun _ => False) w w' := by
  have hw : IntKind.i64.wrap ((all.length : Int) - place) = (all.length : Int) - place := by rw [IntKind.wrap_i64]; omega
  have hw3 : IntKind.i64.wrap ((all.length : Int) - place - 4) = (all.length : Int) - place - 4 := by rw [IntKind.wrap_i64]; omega
  have hw4 : IntKind.u64.wrap ((all.length : Int) - place - 4) = (all.length : Int) - place - 4 := by rw [IntKind.wrap_u64]; omega
  have hd : decide ((all.length : Int) - place < 4) = false := by simp; omega
  have hcut := cut_at (n := 4) hx hlc hs (by decide)
  have hlen : ((all.drop place).take 4).length ≤ 8 := by simp; omega
  generalize (all.drop place).take 4 = l at *
  have HX := hide (And.intro hcut hlen)
  clear hx hcut hlen
  generalize all.length = len at *
  generalize hvx : val l = x at *
  have HVX := hide hvx
  clear hvx
  unfold rdV
  have hw2 : IntKind.u64.wrap m = m := by rw [IntKind.wrap_u64]; omega
  have hd0 : decide (m < 0) = false := by simp; omega
  have hd2 : decide (m < (x : Int)) = false := by simp; omega
  have hd3 : decide ((len : Int) - place - 4 < x) = true := by simp; omega
  go_enter Tryz.func127, Tryz.ntmps127
  go_wp2_with fail
  refine (value_any _ l _ ((unhide HX).1.fr (box3 w _ _ _) (fun _ _ _ _ _ h => h)) (unhide HX).2).mono ?_
  rintro e w' ⟨rfl, rfl⟩
  rw [unhide HVX]
  go_wp2_with fail
  exact bodyPost_ret (v := .tuple #[rdV xo len xc place last nm nm place 1, .int .u64 0, .slice none 0 0]) (by simp [results, Tryz.results127, go_sem, rdV]) rfl ⟨rfl, box3 w _ _ _⟩

theorem make0 (x : Nat) (w : World) (hx : x ≤ 16777216) : ∃ w', (Instr.makeSlice 23 (.int .i64 0) (.int .i64 (x : Int))).run Tryz.prog w = .ok (.slice (some ⟨w.heap.size, 0, none⟩) 0 x) w' ∧ w'.ownsRow w.heap.size 5 1 (.slice (some ⟨w.heap.size, 0, none⟩) 0 x) 0 [] ∧ Fr (fun _ => False) w w' := by
  have hz' : (Tryz.prog.info? 5).bind (·.zero) = some (.int .u8 0) := by kernel_rfl
  have hs' : (Tryz.prog.info? 5).map (·.size) = some 1 := by kernel_rfl
  have hb' : (Tryz.prog.info? 5).map (·.bytes) = some 1 := by kernel_rfl
  obtain ⟨i, hi, hz⟩ := Option.bind_eq_some_iff.1 hz'
  rw [hi] at hs' hb'
  have hs : i.size = 1 := by simpa using hs'
  have hb : i.bytes = 1 := by simpa using hb'
  obtain ⟨w', hr, ho, hg⟩ := run_makeSlice_owned (P := Tryz.prog) w w.heap.size 23 5 i (.int .u8 0) 1 Tryz.underlying23 hi hz hs .i64 .i64 x (by omega) (by rw [hb]; omega) (by simp only [maxLen]; omega) (Nat.le_refl _)
  exact ⟨w', hr, ho, (Fr.refl _ _).grown hg (fun _ h => by cases h)⟩
/-- Seven cells of one block. -/
def C7 (w : World) (g : Nat) (a0 a1 a2 a3 a4 a5 a6 : Value) : Prop :=
  w.cell? ⟨g, 0, none⟩ = some a0 ∧ w.cell? ⟨g, 1, none⟩ = some a1 ∧ w.cell? ⟨g, 2, none⟩ = some a2 ∧ w.cell? ⟨g, 3, none⟩ = some a3 ∧ w.cell? ⟨g, 4, none⟩ = some a4 ∧ w.cell? ⟨g, 5, none⟩ = some a5 ∧ w.cell? ⟨g, 6, none⟩ = some a6 ∧ ∀ i, w.frozen? ⟨g, i, none⟩ = false
theorem C7.fr {w w' : World} {g : Nat} {a0 a1 a2 a3 a4 a5 a6 : Value} {S : Nat → Prop} (h : C7 w g a0 a1 a2 a3 a4 a5 a6) (hf : Fr S w w') (hS : ¬ S g) : C7 w' g a0 a1 a2 a3 a4 a5 a6 := by
  obtain ⟨h0, h1, h2, h3, h4, h5, h6, hz⟩ := h
  have hg : g < w.heap.size := lt_of_cell h0
  have key : ∀ {i : Nat} {v : Value}, w.cell? ⟨g, i, none⟩ = some v → w'.cell? ⟨g, i, none⟩ = some v := fun h => (hf.cell hg hS).trans h
  exact ⟨key h0, key h1, key h2, key h3, key h4, key h5, key h6, fun i => (hf.frozen hg hS).trans (hz i)⟩

theorem c7_new (w : World) (a0 a1 a2 a3 a4 a5 a6 : Value) (t : TypeId) : C7 (w.alloc (.cells #[a0, a1, a2, a3, a4, a5, a6] t)) w.heap.size a0 a1 a2 a3 a4 a5 a6 := by simp [C7]
theorem c7_first (w : World) (a0 a1 a2 a3 a4 a5 a6 : Value) (t : TypeId) (o2 o3 : Obj) : C7 (((w.alloc (.cells #[a0, a1, a2, a3, a4, a5, a6] t)).alloc o2).alloc o3) w.heap.size a0 a1 a2 a3 a4 a5 a6 := (c7_new w a0 a1 a2 a3 a4 a5 a6 t).fr (box2 _ o2 o3) (fun h => h)
theorem c7_third (w : World) (o1 o2 : Obj) (a0 a1 a2 a3 a4 a5 a6 : Value) (t : TypeId) : C7 (((w.alloc o1).alloc o2).alloc (.cells #[a0, a1, a2, a3, a4, a5, a6] t)) (w.heap.size + 1 + 1) a0 a1 a2 a3 a4 a5 a6 := by
  have h := c7_new ((w.alloc o1).alloc o2) a0 a1 a2 a3 a4 a5 a6 t
  have e : ((w.alloc o1).alloc o2).heap.size = w.heap.size + 1 + 1 := by simp
  rw [e] at h
  exact h

theorem set_step {w : World} {g j : Nat} {f : Nat → Value} {v : Value} (h : ∀ i, i < 7 → w.cell? ⟨g, i, none⟩ = some (f i)) (hj : j < 7) : ∀ i, i < 7 → (w.setCell ⟨g, j, none⟩ v).cell? ⟨g, i, none⟩ = some (if i = j then v else f i) := fun i hi => by
  by_cases e : i = j
  · subst e
    rw [World.cell?_setCell_same _ _ _ (h i hi), if_pos rfl]
  · rw [World.cell?_setCell_other _ _ _ _ (by intro h; injection h with _ h2 _; exact e h2.symm), h i hi, if_neg e]
theorem set7 {w : World} {g : Nat} {o0 o1 o2 o3 o4 o5 o6 : Value} (a0 a1 a2 a3 a4 a5 a6 : Value) (h : C7 w g o0 o1 o2 o3 o4 o5 o6) :
    C7 (((((((w.setCell ⟨g, 0, none⟩ a0).setCell ⟨g, 1, none⟩ a1).setCell ⟨g, 2, none⟩ a2).setCell ⟨g, 3, none⟩ a3).setCell ⟨g, 4, none⟩ a4).setCell ⟨g, 5, none⟩ a5).setCell ⟨g, 6, none⟩ a6) g a0 a1 a2 a3 a4 a5 a6 ∧
      Fr (fun k => k = g) w (((((((w.setCell ⟨g, 0, none⟩ a0).setCell ⟨g, 1, none⟩ a1).setCell ⟨g, 2, none⟩ a2).setCell ⟨g, 3, none⟩ a3).setCell ⟨g, 4, none⟩ a4).setCell ⟨g, 5, none⟩ a5).setCell ⟨g, 6, none⟩ a6) := by
  obtain ⟨h0, h1, h2, h3, h4, h5, h6, hz⟩ := h
  have k : ∀ i, i < 7 → w.cell? ⟨g, i, none⟩ = some ([o0, o1, o2, o3, o4, o5, o6].getD i .nilIface) := fun i hi => by
    match i, hi with
    | 0, _ => exact h0
    | 1, _ => exact h1
    | 2, _ => exact h2
    | 3, _ => exact h3
    | 4, _ => exact h4
    | 5, _ => exact h5
    | 6, _ => exact h6
  have q := set_step (v := a6) (j := 6) (set_step (v := a5) (j := 5) (set_step (v := a4) (j := 4) (set_step (v := a3) (j := 3) (set_step (v := a2) (j := 2) (set_step (v := a1) (j := 1) (set_step (v := a0) (j := 0) k (by decide)) (by decide)) (by decide)) (by decide)) (by decide)) (by decide)) (by decide)
  refine ⟨⟨q 0 (by decide), q 1 (by decide), q 2 (by decide), q 3 (by decide), q 4 (by decide), q 5 (by decide), q 6 (by decide), fun i => by simp only [World.frozen?_setCell]; exact hz i⟩, ?_⟩
  have s : ∀ {a b : World} {p : Addr} (v : Value), p.block = g → Fr (fun k => k = g) a b → Fr (fun k => k = g) a (b.setCell p v) := fun v hp hf => Fr.setCell hf (.inl hp) v
  exact s _ rfl (s _ rfl (s _ rfl (s _ rfl (s _ rfl (s _ rfl (s _ rfl (Fr.refl _ _)))))))

theorem rd_end {w w2 : World} {xo ao : Option Addr} {len xc place x ac : Nat} {nm fw : ByteArray} {fa : Int} {l2 : List Nat} {b0 b1 b2 b3 b4 b5 b6 : Value} (hC : C7 w2 (w.heap.size + 1 + 1) b0 b1 b2 b3 b4 b5 b6)
    (hO : Src w2 (.slice ao x ac) l2 ∧ ∀ g o m c, (Value.slice ao x ac) = .slice (some ⟨g, o, none⟩) m c → w.heap.size + 1 + 1 + 1 ≤ g) (hF0 : Fr (fun _ => False) w w2) :
    ∃ W9, W9 = (((((((((w2.setCell ⟨w.heap.size, 2, none⟩ (.int .i64 place)).setCell ⟨w.heap.size, 1, none⟩ (.int .i64 ((place : Int) + 4 + x))).setCell ⟨w.heap.size + 1 + 1, 0, none⟩ (.slice xo len xc)).setCell ⟨w.heap.size + 1 + 1, 1, none⟩ (.int .i64 ((place : Int) + 4 + x))).setCell ⟨w.heap.size + 1 + 1, 2, none⟩ (.int .i64 place)).setCell ⟨w.heap.size + 1 + 1, 3, none⟩ (.string nm)).setCell ⟨w.heap.size + 1 + 1, 4, none⟩ (.string fw)).setCell ⟨w.heap.size + 1 + 1, 5, none⟩ (.int .i64 fa)).setCell ⟨w.heap.size + 1 + 1, 6, none⟩ (.int .i64 0)) ∧
      W9.cell? ⟨w.heap.size + 1 + 1, 0, none⟩ = some (.slice xo len xc) ∧ W9.cell? ⟨w.heap.size + 1 + 1, 1, none⟩ = some (.int .i64 ((place : Int) + 4 + x)) ∧ W9.cell? ⟨w.heap.size + 1 + 1, 2, none⟩ = some (.int .i64 place) ∧ W9.cell? ⟨w.heap.size + 1 + 1, 3, none⟩ = some (.string nm) ∧ W9.cell? ⟨w.heap.size + 1 + 1, 4, none⟩ = some (.string fw) ∧ W9.cell? ⟨w.heap.size + 1 + 1, 5, none⟩ = some (.int .i64 fa) ∧ W9.cell? ⟨w.heap.size + 1 + 1, 6, none⟩ = some (.int .i64 0) ∧ Src W9 (.slice ao x ac) l2 ∧ Fr (fun _ => False) w W9 := by
  have hF : Fr (fun k => k = w.heap.size) w2 ((w2.setCell ⟨w.heap.size, 2, none⟩ (.int .i64 place)).setCell ⟨w.heap.size, 1, none⟩ (.int .i64 ((place : Int) + 4 + x))) := Fr.setCell (S := fun k => k = w.heap.size) (Fr.setCell (S := fun k => k = w.heap.size) (Fr.refl _ _) (.inl rfl) _) (.inl rfl) _
  obtain ⟨⟨q0, q1, q2, q3, q4, q5, q6, qz⟩, hF2⟩ := set7 (.slice xo len xc) (.int .i64 ((place : Int) + 4 + x)) (.int .i64 place) (.string nm) (.string fw) (.int .i64 fa) (.int .i64 0) (hC.fr hF (by show ¬ w.heap.size + 1 + 1 = w.heap.size; omega))
  refine ⟨_, rfl, q0, q1, q2, q3, q4, q5, q6, ?_, ?_⟩
  · exact (hO.1.fr hF (fun g o m c e h => by have h' : g = w.heap.size := h; have := hO.2 g o m c e; omega)).fr hF2 (fun g o m c e h => by have h' : g = w.heap.size + 1 + 1 := h; have := hO.2 g o m c e; omega)
  · exact (hF0.soak hF (fun i e => by have e' : i = w.heap.size := e; omega)).soak hF2 (fun i e => by have e' : i = w.heap.size + 1 + 1 := e; omega)

set_option maxRecDepth 1000000 in
set_option maxHeartbeats 1000000 in
theorem gread_6_ok (xo : Option Addr) (all : List Nat) (xc place : Nat) (last fa : Int) (nm fw s : ByteArray) (u : Nat) (n m : Int) (w : World) (hx : Src w (.slice xo all.length xc) all) (hlc : all.length ≤ xc) (hl : all.length ≤ 16777216) (hs : 4 + place ≤ all.length) (hm : m < 9223372036854775808) (hv : (val ((all.drop place).take 4) : Int) ≤ m) (hxl : val ((all.drop place).take 4) + (place + 4) ≤ all.length) :
    Calls Tryz.prog 127 #[rdV xo all.length xc place last nm fw fa 0, .agg #[.int .i64 6, .int .u64 u, .string s, .int .i64 n, .int .i64 m]] w fun e w' => ∃ v, e = .returned (.tuple #[rdV xo all.length xc ((place + 4 + val ((all.drop place).take 4) : Nat) : Int) place nm fw fa 0, .int .u64 0, v]) ∧ Src w' v ((all.drop (place + 4)).take (val ((all.drop place).take 4))) ∧ (∀ g o m c, v = .slice (some ⟨g, o, none⟩) m c → w.heap.size ≤ g) ∧ Fr (fun _ => False) w w' := by
  have hw : IntKind.i64.wrap ((all.length : Int) - place) = (all.length : Int) - place := by rw [IntKind.wrap_i64]; omega
  have hw3 : IntKind.i64.wrap ((all.length : Int) - place - 4) = (all.length : Int) - place - 4 := by rw [IntKind.wrap_i64]; omega
  have hw4 : IntKind.u64.wrap ((all.length : Int) - place - 4) = (all.length : Int) - place - 4 := by rw [IntKind.wrap_u64]; omega
  have hd : decide ((all.length : Int) - place < 4) = false := by simp; omega
  have hcut := cut_at (n := 4) hx hlc hs (by decide)
  have hcut2 := hx.cut (place + 4) (val ((all.drop place).take 4)) (by omega) hlc
  have hlen : ((all.drop place).take 4).length ≤ 8 := by simp; omega
  generalize (all.drop place).take 4 = l at *
  generalize hvx : val l = x at *
  have HX := hide (And.intro hcut (And.intro hlen (And.intro hcut2 hvx)))
  clear hx hcut hlen hcut2 hvx
  have hL2 : ((all.drop (place + 4)).take x).length = x := by simp; omega
  generalize (all.drop (place + 4)).take x = l2 at *
  have HL2 := hide hL2
  clear hL2
  generalize all.length = len at *
  unfold rdV
  have hw2 : IntKind.u64.wrap m = m := by rw [IntKind.wrap_u64]; omega
  have hw5 : IntKind.i64.wrap (x : Int) = (x : Int) := by rw [IntKind.wrap_i64]; omega
  have hd0 : decide (m < 0) = false := by simp; omega
  have hd2 : decide (m < (x : Int)) = false := by simp; omega
  have hd3 : decide ((len : Int) - place - 4 < x) = false := by simp; omega
  go_enter Tryz.func127, Tryz.ntmps127
  go_wp2_with fail
  refine (value_any _ l _ ((unhide HX).1.fr (box3 w _ _ _) (fun _ _ _ _ _ h => h)) (unhide HX).2.1).mono ?_
  rintro e w' ⟨rfl, rfl⟩
  rw [(unhide HX).2.2.2]
  obtain ⟨w3, hw3⟩ : ∃ w3, w3 = (((w.alloc (.cells #[.slice xo len xc, .int .i64 place, .int .i64 last, .string nm, .string fw, .int .i64 fa, .int .i64 0] 121)).alloc (.cells #[.int .i64 6, .int .u64 u, .string s, .int .i64 n, .int .i64 m] 236)).alloc (.cells #[.slice none 0 0, .int .i64 0, .int .i64 0, .string ⟨#[]⟩, .string ⟨#[]⟩, .int .i64 0, .int .i64 0] 121)) := ⟨_, rfl⟩
  have hb3 : Fr (fun _ => False) w w3 := by rw [hw3]; exact box3 w _ _ _
  have r3 : C7 w3 w.heap.size (.slice xo len xc) (.int .i64 place) (.int .i64 last) (.string nm) (.string fw) (.int .i64 fa) (.int .i64 0) := by rw [hw3]; exact c7_first _ _ _ _ _ _ _ _ _ _ _
  have v3 : C7 w3 (w.heap.size + 1 + 1) (.slice none 0 0) (.int .i64 0) (.int .i64 0) (.string ⟨#[]⟩) (.string ⟨#[]⟩) (.int .i64 0) (.int .i64 0) := by rw [hw3]; exact c7_third _ _ _ _ _ _ _ _ _ _ _
  have hz3 : w3.heap.size = w.heap.size + 1 + 1 + 1 := by rw [hw3]; simp
  obtain ⟨w1, hmk, ho1, hf1⟩ := make0 x w3 (by omega)
  have r1 := r3.fr hf1 (fun h => h)
  have hS := (((unhide HX).2.2.1.fr hb3 (fun _ _ _ _ _ h => h)).fr hf1 (fun _ _ _ _ _ h => h))
  obtain ⟨ao, ac, w2, hr2, ho2, hg2, _⟩ := run_app_sl w1 23 w3.heap.size 0 _ _ [] l2 ho1 hS (by rw [unhide HL2]; omega) hf1.size
  have hf2 : Fr (fun _ => False) w3 w2 := hf1.grown hg2 (fun g hg => .inr (ho1.lt g hg).1)
  have r2 := r3.fr hf2 (fun h => h)
  have v2 := v3.fr hf2 (fun h => h)
  rw [unhide HL2, Nat.zero_add] at hr2 ho2
  have hO : Src w2 (.slice ao x ac) l2 ∧ ∀ g o m c, (Value.slice ao x ac) = .slice (some ⟨g, o, none⟩) m c → w.heap.size + 1 + 1 + 1 ≤ g := by
    have hl := unhide HL2
    have ho2' : w2.ownsRow w3.heap.size 5 1 (.slice ao x ac) l2.length (cellsOf l2) := by rw [hl]; simpa using ho2
    exact ⟨own_src ho2', fun g o m c e => by have := (ho2'.lt g (by rw [e]; rfl)).1; omega⟩
  have HO := hide (And.intro hO (hb3.trans hf2 (fun _ _ h => h)))
  clear hO
  have HV := hide v2
  obtain ⟨a0, a1, a2, a3, a4, a5, a6, az⟩ := r1
  obtain ⟨e0, e1, e2, e3, e4, e5, e6, ez⟩ := r2
  obtain ⟨d0, d1, d2, d3, d4, d5, d6, dz⟩ := v2
  rw [hz3] at hmk hr2
  rw [hw3] at hmk
  have HR := hide hr2
  clear r3 v3 hf1 ho1 hS hg2 hb3 hf2 ho2 hr2 hz3 hw3
  have ez1 := ez 1
  have ez2 := ez 2
  clear az ez
  have ex : place + 4 + x - (place + 4) = x := by omega
  by_cases hcp : xc = place + 4
  · subst hcp
    have HR2 : Hid ((Builtin.append_ #[23, 23] 23 #[.slice (some ⟨w.heap.size + 1 + 1 + 1, 0, none⟩) 0 x, .slice xo (place + 4 + x - (place + 4)) (place + 4 - (place + 4))]).run Tryz.prog w1 = .ok (.slice ao x ac) w2) := hide (by have h := unhide HR; rw [if_pos rfl] at h; rw [ex]; exact h)
    clear HR ex
    go_wp2_with (at_builtin; refine wpList_app rfl (.tmp 155) (.tmp 167) 23 23 rfl _ _ _ rfl rfl (unhide HR2) ?_)
    obtain ⟨W9, hq, q0, q1, q2, q3, q4, q5, q6, hf9⟩ := rd_end (xo := xo) (len := len) (xc := place + 4) (place := place) (x := x) (nm := nm) (fw := fw) (fa := fa) (unhide HV) (unhide HO).1 (unhide HO).2
    rw [← hq]
    exact bodyPost_ret (v := .tuple #[rdV xo len (place + 4) ((place + 4 + x : Nat) : Int) place nm fw fa 0, .int .u64 0, .slice ao x ac]) (by simp [results, Tryz.results127, go_sem, rdV, q0, q1, q2, q3, q4, q5, q6]) rfl ⟨_, rfl, by simpa [unhide HL2] using hf9.1, fun g o m c e => by have := (unhide HO).1.2 g o m c e; omega, hf9.2⟩
  · have HR2 : Hid ((Builtin.append_ #[23, 23] 23 #[.slice (some ⟨w.heap.size + 1 + 1 + 1, 0, none⟩) 0 x, .slice (Option.map (fun x => x.add (place + 4)) xo) (place + 4 + x - (place + 4)) (xc - (place + 4))]).run Tryz.prog w1 = .ok (.slice ao x ac) w2) := hide (by have h := unhide HR; rw [if_neg hcp] at h; rw [ex]; exact h)
    clear HR ex
    go_wp2_with (at_builtin; refine wpList_app rfl (.tmp 155) (.tmp 167) 23 23 rfl _ _ _ rfl rfl (unhide HR2) ?_)
    obtain ⟨W9, hq, q0, q1, q2, q3, q4, q5, q6, hf9⟩ := rd_end (xo := xo) (len := len) (xc := xc) (place := place) (x := x) (nm := nm) (fw := fw) (fa := fa) (unhide HV) (unhide HO).1 (unhide HO).2
    rw [← hq]
    exact bodyPost_ret (v := .tuple #[rdV xo len xc ((place + 4 + x : Nat) : Int) place nm fw fa 0, .int .u64 0, .slice ao x ac]) (by simp [results, Tryz.results127, go_sem, rdV, q0, q1, q2, q3, q4, q5, q6]) rfl ⟨_, rfl, by simpa [unhide HL2] using hf9.1, fun g o m c e => by have := (unhide HO).1.2 g o m c e; omega, hf9.2⟩
end Go.Proofs.YtcpbmphknonflaaGreatDoor
