import Derived.Test.YtoflkfnmbighaaaPk6
import Derived.Test.YtoflkfnmbighaaaPk2
import Derived.Test.YtoflkfnmbighaaaPk1
import Derived.Sort.KeysCollected
namespace Go.Proofs.Ytoflkfnmbighaaa
open Go.RowKit Go.ChangeShapes Go.WideShapes Go.Maps

set_option maxRecDepth 100000 in
/-- changed, of other kinds. -/
theorem changed_no (W : World) (d : Nat) (r : RD) (ao : Option Addr) (c : Nat) (ki a z b : Int) (n : ByteArray) (on : Bool) (x : Value) (h1 : ¬ ki = 1) (h2 : ¬ ki = 2) (h3 : ¬ ki = 3) (h4 : ¬ ki = 4) (h5 : ¬ ki = 5) (h7 : ¬ ki = 7) (h11 : ¬ ki = 11) :
    Calls Try.prog 15 #[.pointer (some ⟨d, 0, none⟩), r.agg (.slice ao r.fs.length c), .agg #[.int .i64 ki, .string n, .int .i64 a, .int .i64 z, .int .u64 b, .bool on, x]] W fun e w' => e = .returned (.tuple #[r.agg (.slice ao r.fs.length c), .bool false, .bool true]) ∧ Fr (fun _ => False) W w' := by
  obtain ⟨w4, hw4⟩ : ∃ w4, w4 = (((W.alloc (.cells (r.cells (.slice ao r.fs.length c)) 30)).alloc (.cells #[.int .i64 ki, .string n, .int .i64 a, .int .i64 z, .int .u64 b, .bool on, x] 38)).alloc (.cells zero8 30)).alloc (.cells zero8 30) := ⟨_, rfl⟩
  have hf4 : Fr (fun _ => False) W w4 := by rw [hw4]; exact ((box2 _ _ _).alloc _).alloc _
  have hB4 : B4 W w4 (r.cells (.slice ao r.fs.length c)) #[.int .i64 ki, .string n, .int .i64 a, .int .i64 z, .int .u64 b, .bool on, x] := by rw [hw4]; exact B4.new _ _ _
  obtain ⟨V, hrV, hgV, hfV⟩ := gbox hB4.z r ao r.fs.length c
  have HE := hide (And.intro hgV (hf4.trans hfV (fun i hi e => by have e' : i = W.heap.size + 2 := e; omega)))
  unfold RD.cells zero8 at hw4
  unfold RD.agg at hrV ⊢
  rw [hw4] at hrV
  have HV := hide hrV
  clear hrV hgV hfV hB4 hf4 hw4
  go_enter Try.func15, Try.ntmps15
  go_wp2_with (refine wpList_stN rfl 30 _ _ rfl _ _ rfl rfl (unhide HV) ?_)
  (try simp only [Exit.inBlock, Exit.then])
  refine bodyPost_ret (results_celltt rfl _ _ (W.heap.size + 2) 0 _ _ _ _ rfl rfl rfl (unhide HE).1 Try.underlying30 rfl (by kernel_rfl)) rfl ?_
  exact ⟨rfl, (unhide HE).2⟩
end Go.Proofs.Ytoflkfnmbighaaa

namespace Go.Proofs.Ytoflkfnmbighaaa
open Go.RowKit Go.ChangeShapes Go.WideShapes Go.Maps

/-- played's boxes: the document's disk, the call, the answer. -/
structure B3 (W V : World) (tc oc : Array Value) : Prop where
  t : V.heap[W.heap.size]? = some (.cells tc 30)
  o : V.heap[W.heap.size + 1]? = some (.cells oc 38)
  z : V.heap[W.heap.size + 1 + 1]? = some (.cells zero8 30)
theorem B3.new (W : World) (tc oc : Array Value) : B3 W (((W.alloc (.cells tc 30)).alloc (.cells oc 38)).alloc (.cells zero8 30)) tc oc := by
  refine ⟨?_, ?_, ?_⟩
  · rw [Below.heap_alloc _ _ _ (by simp; omega), Below.heap_alloc _ _ _ (by simp)]
    exact heap_alloc_new W _
  · rw [Below.heap_alloc _ _ _ (by simp)]
    have := heap_alloc_new (W.alloc (.cells tc 30)) (.cells oc 38)
    simpa using this
  · have := heap_alloc_new ((W.alloc (.cells tc 30)).alloc (.cells oc 38)) (.cells zero8 30)
    simpa using this
theorem B3.fr {W V V' : World} {tc oc : Array Value} {S : Nat → Prop} (h : B3 W V tc oc) (hf : Fr S V V') (hS : ∀ k, S k → k < W.heap.size) : B3 W V' tc oc :=
  ⟨(hf.block _ (lt_of_block h.t) (fun e => absurd (hS _ e) (by omega))).trans h.t, (hf.block _ (lt_of_block h.o) (fun e => absurd (hS _ e) (by omega))).trans h.o, (hf.block _ (lt_of_block h.z) (fun e => absurd (hS _ e) (by omega))).trans h.z⟩
theorem PS.fr {W W' : World} {d m : Nat} {r : RD} {v : Value} {O T S : Nat → Prop} (h : PS W d m r v O T) (hf : Fr S W W') (hS : ∀ k, O k ∨ T k → ¬ S k) : PS W' d m r v O T := by
  obtain ⟨s, q, hD, hR⟩ := h.D
  exact ⟨⟨s, q, hD.fr hf (fun k hk => hS k (.inl hk)), hR⟩, h.G.fr hf (fun k hk => hS k (.inr hk)), h.dis⟩
theorem PS.lt {W : World} {d m : Nat} {r : RD} {v : Value} {O T : Nat → Prop} (h : PS W d m r v O T) : ∀ k, O k ∨ T k → k < W.heap.size := fun k hk => by
  obtain ⟨s, q, hD, hR⟩ := h.D
  rcases hk with hk | hk
  · exact hD.lt k hk
  · exact h.G.lt k hk
/-- What played leaves. -/
def PL (W : World) (d m : Nat) (O T : Nat → Prop) (x : RD) (e : Ending) (W' : World) : Prop := ∃ v' O' T', e = .returned (.tuple #[x.agg v', .bool true]) ∧ PS W' d m x v' O' T' ∧ (∀ k, O' k → O k ∨ W.heap.size ≤ k) ∧ (∀ k, T' k → T k ∨ W.heap.size ≤ k) ∧ Fr (fun k => O k ∨ T k) W W'
set_option maxHeartbeats 2000000 in
set_option maxRecDepth 100000 in
/-- played: a call that changed plays. -/
theorem played_ch (W : World) (d m : Nat) (r x : RD) (v : Value) (O T : Nat → Prop) (h : PS W d m r v O T) (n : ByteArray) (ki a z b : Int) (on : Bool) (xv : Value)
    (hc : ∀ V, PS V d m r v O T → Fr (fun _ => False) W V → Calls Try.prog 15 #[.pointer (some ⟨d, 0, none⟩), r.agg v, .agg #[.int .i64 ki, .string n, .int .i64 a, .int .i64 z, .int .u64 b, .bool on, xv]] V (CH V d m O T x)) :
    Calls Try.prog 7 #[.pointer (some ⟨d, 0, none⟩), r.agg v, .agg #[.int .i64 ki, .string n, .int .i64 a, .int .i64 z, .int .u64 b, .bool on, xv]] W (PL W d m O T x) := by
  obtain ⟨ao, c, rfl⟩ := h.G.form
  obtain ⟨w3, hw3⟩ : ∃ w3, w3 = ((W.alloc (.cells (r.cells (.slice ao r.fs.length c)) 30)).alloc (.cells #[.int .i64 ki, .string n, .int .i64 a, .int .i64 z, .int .u64 b, .bool on, xv] 38)).alloc (.cells zero8 30) := ⟨_, rfl⟩
  have hf3 : Fr (fun _ => False) W w3 := by rw [hw3]; exact (box2 _ _ _).alloc _
  have hB3 : B3 W w3 (r.cells (.slice ao r.fs.length c)) #[.int .i64 ki, .string n, .int .i64 a, .int .i64 z, .int .u64 b, .bool on, xv] := by rw [hw3]; exact B3.new _ _ _
  have HC := hide (hc w3 (h.fr hf3 (fun _ _ h => h)) hf3)
  have HX := hide (And.intro h (And.intro hf3 hB3))
  clear hc hf3 hB3 h
  unfold RD.agg at HC ⊢
  unfold RD.cells zero8 at hw3
  go_enter Try.func7, Try.ntmps7
  go_wp2_with fail
  rw [← hw3]
  clear hw3
  refine (unhide HC).mono ?_
  rintro e w5 ⟨v5, O5, T5, rfl, hP5, hO5, hT5, hf5⟩
  obtain ⟨ao5, c5, rfl⟩ := hP5.G.form
  obtain ⟨h, hf3, hB3⟩ := unhide HX
  have hB5 := hB3.fr hf5 (fun k hk => h.lt k hk)
  have hs3 := hf3.size
  have hs5 := hf5.size
  have hz3 : W.heap.size + 1 + 1 < w3.heap.size := lt_of_block hB3.z
  obtain ⟨w6, hw6⟩ : ∃ w6, w6 = w5.alloc (.cells zero8 30) := ⟨_, rfl⟩
  have hf6 : Fr (fun _ => False) w5 w6 := by rw [hw6]; exact box1 _ _
  have hB6 := hB5.fr hf6 (fun _ h => h.elim)
  have hu6 : w6.heap[w5.heap.size]? = some (.cells zero8 30) := by rw [hw6]; exact heap_alloc_new _ _
  have hz5 : W.heap.size + 1 + 1 < w5.heap.size := lt_of_block hB5.z
  obtain ⟨V1, hr1, hg1, hf1⟩ := gbox hu6 x ao5 x.fs.length c5
  have hz1 := (hf1.block _ (lt_of_block hB6.z) (by show ¬ W.heap.size + 1 + 1 = w5.heap.size; omega)).trans hB6.z
  obtain ⟨V, hrV, hgV, hfV⟩ := gbox hz1 x ao5 x.fs.length c5
  have hbx : ∀ k, O5 k ∨ T5 k → k ≠ W.heap.size + 1 + 1 ∧ k ≠ w5.heap.size := fun k hk => by
    have hlt := hP5.lt k hk
    rcases hk with hk | hk
    · rcases hO5 k hk with h9 | h9
      · have := h.lt k (.inl h9); omega
      · omega
    · rcases hT5 k hk with h9 | h9
      · have := h.lt k (.inr h9); omega
      · omega
  have hfin : PL W d m O T x (.returned (.tuple #[x.agg (.slice ao5 x.fs.length c5), .bool true])) V := by
    refine ⟨_, O5, T5, rfl, ((hP5.fr hf6 (fun _ _ h => h)).fr hf1 (fun k hk e => (hbx k hk).2 e)).fr hfV (fun k hk e => (hbx k hk).1 e), fun k hk => (hO5 k hk).elim .inl (fun h9 => .inr (by omega)), fun k hk => (hT5 k hk).elim .inl (fun h9 => .inr (by omega)), ?_⟩
    refine ((((hf3.mono (fun _ _ h => h.elim)).trans hf5 (fun i hi e => e)).trans hf6 (fun _ _ h => h.elim)).trans hf1 (fun i hi e => ?_)).trans hfV (fun i hi e => ?_)
    · have e' : i = w5.heap.size := e
      omega
    · have e' : i = W.heap.size + 1 + 1 := e
      omega
  unfold RD.agg at hr1 hrV
  rw [hw6] at hr1
  unfold zero8 at hr1
  have HR1 := hide hr1
  have HV := hide hrV
  have HE := hide (And.intro hgV hfin)
  have hu1 := range_cells hg1
  clear hrV hgV hfV hfin hbx hB6 hf6 hw6 hB5 hP5 hO5 hT5 hf5 HX HC h hf3 hB3 hs3 hs5 hz3 hz5 hr1 hg1 hf1 hz1 hu6
  obtain ⟨k0, k1, k2, k3, k4, k5, k6, k7⟩ := hu1
  go_wp2_with (first | (refine wpList_stN rfl 30 (.tmp 8) _ rfl _ _ rfl rfl (unhide HR1) ?_) | (refine wpList_stN rfl 30 (.tmp 6) _ rfl _ _ rfl rfl (unhide HV) ?_))
  (try simp only [Exit.inBlock, Exit.then])
  refine bodyPost_ret (results_cellt rfl _ _ (W.heap.size + 1 + 1) 0 _ _ _ rfl rfl (unhide HE).1 Try.underlying30 rfl (by kernel_rfl)) rfl ?_
  exact (unhide HE).2
end Go.Proofs.Ytoflkfnmbighaaa

namespace Go.Proofs.Ytoflkfnmbighaaa
open Go.RowKit Go.ChangeShapes Go.WideShapes Go.Maps

set_option maxHeartbeats 2000000 in
set_option maxRecDepth 100000 in
/-- played: Fill. -/
theorem played_8 (W : World) (d m : Nat) (r : RD) (v : Value) (O T : Nat → Prop) (h : PS W d m r v O T) (n : ByteArray) (a z b : Int) (on : Bool) (xv : Value)  :
    Calls Try.prog 7 #[.pointer (some ⟨d, 0, none⟩), r.agg v, .agg #[.int .i64 8, .string n, .int .i64 a, .int .i64 z, .int .u64 b, .bool on, xv]] W (PL W d m O T { r with full := on }) := by
  obtain ⟨ao, c, rfl⟩ := h.G.form
  obtain ⟨w3, hw3⟩ : ∃ w3, w3 = ((W.alloc (.cells (r.cells (.slice ao r.fs.length c)) 30)).alloc (.cells #[.int .i64 8, .string n, .int .i64 a, .int .i64 z, .int .u64 b, .bool on, xv] 38)).alloc (.cells zero8 30) := ⟨_, rfl⟩
  have hf3 : Fr (fun _ => False) W w3 := by rw [hw3]; exact (box2 _ _ _).alloc _
  have hB3 : B3 W w3 (r.cells (.slice ao r.fs.length c)) #[.int .i64 8, .string n, .int .i64 a, .int .i64 z, .int .u64 b, .bool on, xv] := by rw [hw3]; exact B3.new _ _ _
  have HC := hide (changed_no w3 d r ao c 8 a z b n on xv (by decide) (by decide) (by decide) (by decide) (by decide) (by decide) (by decide))
  have HX := hide (And.intro h (And.intro hf3 hB3))
  clear hf3 hB3 h
  unfold RD.agg at HC ⊢
  unfold RD.cells zero8 at hw3
  go_enter Try.func7, Try.ntmps7
  go_wp2_with fail
  rw [← hw3]
  clear hw3
  refine (unhide HC).mono ?_
  rintro e w5 ⟨rfl, hf5⟩
  obtain ⟨h, hf3, hB3⟩ := unhide HX
  have hB5 := hB3.fr hf5 (fun _ h => h.elim)
  have hf05 := hf3.trans hf5 (fun _ _ h => h)
  obtain ⟨w6, hw6⟩ : ∃ w6, w6 = w5.alloc (.cells #[.int .i64 (r.limit : Nat), .int .i64 (r.born : Nat), .int .i64 (r.writes : Nat), .slice ao r.fs.length c, .int .i64 r.armed, .int .i64 r.tear, .bool r.off, .bool r.full] 30) := ⟨_, rfl⟩
  have hf6 : Fr (fun _ => False) w5 w6 := by rw [hw6]; exact box1 _ _
  have hB6 := hB5.fr hf6 (fun _ h => h.elim)
  have hf06 := hf05.trans hf6 (fun _ _ h => h)
  have hP6 := h.fr hf06 (fun _ _ h => h)
  have hsz : W.heap.size + 1 + 1 < w6.heap.size := lt_of_block hB6.z
  have hlt := h.lt
  obtain ⟨c0, c1, c2, c3, c4, c5, c6, c7, fz⟩ := cells_of8 hB6.t
  have o0 := cell_of_blk (o := 0) hB6.o rfl
  have o1 := cell_of_blk (o := 1) hB6.o rfl
  have o2 := cell_of_blk (o := 2) hB6.o rfl
  have o3 := cell_of_blk (o := 3) hB6.o rfl
  have o5 := cell_of_blk (o := 5) hB6.o rfl
  clear hB5 hf5 hf3 hB3 HC hf6 hf05
  rw [hw6] at c0 c1 c2 c3 c4 c5 c6 c7 fz o0 o1 o2 o3 o5
  go_wp2_with fail
  rw [← hw6]
  obtain ⟨s, q, hD6, hR⟩ := hP6.D
  refine (fill_any d m s q O on w6 hD6).mono ?_
  rintro e w7 ⟨rfl, hD7, hf7⟩
  have hdW : d < W.heap.size := by
    obtain ⟨s0, q0, hD0, _⟩ := h.D
    exact hD0.lt d hD0.od
  have hB7 := hB6.fr hf7 (fun k hk => by have e' : k = d := hk; omega)
  obtain ⟨w8, hw8⟩ : ∃ w8, w8 = w7.setCell ⟨W.heap.size, 7, none⟩ (.bool on) := ⟨_, rfl⟩
  have hf8 : Fr (fun k => k = W.heap.size) w7 w8 := by rw [hw8]; exact (Fr.refl (fun k => k = W.heap.size) w7).setCell (p := ⟨W.heap.size, 7, none⟩) (.inl rfl) _
  have hz8 := (hf8.block _ (lt_of_block hB7.z) (by show ¬ W.heap.size + 1 + 1 = W.heap.size; omega)).trans hB7.z
  obtain ⟨V, hrV, hgV, hfV⟩ := gbox hz8 ({ r with full := on } : RD) ao r.fs.length c
  have hG7 := hP6.G.fr hf7 (fun k hk e => by have e' : k = d := e; subst e'; exact hP6.dis k hD6.od hk)
  have hbx : ∀ k, O k ∨ T k → k ≠ W.heap.size ∧ k ≠ W.heap.size + 1 + 1 := fun k hk => by have := hlt k hk; omega
  have hDV := (hD7.fr hf8 (fun k hk e => (hbx k (.inl hk)).1 e)).fr hfV (fun k hk e => (hbx k (.inl hk)).2 e)
  have hGV := (hG7.fr hf8 (fun k hk e => (hbx k (.inr hk)).1 e)).fr hfV (fun k hk e => (hbx k (.inr hk)).2 e)
  have hGV2 : GD V ({ r with full := on } : RD) (.slice ao r.fs.length c) T := by
    obtain ⟨ao', c', Fs, g1, g2, g3⟩ := hGV.at_
    exact ⟨ao', c', Fs, g1, g2, g3⟩
  have hfin : PL W d m O T { r with full := on } (.returned (.tuple #[({ r with full := on } : RD).agg (.slice ao r.fs.length c), .bool true])) V := by
    refine ⟨_, O, T, rfl, ⟨⟨_, q, hDV, hR.nums _ _ rfl rfl rfl rfl rfl hR.l0 hR.t0 rfl rfl rfl hR.arm hR.tear hR.off rfl rfl⟩, hGV2, h.dis⟩, fun _ hk => .inl hk, fun _ hk => .inl hk, ?_⟩
    refine (((hf06.mono (fun _ _ h => h.elim)).trans hf7 (fun i hi e => .inl (by have e' : i = d := e; subst e'; exact hD6.od))).trans hf8 (fun i hi e => ?_)).trans hfV (fun i hi e => ?_)
    · have e' : i = W.heap.size := e
      omega
    · have e' : i = W.heap.size + 1 + 1 := e
      omega
  clear c0 c1 c2 c3 c4 c5 c6 c7 fz o0 o1 o2 o3 o5
  obtain ⟨c0, c1, c2, c3, c4, c5, c6, c7, fz⟩ := cells_of8 hB7.t
  have o5 := cell_of_blk (o := 5) hB7.o rfl
  unfold RD.agg at hrV
  dsimp only at hrV
  rw [hw8] at hrV
  have HV := hide hrV
  have HE := hide (And.intro hgV hfin)
  clear hrV hgV hfV hfin hGV hGV2 hDV hbx hG7 hz8 hf8 hw8 hB7 hdW hD7 hf7 hD6 hR hP6 hB6 hf06 hsz hlt h HX hw6
  go_wp2_with (refine wpList_stN rfl 30 (.tmp 6) _ rfl _ _ rfl rfl (unhide HV) ?_)
  (try simp only [Exit.inBlock, Exit.then])
  refine bodyPost_ret (results_cellt rfl _ _ (W.heap.size + 1 + 1) 0 _ _ _ rfl rfl (unhide HE).1 Try.underlying30 rfl (by kernel_rfl)) rfl ?_
  exact (unhide HE).2
set_option maxHeartbeats 2000000 in
set_option maxRecDepth 100000 in
/-- played: Start. -/
theorem played_10 (W : World) (d m : Nat) (r : RD) (v : Value) (O T : Nat → Prop) (h : PS W d m r v O T) (n : ByteArray) (a z b : Int) (on : Bool) (xv : Value)  :
    Calls Try.prog 7 #[.pointer (some ⟨d, 0, none⟩), r.agg v, .agg #[.int .i64 10, .string n, .int .i64 a, .int .i64 z, .int .u64 b, .bool on, xv]] W (PL W d m O T { r with off := false }) := by
  obtain ⟨ao, c, rfl⟩ := h.G.form
  obtain ⟨w3, hw3⟩ : ∃ w3, w3 = ((W.alloc (.cells (r.cells (.slice ao r.fs.length c)) 30)).alloc (.cells #[.int .i64 10, .string n, .int .i64 a, .int .i64 z, .int .u64 b, .bool on, xv] 38)).alloc (.cells zero8 30) := ⟨_, rfl⟩
  have hf3 : Fr (fun _ => False) W w3 := by rw [hw3]; exact (box2 _ _ _).alloc _
  have hB3 : B3 W w3 (r.cells (.slice ao r.fs.length c)) #[.int .i64 10, .string n, .int .i64 a, .int .i64 z, .int .u64 b, .bool on, xv] := by rw [hw3]; exact B3.new _ _ _
  have HC := hide (changed_no w3 d r ao c 10 a z b n on xv (by decide) (by decide) (by decide) (by decide) (by decide) (by decide) (by decide))
  have HX := hide (And.intro h (And.intro hf3 hB3))
  clear hf3 hB3 h
  unfold RD.agg at HC ⊢
  unfold RD.cells zero8 at hw3
  go_enter Try.func7, Try.ntmps7
  go_wp2_with fail
  rw [← hw3]
  clear hw3
  refine (unhide HC).mono ?_
  rintro e w5 ⟨rfl, hf5⟩
  obtain ⟨h, hf3, hB3⟩ := unhide HX
  have hB5 := hB3.fr hf5 (fun _ h => h.elim)
  have hf05 := hf3.trans hf5 (fun _ _ h => h)
  obtain ⟨w6, hw6⟩ : ∃ w6, w6 = w5.alloc (.cells #[.int .i64 (r.limit : Nat), .int .i64 (r.born : Nat), .int .i64 (r.writes : Nat), .slice ao r.fs.length c, .int .i64 r.armed, .int .i64 r.tear, .bool r.off, .bool r.full] 30) := ⟨_, rfl⟩
  have hf6 : Fr (fun _ => False) w5 w6 := by rw [hw6]; exact box1 _ _
  have hB6 := hB5.fr hf6 (fun _ h => h.elim)
  have hf06 := hf05.trans hf6 (fun _ _ h => h)
  have hP6 := h.fr hf06 (fun _ _ h => h)
  have hsz : W.heap.size + 1 + 1 < w6.heap.size := lt_of_block hB6.z
  have hlt := h.lt
  obtain ⟨c0, c1, c2, c3, c4, c5, c6, c7, fz⟩ := cells_of8 hB6.t
  have o0 := cell_of_blk (o := 0) hB6.o rfl
  have o1 := cell_of_blk (o := 1) hB6.o rfl
  have o2 := cell_of_blk (o := 2) hB6.o rfl
  have o3 := cell_of_blk (o := 3) hB6.o rfl
  have o5 := cell_of_blk (o := 5) hB6.o rfl
  clear hB5 hf5 hf3 hB3 HC hf6 hf05
  rw [hw6] at c0 c1 c2 c3 c4 c5 c6 c7 fz o0 o1 o2 o3 o5
  go_wp2_with fail
  rw [← hw6]
  obtain ⟨s, q, hD6, hR⟩ := hP6.D
  refine (start_any d m s q O w6 hD6).mono ?_
  rintro e w7 ⟨rfl, hD7, hf7⟩
  have hdW : d < W.heap.size := by
    obtain ⟨s0, q0, hD0, _⟩ := h.D
    exact hD0.lt d hD0.od
  have hB7 := hB6.fr hf7 (fun k hk => by have e' : k = d := hk; omega)
  obtain ⟨w8, hw8⟩ : ∃ w8, w8 = w7.setCell ⟨W.heap.size, 6, none⟩ (.bool false) := ⟨_, rfl⟩
  have hf8 : Fr (fun k => k = W.heap.size) w7 w8 := by rw [hw8]; exact (Fr.refl (fun k => k = W.heap.size) w7).setCell (p := ⟨W.heap.size, 6, none⟩) (.inl rfl) _
  have hz8 := (hf8.block _ (lt_of_block hB7.z) (by show ¬ W.heap.size + 1 + 1 = W.heap.size; omega)).trans hB7.z
  obtain ⟨V, hrV, hgV, hfV⟩ := gbox hz8 ({ r with off := false } : RD) ao r.fs.length c
  have hG7 := hP6.G.fr hf7 (fun k hk e => by have e' : k = d := e; subst e'; exact hP6.dis k hD6.od hk)
  have hbx : ∀ k, O k ∨ T k → k ≠ W.heap.size ∧ k ≠ W.heap.size + 1 + 1 := fun k hk => by have := hlt k hk; omega
  have hDV := (hD7.fr hf8 (fun k hk e => (hbx k (.inl hk)).1 e)).fr hfV (fun k hk e => (hbx k (.inl hk)).2 e)
  have hGV := (hG7.fr hf8 (fun k hk e => (hbx k (.inr hk)).1 e)).fr hfV (fun k hk e => (hbx k (.inr hk)).2 e)
  have hGV2 : GD V ({ r with off := false } : RD) (.slice ao r.fs.length c) T := by
    obtain ⟨ao', c', Fs, g1, g2, g3⟩ := hGV.at_
    exact ⟨ao', c', Fs, g1, g2, g3⟩
  have hfin : PL W d m O T { r with off := false } (.returned (.tuple #[({ r with off := false } : RD).agg (.slice ao r.fs.length c), .bool true])) V := by
    refine ⟨_, O, T, rfl, ⟨⟨_, q, hDV, hR.nums _ _ rfl rfl rfl rfl rfl hR.l0 hR.t0 rfl rfl rfl hR.arm hR.tear rfl hR.full rfl⟩, hGV2, h.dis⟩, fun _ hk => .inl hk, fun _ hk => .inl hk, ?_⟩
    refine (((hf06.mono (fun _ _ h => h.elim)).trans hf7 (fun i hi e => .inl (by have e' : i = d := e; subst e'; exact hD6.od))).trans hf8 (fun i hi e => ?_)).trans hfV (fun i hi e => ?_)
    · have e' : i = W.heap.size := e
      omega
    · have e' : i = W.heap.size + 1 + 1 := e
      omega
  clear c0 c1 c2 c3 c4 c5 c6 c7 fz o0 o1 o2 o3 o5
  obtain ⟨c0, c1, c2, c3, c4, c5, c6, c7, fz⟩ := cells_of8 hB7.t
  have o5 := cell_of_blk (o := 5) hB7.o rfl
  unfold RD.agg at hrV
  dsimp only at hrV
  rw [hw8] at hrV
  have HV := hide hrV
  have HE := hide (And.intro hgV hfin)
  clear hrV hgV hfV hfin hGV hGV2 hDV hbx hG7 hz8 hf8 hw8 hB7 hdW hD7 hf7 hD6 hR hP6 hB6 hf06 hsz hlt h HX hw6
  go_wp2_with (refine wpList_stN rfl 30 (.tmp 6) _ rfl _ _ rfl rfl (unhide HV) ?_)
  (try simp only [Exit.inBlock, Exit.then])
  refine bodyPost_ret (results_cellt rfl _ _ (W.heap.size + 1 + 1) 0 _ _ _ rfl rfl (unhide HE).1 Try.underlying30 rfl (by kernel_rfl)) rfl ?_
  exact (unhide HE).2
end Go.Proofs.Ytoflkfnmbighaaa

namespace Go.Proofs.Ytoflkfnmbighaaa
open Go.RowKit Go.ChangeShapes Go.WideShapes Go.Maps

set_option maxHeartbeats 2000000 in
set_option maxRecDepth 100000 in
/-- played: Crash. -/
theorem played_9 (W : World) (d m : Nat) (r : RD) (v : Value) (O T : Nat → Prop) (h : PS W d m r v O T) (n : ByteArray) (a z b : Int) (on : Bool) (xv : Value) (hwr : r.writes ≤ 1000000) (hz : z ≤ 9223372036854775807) (hborn : ∀ Fs : List GF, Fs.map Prod.fst = r.fs → ∀ x ∈ Fs, ∀ y ∈ x.1.rb, y.b < 2305843009213693952) :
    Calls Try.prog 7 #[.pointer (some ⟨d, 0, none⟩), r.agg v, .agg #[.int .i64 9, .string n, .int .i64 a, .int .i64 z, .int .u64 b, .bool on, xv]] W (fun e W' => ∃ last : Nat, PL W d m O T { r with off := true, armed := 0, fs := r.fs.map (crF last) } e W') := by
  obtain ⟨ao, c, rfl⟩ := h.G.form
  obtain ⟨w3, hw3⟩ : ∃ w3, w3 = ((W.alloc (.cells (r.cells (.slice ao r.fs.length c)) 30)).alloc (.cells #[.int .i64 9, .string n, .int .i64 a, .int .i64 z, .int .u64 b, .bool on, xv] 38)).alloc (.cells zero8 30) := ⟨_, rfl⟩
  have hf3 : Fr (fun _ => False) W w3 := by rw [hw3]; exact (box2 _ _ _).alloc _
  have hB3 : B3 W w3 (r.cells (.slice ao r.fs.length c)) #[.int .i64 9, .string n, .int .i64 a, .int .i64 z, .int .u64 b, .bool on, xv] := by rw [hw3]; exact B3.new _ _ _
  have HC := hide (changed_no w3 d r ao c 9 a z b n on xv (by decide) (by decide) (by decide) (by decide) (by decide) (by decide) (by decide))
  have HX := hide (And.intro h (And.intro hf3 hB3))
  clear hf3 hB3 h
  unfold RD.agg at HC ⊢
  unfold RD.cells zero8 at hw3
  go_enter Try.func7, Try.ntmps7
  go_wp2_with fail
  rw [← hw3]
  clear hw3
  refine (unhide HC).mono ?_
  rintro e w5 ⟨rfl, hf5⟩
  obtain ⟨h, hf3, hB3⟩ := unhide HX
  have hB5 := hB3.fr hf5 (fun _ h => h.elim)
  have hf05 := hf3.trans hf5 (fun _ _ h => h)
  obtain ⟨w6, hw6⟩ : ∃ w6, w6 = w5.alloc (.cells #[.int .i64 (r.limit : Nat), .int .i64 (r.born : Nat), .int .i64 (r.writes : Nat), .slice ao r.fs.length c, .int .i64 r.armed, .int .i64 r.tear, .bool r.off, .bool r.full] 30) := ⟨_, rfl⟩
  have hf6 : Fr (fun _ => False) w5 w6 := by rw [hw6]; exact box1 _ _
  have hB6 := hB5.fr hf6 (fun _ h => h.elim)
  have hf06 := hf05.trans hf6 (fun _ _ h => h)
  have hP6 := h.fr hf06 (fun _ _ h => h)
  have hsz : W.heap.size + 1 + 1 < w6.heap.size := lt_of_block hB6.z
  have hlt := h.lt
  obtain ⟨c0, c1, c2, c3, c4, c5, c6, c7, fz⟩ := cells_of8 hB6.t
  have o0 := cell_of_blk (o := 0) hB6.o rfl
  have o1 := cell_of_blk (o := 1) hB6.o rfl
  have o2 := cell_of_blk (o := 2) hB6.o rfl
  have o3 := cell_of_blk (o := 3) hB6.o rfl
  have o5 := cell_of_blk (o := 5) hB6.o rfl
  clear hB5 hf5 hf3 hB3 HC hf6 hf05
  rw [hw6] at c0 c1 c2 c3 c4 c5 c6 c7 fz o0 o1 o2 o3 o5
  go_wp2_with fail
  rw [← hw6]
  obtain ⟨s, q, hD6, hR⟩ := hP6.D
  obtain ⟨ao', c', Fs, g1, hfs, hG6⟩ := hP6.G.at_
  have g1' : ao = ao' ∧ c = c' := by simpa using g1
  obtain ⟨rfl, rfl⟩ := g1'
  have hlF := len_map hfs
  have hwr' : s.writes ≤ 1000000 := by rw [← hR.wr]; exact hwr
  have hall := rel_allp hR q
  have hpres : ∀ k, Maps.has s.D (.string k) = true → (s.F k).ps.length ≤ 1000000 ∧ (s.F k).safe ≤ 1048576 ∧ (∀ p ∈ (s.F k).ps, p.2 ≤ 1048576) ∧ (s.F k).safe + sumP (s.F k).ps ≤ (s.F k).b.length ∧ (s.F k).b.length ≤ 1048576 := fun k hk => by
    obtain ⟨f, hf, rfl⟩ := (has_keys hR k).mp hk
    have h1 := rel_ps hR f hf
    have h2 := rel_blen hR f hf
    have h3 := rel_len hR f hf
    have h4 := hR.ul
    have h5 := hR.lim1
    have h6 := (hR.F f hf).sl
    have h7 := (hR.F f hf).pl
    rw [exps_len] at h7
    exact ⟨by omega, by omega, rel_sz hR f hf, by omega, by omega⟩
  have hul := hR.ul
  have hlm := hR.lim1
  refine (crash_any d m z s q O w6 hD6 (by omega) (fun k hk => (hpres k hk).1) hz (fun k hk => ⟨(hpres k hk).2.1, (hpres k hk).2.2.1⟩) (fun k hk => ⟨(hpres k hk).2.2.2.1, (hpres k hk).2.2.2.2⟩) (rel_ln hR) (by omega)).mono ?_
  rintro e w7 ⟨rfl, L, q', hL, hs, hD7, _, hf7⟩
  have hB7 := hB6.fr hf7 (fun k hk => hlt k (.inl hk))
  have hG7 := hG6.fr hf7 (fun k hk hk2 => hP6.dis k hk2 hk)
  rw [← hlF] at hG7
  have hbs : ∀ y ∈ Fs, y.1.rb.length ≤ 1048576 := fun y hy => by
    have := rel_len hR y.1 (by rw [← hfs]; exact List.mem_map.mpr ⟨y, hy, rfl⟩)
    omega
  have hbnn : ∀ x ∈ Fs, ∀ y ∈ x.1.rb, y.b < 2305843009213693952 := hborn Fs hfs
  have HG := hide (gcrash_any r.limit r.born r.writes r.fs r.armed r.tear r.off r.full ao c Fs T z w7 hG7 (by rw [hlF]; exact hR.n256) hbs (by rw [lenN_used hfs]; have : r.used = s.used := hR.used.symm; omega) hbnn)
  rw [hlF] at HG
  have H7 := hide (And.intro hD7 (And.intro hf7 (And.intro hB7 (And.intro hL (And.intro hs (And.intro hD6 (And.intro hR hfs)))))))
  clear c0 c1 c2 c3 c4 c5 c6 c7 fz o0 o1 o2 o3 o5
  obtain ⟨c0, c1, c2, c3, c4, c5, c6, c7, fz⟩ := cells_of8 hB7.t
  have o3 := cell_of_blk (o := 3) hB7.o rfl
  clear hD7 hf7 hB7 hL hs hD6 hG7 hbs hbnn hpres hall hR hlF hfs hG6 g1 hul hlm hwr' hw6
  unfold RD.agg at HG
  dsimp only at HG
  go_wp2_with fail
  refine (unhide HG).mono ?_
  rintro e w8 ⟨rfl, ⟨last, Fs', T', hq1, hq2, hmap, hG8, hT8⟩, hf8⟩
  obtain ⟨hD7, hf7, hB7, hL, hs, hD6, hR, hfs⟩ := unhide H7
  rw [← len_map hfs] at hq1 hq2
  have hR8 := hR.crash hD6 L hL hs z Fs hfs last hq1 hq2
  have hmap2 : Fs'.map Prod.fst = r.fs.map (crF last) := by rw [hmap, hfs]
  have hs7 : w6.heap.size ≤ w7.heap.size := hf7.size
  have hTW : ∀ k, T k → k < W.heap.size := fun k hk => hlt k (.inr hk)
  have hOW : ∀ k, O k → k < W.heap.size := fun k hk => hlt k (.inl hk)
  have hB8 := hB7.fr hf8 hTW
  obtain ⟨V, hrV, hgV, hfV⟩ := gbox hB8.z ({ r with off := true, armed := 0, fs := r.fs.map (crF last) } : RD) ao r.fs.length c
  have hbx : ∀ k, O k ∨ T' k → k ≠ W.heap.size + 1 + 1 := fun k hk => by
    rcases hk with hk | hk
    · have := hOW k hk; omega
    · rcases hT8 k hk with h9 | h9
      · have := hTW k h9; omega
      · omega
  have hDV := (hD7.fr hf8 (fun k hk ht => h.dis k hk ht)).fr hfV (fun k hk e => hbx k (.inl hk) e)
  have hGV := hG8.fr hfV (fun k hk e => hbx k (.inr hk) e)
  have hfin : PL W d m O T { r with off := true, armed := 0, fs := r.fs.map (crF last) } (.returned (.tuple #[({ r with off := true, armed := 0, fs := r.fs.map (crF last) } : RD).agg (.slice ao r.fs.length c), .bool true])) V := by
    refine ⟨_, O, T', rfl, ⟨⟨_, q', hDV, hR8⟩, ⟨ao, c, Fs', by simp, hmap2, hGV⟩, fun k hk ht => ?_⟩, fun _ hk => .inl hk, fun k hk => (hT8 k hk).elim .inl (fun h9 => .inr (by omega)), ?_⟩
    · rcases hT8 k ht with h9 | h9
      · exact h.dis k hk h9
      · have := hOW k hk; omega
    · refine (((hf06.mono (fun _ _ h => h.elim)).trans hf7 (fun i hi e => .inl e)).trans hf8 (fun i hi e => .inr e)).trans hfV (fun i hi e => ?_)
      have e' : i = W.heap.size + 1 + 1 := e
      omega
  unfold RD.agg at hrV
  dsimp only at hrV
  have HV := hide hrV
  have HE := hide (And.intro hgV hfin)
  clear hrV hgV hfV hfin hGV hDV hbx hB8 hTW hOW hs7 hmap2 hR8 hD7 hf7 hB7 hL hs hD6 hR hfs hq1 hq2 hmap hG8 hT8 hf8 H7 HG HX h hP6 hB6 hf06 hsz hlt c0 c1 c2 c3 c4 c5 c6 c7 fz o3
  go_wp2_with (refine wpList_stN rfl 30 (.tmp 6) _ rfl _ _ rfl rfl (unhide HV) ?_)
  (try simp only [Exit.inBlock, Exit.then])
  refine bodyPost_ret (results_cellt rfl _ _ (W.heap.size + 1 + 1) 0 _ _ _ rfl rfl (unhide HE).1 Try.underlying30 rfl (by kernel_rfl)) rfl ?_
  exact ⟨_, (unhide HE).2⟩
end Go.Proofs.Ytoflkfnmbighaaa

namespace Go.Proofs.Ytoflkfnmbighaaa
open Go.RowKit Go.ChangeShapes Go.WideShapes Go.Maps

/-- The document's disk behind i calls. -/
structure Bud (r : RD) (i : Nat) : Prop where
  wr : r.writes ≤ i
  bn : r.born ≤ i * 1048576
  ab : ∀ f ∈ r.fs, ∀ x ∈ f.rb, x.b < r.born
theorem Bud.up {r : RD} {i : Nat} (h : Bud r i) : Bud r (i + 1) := ⟨Nat.le_succ_of_le h.wr, Nat.le_trans h.bn (Nat.mul_le_mul_right _ (Nat.le_succ i)), h.ab⟩
theorem Bud.nums {r x : RD} {i : Nat} (h : Bud r i) (h1 : x.writes = r.writes) (h2 : x.born = r.born) (h3 : x.fs = r.fs) : Bud x i := ⟨h1 ▸ h.wr, h2 ▸ h.bn, by rw [h2, h3]; exact h.ab⟩
theorem Bud.withF {r : RD} {i : Nat} (h : Bud r i) (n : ByteArray) (g : Nat → RFl → RD × Int) (hg : ∀ k f, r.fs[k]? = some f → Bud (g k f).1 (i + 1)) : Bud (r.withF n g).1 (i + 1) := by
  unfold RD.withF
  split
  · exact h.up
  · split
    · exact h.up
    · split
      · exact h.up
      · rename_i f hf
        exact hg _ f hf
theorem Bud.set {r : RD} {i : Nat} (h : Bud r i) (k : Nat) (y : RFl) (hy : ∀ x ∈ y.rb, x.b < r.born) : Bud { r with fs := r.fs.set k y } (i + 1) :=
  ⟨h.up.wr, h.up.bn, fun f hf x hx => by
    rcases List.mem_or_eq_of_mem_set hf with h1 | rfl
    · exact h.ab f h1 x hx
    · exact hy x hx⟩
theorem Bud.create {r : RD} {i : Nat} (h : Bud r i) (n : ByteArray) : Bud (r.createR n).1 (i + 1) := by
  unfold RD.createR
  split
  · exact h.up
  · split
    · exact h.up
    · split
      · exact h.up
      · split
        · exact h.up
        · refine ⟨h.up.wr, h.up.bn, fun f hf x hx => ?_⟩
          rcases List.mem_append.mp hf with h1 | h1
          · exact h.ab f h1 x hx
          · rw [List.mem_singleton] at h1
            subst h1
            cases hx
theorem Bud.sync {r : RD} {i : Nat} (h : Bud r i) (n : ByteArray) : Bud (r.syncR n).1 (i + 1) :=
  h.withF n _ fun k f hf => h.set k _ fun x hx => by
    obtain ⟨y, hy, rfl⟩ := List.mem_map.mp hx
    exact h.ab f (List.mem_of_getElem? hf) y hy
theorem Bud.cut {r : RD} {i : Nat} (h : Bud r i) (n : ByteArray) (z : Int) : Bud (r.cutR n z).1 (i + 1) :=
  h.withF n _ fun k f hf => by
    split
    · exact h.up
    · exact h.set k _ fun x hx => h.ab f (List.mem_of_getElem? hf) x (List.mem_of_mem_take hx)
theorem Bud.remove {r : RD} {i : Nat} (h : Bud r i) (n : ByteArray) : Bud (r.removeR n).1 (i + 1) :=
  h.withF n _ fun _ _ _ => ⟨h.up.wr, h.up.bn, fun g hg x hx => h.ab g (List.mem_of_mem_eraseIdx hg) x hx⟩
theorem Bud.turn {r : RD} {i : Nat} (h : Bud r i) (n : ByteArray) (z b : Int) : Bud (r.turnR n z b).1 (i + 1) :=
  h.withF n _ fun k f hf => by
    split
    · exact h.up
    · split
      · exact h.up
      · rename_i y hy
        refine h.set k _ fun x hx => ?_
        rcases List.mem_or_eq_of_mem_set hx with h1 | rfl
        · exact h.ab f (List.mem_of_getElem? hf) x h1
        · exact h.ab f (List.mem_of_getElem? hf) y (List.mem_of_getElem? hy)
theorem Bud.arm {r : RD} {i : Nat} (h : Bud r i) (a z : Int) : Bud (r.armR a z).1 (i + 1) := by
  unfold RD.armR
  split
  · exact h.up
  · split
    · exact h.up
    · exact h.up.nums rfl rfl rfl
theorem nB_lt (l : List Nat) (b j : Nat) (x : RB) (h : x ∈ nB l b j) : x.b < b + j := by
  unfold nB at h
  rw [List.mem_mapIdx] at h
  obtain ⟨i, hi, rfl⟩ := h
  rw [List.length_take] at hi
  show b + i < b + j
  omega
theorem Bud.append {r : RD} {i : Nat} (h : Bud r i) (n : ByteArray) (l : List Nat) (hl : l.length ≤ 1048576) : Bud (r.appendR n l).1 (i + 1) :=
  h.withF n _ fun k f hf => by
    split
    · exact h.up
    · have hc : r.come l.length ≤ 1048576 := by
        unfold RD.come
        split
        · rename_i hh
          omega
        · exact hl
      have hb := h.bn
      refine ⟨?_, ?_, fun g hg x hx => ?_⟩
      · show r.writes + 1 ≤ i + 1
        have := h.wr
        omega
      · show r.born + r.come l.length ≤ (i + 1) * 1048576
        omega
      · show x.b < r.born + r.come l.length
        rcases List.mem_or_eq_of_mem_set hg with h1 | rfl
        · exact Nat.lt_of_lt_of_le (h.ab g h1 x hx) (Nat.le_add_right _ _)
        · rcases List.mem_append.mp hx with h1 | h1
          · exact Nat.lt_of_lt_of_le (h.ab f (List.mem_of_getElem? hf) x h1) (Nat.le_add_right _ _)
          · exact nB_lt l r.born _ x h1
theorem Bud.crash {r : RD} {i : Nat} (h : Bud r i) (last : Nat) : Bud { r with off := true, armed := 0, fs := r.fs.map (crF last) } (i + 1) :=
  ⟨h.up.wr, h.up.bn, fun g hg x hx => by
    obtain ⟨f, hf, rfl⟩ := List.mem_map.mp hg
    unfold crF crB at hx
    obtain ⟨y, hy, rfl⟩ := List.mem_map.mp hx
    exact h.ab f hf y (List.mem_filter.mp hy).1⟩
/-- played, where nothing changes. -/
theorem PL.same {W V6 : World} {d m : Nat} {r : RD} {ao : Option Addr} {c : Nat} {O T : Nat → Prop} (h : PS W d m r (.slice ao r.fs.length c) O T) (hf : Fr (fun _ => False) W V6) (hz : V6.heap[W.heap.size + 1 + 1]? = some (.cells zero8 30)) :
    ∃ V, (Instr.storeAt 30 (.pointer (some ⟨W.heap.size + 1 + 1, 0, none⟩)) (r.agg (.slice ao r.fs.length c))).run Try.prog V6 = .ok () V ∧ V.rangeAt (W.heap.size + 1 + 1) 0 (r.cells (.slice ao r.fs.length c)).toList ∧ PL W d m O T r (.returned (.tuple #[r.agg (.slice ao r.fs.length c), .bool true])) V ∧ Fr (fun k => k = W.heap.size + 1 + 1) V6 V := by
  obtain ⟨V, hrV, hgV, hfV⟩ := gbox hz r ao r.fs.length c
  refine ⟨V, hrV, hgV, ⟨_, O, T, rfl, (h.fr hf (fun _ _ h => h)).fr hfV (fun k hk e => ?_), fun _ hk => .inl hk, fun _ hk => .inl hk, (hf.mono (fun _ _ h => h.elim)).trans hfV (fun i hi e => ?_)⟩, hfV⟩
  · have := h.lt k hk
    have e' : k = W.heap.size + 1 + 1 := e
    omega
  · have e' : i = W.heap.size + 1 + 1 := e
    omega
theorem rel_new (limit : Nat) (h : limit ≤ 1048576) : Rel (DM.new limit) ⟨limit, 0, 0, [], 0, 0, false, false⟩ :=
  ⟨rfl, h, rfl, rfl, rfl, rfl, fun _ => rfl, ⟨Int.le_refl 0, (by decide : (0 : Int) < 9223372036854775808)⟩, ⟨Int.le_refl 0, (by decide : (0 : Int) < 9223372036854775808)⟩, ⟨[], rfl⟩, List.Perm.nil, List.Pairwise.nil, fun _ h => (by cases h), Nat.zero_le _, fun _ h => (by cases h), fun _ h => (by cases h), rfl, Nat.zero_le _, Nat.zero_le _⟩
theorem bud_new (limit : Nat) : Bud ⟨limit, 0, 0, [], 0, 0, false, false⟩ 0 := ⟨Nat.le_refl _, Nat.le_refl _, fun _ h => (by cases h)⟩
set_option maxRecDepth 100000 in
/-- New. -/
theorem gnew_ok (limit : Nat) (W : World) (h1 : 1 ≤ limit) (h2 : limit ≤ 1048576) :
    Calls Try.prog 6 #[.int .i64 (limit : Nat)] W fun e w' => e = .returned (.tuple #[(RD.mk limit 0 0 [] 0 0 false false).agg (.slice none 0 0), .int .i64 0]) ∧ Fr (fun _ => False) W w' := by
  obtain ⟨w, hw⟩ : ∃ w, w = W.alloc (.cells zero8 30) := ⟨_, rfl⟩
  have hf : Fr (fun _ => False) W w := by rw [hw]; exact box1 _ _
  have hb0 : w.heap[W.heap.size]? = some (.cells zero8 30) := by rw [hw]; exact heap_alloc_new _ _
  obtain ⟨V, hrV, hgV, hfV⟩ := gbox hb0 (RD.mk limit 0 0 [] 0 0 false false) none 0 0
  have HE := hide (And.intro hgV (hf.trans hfV (fun i hi e => by have e' : i = W.heap.size := e; omega)))
  unfold RD.agg at hrV ⊢
  dsimp only at hrV ⊢
  rw [hw] at hrV
  unfold zero8 at hrV
  have HV := hide hrV
  have l1 : ¬ (limit : Int) < 1 := by omega
  have l2 : ¬ (limit : Int) > 1048576 := by omega
  clear hrV hgV hfV hf hw hb0
  go_enter Try.func6, Try.ntmps6
  go_wp2_with (refine wpList_stN rfl 30 _ _ rfl _ _ rfl rfl (unhide HV) ?_)
  (try simp only [Exit.inBlock, Exit.then])
  refine bodyPost_ret (results_cellt rfl _ _ W.heap.size 0 _ _ _ rfl rfl (unhide HE).1 Try.underlying30 rfl (by kernel_rfl)) rfl ?_
  exact ⟨rfl, (unhide HE).2⟩
theorem nrm {α : Type} : (∀ (l : List α) (i : Nat) (h : i < l.toArray.size), l.toArray[i]'h = l[i]'(by simpa using h)) ∧ (∀ (a : α) (l : List α) (h : 0 < (a :: l).length), (a :: l)[0]'h = a) ∧ (∀ (a : α) (l : List α) (i : Nat) (h : i + 1 < (a :: l).length), (a :: l)[i + 1]'h = l[i]'(by simpa using h)) ∧ (∀ (l : List α) (i : Nat) (v : α), l.toArray.setIfInBounds i v = (l.set i v).toArray) ∧ (∀ (a b : α) (l : List α), (a :: l).set 0 b = b :: l) ∧ (∀ (a b : α) (l : List α) (i : Nat), (a :: l).set (i + 1) b = a :: l.set i b) :=
  ⟨fun _ _ _ => rfl, fun _ _ _ => rfl, fun _ _ _ _ => rfl, fun _ _ _ => List.setIfInBounds_toArray .., fun _ _ _ => rfl, fun _ _ _ _ => rfl⟩
theorem wtk {P : Program} {md : Region.Mode} {ops : Array Oper} {Q : Exit → Act → World → Prop} {S : World → Prop} {i : Nat} {oi : Oper} {v : Value} {fuel : Nat} {listed : Array Bool} {a : Act} {w : World} (hi : ops[i]? = some oi) (hy : YieldsIf P ops S oi v a) (hS : S w)
    (h : wpAnyH P md ops Q S fuel (listed.setIfInBounds i true) (a.put oi.dst v) w) (hs : Region.noSelect ops = true := by kernel_rfl) (hf : Region.free md ops listed i = true := by kernel_rfl) (hr : (Region.ready md ops listed).contains i = true := by kernel_rfl) (hQ : ∀ c a w, Q (.panic c) (a.put oi.dst v) w → Q (.panic c) a w := by exact fun _ _ _ h => h) : wpAnyH P md ops Q S (fuel + 1) listed a w := wpAnyH_take hi hs hf hr hQ hy hS h
theorem own_go {w w' : World} {b e z n : Nat} {v : Value} {xs : List Value} (h : w.ownsRow b e z v n xs) (hf : Fr (fun _ => False) w w') : w'.ownsRow b e z v n xs := ownsRow_of_block h (fun k hk => hf.block k (h.lt k hk).2 (fun h => h))
theorem wp_stN {P : Program} {w w' : World} {op : Oper} {a : Act} {K : Act → World → Prop} {Q : Exit → Act → World → Prop} (ty : TypeId) (x y : Operand) (ho : op.op = .store ty x y)
    (p v : Value) (hx : a.eval x = p) (hy : a.eval y = v) (hr : (Instr.storeAt ty p v).run P w = .ok () w')
    (h : K (a.put op.dst undef) w') : op.wp P a w K Q := by
  unfold Oper.wp execOp
  simp only [ho, hx, hy, Sem.run_bind, hr, Result.andThen_ok, Sem.run_pure]
  exact h
end Go.Proofs.Ytoflkfnmbighaaa

namespace Go.Proofs.Ytoflkfnmbighaaa
open Go.RowKit Go.ChangeShapes Go.WideShapes Go.Maps

theorem bl_lt : ∀ a b : List UInt8, Op.bytesLess a b = decide (a < b)
  | [], [] => rfl
  | [], y :: b => by simp [Op.bytesLess]
  | x :: a, [] => by simp [Op.bytesLess]
  | x :: a, y :: b => by
    simp only [Op.bytesLess, bl_lt a b]
    rw [Bool.eq_iff_iff]
    simp [List.cons_lt_cons_iff]
theorem lt_tl (a b : ByteArray) : Op.bytesLess a.toList b.toList = decide (nm a < nm b) := by rw [toList_nm, toList_nm, bl_lt]
theorem nm_tri : ∀ a b : List UInt8, a < b ∨ a = b ∨ b < a
  | [], [] => .inr (.inl rfl)
  | [], y :: b => .inl (by simp)
  | x :: a, [] => .inr (.inr (by simp))
  | x :: a, y :: b => by
    have ht : x < y ∨ x = y ∨ y < x := by
      rcases Nat.lt_trichotomy x.toNat y.toNat with h | h | h
      · exact .inl (UInt8.lt_iff_toNat_lt.2 h)
      · exact .inr (.inl (UInt8.toNat_inj.1 h))
      · exact .inr (.inr (UInt8.lt_iff_toNat_lt.2 h))
    rcases ht with h | rfl | h
    · exact .inl (List.cons_lt_cons_iff.mpr (.inl h))
    · rcases nm_tri a b with h | rfl | h
      · exact .inl (List.cons_lt_cons_iff.mpr (.inr ⟨rfl, h⟩))
      · exact .inr (.inl rfl)
      · exact .inr (.inr (List.cons_lt_cons_iff.mpr (.inr ⟨rfl, h⟩)))
    · exact .inr (.inr (List.cons_lt_cons_iff.mpr (.inl h)))
theorem gt_tl (a b : ByteArray) : (!Op.bytesLess a.toList b.toList && !(a.toList == b.toList)) = decide (nm b < nm a) := by
  rw [lt_tl, tl_eq]
  rcases nm_tri (nm a) (nm b) with h | h | h
  · have h2 : ¬ nm b < nm a := List.lt_asymm h
    simp [h, h2]
  · have h2 : ¬ nm b < nm a := by rw [h]; exact List.lt_irrefl _
    simp [h]
  · have h2 : ¬ nm a < nm b := List.lt_asymm h
    have h3 : ¬ nm a = nm b := fun e => by rw [e] at h; exact List.lt_irrefl _ h
    simp [h, h2, h3]
theorem Try.infoSt : (Try.prog.info? 9).map (fun i => (i.zero, i.size, i.bytes)) = some (some (.string ⟨#[]⟩), 1, 16) := by kernel_rfl
def scells (l : List ByteArray) : List Value := l.map .string
/-- append of a text. -/
theorem app_st (w : World) (base : Nat) (z : ByteArray) (v : Value) (A : List ByteArray) (h : w.ownsRow base 9 1 v A.length (scells A)) (hl : A.length ≤ 1000) (hb0 : base ≤ w.heap.size) :
    ∃ ao cap w', (Builtin.append_ #[66, 66] 66 #[v, .slice (some ⟨w.heap.size, 0, none⟩) 1 1]).run Try.prog (w.alloc (.cells #[.string z] 9)) = .ok (.slice ao (A.length + 1) cap) w' ∧ w'.ownsRow base 9 1 (.slice ao (A.length + 1) cap) (A.length + 1) (scells (A ++ [z])) ∧ Fr (fun g => v.ownBlock = some g) w w' := by
  obtain ⟨i0, hi, hz0, hz1, hz2⟩ := info_parts Try.infoSt
  have h1 : (w.alloc (.cells #[.string z] 9)).ownsRow base 9 1 v A.length (scells A) := ownsRow_of_block h (fun k hk => Below.heap_alloc _ _ _ (h.lt k hk).2)
  have hx : (w.alloc (.cells #[.string z] 9)).ownsRow 0 9 1 (.slice (some ⟨w.heap.size, 0, none⟩) 1 1) [z].length (scells [z]) := ⟨by simp [scells], .inr ⟨w.heap.size, 1, _, rfl, Nat.zero_le _, heap_alloc_new w _, Nat.le_refl _, by decide, rfl, by simp [scells]⟩⟩
  obtain ⟨v', w', hr, h2, h3, h4, h5⟩ := run_append_own_at (P := Try.prog) _ base 66 66 9 i0 (.string ⟨#[]⟩) 1 16 Try.underlying66 hi hz0 hz1 hz2 rfl (by decide) v A.length (scells A) h1 ⟨w.heap.size, 0, none⟩ 1 1 (scells [z]) (by simp [scells]) (fun j u hu => hx.cells (g := w.heap.size) rfl j u hu) (fun u hu => by simp [scells] at hu; subst hu; rfl) (by simp only [maxLen]; omega) (by omega) (by simp; omega)
  obtain ⟨ao, cap', rfl⟩ := own_formX h2
  exact ⟨ao, cap', w', hr, by simp only [scells, List.map_append] at h2 ⊢; exact h2, ((box1 w _).mono (fun _ _ h => h.elim)).grown h3 (fun g hg => .inl hg)⟩
/-- The least names, rising, so many. -/
structure Low (Ns : List ByteArray) (S : List ByteArray) : Prop where
  rise : S.Pairwise (fun a b => nm a < nm b)
  mem : ∀ s ∈ S, s ∈ Ns
  rest : ∀ n ∈ Ns, n ∈ S ∨ ∀ s ∈ S, nm s < nm n
theorem Low.last {Ns S : List ByteArray} (h : Low Ns S) (q : ByteArray) (hq : S.getLast? = some q) (n : ByteArray) : (∀ s ∈ S, nm s < nm n) ↔ nm q < nm n := by
  constructor
  · intro hs
    exact hs q (List.mem_of_getLast? hq)
  · intro hn s hs
    obtain ⟨T, rfl⟩ := List.getLast?_eq_some_iff.mp hq
    have := List.pairwise_append.mp h.rise
    rcases List.mem_append.mp hs with h1 | h1
    · exact List.lt_trans (this.2.2 s h1 q (by simp)) hn
    · simp at h1; subst h1; exact hn
theorem Low.more {Ns S : List ByteArray} (h : Low Ns S) (b : ByteArray) (hb : b ∈ Ns) (hc : ∀ s ∈ S, nm s < nm b) (hmin : ∀ n ∈ Ns, (∀ s ∈ S, nm s < nm n) → ¬ nm n < nm b) : Low Ns (S ++ [b]) := by
  refine ⟨?_, ?_, ?_⟩
  · rw [List.pairwise_append]
    exact ⟨h.rise, by simp, fun a ha c hc2 => by simp at hc2; subst hc2; exact hc a ha⟩
  · intro s hs
    rcases List.mem_append.mp hs with h1 | h1
    · exact h.mem s h1
    · simp at h1; subst h1; exact hb
  · intro n hn
    rcases h.rest n hn with h1 | h1
    · exact .inl (List.mem_append_left _ h1)
    · rcases nm_tri (nm n) (nm b) with h2 | h2 | h2
      · exact absurd h2 (hmin n hn h1)
      · exact .inl (by rw [nm_inj h2]; simp)
      · refine .inr fun s hs => ?_
        rcases List.mem_append.mp hs with h3 | h3
        · exact h1 s h3
        · simp at h3; subst h3; exact h2
theorem Low.open {Ns S : List ByteArray} (h : Low Ns S) (hnd : Ns.Nodup) (hl : S.length < Ns.length) : ∃ n ∈ Ns, ∀ s ∈ S, nm s < nm n := by
  rcases Classical.em (∃ n ∈ Ns, ∀ s ∈ S, nm s < nm n) with h1 | h1
  · exact h1
  · exfalso
    have hsub : Ns ⊆ S := fun n hn => by
      rcases h.rest n hn with h2 | h2
      · exact h2
      · exact absurd ⟨n, hn, h2⟩ h1
    have := hnd.length_le_of_subset hsub
    omega
end Go.Proofs.Ytoflkfnmbighaaa

namespace Go.Proofs.Ytoflkfnmbighaaa
open Go.RowKit Go.ChangeShapes Go.WideShapes Go.Maps

def slLen : Value → Nat
  | .slice _ n _ => n
  | _ => 0
def cnd (S : List ByteArray) (n : ByteArray) : Prop := ∀ s ∈ S, nm s < nm n
theorem Try.gtrN (a b : ByteArray) (w : World) : (binOp .gtr 9 (.string a) (.string b)).run Try.prog w = .ok (.bool (decide (nm b < nm a))) w := by
  have h : (binOp .gtr 9 (.string a) (.string b)).run Try.prog w = .ok (.bool (!Op.bytesLess a.toList b.toList && !(a.toList == b.toList))) w := by simp [binOp, Op.stringOp]
  rw [h, gt_tl]
theorem Try.lssN (a b : ByteArray) (w : World) : (binOp .lss 9 (.string a) (.string b)).run Try.prog w = .ok (.bool (decide (nm a < nm b))) w := by
  have h : (binOp .lss 9 (.string a) (.string b)).run Try.prog w = .ok (.bool (Op.bytesLess a.toList b.toList)) w := by simp [binOp, Op.stringOp]
  rw [h, lt_tl]
set_option maxHeartbeats 2000000 in
set_option maxRecDepth 100000 in
/-- Names. -/
theorem gnames_any (r : RD) (ao : Option Addr) (c : Nat) (Fs : List GF) (T : Nat → Prop) (W : World) (h : GAt W (.slice ao Fs.length c) Fs T) (hl : Fs.length ≤ 256) (hnd : (Fs.map fun x => x.1.name).Nodup) :
    Calls Try.prog 31 #[r.agg (.slice ao Fs.length c)] W fun e w' => ∃ (S : List ByteArray) (lo : Option Addr) (lc : Nat), e = .returned (.slice lo S.length lc) ∧ w'.ownsRow W.heap.size 9 1 (.slice lo S.length lc) S.length (scells S) ∧ Low (Fs.map fun x => x.1.name) S ∧ S.length = Fs.length ∧ Fr (fun _ => False) W w' := by
  obtain ⟨w, hw⟩ : ∃ w, w = W.alloc (.cells (r.cells (.slice ao Fs.length c)) 30) := ⟨_, rfl⟩
  have hf : Fr (fun _ => False) W w := by rw [hw]; exact box1 _ _
  have HX := hide (And.intro (h.fr0 hf) (And.intro hf hnd))
  have hbk : w.heap[W.heap.size]? = some (.cells (r.cells (.slice ao Fs.length c)) 30) := by rw [hw]; exact heap_alloc_new _ _
  have C3 := hide (show w.cell? ⟨W.heap.size, 3, none⟩ = some (.slice ao Fs.length c) from cell_of_blk hbk rfl)
  unfold RD.agg
  unfold RD.cells at hw
  clear h hf hbk hnd
  go_enter Try.func31, Try.ntmps31
  go_wp2_with fail
  rw [← hw]
  clear hw
  go_loopw [3] (fun lv wr => ∃ (S : List ByteArray) (lo : Option Addr) (lc : Nat), lv = .slice lo S.length lc ∧ S.length ≤ Fs.length ∧ Low (Fs.map fun x => x.1.name) S ∧ wr.ownsRow w.heap.size 9 1 (.slice lo S.length lc) S.length (scells S) ∧ Fr (fun _ => False) w wr) (fun lv _ => Fs.length - slLen lv)
  case atStart => exact ⟨[], none, 0, rfl, Nat.zero_le _, ⟨by simp, by simp, fun n _ => .inr (by simp)⟩, World.ownsRow_nil _ _ _ _, Fr.refl _ _⟩
  case round =>
    obtain ⟨S, lo, lc, rfl, hSl, hLow, hrow, hfr⟩ := hrel
    have c3 : wr.cell? ⟨W.heap.size, 3, none⟩ = some (.slice ao Fs.length c) := (hfr.cell (p := ⟨W.heap.size, 3, none⟩) (lt_of_cell (unhide C3)) (fun h => h)).trans (unhide C3)
    by_cases hlt : S.length < Fs.length
    · have hkl : (S.length : Int) < (Fs.length : Int) := by omega
      have HS := hide (And.intro hLow (And.intro hrow (And.intro hfr ((unhide HX).1.fr0 hfr))))
      have hcell : ∀ q A, S = A ++ [q] → ∃ g, lo = some ⟨g, 0, none⟩ ∧ wr.cell? ⟨g, A.length, none⟩ = some (.string q) := fun q A e => by
        subst e
        obtain ⟨g, rfl⟩ : ∃ g, lo = some ⟨g, 0, none⟩ := by
          rcases hrow.2 with ⟨_, e⟩ | ⟨g, c', cur, e, _⟩
          · simp at e
          · simp only [Value.slice.injEq] at e; exact ⟨g, e.1⟩
        have h1 := hrow.cells (g := g) rfl A.length (.string q) (by simp [scells])
        rw [addr_add] at h1
        exact ⟨g, rfl, by simpa using h1⟩
      have HC := hide hcell
      clear hLow hrow hfr hcell
      rcases hq : S.getLast? with _ | q
      · obtain rfl : S = [] := List.getLast?_eq_none_iff.mp hq
        clear hq
        go_wp2_with fail
        go_loopw [4, 5, 6] (fun bv fv iv wq => ∃ j : Nat, j ≤ Fs.length ∧ iv = .int .i64 (j : Nat) ∧ wq = wr ∧ ((fv = .bool false ∧ bv = .string ⟨#[]⟩ ∧ ∀ (i : Nat) (x : GF), i < j → Fs[i]? = some x → ¬ cnd [] x.1.name) ∨ (fv = .bool true ∧ ∃ b, bv = .string b ∧ b ∈ (Fs.map fun x => x.1.name) ∧ cnd [] b ∧ ∀ (i : Nat) (x : GF), i < j → Fs[i]? = some x → cnd [] x.1.name → ¬ nm x.1.name < nm b))) (fun _ _ iv _ => Fs.length - (intOf iv).toNat)
        case atStart => exact ⟨0, Nat.zero_le _, rfl, rfl, .inl ⟨rfl, rfl, fun i x hi => by omega⟩⟩
        case round =>
          obtain ⟨j, hj, rfl, rfl, hst⟩ := hrel
          by_cases hltj : j < Fs.length
          · have hklj : (j : Int) < (Fs.length : Int) := by omega
            have hxj := List.getElem?_eq_getElem hltj
            obtain ⟨g, rfl, _, d0, _, _⟩ := (unhide HS).2.2.2.at_ hxj
            have hmem : Fs[j].1.name ∈ (Fs.map fun x => x.1.name) := List.mem_map.mpr ⟨Fs[j], List.getElem_mem hltj, rfl⟩
            have hstep : ∀ (i : Nat) (x : GF), i < j + 1 → Fs[i]? = some x → (i < j ∨ x.1.name = Fs[j].1.name) := fun i x hi hx => by
              rcases Nat.lt_or_ge i j with h1 | h1
              · exact .inl h1
              · obtain rfl : i = j := by omega
                rw [hxj] at hx
                cases hx
                exact .inr rfl
            have HM := hide (And.intro hmem hstep)
            generalize Fs[j].1.name = xn at *
            clear hmem hstep hxj
            have HN := hide (show cnd [] xn by simp [cnd])
            rcases hst with ⟨rfl, rfl, hno⟩ | ⟨rfl, b, rfl, hbm, hbc, hmin⟩
            · have HO := hide hno
              clear hno HC
              go_wp2_with fail
              exact ⟨⟨j + 1, hltj, by go_num, trivial, .inr ⟨rfl, xn, rfl, (unhide HM).1, unhide HN, fun i x hi hx hc => by
                rcases (unhide HM).2 i x hi hx with h1 | h1
                · exact absurd hc ((unhide HO) i x h1 hx)
                · rw [h1]; exact List.lt_irrefl _⟩⟩, by simp [intOf]; omega⟩
            · have HO := hide (And.intro hbm (And.intro hbc hmin))
              clear hbm hbc hmin HC
              by_cases hb2 : nm xn < nm b
              · have hL : Op.bytesLess xn.toList b.toList = true := by rw [lt_tl]; simpa using hb2
                have HB := hide hb2
                clear hb2
                go_wp2_with fail
                exact ⟨⟨j + 1, hltj, by go_num, trivial, .inr ⟨rfl, xn, rfl, (unhide HM).1, unhide HN, fun i x hi hx hc => by
                  rcases (unhide HM).2 i x hi hx with h1 | h1
                  · exact fun h9 => (unhide HO).2.2 i x h1 hx hc (List.lt_trans h9 (unhide HB))
                  · rw [h1]; exact List.lt_irrefl _⟩⟩, by simp [intOf]; omega⟩
              · have hL : Op.bytesLess xn.toList b.toList = false := by rw [lt_tl]; simpa using hb2
                have HB := hide hb2
                clear hb2
                go_wp2_with fail
                exact ⟨⟨j + 1, hltj, by go_num, trivial, .inr ⟨rfl, b, rfl, (unhide HO).1, (unhide HO).2.1, fun i x hi hx hc => by
                  rcases (unhide HM).2 i x hi hx with h1 | h1
                  · exact (unhide HO).2.2 i x h1 hx hc
                  · rw [h1]; exact unhide HB⟩⟩, by simp [intOf]; omega⟩
          · have hklj : ¬ (j : Int) < (Fs.length : Int) := by omega
            obtain rfl : Fs.length = j := by omega
            rcases hst with ⟨rfl, rfl, hno⟩ | ⟨rfl, b, rfl, hbm, hbc, hmin⟩
            · exfalso
              obtain ⟨n, hn, hc⟩ := (unhide HS).1.open (unhide HX).2.2 (by simpa using hlt)
              obtain ⟨x, hx, rfl⟩ := List.mem_map.mp hn
              obtain ⟨i, hi⟩ := List.mem_iff_getElem?.mp hx
              exact hno i x (List.getElem?_eq_some_iff.1 hi).1 hi hc
            · have hLow2 := (unhide HS).1.more b hbm hbc (fun n hn hc => by
                obtain ⟨x, hx, rfl⟩ := List.mem_map.mp hn
                obtain ⟨i, hi⟩ := List.mem_iff_getElem?.mp hx
                exact hmin i x (List.getElem?_eq_some_iff.1 hi).1 hi hc)
              obtain ⟨a3, k3, w3, hr3, ho3, hf3⟩ := app_st wr w.heap.size b _ [] (unhide HS).2.1 (by omega) (unhide HS).2.2.1.size
              have HE := hide (And.intro hLow2 (And.intro ho3 ((unhide HS).2.2.1.absorb hf3 (fun g hg => ((unhide HS).2.1.lt g hg).1))))
              (try simp only [List.length_nil, Nat.zero_add] at hr3)
              have HR3 := hide hr3
              clear hLow2 ho3 hf3 hr3 hbm hbc hmin HC
              go_wp2_with (first | (at_builtin; refine wpList_app rfl _ _ 66 66 rfl _ _ _ rfl rfl (unhide HR3) ?_))
              exact ⟨⟨[] ++ [b], a3, k3, by simp, by simp; omega, (unhide HE).1, by simpa using (unhide HE).2.1, (unhide HE).2.2⟩, by simp [slLen]; omega⟩
      · obtain ⟨A, rfl⟩ := List.getLast?_eq_some_iff.mp hq
        clear hq
        obtain ⟨gl, rfl, cq⟩ := (unhide HC) q A rfl
        have hlenA : (A ++ [q]).length = A.length + 1 := by simp
        have hAL : (A.length : Int) + 1 < (Fs.length : Int) := by rw [hlenA] at hkl; omega
        have hne0 : ¬ ((A.length : Int) + 1 = 0) := by omega
        clear hkl
        rw [hlenA]
        go_wp2_with fail
        go_loopw [4, 5, 6] (fun bv fv iv wq => ∃ j : Nat, j ≤ Fs.length ∧ iv = .int .i64 (j : Nat) ∧ wq = wr ∧ ((fv = .bool false ∧ bv = .string ⟨#[]⟩ ∧ ∀ (i : Nat) (x : GF), i < j → Fs[i]? = some x → ¬ cnd (A ++ [q]) x.1.name) ∨ (fv = .bool true ∧ ∃ b, bv = .string b ∧ b ∈ (Fs.map fun x => x.1.name) ∧ cnd (A ++ [q]) b ∧ ∀ (i : Nat) (x : GF), i < j → Fs[i]? = some x → cnd (A ++ [q]) x.1.name → ¬ nm x.1.name < nm b))) (fun _ _ iv _ => Fs.length - (intOf iv).toNat)
        case atStart => exact ⟨0, Nat.zero_le _, rfl, rfl, .inl ⟨rfl, rfl, fun i x hi => by omega⟩⟩
        case round =>
          obtain ⟨j, hj, rfl, rfl, hst⟩ := hrel
          by_cases hltj : j < Fs.length
          · have hklj : (j : Int) < (Fs.length : Int) := by omega
            have hxj := List.getElem?_eq_getElem hltj
            obtain ⟨g, rfl, _, d0, _, _⟩ := (unhide HS).2.2.2.at_ hxj
            have hmem : Fs[j].1.name ∈ (Fs.map fun x => x.1.name) := List.mem_map.mpr ⟨Fs[j], List.getElem_mem hltj, rfl⟩
            have hstep : ∀ (i : Nat) (x : GF), i < j + 1 → Fs[i]? = some x → (i < j ∨ x.1.name = Fs[j].1.name) := fun i x hi hx => by
              rcases Nat.lt_or_ge i j with h1 | h1
              · exact .inl h1
              · obtain rfl : i = j := by omega
                rw [hxj] at hx
                cases hx
                exact .inr rfl
            have HM := hide (And.intro hmem hstep)
            generalize Fs[j].1.name = xn at *
            clear hmem hstep hxj
            have hlast := (unhide HS).1.last q (by simp) xn
            by_cases hcn : nm q < nm xn
            · have HN := hide (show cnd (A ++ [q]) xn from hlast.mpr hcn)
              have hG : ∀ V, (binOp .gtr 9 (.string xn) (.string q)).run Try.prog V = .ok (.bool true) V := fun V => by rw [Try.gtrN]; simp [hcn]
              clear hlast hcn
              rcases hst with ⟨rfl, rfl, hno⟩ | ⟨rfl, b, rfl, hbm, hbc, hmin⟩
              · have HO := hide hno
                clear hno HC
                go_wp2_with fail
                exact ⟨⟨j + 1, hltj, by go_num, trivial, .inr ⟨rfl, xn, rfl, (unhide HM).1, unhide HN, fun i x hi hx hc => by
                  rcases (unhide HM).2 i x hi hx with h1 | h1
                  · exact absurd hc ((unhide HO) i x h1 hx)
                  · rw [h1]; exact List.lt_irrefl _⟩⟩, by simp [intOf]; omega⟩
              · have HO := hide (And.intro hbm (And.intro hbc hmin))
                clear hbm hbc hmin HC
                by_cases hb2 : nm xn < nm b
                · have hL : Op.bytesLess xn.toList b.toList = true := by rw [lt_tl]; simpa using hb2
                  have HB := hide hb2
                  clear hb2
                  go_wp2_with fail
                  exact ⟨⟨j + 1, hltj, by go_num, trivial, .inr ⟨rfl, xn, rfl, (unhide HM).1, unhide HN, fun i x hi hx hc => by
                    rcases (unhide HM).2 i x hi hx with h1 | h1
                    · exact fun h9 => (unhide HO).2.2 i x h1 hx hc (List.lt_trans h9 (unhide HB))
                    · rw [h1]; exact List.lt_irrefl _⟩⟩, by simp [intOf]; omega⟩
                · have hL : Op.bytesLess xn.toList b.toList = false := by rw [lt_tl]; simpa using hb2
                  have HB := hide hb2
                  clear hb2
                  go_wp2_with fail
                  exact ⟨⟨j + 1, hltj, by go_num, trivial, .inr ⟨rfl, b, rfl, (unhide HO).1, (unhide HO).2.1, fun i x hi hx hc => by
                    rcases (unhide HM).2 i x hi hx with h1 | h1
                    · exact (unhide HO).2.2 i x h1 hx hc
                    · rw [h1]; exact unhide HB⟩⟩, by simp [intOf]; omega⟩
            · have HN := hide (show ¬ cnd (A ++ [q]) xn from fun h9 => hcn (hlast.mp h9))
              have hG : ∀ V, (binOp .gtr 9 (.string xn) (.string q)).run Try.prog V = .ok (.bool false) V := fun V => by rw [Try.gtrN]; simp [hcn]
              clear hlast hcn
              have HO := hide hst
              clear hst HC
              go_wp2_with fail
              refine ⟨⟨j + 1, hltj, by go_num, trivial, ?_⟩, by simp [intOf]; omega⟩
              rcases unhide HO with ⟨rfl, rfl, hno⟩ | ⟨rfl, b, rfl, hbm, hbc, hmin⟩
              · exact .inl ⟨rfl, rfl, fun i x hi hx => by
                  rcases (unhide HM).2 i x hi hx with h1 | h1
                  · exact hno i x h1 hx
                  · rw [h1]; exact unhide HN⟩
              · exact .inr ⟨rfl, b, rfl, hbm, hbc, fun i x hi hx hc => by
                  rcases (unhide HM).2 i x hi hx with h1 | h1
                  · exact hmin i x h1 hx hc
                  · rw [h1] at hc; exact absurd hc (unhide HN)⟩
          · have hklj : ¬ (j : Int) < (Fs.length : Int) := by omega
            obtain rfl : Fs.length = j := by omega
            rcases hst with ⟨rfl, rfl, hno⟩ | ⟨rfl, b, rfl, hbm, hbc, hmin⟩
            · exfalso
              obtain ⟨n, hn, hc⟩ := (unhide HS).1.open (unhide HX).2.2 (by simpa using hlt)
              obtain ⟨x, hx, rfl⟩ := List.mem_map.mp hn
              obtain ⟨i, hi⟩ := List.mem_iff_getElem?.mp hx
              exact hno i x (List.getElem?_eq_some_iff.1 hi).1 hi hc
            · have hLow2 := (unhide HS).1.more b hbm hbc (fun n hn hc => by
                obtain ⟨x, hx, rfl⟩ := List.mem_map.mp hn
                obtain ⟨i, hi⟩ := List.mem_iff_getElem?.mp hx
                exact hmin i x (List.getElem?_eq_some_iff.1 hi).1 hi hc)
              obtain ⟨a3, k3, w3, hr3, ho3, hf3⟩ := app_st wr w.heap.size b _ (A ++ [q]) (unhide HS).2.1 (by omega) (unhide HS).2.2.1.size
              have HE := hide (And.intro hLow2 (And.intro ho3 ((unhide HS).2.2.1.absorb hf3 (fun g hg => ((unhide HS).2.1.lt g hg).1))))
              (try simp only [List.length_append, List.length_cons, List.length_nil, Nat.zero_add] at hr3)
              have HR3 := hide hr3
              clear hLow2 ho3 hf3 hr3 hbm hbc hmin HC
              go_wp2_with (first | (at_builtin; refine wpList_app rfl _ _ 66 66 rfl _ _ _ rfl rfl (unhide HR3) ?_))
              exact ⟨⟨(A ++ [q]) ++ [b], a3, k3, by simp, by simp; omega, (unhide HE).1, by simpa using (unhide HE).2.1, (unhide HE).2.2⟩, by simp [slLen]; omega⟩
    · have hkl : ¬ (S.length : Int) < (Fs.length : Int) := by omega
      have HE := hide (And.intro hLow (And.intro (ownsRow_base hrow (unhide HX).2.1.size) ((unhide HX).2.1.trans hfr (fun _ _ h => h))))
      clear hLow hrow hfr
      go_wp2_with fail
      go_ret
      exact ⟨S, lo, lc, rfl, (unhide HE).2.1, (unhide HE).1, by omega, (unhide HE).2.2⟩
end Go.Proofs.Ytoflkfnmbighaaa

