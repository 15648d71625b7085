import Derived.Test.YtoflkfnmbighaaaPk6
import Derived.Test.YtoflkfnmbighaaaPk8
import Derived.Test.YtoflkfnmbighaaaPk9
import Derived.Test.YtoflkfnmbighaaaDry
import Derived.Test.YtoflkfnmbighaaaPk7
namespace Go.Proofs.Ytoflkfnmbighaaa
open Go.RowKit Go.ChangeShapes Go.WideShapes Go.Maps

set_option maxHeartbeats 2000000 in
set_option maxRecDepth 100000 in
/-- changed: Append. -/
theorem changed_2 (W : World) (d m : Nat) (r : RD) (v : Value) (O T : Nat → Prop) (h : PS W d m r v O T) (hwr : r.writes ≤ 1000000) (n : ByteArray) (a z b : Int) (on : Bool) (xo : Option Addr) (xc : Nat) (l : List Nat) (hn : n.size ≤ maxLen) (hsx : Src W (.slice xo l.length xc) l) (hxO : l = [] ∨ ∀ g o k c, Value.slice xo l.length xc = .slice (some ⟨g, o, none⟩) k c → ¬ O g) (hxc : l.length ≤ xc) (hll : l.length ≤ 1048576) (hbn : r.born ≤ 4611686018427387904) :
    Calls Try.prog 15 #[.pointer (some ⟨d, 0, none⟩), r.agg v, .agg #[.int .i64 2, .string n, .int .i64 a, .int .i64 z, .int .u64 b, .bool on, .slice xo l.length xc]] W (CH W d m O T (r.appendR n l).1) := by
  obtain ⟨ao, c, rfl⟩ := h.G.form
  obtain ⟨w4, hw4⟩ : ∃ w4, w4 = (((W.alloc (.cells (r.cells (.slice ao r.fs.length c)) 30)).alloc (.cells #[.int .i64 2, .string n, .int .i64 a, .int .i64 z, .int .u64 b, .bool on, .slice xo l.length xc] 38)).alloc (.cells zero8 30)).alloc (.cells zero8 30) := ⟨_, rfl⟩
  have hf4 : Fr (fun _ => False) W w4 := by rw [hw4]; exact ((box2 _ _ _).alloc _).alloc _
  have hB4 : B4 W w4 (r.cells (.slice ao r.fs.length c)) #[.int .i64 2, .string n, .int .i64 a, .int .i64 z, .int .u64 b, .bool on, .slice xo l.length xc] := by rw [hw4]; exact B4.new _ _ _
  obtain ⟨s, q, H0, hR⟩ := h.D
  have H1 := H0.fr hf4 (fun _ _ h => h)
  have hw : s.writes ≤ 1000000 := by rw [← hR.wr]; exact hwr
  have HC := hide (pappend H1 hR n xo xc l hn hw (hsx.fr hf4 (fun _ _ _ _ _ h => h)) hxO hxc)
  have HX := hide (And.intro h (And.intro hf4 (And.intro hB4 (And.intro H0 hR))))
  clear H1 hf4 hB4 H0 hw
  unfold RD.agg
  unfold RD.cells zero8 at hw4
  generalize hrr : r.appendR n l = rr at *
  obtain ⟨r', code⟩ := rr
  go_enter Try.func15, Try.ntmps15
  go_wp2_with fail
  rw [← hw4]
  clear hw4
  refine (unhide HC).mono ?_
  rintro e w5 ⟨rfl, s', q', O', hD5, hR5, hf5, hO5⟩
  obtain ⟨h, hf4, hB4, H0, hR⟩ := unhide HX
  have hOW : ∀ k, O k → k < W.heap.size := fun k hk => H0.lt k hk
  have hTW : ∀ k, T k → k < W.heap.size := h.G.lt
  have hB5 := hB4.fr hf5 hOW
  have G2 := (h.G.fr0 hf4).fr hf5 (fun k hk hk2 => h.dis k hk2 hk)
  have hR2 := hR
  have HG := hide (gappend G2 hR2 n xo xc l hll hbn (by omega) ((hsx.fr hf4 (fun _ _ _ _ _ h => h)).frE hf5 (hxO.imp id (fun hxO g o k c e => hxO g o k c e))))
  rw [hrr] at HG
  have hs4 := hf4.size
  have H5 := hide (And.intro hD5 (And.intro hR5 (And.intro hf5 (And.intro hO5 hB5))))
  obtain ⟨c0, c1, c2, c3, c4, c5, c6, c7, _⟩ := cells_of8 hB5.t
  have o1 := cell_of_blk (o := 1) hB5.o rfl
  have o2 := cell_of_blk (o := 2) hB5.o rfl
  have o3 := cell_of_blk (o := 3) hB5.o rfl
  have o4 := cell_of_blk (o := 4) hB5.o rfl
  have o6 := cell_of_blk (o := 6) hB5.o rfl
  clear hD5 hR5 hf5 hO5 hB5 G2 hR2 HC h hf4 hB4 H0 hR
  go_wp2_with fail
  unfold RD.agg at HG
  refine (unhide HG).mono ?_
  rintro e w6 ⟨v6, T6, rfl, hG6, hT6, hf6⟩
  obtain ⟨ao6, c6', rfl⟩ := hG6.form
  obtain ⟨hD5, hR5, hf5, hO5, hB5⟩ := unhide H5
  obtain ⟨h, hf4, hB4, H0, hR⟩ := unhide HX
  have hB6 := hB5.fr hf6 hTW
  obtain ⟨V1, hr1, hg1, hf1⟩ := gbox hB6.u r' ao6 r'.fs.length c6'
  have hz1 := (hf1.block _ (lt_of_block hB6.z) (by show ¬ W.heap.size + 2 = W.heap.size + 3; omega)).trans hB6.z
  obtain ⟨V2, hr2, hg2, hf2⟩ := gbox hz1 r' ao6 r'.fs.length c6'
  have hsz : W.heap.size + 3 < w5.heap.size := lt_of_block hB5.u
  have hO'W : ∀ k, O' k → k < w5.heap.size := fun k hk => hD5.lt k hk
  have hOT : ∀ k, O' k → ¬ T k := fun k hk ht => by
    rcases hO5 k hk with h9 | h9
    · exact h.dis k h9 ht
    · have := hTW k ht; omega
  have hbx : ∀ k, O' k ∨ T6 k → k ≠ W.heap.size + 2 ∧ k ≠ W.heap.size + 3 := fun k hk => by
    rcases hk with hk | hk
    · rcases hO5 k hk with h9 | h9
      · have := hOW k h9; omega
      · have := lt_of_block hB4.u; omega
    · rcases hT6 k hk with h9 | h9
      · have := hTW k h9; omega
      · omega
  have hD2 : DkAt V2 d m s' q' O' := ((hD5.fr hf6 hOT).fr hf1 (fun k hk e => (hbx k (.inl hk)).2 e)).fr hf2 (fun k hk e => (hbx k (.inl hk)).1 e)
  have hG2 : GD V2 r' (.slice ao6 r'.fs.length c6') T6 := (hG6.fr hf1 (fun k hk e => (hbx k (.inr hk)).2 e)).fr hf2 (fun k hk e => (hbx k (.inr hk)).1 e)
  have hfin : CH W d m O T r' (.returned (.tuple #[r'.agg (.slice ao6 r'.fs.length c6'), .bool true, .bool true])) V2 := by
    refine ⟨_, O', T6, rfl, ⟨⟨s', q', hD2, hR5⟩, hG2, fun k hk ht => ?_⟩, fun k hk => ?_, fun k hk => ?_, ?_⟩
    · rcases hT6 k ht with h9 | h9
      · exact hOT k hk h9
      · have := hO'W k hk; omega
    · rcases hO5 k hk with h9 | h9
      · exact .inl h9
      · exact .inr (by omega)
    · rcases hT6 k hk with h9 | h9
      · exact .inl h9
      · exact .inr (by omega)
    · refine ((((hf4.mono (fun _ _ h => h.elim)).trans hf5 (fun i hi e => .inl e)).trans hf6 (fun i hi e => .inr e)).trans hf1 (fun i hi e => ?_)).trans hf2 (fun i hi e => ?_)
      · have e' : i = W.heap.size + 3 := e; omega
      · have e' : i = W.heap.size + 2 := e; omega
  unfold RD.agg at hr1 hr2
  have HR1 := hide hr1
  have HR2 := hide hr2
  have HE := hide (And.intro hg2 hfin)
  have hu1 := range_cells hg1
  clear hr1 hr2 hg1 hg2 hf1 hf2 hfin hD2 hG2 hbx hOT hO'W hB6 hz1 hD5 hR5 hf5 hO5 hB5 h hf4 hB4 H0 hR hG6 hT6 hf6 c0 c1 c2 c3 c4 c5 c6 c7 HX H5 HG
  obtain ⟨k0, k1, k2, k3, k4, k5, k6, k7⟩ := hu1
  have hcc : (code == code) = true := by simp
  go_wp2_with (first | (refine wpList_stN rfl 30 (.tmp 9) _ rfl _ _ rfl rfl (unhide HR1) ?_) | (refine wpList_stN rfl 30 _ _ rfl _ _ rfl rfl (unhide HR2) ?_))
  (try simp only [Exit.inBlock, Exit.then])
  refine bodyPost_ret (results_celltt rfl _ _ (W.heap.size + 2) 0 _ _ _ _ rfl rfl rfl (unhide HE).1 Try.underlying30 rfl (by kernel_rfl)) rfl ?_
  first
    | exact (unhide HE).2
    | simpa using (unhide HE).2
end Go.Proofs.Ytoflkfnmbighaaa

namespace Go.Proofs.Ytoflkfnmbighaaa
open Go.RowKit Go.ChangeShapes Go.WideShapes Go.Maps

set_option maxHeartbeats 2000000 in
set_option maxRecDepth 100000 in
/-- changed: Sync. -/
theorem changed_3 (W : World) (d m : Nat) (r : RD) (v : Value) (O T : Nat → Prop) (h : PS W d m r v O T) (hwr : r.writes ≤ 1000000) (n : ByteArray) (a z b : Int) (on : Bool) (x : Value) (hn : n.size ≤ maxLen) :
    Calls Try.prog 15 #[.pointer (some ⟨d, 0, none⟩), r.agg v, .agg #[.int .i64 3, .string n, .int .i64 a, .int .i64 z, .int .u64 b, .bool on, x]] W (CH W d m O T (r.syncR n).1) := by
  obtain ⟨ao, c, rfl⟩ := h.G.form
  obtain ⟨w4, hw4⟩ : ∃ w4, w4 = (((W.alloc (.cells (r.cells (.slice ao r.fs.length c)) 30)).alloc (.cells #[.int .i64 3, .string n, .int .i64 a, .int .i64 z, .int .u64 b, .bool on, x] 38)).alloc (.cells zero8 30)).alloc (.cells zero8 30) := ⟨_, rfl⟩
  have hf4 : Fr (fun _ => False) W w4 := by rw [hw4]; exact ((box2 _ _ _).alloc _).alloc _
  have hB4 : B4 W w4 (r.cells (.slice ao r.fs.length c)) #[.int .i64 3, .string n, .int .i64 a, .int .i64 z, .int .u64 b, .bool on, x] := by rw [hw4]; exact B4.new _ _ _
  obtain ⟨s, q, H0, hR⟩ := h.D
  have H1 := H0.fr hf4 (fun _ _ h => h)
  have hw : s.writes ≤ 1000000 := by rw [← hR.wr]; exact hwr
  have HC := hide (psync H1 hR n hn)
  have HX := hide (And.intro h (And.intro hf4 (And.intro hB4 (And.intro H0 hR))))
  clear H1 hf4 hB4 H0 hw
  unfold RD.agg
  unfold RD.cells zero8 at hw4
  generalize hrr : r.syncR n = rr at *
  obtain ⟨r', code⟩ := rr
  go_enter Try.func15, Try.ntmps15
  go_wp2_with fail
  rw [← hw4]
  clear hw4
  refine (unhide HC).mono ?_
  rintro e w5 ⟨rfl, s', q', O', hD5, hR5, hf5, hO5⟩
  obtain ⟨h, hf4, hB4, H0, hR⟩ := unhide HX
  have hOW : ∀ k, O k → k < W.heap.size := fun k hk => H0.lt k hk
  have hTW : ∀ k, T k → k < W.heap.size := h.G.lt
  have hB5 := hB4.fr hf5 hOW
  have G2 := (h.G.fr0 hf4).fr hf5 (fun k hk hk2 => h.dis k hk2 hk)
  have hR2 := hR
  have HG := hide (gsync G2 hR2 n)
  rw [hrr] at HG
  have hs4 := hf4.size
  have H5 := hide (And.intro hD5 (And.intro hR5 (And.intro hf5 (And.intro hO5 hB5))))
  obtain ⟨c0, c1, c2, c3, c4, c5, c6, c7, _⟩ := cells_of8 hB5.t
  have o1 := cell_of_blk (o := 1) hB5.o rfl
  have o2 := cell_of_blk (o := 2) hB5.o rfl
  have o3 := cell_of_blk (o := 3) hB5.o rfl
  have o4 := cell_of_blk (o := 4) hB5.o rfl
  have o6 := cell_of_blk (o := 6) hB5.o rfl
  clear hD5 hR5 hf5 hO5 hB5 G2 hR2 HC h hf4 hB4 H0 hR
  go_wp2_with fail
  unfold RD.agg at HG
  refine (unhide HG).mono ?_
  rintro e w6 ⟨v6, T6, rfl, hG6, hT6, hf6⟩
  obtain ⟨ao6, c6', rfl⟩ := hG6.form
  obtain ⟨hD5, hR5, hf5, hO5, hB5⟩ := unhide H5
  obtain ⟨h, hf4, hB4, H0, hR⟩ := unhide HX
  have hB6 := hB5.fr hf6 hTW
  obtain ⟨V1, hr1, hg1, hf1⟩ := gbox hB6.u r' ao6 r'.fs.length c6'
  have hz1 := (hf1.block _ (lt_of_block hB6.z) (by show ¬ W.heap.size + 2 = W.heap.size + 3; omega)).trans hB6.z
  obtain ⟨V2, hr2, hg2, hf2⟩ := gbox hz1 r' ao6 r'.fs.length c6'
  have hsz : W.heap.size + 3 < w5.heap.size := lt_of_block hB5.u
  have hO'W : ∀ k, O' k → k < w5.heap.size := fun k hk => hD5.lt k hk
  have hOT : ∀ k, O' k → ¬ T k := fun k hk ht => by
    rcases hO5 k hk with h9 | h9
    · exact h.dis k h9 ht
    · have := hTW k ht; omega
  have hbx : ∀ k, O' k ∨ T6 k → k ≠ W.heap.size + 2 ∧ k ≠ W.heap.size + 3 := fun k hk => by
    rcases hk with hk | hk
    · rcases hO5 k hk with h9 | h9
      · have := hOW k h9; omega
      · have := lt_of_block hB4.u; omega
    · rcases hT6 k hk with h9 | h9
      · have := hTW k h9; omega
      · omega
  have hD2 : DkAt V2 d m s' q' O' := ((hD5.fr hf6 hOT).fr hf1 (fun k hk e => (hbx k (.inl hk)).2 e)).fr hf2 (fun k hk e => (hbx k (.inl hk)).1 e)
  have hG2 : GD V2 r' (.slice ao6 r'.fs.length c6') T6 := (hG6.fr hf1 (fun k hk e => (hbx k (.inr hk)).2 e)).fr hf2 (fun k hk e => (hbx k (.inr hk)).1 e)
  have hfin : CH W d m O T r' (.returned (.tuple #[r'.agg (.slice ao6 r'.fs.length c6'), .bool true, .bool true])) V2 := by
    refine ⟨_, O', T6, rfl, ⟨⟨s', q', hD2, hR5⟩, hG2, fun k hk ht => ?_⟩, fun k hk => ?_, fun k hk => ?_, ?_⟩
    · rcases hT6 k ht with h9 | h9
      · exact hOT k hk h9
      · have := hO'W k hk; omega
    · rcases hO5 k hk with h9 | h9
      · exact .inl h9
      · exact .inr (by omega)
    · rcases hT6 k hk with h9 | h9
      · exact .inl h9
      · exact .inr (by omega)
    · refine ((((hf4.mono (fun _ _ h => h.elim)).trans hf5 (fun i hi e => .inl e)).trans hf6 (fun i hi e => .inr e)).trans hf1 (fun i hi e => ?_)).trans hf2 (fun i hi e => ?_)
      · have e' : i = W.heap.size + 3 := e; omega
      · have e' : i = W.heap.size + 2 := e; omega
  unfold RD.agg at hr1 hr2
  have HR1 := hide hr1
  have HR2 := hide hr2
  have HE := hide (And.intro hg2 hfin)
  have hu1 := range_cells hg1
  clear hr1 hr2 hg1 hg2 hf1 hf2 hfin hD2 hG2 hbx hOT hO'W hB6 hz1 hD5 hR5 hf5 hO5 hB5 h hf4 hB4 H0 hR hG6 hT6 hf6 c0 c1 c2 c3 c4 c5 c6 c7 HX H5 HG
  obtain ⟨k0, k1, k2, k3, k4, k5, k6, k7⟩ := hu1
  have hcc : (code == code) = true := by simp
  go_wp2_with (first | (refine wpList_stN rfl 30 (.tmp 9) _ rfl _ _ rfl rfl (unhide HR1) ?_) | (refine wpList_stN rfl 30 _ _ rfl _ _ rfl rfl (unhide HR2) ?_))
  (try simp only [Exit.inBlock, Exit.then])
  refine bodyPost_ret (results_celltt rfl _ _ (W.heap.size + 2) 0 _ _ _ _ rfl rfl rfl (unhide HE).1 Try.underlying30 rfl (by kernel_rfl)) rfl ?_
  first
    | exact (unhide HE).2
    | simpa using (unhide HE).2
end Go.Proofs.Ytoflkfnmbighaaa

namespace Go.Proofs.Ytoflkfnmbighaaa
open Go.RowKit Go.ChangeShapes Go.WideShapes Go.Maps

set_option maxHeartbeats 2000000 in
set_option maxRecDepth 100000 in
/-- changed: Cut. -/
theorem changed_4 (W : World) (d m : Nat) (r : RD) (v : Value) (O T : Nat → Prop) (h : PS W d m r v O T) (hwr : r.writes ≤ 1000000) (n : ByteArray) (a z b : Int) (on : Bool) (x : Value) (hn : n.size ≤ maxLen) :
    Calls Try.prog 15 #[.pointer (some ⟨d, 0, none⟩), r.agg v, .agg #[.int .i64 4, .string n, .int .i64 a, .int .i64 z, .int .u64 b, .bool on, x]] W (CH W d m O T (r.cutR n z).1) := by
  obtain ⟨ao, c, rfl⟩ := h.G.form
  obtain ⟨w4, hw4⟩ : ∃ w4, w4 = (((W.alloc (.cells (r.cells (.slice ao r.fs.length c)) 30)).alloc (.cells #[.int .i64 4, .string n, .int .i64 a, .int .i64 z, .int .u64 b, .bool on, x] 38)).alloc (.cells zero8 30)).alloc (.cells zero8 30) := ⟨_, rfl⟩
  have hf4 : Fr (fun _ => False) W w4 := by rw [hw4]; exact ((box2 _ _ _).alloc _).alloc _
  have hB4 : B4 W w4 (r.cells (.slice ao r.fs.length c)) #[.int .i64 4, .string n, .int .i64 a, .int .i64 z, .int .u64 b, .bool on, x] := by rw [hw4]; exact B4.new _ _ _
  obtain ⟨s, q, H0, hR⟩ := h.D
  have H1 := H0.fr hf4 (fun _ _ h => h)
  have hw : s.writes ≤ 1000000 := by rw [← hR.wr]; exact hwr
  have HC := hide (pcut H1 hR n z hn hw)
  have HX := hide (And.intro h (And.intro hf4 (And.intro hB4 (And.intro H0 hR))))
  clear H1 hf4 hB4 H0 hw
  unfold RD.agg
  unfold RD.cells zero8 at hw4
  generalize hrr : r.cutR n z = rr at *
  obtain ⟨r', code⟩ := rr
  go_enter Try.func15, Try.ntmps15
  go_wp2_with fail
  rw [← hw4]
  clear hw4
  refine (unhide HC).mono ?_
  rintro e w5 ⟨rfl, s', q', O', hD5, hR5, hf5, hO5⟩
  obtain ⟨h, hf4, hB4, H0, hR⟩ := unhide HX
  have hOW : ∀ k, O k → k < W.heap.size := fun k hk => H0.lt k hk
  have hTW : ∀ k, T k → k < W.heap.size := h.G.lt
  have hB5 := hB4.fr hf5 hOW
  have G2 := (h.G.fr0 hf4).fr hf5 (fun k hk hk2 => h.dis k hk2 hk)
  have hR2 := hR
  have HG := hide (gcut G2 hR2 n z)
  rw [hrr] at HG
  have hs4 := hf4.size
  have H5 := hide (And.intro hD5 (And.intro hR5 (And.intro hf5 (And.intro hO5 hB5))))
  obtain ⟨c0, c1, c2, c3, c4, c5, c6, c7, _⟩ := cells_of8 hB5.t
  have o1 := cell_of_blk (o := 1) hB5.o rfl
  have o2 := cell_of_blk (o := 2) hB5.o rfl
  have o3 := cell_of_blk (o := 3) hB5.o rfl
  have o4 := cell_of_blk (o := 4) hB5.o rfl
  have o6 := cell_of_blk (o := 6) hB5.o rfl
  clear hD5 hR5 hf5 hO5 hB5 G2 hR2 HC h hf4 hB4 H0 hR
  go_wp2_with fail
  unfold RD.agg at HG
  refine (unhide HG).mono ?_
  rintro e w6 ⟨v6, T6, rfl, hG6, hT6, hf6⟩
  obtain ⟨ao6, c6', rfl⟩ := hG6.form
  obtain ⟨hD5, hR5, hf5, hO5, hB5⟩ := unhide H5
  obtain ⟨h, hf4, hB4, H0, hR⟩ := unhide HX
  have hB6 := hB5.fr hf6 hTW
  obtain ⟨V1, hr1, hg1, hf1⟩ := gbox hB6.u r' ao6 r'.fs.length c6'
  have hz1 := (hf1.block _ (lt_of_block hB6.z) (by show ¬ W.heap.size + 2 = W.heap.size + 3; omega)).trans hB6.z
  obtain ⟨V2, hr2, hg2, hf2⟩ := gbox hz1 r' ao6 r'.fs.length c6'
  have hsz : W.heap.size + 3 < w5.heap.size := lt_of_block hB5.u
  have hO'W : ∀ k, O' k → k < w5.heap.size := fun k hk => hD5.lt k hk
  have hOT : ∀ k, O' k → ¬ T k := fun k hk ht => by
    rcases hO5 k hk with h9 | h9
    · exact h.dis k h9 ht
    · have := hTW k ht; omega
  have hbx : ∀ k, O' k ∨ T6 k → k ≠ W.heap.size + 2 ∧ k ≠ W.heap.size + 3 := fun k hk => by
    rcases hk with hk | hk
    · rcases hO5 k hk with h9 | h9
      · have := hOW k h9; omega
      · have := lt_of_block hB4.u; omega
    · rcases hT6 k hk with h9 | h9
      · have := hTW k h9; omega
      · omega
  have hD2 : DkAt V2 d m s' q' O' := ((hD5.fr hf6 hOT).fr hf1 (fun k hk e => (hbx k (.inl hk)).2 e)).fr hf2 (fun k hk e => (hbx k (.inl hk)).1 e)
  have hG2 : GD V2 r' (.slice ao6 r'.fs.length c6') T6 := (hG6.fr hf1 (fun k hk e => (hbx k (.inr hk)).2 e)).fr hf2 (fun k hk e => (hbx k (.inr hk)).1 e)
  have hfin : CH W d m O T r' (.returned (.tuple #[r'.agg (.slice ao6 r'.fs.length c6'), .bool true, .bool true])) V2 := by
    refine ⟨_, O', T6, rfl, ⟨⟨s', q', hD2, hR5⟩, hG2, fun k hk ht => ?_⟩, fun k hk => ?_, fun k hk => ?_, ?_⟩
    · rcases hT6 k ht with h9 | h9
      · exact hOT k hk h9
      · have := hO'W k hk; omega
    · rcases hO5 k hk with h9 | h9
      · exact .inl h9
      · exact .inr (by omega)
    · rcases hT6 k hk with h9 | h9
      · exact .inl h9
      · exact .inr (by omega)
    · refine ((((hf4.mono (fun _ _ h => h.elim)).trans hf5 (fun i hi e => .inl e)).trans hf6 (fun i hi e => .inr e)).trans hf1 (fun i hi e => ?_)).trans hf2 (fun i hi e => ?_)
      · have e' : i = W.heap.size + 3 := e; omega
      · have e' : i = W.heap.size + 2 := e; omega
  unfold RD.agg at hr1 hr2
  have HR1 := hide hr1
  have HR2 := hide hr2
  have HE := hide (And.intro hg2 hfin)
  have hu1 := range_cells hg1
  clear hr1 hr2 hg1 hg2 hf1 hf2 hfin hD2 hG2 hbx hOT hO'W hB6 hz1 hD5 hR5 hf5 hO5 hB5 h hf4 hB4 H0 hR hG6 hT6 hf6 c0 c1 c2 c3 c4 c5 c6 c7 HX H5 HG
  obtain ⟨k0, k1, k2, k3, k4, k5, k6, k7⟩ := hu1
  have hcc : (code == code) = true := by simp
  go_wp2_with (first | (refine wpList_stN rfl 30 (.tmp 9) _ rfl _ _ rfl rfl (unhide HR1) ?_) | (refine wpList_stN rfl 30 _ _ rfl _ _ rfl rfl (unhide HR2) ?_))
  (try simp only [Exit.inBlock, Exit.then])
  refine bodyPost_ret (results_celltt rfl _ _ (W.heap.size + 2) 0 _ _ _ _ rfl rfl rfl (unhide HE).1 Try.underlying30 rfl (by kernel_rfl)) rfl ?_
  first
    | exact (unhide HE).2
    | simpa using (unhide HE).2
end Go.Proofs.Ytoflkfnmbighaaa

namespace Go.Proofs.Ytoflkfnmbighaaa
open Go.RowKit Go.ChangeShapes Go.WideShapes Go.Maps

set_option maxHeartbeats 2000000 in
set_option maxRecDepth 100000 in
/-- changed: Remove. -/
theorem changed_5 (W : World) (d m : Nat) (r : RD) (v : Value) (O T : Nat → Prop) (h : PS W d m r v O T) (hwr : r.writes ≤ 1000000) (n : ByteArray) (a z b : Int) (on : Bool) (x : Value) (hn : n.size ≤ maxLen) :
    Calls Try.prog 15 #[.pointer (some ⟨d, 0, none⟩), r.agg v, .agg #[.int .i64 5, .string n, .int .i64 a, .int .i64 z, .int .u64 b, .bool on, x]] W (CH W d m O T (r.removeR n).1) := by
  obtain ⟨ao, c, rfl⟩ := h.G.form
  obtain ⟨w4, hw4⟩ : ∃ w4, w4 = (((W.alloc (.cells (r.cells (.slice ao r.fs.length c)) 30)).alloc (.cells #[.int .i64 5, .string n, .int .i64 a, .int .i64 z, .int .u64 b, .bool on, x] 38)).alloc (.cells zero8 30)).alloc (.cells zero8 30) := ⟨_, rfl⟩
  have hf4 : Fr (fun _ => False) W w4 := by rw [hw4]; exact ((box2 _ _ _).alloc _).alloc _
  have hB4 : B4 W w4 (r.cells (.slice ao r.fs.length c)) #[.int .i64 5, .string n, .int .i64 a, .int .i64 z, .int .u64 b, .bool on, x] := by rw [hw4]; exact B4.new _ _ _
  obtain ⟨s, q, H0, hR⟩ := h.D
  have H1 := H0.fr hf4 (fun _ _ h => h)
  have hw : s.writes ≤ 1000000 := by rw [← hR.wr]; exact hwr
  have HC := hide (premove H1 hR n hn hw)
  have HX := hide (And.intro h (And.intro hf4 (And.intro hB4 (And.intro H0 hR))))
  clear H1 hf4 hB4 H0 hw
  unfold RD.agg
  unfold RD.cells zero8 at hw4
  generalize hrr : r.removeR n = rr at *
  obtain ⟨r', code⟩ := rr
  go_enter Try.func15, Try.ntmps15
  go_wp2_with fail
  rw [← hw4]
  clear hw4
  refine (unhide HC).mono ?_
  rintro e w5 ⟨rfl, s', q', O', hD5, hR5, hf5, hO5⟩
  obtain ⟨h, hf4, hB4, H0, hR⟩ := unhide HX
  have hOW : ∀ k, O k → k < W.heap.size := fun k hk => H0.lt k hk
  have hTW : ∀ k, T k → k < W.heap.size := h.G.lt
  have hB5 := hB4.fr hf5 hOW
  have G2 := (h.G.fr0 hf4).fr hf5 (fun k hk hk2 => h.dis k hk2 hk)
  have hR2 := hR
  have HG := hide (gremove G2 hR2 n)
  rw [hrr] at HG
  have hs4 := hf4.size
  have H5 := hide (And.intro hD5 (And.intro hR5 (And.intro hf5 (And.intro hO5 hB5))))
  obtain ⟨c0, c1, c2, c3, c4, c5, c6, c7, _⟩ := cells_of8 hB5.t
  have o1 := cell_of_blk (o := 1) hB5.o rfl
  have o2 := cell_of_blk (o := 2) hB5.o rfl
  have o3 := cell_of_blk (o := 3) hB5.o rfl
  have o4 := cell_of_blk (o := 4) hB5.o rfl
  have o6 := cell_of_blk (o := 6) hB5.o rfl
  clear hD5 hR5 hf5 hO5 hB5 G2 hR2 HC h hf4 hB4 H0 hR
  go_wp2_with fail
  unfold RD.agg at HG
  refine (unhide HG).mono ?_
  rintro e w6 ⟨v6, T6, rfl, hG6, hT6, hf6⟩
  obtain ⟨ao6, c6', rfl⟩ := hG6.form
  obtain ⟨hD5, hR5, hf5, hO5, hB5⟩ := unhide H5
  obtain ⟨h, hf4, hB4, H0, hR⟩ := unhide HX
  have hB6 := hB5.fr hf6 hTW
  obtain ⟨V1, hr1, hg1, hf1⟩ := gbox hB6.u r' ao6 r'.fs.length c6'
  have hz1 := (hf1.block _ (lt_of_block hB6.z) (by show ¬ W.heap.size + 2 = W.heap.size + 3; omega)).trans hB6.z
  obtain ⟨V2, hr2, hg2, hf2⟩ := gbox hz1 r' ao6 r'.fs.length c6'
  have hsz : W.heap.size + 3 < w5.heap.size := lt_of_block hB5.u
  have hO'W : ∀ k, O' k → k < w5.heap.size := fun k hk => hD5.lt k hk
  have hOT : ∀ k, O' k → ¬ T k := fun k hk ht => by
    rcases hO5 k hk with h9 | h9
    · exact h.dis k h9 ht
    · have := hTW k ht; omega
  have hbx : ∀ k, O' k ∨ T6 k → k ≠ W.heap.size + 2 ∧ k ≠ W.heap.size + 3 := fun k hk => by
    rcases hk with hk | hk
    · rcases hO5 k hk with h9 | h9
      · have := hOW k h9; omega
      · have := lt_of_block hB4.u; omega
    · rcases hT6 k hk with h9 | h9
      · have := hTW k h9; omega
      · omega
  have hD2 : DkAt V2 d m s' q' O' := ((hD5.fr hf6 hOT).fr hf1 (fun k hk e => (hbx k (.inl hk)).2 e)).fr hf2 (fun k hk e => (hbx k (.inl hk)).1 e)
  have hG2 : GD V2 r' (.slice ao6 r'.fs.length c6') T6 := (hG6.fr hf1 (fun k hk e => (hbx k (.inr hk)).2 e)).fr hf2 (fun k hk e => (hbx k (.inr hk)).1 e)
  have hfin : CH W d m O T r' (.returned (.tuple #[r'.agg (.slice ao6 r'.fs.length c6'), .bool true, .bool true])) V2 := by
    refine ⟨_, O', T6, rfl, ⟨⟨s', q', hD2, hR5⟩, hG2, fun k hk ht => ?_⟩, fun k hk => ?_, fun k hk => ?_, ?_⟩
    · rcases hT6 k ht with h9 | h9
      · exact hOT k hk h9
      · have := hO'W k hk; omega
    · rcases hO5 k hk with h9 | h9
      · exact .inl h9
      · exact .inr (by omega)
    · rcases hT6 k hk with h9 | h9
      · exact .inl h9
      · exact .inr (by omega)
    · refine ((((hf4.mono (fun _ _ h => h.elim)).trans hf5 (fun i hi e => .inl e)).trans hf6 (fun i hi e => .inr e)).trans hf1 (fun i hi e => ?_)).trans hf2 (fun i hi e => ?_)
      · have e' : i = W.heap.size + 3 := e; omega
      · have e' : i = W.heap.size + 2 := e; omega
  unfold RD.agg at hr1 hr2
  have HR1 := hide hr1
  have HR2 := hide hr2
  have HE := hide (And.intro hg2 hfin)
  have hu1 := range_cells hg1
  clear hr1 hr2 hg1 hg2 hf1 hf2 hfin hD2 hG2 hbx hOT hO'W hB6 hz1 hD5 hR5 hf5 hO5 hB5 h hf4 hB4 H0 hR hG6 hT6 hf6 c0 c1 c2 c3 c4 c5 c6 c7 HX H5 HG
  obtain ⟨k0, k1, k2, k3, k4, k5, k6, k7⟩ := hu1
  have hcc : (code == code) = true := by simp
  go_wp2_with (first | (refine wpList_stN rfl 30 (.tmp 9) _ rfl _ _ rfl rfl (unhide HR1) ?_) | (refine wpList_stN rfl 30 _ _ rfl _ _ rfl rfl (unhide HR2) ?_))
  (try simp only [Exit.inBlock, Exit.then])
  refine bodyPost_ret (results_celltt rfl _ _ (W.heap.size + 2) 0 _ _ _ _ rfl rfl rfl (unhide HE).1 Try.underlying30 rfl (by kernel_rfl)) rfl ?_
  first
    | exact (unhide HE).2
    | simpa using (unhide HE).2
end Go.Proofs.Ytoflkfnmbighaaa

namespace Go.Proofs.Ytoflkfnmbighaaa
open Go.RowKit Go.ChangeShapes Go.WideShapes Go.Maps

set_option maxHeartbeats 2000000 in
set_option maxRecDepth 100000 in
/-- changed: Arm. -/
theorem changed_7 (W : World) (d m : Nat) (r : RD) (v : Value) (O T : Nat → Prop) (h : PS W d m r v O T) (hwr : r.writes ≤ 1000000) (n : ByteArray) (a z b : Int) (on : Bool) (x : Value) (ha : a < 9223372036854775808) (hz : z < 9223372036854775808) :
    Calls Try.prog 15 #[.pointer (some ⟨d, 0, none⟩), r.agg v, .agg #[.int .i64 7, .string n, .int .i64 a, .int .i64 z, .int .u64 b, .bool on, x]] W (CH W d m O T (r.armR a z).1) := by
  obtain ⟨ao, c, rfl⟩ := h.G.form
  obtain ⟨w4, hw4⟩ : ∃ w4, w4 = (((W.alloc (.cells (r.cells (.slice ao r.fs.length c)) 30)).alloc (.cells #[.int .i64 7, .string n, .int .i64 a, .int .i64 z, .int .u64 b, .bool on, x] 38)).alloc (.cells zero8 30)).alloc (.cells zero8 30) := ⟨_, rfl⟩
  have hf4 : Fr (fun _ => False) W w4 := by rw [hw4]; exact ((box2 _ _ _).alloc _).alloc _
  have hB4 : B4 W w4 (r.cells (.slice ao r.fs.length c)) #[.int .i64 7, .string n, .int .i64 a, .int .i64 z, .int .u64 b, .bool on, x] := by rw [hw4]; exact B4.new _ _ _
  obtain ⟨s, q, H0, hR⟩ := h.D
  have H1 := H0.fr hf4 (fun _ _ h => h)
  have hw : s.writes ≤ 1000000 := by rw [← hR.wr]; exact hwr
  have HC := hide (parm H1 hR a z ha hz)
  have HX := hide (And.intro h (And.intro hf4 (And.intro hB4 (And.intro H0 hR))))
  clear H1 hf4 hB4 H0 hw
  unfold RD.agg
  unfold RD.cells zero8 at hw4
  generalize hrr : r.armR a z = rr at *
  obtain ⟨r', code⟩ := rr
  go_enter Try.func15, Try.ntmps15
  go_wp2_with fail
  rw [← hw4]
  clear hw4
  refine (unhide HC).mono ?_
  rintro e w5 ⟨rfl, s', q', O', hD5, hR5, hf5, hO5⟩
  obtain ⟨h, hf4, hB4, H0, hR⟩ := unhide HX
  have hOW : ∀ k, O k → k < W.heap.size := fun k hk => H0.lt k hk
  have hTW : ∀ k, T k → k < W.heap.size := h.G.lt
  have hB5 := hB4.fr hf5 hOW
  have G2 := (h.G.fr0 hf4).fr hf5 (fun k hk hk2 => h.dis k hk2 hk)
  have hR2 := hR
  have HG := hide (garm G2 a z)
  rw [hrr] at HG
  have hs4 := hf4.size
  have H5 := hide (And.intro hD5 (And.intro hR5 (And.intro hf5 (And.intro hO5 hB5))))
  obtain ⟨c0, c1, c2, c3, c4, c5, c6, c7, _⟩ := cells_of8 hB5.t
  have o1 := cell_of_blk (o := 1) hB5.o rfl
  have o2 := cell_of_blk (o := 2) hB5.o rfl
  have o3 := cell_of_blk (o := 3) hB5.o rfl
  have o4 := cell_of_blk (o := 4) hB5.o rfl
  have o6 := cell_of_blk (o := 6) hB5.o rfl
  clear hD5 hR5 hf5 hO5 hB5 G2 hR2 HC h hf4 hB4 H0 hR
  go_wp2_with fail
  unfold RD.agg at HG
  refine (unhide HG).mono ?_
  rintro e w6 ⟨v6, T6, rfl, hG6, hT6, hf6⟩
  obtain ⟨ao6, c6', rfl⟩ := hG6.form
  obtain ⟨hD5, hR5, hf5, hO5, hB5⟩ := unhide H5
  obtain ⟨h, hf4, hB4, H0, hR⟩ := unhide HX
  have hB6 := hB5.fr hf6 hTW
  obtain ⟨V1, hr1, hg1, hf1⟩ := gbox hB6.u r' ao6 r'.fs.length c6'
  have hz1 := (hf1.block _ (lt_of_block hB6.z) (by show ¬ W.heap.size + 2 = W.heap.size + 3; omega)).trans hB6.z
  obtain ⟨V2, hr2, hg2, hf2⟩ := gbox hz1 r' ao6 r'.fs.length c6'
  have hsz : W.heap.size + 3 < w5.heap.size := lt_of_block hB5.u
  have hO'W : ∀ k, O' k → k < w5.heap.size := fun k hk => hD5.lt k hk
  have hOT : ∀ k, O' k → ¬ T k := fun k hk ht => by
    rcases hO5 k hk with h9 | h9
    · exact h.dis k h9 ht
    · have := hTW k ht; omega
  have hbx : ∀ k, O' k ∨ T6 k → k ≠ W.heap.size + 2 ∧ k ≠ W.heap.size + 3 := fun k hk => by
    rcases hk with hk | hk
    · rcases hO5 k hk with h9 | h9
      · have := hOW k h9; omega
      · have := lt_of_block hB4.u; omega
    · rcases hT6 k hk with h9 | h9
      · have := hTW k h9; omega
      · omega
  have hD2 : DkAt V2 d m s' q' O' := ((hD5.fr hf6 hOT).fr hf1 (fun k hk e => (hbx k (.inl hk)).2 e)).fr hf2 (fun k hk e => (hbx k (.inl hk)).1 e)
  have hG2 : GD V2 r' (.slice ao6 r'.fs.length c6') T6 := (hG6.fr hf1 (fun k hk e => (hbx k (.inr hk)).2 e)).fr hf2 (fun k hk e => (hbx k (.inr hk)).1 e)
  have hfin : CH W d m O T r' (.returned (.tuple #[r'.agg (.slice ao6 r'.fs.length c6'), .bool true, .bool true])) V2 := by
    refine ⟨_, O', T6, rfl, ⟨⟨s', q', hD2, hR5⟩, hG2, fun k hk ht => ?_⟩, fun k hk => ?_, fun k hk => ?_, ?_⟩
    · rcases hT6 k ht with h9 | h9
      · exact hOT k hk h9
      · have := hO'W k hk; omega
    · rcases hO5 k hk with h9 | h9
      · exact .inl h9
      · exact .inr (by omega)
    · rcases hT6 k hk with h9 | h9
      · exact .inl h9
      · exact .inr (by omega)
    · refine ((((hf4.mono (fun _ _ h => h.elim)).trans hf5 (fun i hi e => .inl e)).trans hf6 (fun i hi e => .inr e)).trans hf1 (fun i hi e => ?_)).trans hf2 (fun i hi e => ?_)
      · have e' : i = W.heap.size + 3 := e; omega
      · have e' : i = W.heap.size + 2 := e; omega
  unfold RD.agg at hr1 hr2
  have HR1 := hide hr1
  have HR2 := hide hr2
  have HE := hide (And.intro hg2 hfin)
  have hu1 := range_cells hg1
  clear hr1 hr2 hg1 hg2 hf1 hf2 hfin hD2 hG2 hbx hOT hO'W hB6 hz1 hD5 hR5 hf5 hO5 hB5 h hf4 hB4 H0 hR hG6 hT6 hf6 c0 c1 c2 c3 c4 c5 c6 c7 HX H5 HG
  obtain ⟨k0, k1, k2, k3, k4, k5, k6, k7⟩ := hu1
  have hcc : (code == code) = true := by simp
  go_wp2_with (first | (refine wpList_stN rfl 30 (.tmp 9) _ rfl _ _ rfl rfl (unhide HR1) ?_) | (refine wpList_stN rfl 30 _ _ rfl _ _ rfl rfl (unhide HR2) ?_))
  (try simp only [Exit.inBlock, Exit.then])
  refine bodyPost_ret (results_celltt rfl _ _ (W.heap.size + 2) 0 _ _ _ _ rfl rfl rfl (unhide HE).1 Try.underlying30 rfl (by kernel_rfl)) rfl ?_
  first
    | exact (unhide HE).2
    | simpa using (unhide HE).2
end Go.Proofs.Ytoflkfnmbighaaa

namespace Go.Proofs.Ytoflkfnmbighaaa
open Go.RowKit Go.ChangeShapes Go.WideShapes Go.Maps

set_option maxHeartbeats 2000000 in
set_option maxRecDepth 100000 in
/-- changed: Turn. -/
theorem changed_11 (W : World) (d m : Nat) (r : RD) (v : Value) (O T : Nat → Prop) (h : PS W d m r v O T) (hwr : r.writes ≤ 1000000) (n : ByteArray) (a z b : Int) (on : Bool) (x : Value) (hn : n.size ≤ maxLen) (hb0 : 0 ≤ b) :
    Calls Try.prog 15 #[.pointer (some ⟨d, 0, none⟩), r.agg v, .agg #[.int .i64 11, .string n, .int .i64 a, .int .i64 z, .int .u64 b, .bool on, x]] W (CH W d m O T (r.turnR n a b).1) := by
  obtain ⟨ao, c, rfl⟩ := h.G.form
  obtain ⟨w4, hw4⟩ : ∃ w4, w4 = (((W.alloc (.cells (r.cells (.slice ao r.fs.length c)) 30)).alloc (.cells #[.int .i64 11, .string n, .int .i64 a, .int .i64 z, .int .u64 b, .bool on, x] 38)).alloc (.cells zero8 30)).alloc (.cells zero8 30) := ⟨_, rfl⟩
  have hf4 : Fr (fun _ => False) W w4 := by rw [hw4]; exact ((box2 _ _ _).alloc _).alloc _
  have hB4 : B4 W w4 (r.cells (.slice ao r.fs.length c)) #[.int .i64 11, .string n, .int .i64 a, .int .i64 z, .int .u64 b, .bool on, x] := by rw [hw4]; exact B4.new _ _ _
  obtain ⟨s, q, H0, hR⟩ := h.D
  have H1 := H0.fr hf4 (fun _ _ h => h)
  have hw : s.writes ≤ 1000000 := by rw [← hR.wr]; exact hwr
  have HC := hide (pturn H1 hR n a b hb0 hn)
  have HX := hide (And.intro h (And.intro hf4 (And.intro hB4 (And.intro H0 hR))))
  clear H1 hf4 hB4 H0 hw
  unfold RD.agg
  unfold RD.cells zero8 at hw4
  generalize hrr : r.turnR n a b = rr at *
  obtain ⟨r', code⟩ := rr
  go_enter Try.func15, Try.ntmps15
  go_wp2_with fail
  rw [← hw4]
  clear hw4
  refine (unhide HC).mono ?_
  rintro e w5 ⟨rfl, s', q', O', hD5, hR5, hf5, hO5⟩
  obtain ⟨h, hf4, hB4, H0, hR⟩ := unhide HX
  have hOW : ∀ k, O k → k < W.heap.size := fun k hk => H0.lt k hk
  have hTW : ∀ k, T k → k < W.heap.size := h.G.lt
  have hB5 := hB4.fr hf5 hOW
  have G2 := (h.G.fr0 hf4).fr hf5 (fun k hk hk2 => h.dis k hk2 hk)
  have hR2 := hR
  have HG := hide (gturn G2 hR2 n a b hb0)
  rw [hrr] at HG
  have hs4 := hf4.size
  have H5 := hide (And.intro hD5 (And.intro hR5 (And.intro hf5 (And.intro hO5 hB5))))
  obtain ⟨c0, c1, c2, c3, c4, c5, c6, c7, _⟩ := cells_of8 hB5.t
  have o1 := cell_of_blk (o := 1) hB5.o rfl
  have o2 := cell_of_blk (o := 2) hB5.o rfl
  have o3 := cell_of_blk (o := 3) hB5.o rfl
  have o4 := cell_of_blk (o := 4) hB5.o rfl
  have o6 := cell_of_blk (o := 6) hB5.o rfl
  clear hD5 hR5 hf5 hO5 hB5 G2 hR2 HC h hf4 hB4 H0 hR
  go_wp2_with fail
  unfold RD.agg at HG
  refine (unhide HG).mono ?_
  rintro e w6 ⟨v6, T6, rfl, hG6, hT6, hf6⟩
  obtain ⟨ao6, c6', rfl⟩ := hG6.form
  obtain ⟨hD5, hR5, hf5, hO5, hB5⟩ := unhide H5
  obtain ⟨h, hf4, hB4, H0, hR⟩ := unhide HX
  have hB6 := hB5.fr hf6 hTW
  obtain ⟨V1, hr1, hg1, hf1⟩ := gbox hB6.u r' ao6 r'.fs.length c6'
  have hz1 := (hf1.block _ (lt_of_block hB6.z) (by show ¬ W.heap.size + 2 = W.heap.size + 3; omega)).trans hB6.z
  obtain ⟨V2, hr2, hg2, hf2⟩ := gbox hz1 r' ao6 r'.fs.length c6'
  have hsz : W.heap.size + 3 < w5.heap.size := lt_of_block hB5.u
  have hO'W : ∀ k, O' k → k < w5.heap.size := fun k hk => hD5.lt k hk
  have hOT : ∀ k, O' k → ¬ T k := fun k hk ht => by
    rcases hO5 k hk with h9 | h9
    · exact h.dis k h9 ht
    · have := hTW k ht; omega
  have hbx : ∀ k, O' k ∨ T6 k → k ≠ W.heap.size + 2 ∧ k ≠ W.heap.size + 3 := fun k hk => by
    rcases hk with hk | hk
    · rcases hO5 k hk with h9 | h9
      · have := hOW k h9; omega
      · have := lt_of_block hB4.u; omega
    · rcases hT6 k hk with h9 | h9
      · have := hTW k h9; omega
      · omega
  have hD2 : DkAt V2 d m s' q' O' := ((hD5.fr hf6 hOT).fr hf1 (fun k hk e => (hbx k (.inl hk)).2 e)).fr hf2 (fun k hk e => (hbx k (.inl hk)).1 e)
  have hG2 : GD V2 r' (.slice ao6 r'.fs.length c6') T6 := (hG6.fr hf1 (fun k hk e => (hbx k (.inr hk)).2 e)).fr hf2 (fun k hk e => (hbx k (.inr hk)).1 e)
  have hfin : CH W d m O T r' (.returned (.tuple #[r'.agg (.slice ao6 r'.fs.length c6'), .bool true, .bool true])) V2 := by
    refine ⟨_, O', T6, rfl, ⟨⟨s', q', hD2, hR5⟩, hG2, fun k hk ht => ?_⟩, fun k hk => ?_, fun k hk => ?_, ?_⟩
    · rcases hT6 k ht with h9 | h9
      · exact hOT k hk h9
      · have := hO'W k hk; omega
    · rcases hO5 k hk with h9 | h9
      · exact .inl h9
      · exact .inr (by omega)
    · rcases hT6 k hk with h9 | h9
      · exact .inl h9
      · exact .inr (by omega)
    · refine ((((hf4.mono (fun _ _ h => h.elim)).trans hf5 (fun i hi e => .inl e)).trans hf6 (fun i hi e => .inr e)).trans hf1 (fun i hi e => ?_)).trans hf2 (fun i hi e => ?_)
      · have e' : i = W.heap.size + 3 := e; omega
      · have e' : i = W.heap.size + 2 := e; omega
  unfold RD.agg at hr1 hr2
  have HR1 := hide hr1
  have HR2 := hide hr2
  have HE := hide (And.intro hg2 hfin)
  have hu1 := range_cells hg1
  clear hr1 hr2 hg1 hg2 hf1 hf2 hfin hD2 hG2 hbx hOT hO'W hB6 hz1 hD5 hR5 hf5 hO5 hB5 h hf4 hB4 H0 hR hG6 hT6 hf6 c0 c1 c2 c3 c4 c5 c6 c7 HX H5 HG
  obtain ⟨k0, k1, k2, k3, k4, k5, k6, k7⟩ := hu1
  have hcc : (code == code) = true := by simp
  go_wp2_with (first | (refine wpList_stN rfl 30 (.tmp 9) _ rfl _ _ rfl rfl (unhide HR1) ?_) | (refine wpList_stN rfl 30 _ _ rfl _ _ rfl rfl (unhide HR2) ?_))
  (try simp only [Exit.inBlock, Exit.then])
  refine bodyPost_ret (results_celltt rfl _ _ (W.heap.size + 2) 0 _ _ _ _ rfl rfl rfl (unhide HE).1 Try.underlying30 rfl (by kernel_rfl)) rfl ?_
  first
    | exact (unhide HE).2
    | simpa using (unhide HE).2
end Go.Proofs.Ytoflkfnmbighaaa

namespace Go.Proofs.Ytoflkfnmbighaaa
open Go.RowKit Go.ChangeShapes Go.WideShapes Go.Maps

/-- played: every call. -/
theorem played_any (i : Nat) (W : World) (d m : Nat) (r : RD) (v : Value) (O T : Nat → Prop) (h : PS W d m r v O T) (hb : Bud r i) (hi : i ≤ 1000000) (y : Op8) (xo : Option Addr) (xc : Nat) (hok : y.Ok W (.slice xo y.l.length xc)) (hxO : y.l = [] ∨ ∀ g o k c, Value.slice xo y.l.length xc = .slice (some ⟨g, o, none⟩) k c → ¬ O g) :
    Calls Try.prog 7 #[.pointer (some ⟨d, 0, none⟩), r.agg v, .agg #[.int .i64 y.ki, .string y.n, .int .i64 y.a, .int .i64 y.z, .int .u64 y.b, .bool y.on, .slice xo y.l.length xc]] W fun e W' => ∃ r', PL W d m O T r' e W' ∧ Bud r' (i + 1) := by
  obtain ⟨ki, n, a, z, b, on, l⟩ := y
  obtain ⟨hs, _, hcap, hl, hn, ha, hz, hb0⟩ := hok
  dsimp only at hs hcap hl hn ha hz hb0 hxO ⊢
  have hwr : r.writes ≤ 1000000 := Nat.le_trans hb.wr hi
  have hbn := hb.bn
  by_cases k1 : ki = 1
  · subst k1
    exact (played_ch W d m r _ v O T h n 1 a z b on _ (fun V hV hf => changed_1 V d m r v O T hV hwr n a z b on _)).mono fun e W' h => ⟨_, h, hb.create n⟩
  by_cases k2 : ki = 2
  · subst k2
    exact (played_ch W d m r _ v O T h n 2 a z b on _ (fun V hV hf => changed_2 V d m r v O T hV hwr n a z b on xo xc l hn (hs.fr hf (fun _ _ _ _ _ h => h)) hxO (hcap _ _ _ rfl) hl (by omega))).mono fun e W' h => ⟨_, h, hb.append n l hl⟩
  by_cases k3 : ki = 3
  · subst k3
    exact (played_ch W d m r _ v O T h n 3 a z b on _ (fun V hV hf => changed_3 V d m r v O T hV hwr n a z b on _ hn)).mono fun e W' h => ⟨_, h, hb.sync n⟩
  by_cases k4 : ki = 4
  · subst k4
    exact (played_ch W d m r _ v O T h n 4 a z b on _ (fun V hV hf => changed_4 V d m r v O T hV hwr n a z b on _ hn)).mono fun e W' h => ⟨_, h, hb.cut n z⟩
  by_cases k5 : ki = 5
  · subst k5
    exact (played_ch W d m r _ v O T h n 5 a z b on _ (fun V hV hf => changed_5 V d m r v O T hV hwr n a z b on _ hn)).mono fun e W' h => ⟨_, h, hb.remove n⟩
  by_cases k7 : ki = 7
  · subst k7
    exact (played_ch W d m r _ v O T h n 7 a z b on _ (fun V hV hf => changed_7 V d m r v O T hV hwr n a z b on _ (by omega) (by omega))).mono fun e W' h => ⟨_, h, hb.arm a z⟩
  by_cases k11 : ki = 11
  · subst k11
    exact (played_ch W d m r _ v O T h n 11 a z b on _ (fun V hV hf => changed_11 V d m r v O T hV hwr n a z b on _ hn hb0)).mono fun e W' h => ⟨_, h, hb.turn n a b⟩
  by_cases k8 : ki = 8
  · subst k8
    exact (played_8 W d m r v O T h n a z b on _).mono fun e W' h => ⟨_, h, hb.up.nums rfl rfl rfl⟩
  by_cases k9 : ki = 9
  · subst k9
    refine (played_9 W d m r v O T h n a z b on _ hwr hz.2 (fun Fs hfs x hx y hy => ?_)).mono fun e W' ⟨last, h⟩ => ⟨_, h, hb.crash last⟩
    have := hb.ab x.1 (by rw [← hfs]; exact List.mem_map.mpr ⟨x, hx, rfl⟩) y hy
    omega
  by_cases k10 : ki = 10
  · subst k10
    exact (played_10 W d m r v O T h n a z b on _).mono fun e W' h => ⟨_, h, hb.up.nums rfl rfl rfl⟩
  by_cases k6 : ki = 6
  · subst k6
    by_cases hne : (r.found n).2 = 0
    · obtain ⟨k, f, ho, hk, hFk, hf, en⟩ := found_ok hne
      by_cases hbad : a < 0 ∨ z < 0 ∨ (f.rb.length : Int) < a ∨ (f.rb.length : Int) - a < z
      · by_cases h1 : a < 0
        · exact (played_6b1 W d m r v O T h n a z b on _ hn k f ho hk hFk hf en h1).mono fun e W' h => ⟨_, h, hb.up⟩
        by_cases h2 : z < 0
        · exact (played_6b2 W d m r v O T h n a z b on _ hn k f ho hk hFk hf en h1 h2).mono fun e W' h => ⟨_, h, hb.up⟩
        by_cases h3 : (f.rb.length : Int) < a
        · exact (played_6b3 W d m r v O T h n a z b on _ hn k f ho hk hFk hf en h1 h2 h3).mono fun e W' h => ⟨_, h, hb.up⟩
        · exact (played_6b4 W d m r v O T h n a z b on _ hn k f ho hk hFk hf en h1 h2 h3 (by omega)).mono fun e W' h => ⟨_, h, hb.up⟩
      · exact (played_6c W d m r v O T h n a.toNat z.toNat a z b on _ hn k f ho hk hFk hf en (by omega) (by omega) (by omega)).mono fun e W' h => ⟨_, h, hb.up⟩
    · exact (played_6a W d m r v O T h n a z b on _ hn hne).mono fun e W' h => ⟨_, h, hb.up⟩
  by_cases hne : (r.found n).2 = 0
  · obtain ⟨k, f, ho, hk, hFk, hf, en⟩ := found_ok hne
    exact (played_ob W d m r v O T h n ki a z b on _ k1 k2 k3 k4 k5 k7 k11 k8 k9 k10 k6 hn k f ho hk hFk hf en).mono fun e W' h => ⟨_, h, hb.up⟩
  · exact (played_oa W d m r v O T h n ki a z b on _ k1 k2 k3 k4 k5 k7 k11 k8 k9 k10 k6 hn hne).mono fun e W' h => ⟨_, h, hb.up⟩
end Go.Proofs.Ytoflkfnmbighaaa

namespace Go.Proofs.Ytoflkfnmbighaaa
open Go.RowKit Go.ChangeShapes Go.WideShapes Go.Maps

theorem all8 {w1 : World} {b : Nat} {a0 a1 a2 a3 a4 a5 a6 a7 : Value} (hk : ∀ V, Fr (fun _ => False) w1 V → V.cell? ⟨b, 0, none⟩ = some a0 ∧ V.cell? ⟨b, 1, none⟩ = some a1 ∧ V.cell? ⟨b, 2, none⟩ = some a2 ∧ V.cell? ⟨b, 3, none⟩ = some a3 ∧ V.cell? ⟨b, 4, none⟩ = some a4 ∧ V.cell? ⟨b, 5, none⟩ = some a5 ∧ V.cell? ⟨b, 6, none⟩ = some a6 ∧ V.cell? ⟨b, 7, none⟩ = some a7 ∧ ∀ i, V.frozen? ⟨b, i, none⟩ = false) {V : World} (hf : Fr (fun _ => False) w1 V) :
    Fr (fun _ => False) w1 V ∧ V.cell? ⟨b, 0, none⟩ = some a0 ∧ V.cell? ⟨b, 1, none⟩ = some a1 ∧ V.cell? ⟨b, 2, none⟩ = some a2 ∧ V.cell? ⟨b, 3, none⟩ = some a3 ∧ V.cell? ⟨b, 4, none⟩ = some a4 ∧ V.cell? ⟨b, 5, none⟩ = some a5 ∧ V.cell? ⟨b, 6, none⟩ = some a6 ∧ V.cell? ⟨b, 7, none⟩ = some a7 := by
  obtain ⟨h0, h1, h2, h3, h4, h5, h6, h7, _⟩ := hk V hf
  exact ⟨hf, h0, h1, h2, h3, h4, h5, h6, h7⟩
theorem names_call {s : DM} {r : RD} {w1 wN wG : World} {b1 b2 : Nat} {x : Value} {ss : List (List UInt8)} {S : List ByteArray} {lo : Option Addr} {lc : Nat} (hR : Rel s r) (hss : ss.Perm (strKeys s.D)) (hrN : wN.ownsRow b1 9 1 x ss.length ((ss.mergeSort (fun x y => decide (x ≤ y))).map encStr)) (hl : Fr (fun _ => False) wN wG) (hrS : wG.ownsRow b2 9 1 (.slice lo S.length lc) S.length (scells S)) (hlow : Low (r.fs.map fun f => f.name) S) (hlS : S.length = r.fs.length) (hf : Fr (fun _ => False) w1 wG) :
    Calls Try.prog 29 #[x, .slice lo S.length lc] wG fun e w' => e = .returned (.bool true) ∧ Fr (fun _ => False) w1 w' := by
  have he := names_eq hR S hlow hlS ss hss
  have hls : ss.length = S.length := by
    have h1 := congrArg List.length he
    simp [scells, List.length_mergeSort] at h1
    exact h1
  obtain ⟨a, ca, rfl⟩ := own_formX hrN
  rw [he, hls] at hrN
  rw [hls]
  have hrN' := ownsRow_of_block hrN (fun k hk => hl.block k (hrN.lt k hk).2 (fun h => h))
  refine (lnames_any a lo ca lc S b1 b2 wG hrN' hrS (by rw [hlS]; exact hR.n256)).mono ?_
  rintro e w' ⟨rfl, hf2⟩
  exact ⟨rfl, hf.trans hf2 (fun _ _ h => h)⟩
set_option maxHeartbeats 8000000 in
set_option maxRecDepth 100000 in
/-- all. -/
theorem lall_any (W : World) (d m : Nat) (r : RD) (v : Value) (O T : Nat → Prop) (h : PS W d m r v O T) :
    Calls Try.prog 8 #[.pointer (some ⟨d, 0, none⟩), r.agg v] W fun e w' => e = .returned (.bool true) ∧ Fr (fun _ => False) W w' := by
  obtain ⟨ao, c, Fs, rfl, hfs, hG0⟩ := h.G.at_
  obtain ⟨s, q, H0, hR⟩ := h.D
  have hl := len_map hfs
  rw [← hl] at hG0 ⊢
  obtain ⟨w1, hw1⟩ : ∃ w1, w1 = W.alloc (.cells (r.cells (.slice ao Fs.length c)) 30) := ⟨_, rfl⟩
  have hf1 : Fr (fun _ => False) W w1 := by rw [hw1]; exact box1 _ _
  have hbk : w1.heap[W.heap.size]? = some (.cells (r.cells (.slice ao Fs.length c)) 30) := by rw [hw1]; exact heap_alloc_new _ _
  have hD := H0.fr hf1 (fun _ _ h => h)
  have hG := hG0.fr0 hf1
  have h256 : Fs.length ≤ 256 := by rw [hl]; exact hR.n256
  have hnd : (Fs.map fun x => x.1.name).Nodup := by
    have h1 := hR.nd
    rw [← hfs, List.map_map] at h1
    rw [List.Nodup, List.pairwise_map] at h1 ⊢
    exact h1.imp fun h2 e => h2 (by rw [Function.comp, Function.comp, e])
  obtain ⟨t1, t2, t3, t4, t5, t6⟩ := tells_all hD hR hG hfs
  have hna : ∀ V, Fr (fun _ => False) w1 V → Calls Try.prog 30 #[.pointer (some ⟨d, 0, none⟩)] V fun e w' => ∃ (x : Value) (ss : List (List UInt8)), e = .returned x ∧ ss.Perm (strKeys s.D) ∧ w'.ownsRow V.heap.size 9 1 x ss.length ((ss.mergeSort (fun x y => decide (x ≤ y))).map encStr) ∧ Fr (fun _ => False) w1 w' := fun V hV => (names_any d m s q O V (hD.fr hV (fun _ _ h => h)) (by rw [rel_size hR]; exact hR.n256)).mono fun e w' ⟨x, ss, he, hp, ho, hf⟩ => ⟨x, ss, he, hp, ho, hV.trans hf (fun _ _ h => h)⟩
  have hgn : ∀ V, Fr (fun _ => False) w1 V → Calls Try.prog 31 #[r.agg (.slice ao Fs.length c)] V fun e w' => ∃ (S : List ByteArray) (lo : Option Addr) (lc : Nat), e = .returned (.slice lo S.length lc) ∧ w'.ownsRow V.heap.size 9 1 (.slice lo S.length lc) S.length (scells S) ∧ Low (r.fs.map fun f => f.name) S ∧ S.length = r.fs.length ∧ Fr (fun _ => False) w1 w' ∧ Fr (fun _ => False) V w' := fun V hV => (gnames_any r ao c Fs T V (hG.fr0 hV) h256 hnd).mono fun e w' ⟨S, lo, lc, he, ho, hlow, hle, hf⟩ => ⟨S, lo, lc, he, ho, by rw [← hfs, List.map_map]; exact hlow, by rw [hle, hl], hV.trans hf (fun _ _ h => h), hf⟩
  have HT := hide (And.intro t1 (And.intro t2 (And.intro t3 (And.intro t4 (And.intro t5 t6)))))
  have HNA := hide hna
  have HGN := hide hgn
  have HK := hide (fun (V : World) (hf : Fr (fun _ => False) w1 V) => cells_of8 (V := V) ((hf.block _ (lt_of_block hbk) (fun h => h)).trans hbk))
  obtain ⟨c0, c1, c2, c3, c4, c5, c6, c7, _⟩ := cells_of8 hbk
  have HX := hide (And.intro hD (And.intro hR (And.intro hG (And.intro hf1 hfs))))
  clear t1 t2 t3 t4 t5 t6 hna hgn hD hG hG0 H0 h hnd hbk
  generalize hpn : pndN Fs Fs.length = pn at *
  generalize hun : r.used = un at *
  have q1 : (r.off != r.off) = false := by simp
  have F0 := hide ((Fr.refl (fun _ => False) w1).drew)
  clear hl hfs hpn hun hR hf1
  unfold RD.agg at HT HGN ⊢
  unfold RD.cells at hw1
  go_enter Try.func8, Try.ntmps8
  go_wp2_with fail
  rw [← hw1]
  clear hw1
  refine wp_region_noPanic ?_
  refine wp_region_held_drew (S := (fun V => Fr (fun _ => False) w1 V ∧ V.cell? ⟨W.heap.size, 0, none⟩ = some (.int .i64 (r.limit : Nat)) ∧ V.cell? ⟨W.heap.size, 1, none⟩ = some (.int .i64 (r.born : Nat)) ∧ V.cell? ⟨W.heap.size, 2, none⟩ = some (.int .i64 (r.writes : Nat)) ∧ V.cell? ⟨W.heap.size, 3, none⟩ = some (.slice ao Fs.length c) ∧ V.cell? ⟨W.heap.size, 4, none⟩ = some (.int .i64 r.armed) ∧ V.cell? ⟨W.heap.size, 5, none⟩ = some (.int .i64 r.tear) ∧ V.cell? ⟨W.heap.size, 6, none⟩ = some (.bool r.off) ∧ V.cell? ⟨W.heap.size, 7, none⟩ = some (.bool r.full))) (by kernel_rfl) (all8 (unhide HK) (unhide F0)) (fun hHeld => ?_)
  refine wtk (i := 0) (v := ?_) rfl (Or.inl ⟨by rfl, ?_⟩) hHeld ?_
  rotate_left
  · intro w hSw; (try dsimp only at hSw); (try obtain ⟨_, s0, s1, s2, s3, s4, s5, s6, s7⟩ := hSw); go_simp; (try with_reducible rfl)
  (try simp only [Act.put, nrm])
  refine wtk (i := 2) (v := ?_) rfl (Or.inl ⟨by rfl, ?_⟩) hHeld ?_
  rotate_left
  · intro w hSw; (try dsimp only at hSw); (try obtain ⟨_, s0, s1, s2, s3, s4, s5, s6, s7⟩ := hSw); go_simp; (try with_reducible rfl)
  (try simp only [Act.put, nrm])
  refine wtk (i := 3) (v := ?_) rfl (Or.inl ⟨by rfl, ?_⟩) hHeld ?_
  rotate_left
  · intro w hSw; (try dsimp only at hSw); (try obtain ⟨_, s0, s1, s2, s3, s4, s5, s6, s7⟩ := hSw); go_simp; (try with_reducible rfl)
  (try simp only [Act.put, nrm])
  refine wpAnyH_ready (rs := [1]) (by kernel_rfl) (by simp) (AllReadyH.cons rfl (fun K hK => ?_) AllReadyH.nil)
  go_simp
  refine ((unhide HT).1 _ (unhide F0)).mono ?_
  rintro e w2 ⟨rfl, f1⟩
  go_simp
  refine hK.out _ _ (all8 (unhide HK) f1) (fun hHeld => ?_)
  clear hK K
  (try simp only [Act.put, nrm])
  refine wtk (i := 4) (v := ?_) rfl (Or.inl ⟨by rfl, ?_⟩) hHeld ?_
  rotate_left
  · intro w hSw; (try dsimp only at hSw); (try obtain ⟨_, s0, s1, s2, s3, s4, s5, s6, s7⟩ := hSw); go_simp; (try with_reducible rfl)
  (try simp only [Act.put, nrm])
  refine wtk (i := 5) (v := ?_) rfl (Or.inl ⟨by rfl, ?_⟩) hHeld ?_
  rotate_left
  · intro w hSw; (try dsimp only at hSw); (try obtain ⟨_, s0, s1, s2, s3, s4, s5, s6, s7⟩ := hSw); go_simp; (try with_reducible rfl)
  (try simp only [Act.put, nrm])
  refine wtk (i := 6) (v := ?_) rfl (Or.inl ⟨by rfl, ?_⟩) hHeld ?_
  rotate_left
  · intro w hSw; (try dsimp only at hSw); (try obtain ⟨_, s0, s1, s2, s3, s4, s5, s6, s7⟩ := hSw); go_simp; (try with_reducible rfl)
  (try simp only [Act.put, nrm])
  refine wtk (i := 8) (v := ?_) rfl (Or.inl ⟨by rfl, ?_⟩) hHeld ?_
  rotate_left
  · intro w hSw; (try dsimp only at hSw); (try obtain ⟨_, s0, s1, s2, s3, s4, s5, s6, s7⟩ := hSw); go_simp; (try with_reducible rfl)
  (try simp only [Act.put, nrm])
  refine wpAnyH_ready (rs := [7]) (by kernel_rfl) (by simp) (AllReadyH.cons rfl (fun K hK => ?_) AllReadyH.nil)
  go_simp
  refine ((unhide HT).2.1 _ f1).mono ?_
  rintro e w3 ⟨rfl, f2⟩
  go_simp
  refine hK.out _ _ (all8 (unhide HK) f2) (fun hHeld => ?_)
  clear hK K
  (try simp only [Act.put, nrm])
  refine wpAnyH_ready (rs := [9]) (by kernel_rfl) (by simp) (AllReadyH.cons rfl (fun K hK => ?_) AllReadyH.nil)
  go_simp
  refine ((unhide HT).2.2.1 _ f2).mono ?_
  rintro e w4 ⟨rfl, f3⟩
  go_simp
  refine hK.out _ _ (all8 (unhide HK) f3) (fun hHeld => ?_)
  clear hK K
  (try simp only [Act.put, nrm])
  refine wtk (i := 10) (v := ?_) rfl (Or.inl ⟨by rfl, ?_⟩) hHeld ?_
  rotate_left
  · intro w hSw; (try dsimp only at hSw); (try obtain ⟨_, s0, s1, s2, s3, s4, s5, s6, s7⟩ := hSw); go_simp; (try with_reducible rfl)
  (try simp only [Act.put, nrm])
  refine wtk (i := 11) (v := ?_) rfl (Or.inl ⟨by rfl, ?_⟩) hHeld ?_
  rotate_left
  · intro w hSw; (try dsimp only at hSw); (try obtain ⟨_, s0, s1, s2, s3, s4, s5, s6, s7⟩ := hSw); go_simp; (try with_reducible rfl)
  (try simp only [Act.put, nrm])
  refine wtk (i := 12) (v := ?_) rfl (Or.inl ⟨by rfl, ?_⟩) hHeld ?_
  rotate_left
  · intro w hSw; (try dsimp only at hSw); (try obtain ⟨_, s0, s1, s2, s3, s4, s5, s6, s7⟩ := hSw); go_simp; (try with_reducible rfl)
  (try simp only [Act.put, nrm])
  refine wtk (i := 13) (v := ?_) rfl (Or.inl ⟨by rfl, ?_⟩) hHeld ?_
  rotate_left
  · intro w hSw; (try dsimp only at hSw); (try obtain ⟨_, s0, s1, s2, s3, s4, s5, s6, s7⟩ := hSw); go_simp; (try with_reducible rfl)
  (try simp only [Act.put, nrm])
  refine wtk (i := 15) (v := ?_) rfl (Or.inl ⟨by rfl, ?_⟩) hHeld ?_
  rotate_left
  · intro w hSw; (try dsimp only at hSw); (try obtain ⟨_, s0, s1, s2, s3, s4, s5, s6, s7⟩ := hSw); go_simp; (try with_reducible rfl)
  (try simp only [Act.put, nrm])
  refine wpAnyH_ready (rs := [14]) (by kernel_rfl) (by simp) (AllReadyH.cons rfl (fun K hK => ?_) AllReadyH.nil)
  go_simp
  refine ((unhide HT).2.2.2.1 _ f3).mono ?_
  rintro e w5 ⟨rfl, f4⟩
  go_simp
  refine hK.out _ _ (all8 (unhide HK) f4) (fun hHeld => ?_)
  clear hK K
  (try simp only [Act.put, nrm])
  refine wpAnyH_ready (rs := [16]) (by kernel_rfl) (by simp) (AllReadyH.cons rfl (fun K hK => ?_) AllReadyH.nil)
  go_simp
  refine ((unhide HT).2.2.2.2.1 _ f4).mono ?_
  rintro e w6 ⟨rfl, f5⟩
  go_simp
  refine hK.out _ _ (all8 (unhide HK) f5) (fun hHeld => ?_)
  clear hK K
  (try simp only [Act.put, nrm])
  refine wtk (i := 17) (v := ?_) rfl (Or.inl ⟨by rfl, ?_⟩) hHeld ?_
  rotate_left
  · intro w hSw; (try dsimp only at hSw); (try obtain ⟨_, s0, s1, s2, s3, s4, s5, s6, s7⟩ := hSw); go_simp; (try with_reducible rfl)
  (try simp only [Act.put, nrm])
  refine wtk (i := 18) (v := ?_) rfl (Or.inl ⟨by rfl, ?_⟩) hHeld ?_
  rotate_left
  · intro w hSw; (try dsimp only at hSw); (try obtain ⟨_, s0, s1, s2, s3, s4, s5, s6, s7⟩ := hSw); go_simp; (try with_reducible rfl)
  (try simp only [Act.put, nrm])
  refine wtk (i := 19) (v := ?_) rfl (Or.inl ⟨by rfl, ?_⟩) hHeld ?_
  rotate_left
  · intro w hSw; (try dsimp only at hSw); (try obtain ⟨_, s0, s1, s2, s3, s4, s5, s6, s7⟩ := hSw); go_simp; (try with_reducible rfl)
  (try simp only [Act.put, nrm])
  refine wtk (i := 20) (v := ?_) rfl (Or.inl ⟨by rfl, ?_⟩) hHeld ?_
  rotate_left
  · intro w hSw; (try dsimp only at hSw); (try obtain ⟨_, s0, s1, s2, s3, s4, s5, s6, s7⟩ := hSw); go_simp; (try with_reducible rfl)
  (try simp only [Act.put, nrm])
  refine wtk (i := 22) (v := ?_) rfl (Or.inl ⟨by rfl, ?_⟩) hHeld ?_
  rotate_left
  · intro w hSw; (try dsimp only at hSw); (try obtain ⟨_, s0, s1, s2, s3, s4, s5, s6, s7⟩ := hSw); go_simp; (try with_reducible rfl)
  (try simp only [Act.put, nrm])
  refine wtk (i := 23) (v := ?_) rfl (Or.inl ⟨by rfl, ?_⟩) hHeld ?_
  rotate_left
  · intro w hSw; (try dsimp only at hSw); (try obtain ⟨_, s0, s1, s2, s3, s4, s5, s6, s7⟩ := hSw); go_simp; (try with_reducible rfl)
  (try simp only [Act.put, nrm])
  refine wpAnyH_ready (rs := [21]) (by kernel_rfl) (by simp) (AllReadyH.cons rfl (fun K hK => ?_) AllReadyH.nil)
  go_simp
  refine ((unhide HT).2.2.2.2.2 _ f5).mono ?_
  rintro e w7 ⟨rfl, f6⟩
  go_simp
  refine hK.out _ _ (all8 (unhide HK) f6) (fun hHeld => ?_)
  clear hK K
  (try simp only [Act.put, nrm])
  refine wtk (i := 24) (v := ?_) rfl (Or.inl ⟨by rfl, ?_⟩) hHeld ?_
  rotate_left
  · intro w hSw; (try dsimp only at hSw); (try obtain ⟨_, s0, s1, s2, s3, s4, s5, s6, s7⟩ := hSw); go_simp; (try with_reducible rfl)
  (try simp only [Act.put, nrm])
  refine wtk (i := 25) (v := ?_) rfl (Or.inl ⟨by rfl, ?_⟩) hHeld ?_
  rotate_left
  · intro w hSw; (try dsimp only at hSw); (try obtain ⟨_, s0, s1, s2, s3, s4, s5, s6, s7⟩ := hSw); go_simp; (try with_reducible rfl)
  (try simp only [Act.put, nrm])
  refine wtk (i := 26) (v := ?_) rfl (Or.inl ⟨by rfl, ?_⟩) hHeld ?_
  rotate_left
  · intro w hSw; (try dsimp only at hSw); (try obtain ⟨_, s0, s1, s2, s3, s4, s5, s6, s7⟩ := hSw); go_simp; (try with_reducible rfl)
  (try simp only [Act.put, nrm])
  refine wtk (i := 27) (v := ?_) rfl (Or.inl ⟨by rfl, ?_⟩) hHeld ?_
  rotate_left
  · intro w hSw; (try dsimp only at hSw); (try obtain ⟨_, s0, s1, s2, s3, s4, s5, s6, s7⟩ := hSw); go_simp; (try with_reducible rfl)
  (try simp only [Act.put, nrm])
  refine wtk (i := 29) (v := ?_) rfl (Or.inl ⟨by rfl, ?_⟩) hHeld ?_
  rotate_left
  · intro w hSw; (try dsimp only at hSw); (try obtain ⟨_, s0, s1, s2, s3, s4, s5, s6, s7⟩ := hSw); go_simp; (try with_reducible rfl)
  (try simp only [Act.put, nrm])
  refine wpAnyH_ready (rs := [28]) (by kernel_rfl) (by simp) (AllReadyH.cons rfl (fun K hK => ?_) AllReadyH.nil)
  go_simp
  refine ((unhide HNA) _ f6).mono ?_
  rintro e w8 ⟨x5, ss, rfl, hss, hrN, f7⟩
  have HN8 := hide (And.intro hss hrN)
  clear hss hrN
  go_simp
  refine hK.out _ _ (all8 (unhide HK) f7) (fun hHeld => ?_)
  clear hK K
  (try simp only [Act.put, nrm])
  refine wpAnyH_ready (rs := [30]) (by kernel_rfl) (by simp) (AllReadyH.cons rfl (fun K hK => ?_) AllReadyH.nil)
  go_simp
  refine ((unhide HGN) _ f7).mono ?_
  rintro e w9 ⟨S9, lo, lc, rfl, hrS, hlow, hlS, f8, hlst⟩
  have HN9 := hide (And.intro hrS (And.intro hlow (And.intro hlS hlst)))
  clear hrS hlow hlS hlst
  go_simp
  refine hK.out _ _ (all8 (unhide HK) f8) (fun hHeld => ?_)
  clear hK K
  (try simp only [Act.put, nrm])
  refine wpAnyH_ready (rs := [31]) (by kernel_rfl) (by simp) (AllReadyH.cons rfl (fun K hK => ?_) AllReadyH.nil)
  go_simp
  refine (names_call (unhide HX).2.1 (unhide HN8).1 (unhide HN8).2 (unhide HN9).2.2.2 (unhide HN9).1 (unhide HN9).2.1 (unhide HN9).2.2.1 f8).mono ?_
  rintro e w10 ⟨rfl, f9⟩
  go_simp
  refine hK.out _ _ (all8 (unhide HK) f9) (fun hHeld => ?_)
  clear hK K
  (try simp only [Act.put, nrm])
  refine wtk (i := 32) (v := ?_) rfl (Or.inl ⟨by rfl, ?_⟩) hHeld ?_
  rotate_left
  · intro w hSw; (try dsimp only at hSw); (try obtain ⟨_, s0, s1, s2, s3, s4, s5, s6, s7⟩ := hSw); go_simp; (try with_reducible rfl)
  (try simp only [Act.put, nrm])
  refine wtk (i := 33) (v := ?_) rfl (Or.inl ⟨by rfl, ?_⟩) hHeld ?_
  rotate_left
  · intro w hSw; (try dsimp only at hSw); (try obtain ⟨_, s0, s1, s2, s3, s4, s5, s6, s7⟩ := hSw); go_simp; (try with_reducible rfl)
  (try simp only [Act.put, nrm])
  refine wpAnyH_done (by kernel_rfl) ?_ _
  refine NoPanic.normal ?_
  have FW := hide f9
  clear f1 f2 f3 f4 f5 f6 f7 f8 f9 hHeld HN8 HN9 HT HNA HGN
  go_wp2_with fail
  go_loopw [5] (fun iv wr => ∃ j : Nat, j ≤ Fs.length ∧ iv = .int .i64 (j : Nat) ∧ Fr (fun _ => False) w1 wr) (fun iv _ => Fs.length - (intOf iv).toNat)
  case atStart => exact ⟨0, Nat.zero_le _, rfl, unhide FW⟩
  case round =>
    obtain ⟨j, hj, rfl, hfr⟩ := hrel
    clear c0 c1 c2 c3 c4 c5 c6 c7
    obtain ⟨c0, c1, c2, c3, c4, c5, c6, c7, _⟩ := (unhide HK) _ hfr
    by_cases hlt : j < Fs.length
    · have hkl : (j : Int) < (Fs.length : Int) := by omega
      have hxj := List.getElem?_eq_getElem hlt
      obtain ⟨hD, hR, hG, hf1, hfs⟩ := unhide HX
      have hGr := hG.fr0 hfr
      obtain ⟨g, rfl, hTg, d0, d1, _⟩ := hGr.at_ hxj
      obtain ⟨fo, fc, hform⟩ := hGr.form hxj
      have hrow := hGr.b _ (List.getElem_mem hlt)
      rw [hform] at d1 hrow
      have hfm : Fs[j].1 ∈ r.fs := by rw [← hfs]; exact List.mem_map.mpr ⟨Fs[j], List.getElem_mem hlt, rfl⟩
      have hnl := hR.nl _ hfm
      have hnm : Fs[j].1.name.size ≤ maxLen := by simp only [maxLen]; omega
      have hbl := rel_blen hR _ hfm
      have hFR := hR.F _ hfm
      have hln := rel_len hR _ hfm
      have hul := hR.ul
      have hlm := hR.lim1
      have hhas := (has_keys hR (nm Fs[j].1.name)).mpr ⟨_, hfm, rfl⟩
      obtain ⟨V, hV⟩ : ∃ V, V = wr.alloc (.cells #[.string Fs[j].1.name, .slice fo Fs[j].1.rb.length fc] 60) := ⟨_, rfl⟩
      have hfV : Fr (fun _ => False) w1 V := by rw [hV]; exact hfr.alloc _
      have hDV := hD.fr hfV (fun _ _ h => h)
      subst hV
      obtain ⟨_, _, _, e3, _, _, e6, _, _⟩ := (unhide HK) _ hfV
      cases ho : r.off with
      | true =>
        rw [ho] at c6 e6
        have hno : s.no (nm Fs[j].1.name) 6 := .inl ⟨hR.off ▸ ho, rfl⟩
        have HZ := hide (size_no d m s q O _ 6 _ hDV hnm hno)
        have HY := hide (synced_no d m s q O _ 6 _ hDV hnm hno)
        have HR' := hide (read_no d m s q O _ 6 0 (Fs[j].1.rb.length : Nat) _ hDV hnm hno)
        have HF := hide hfV
        generalize Fs[j].1.name = nj at *
        generalize Fs[j].1.rb = rb at *
        clear hGr hrow hfm hnl hnm hbl hFR hln hul hlm hhas hDV hfV hno hD hR hG hf1 hfs hform hxj
        go_wp2_with (first
          | (go_at_call 12; refine (unhide HZ).mono ?_; clear HZ; rintro e w' ⟨rfl, rfl⟩)
          | (go_at_call 24; refine (unhide HY).mono ?_; clear HY; rintro e w' ⟨rfl, rfl⟩)
          | (go_at_call 20; refine (unhide HR').mono ?_; clear HR'; rintro e w' ⟨rfl, rfl⟩))
        exact ⟨⟨j + 1, hlt, by go_num, unhide HF⟩, by simp [intOf]; omega⟩
      | false =>
        rw [ho] at c6 e6
        have hso : s.off = false := hR.off ▸ ho
        have z1 := size_at d m s q O Fs[j].1.name _ hDV hso hnm hhas
        have z2 := synced_at d m s q O Fs[j].1.name _ hDV hso hnm hhas
        have z3 := read0_at d m Fs[j].1.rb.length s q O Fs[j].1.name _ hDV hso hnm hhas (by rw [hbl]; omega) (by rw [hbl]; exact Nat.le_refl _)
        rw [hbl] at z1
        rw [← safeN_eq hFR] at z2
        rw [hFR.b, List.take_of_length_le (by simp)] at z3
        have hlm : Fs[j].1.rb.length ≤ 1048576 := by omega
        have hsb := safeN_le Fs[j].1.rb Fs[j].1.rb.length
        obtain ⟨V, hV⟩ : ∃ V, V = wr.alloc (.cells #[.string Fs[j].1.name, .slice fo Fs[j].1.rb.length fc] 60) := ⟨_, rfl⟩
        have hVb : V.heap[wr.heap.size]? = some (.cells #[.string Fs[j].1.name, .slice fo Fs[j].1.rb.length fc] 60) := by rw [hV]; exact heap_alloc_new _ _
        have hrV : V.ownsRow 0 89 3 (.slice fo Fs[j].1.rb.length fc) Fs[j].1.rb.length (bcells Fs[j].1.rb) := by
          have hq : Fr (fun _ => False) wr V := by rw [hV]; exact box1 _ _
          exact ownsRow_of_block hrow (fun k hk => hq.block k (hrow.lt k hk).2 (fun h => h))
        have HZ := hide z1
        have HY := hide z2
        have HR' := hide z3
        have HF := hide hfV
        rw [← hV] at HZ HY HR' HF
        have HSA := hide (fun (V' : World) (hf : Fr (fun _ => False) V V') => (gsafe_any Fs[j].1.name 0 fo fc Fs[j].1.rb V' (ownsRow_of_block hrV (fun k hk => hf.block k (hrV.lt k hk).2 (fun h => h))) hlm).mono fun e w3 ⟨he, h3⟩ => (show e = _ ∧ Fr (fun _ => False) V w3 ∧ Fr (fun _ => False) V' w3 from ⟨he, hf.trans h3 (fun _ _ h => h), h3⟩))
        have HBY : Hid (∀ V' : World, Fr (fun _ => False) V V' → Calls Try.prog 23 #[.agg #[.string Fs[j].1.name, .slice fo Fs[j].1.rb.length fc], .int .i64 0, .int .i64 (Fs[j].1.rb.length : Nat)] V' fun e w3 => ∃ v, e = .returned v ∧ w3.ownsRow V'.heap.size 5 1 v Fs[j].1.rb.length (cellsOf (Fs[j].1.rb.map RB.v)) ∧ Fr (fun _ => False) V w3 ∧ Fr (fun _ => False) V' w3) := fun V' hf => (gbytes_any Fs[j].1.name 0 0 Fs[j].1.rb.length fo fc Fs[j].1.rb V' (own_go hrV hf) hlm (by omega)).mono fun e w3 ⟨v, he, ho, h3⟩ => ⟨v, he, by simpa [List.take_of_length_le] using ho, hf.trans h3 (fun _ _ h => h), h3⟩
        have hel : (Fs[j].1.rb.map RB.v).length = Fs[j].1.rb.length := by simp
        have HSM := hide (fun (x y : Value) (b1 b2 : Nat) (V' : World) (hx : V'.ownsRow b1 5 1 x Fs[j].1.rb.length (cellsOf (Fs[j].1.rb.map RB.v))) (hy : V'.ownsRow b2 5 1 y Fs[j].1.rb.length (cellsOf (Fs[j].1.rb.map RB.v))) => (show Calls Try.prog 22 #[x, y] V' fun e w' => e = .returned (.bool true) ∧ Fr (fun _ => False) V' w' from (same_any x y (Fs[j].1.rb.map RB.v) (Fs[j].1.rb.map RB.v) V' (own_src (by rw [hel]; exact hx)) (own_src (by rw [hel]; exact hy)) (by rw [hel]; omega)).mono fun e w' ⟨he, n, hw⟩ => ⟨by rw [he]; simp [sameB], by rw [hw]; exact (Fr.refl _ _).drewN n⟩))
        have HKV := hide (fun (V' : World) (hf : Fr (fun _ => False) V V') => And.intro ((hf.cell (p := ⟨wr.heap.size, 0, none⟩) (lt_of_cell (cell_of_blk (o := 0) hVb rfl)) (fun h => h)).trans (cell_of_blk (o := 0) hVb rfl)) ((hf.cell (p := ⟨wr.heap.size, 1, none⟩) (lt_of_cell (cell_of_blk (o := 1) hVb rfl)) (fun h => h)).trans (cell_of_blk (o := 1) hVb rfl)))
        generalize Fs[j].1.name = nj at *
        generalize hsf : safeN Fs[j].1.rb Fs[j].1.rb.length = sf at *
        generalize Fs[j].1.rb.map RB.v = rv at *
        generalize Fs[j].1.rb.length = rl at *
        clear hGr hrow hfm hnl hnm hbl hFR hln hul hhas hDV hfV hD hR hG hf1 hfs hform hxj hso z1 z2 z3 hel hrV hVb
        have n1 : ((rl : Int) != (rl : Int)) = false := by simp
        have n2 : ((sf : Int) != (sf : Int)) = false := by simp
        obtain ⟨k0, k1⟩ := (unhide HKV) _ (Fr.refl _ _)
        rw [hV] at k0 k1
        go_wp2_with (first
          | (go_at_call 12; rw [← hV]; refine (unhide HZ).mono ?_; clear HZ; rintro e w' ⟨rfl, hw'⟩; obtain rfl := hw'.symm; clear hw'; rw [← hV] at k0 k1; clear hV)
          | (go_at_call 24; refine (unhide HY).mono ?_; clear HY; rintro e w' ⟨rfl, hw'⟩; obtain rfl := hw'.symm; clear hw')
          | (go_at_call 20; refine (unhide HR').mono ?_; clear HR'; rintro e w7 ⟨v7, rfl, hr7, hf7⟩; have H7 := hide (And.intro hr7 hf7); clear hr7 hf7 k0 k1; obtain ⟨k0, k1⟩ := (unhide HKV) _ (unhide H7).2; clear c0 c1 c2 c3 c4 c5 c6 c7 e3 e6; obtain ⟨_, _, _, _, _, _, e6, _, _⟩ := (unhide HK) _ ((unhide HF).trans (unhide H7).2 (fun _ _ h => h)); rw [ho] at e6)
          | (go_at_call 25; refine ((unhide HSA) _ (unhide H7).2).mono ?_; clear HSA; rintro e w8 ⟨rfl, hf8, hf78⟩; have H8 := hide (And.intro hf8 hf78); clear hf8 hf78 k0 k1 e6; obtain ⟨k0, k1⟩ := (unhide HKV) _ (unhide H8).1)
          | (go_at_call 23; refine ((unhide HBY) _ (unhide H8).1).mono ?_; clear HBY; rintro e w9 ⟨v9, rfl, hr9, hf9, hf89⟩; have H9 := hide (And.intro hr9 (And.intro hf9 hf89)); clear hr9 hf9 hf89 k0 k1)
          | (go_at_call 22; refine ((unhide HSM) v7 v9 _ _ w9 (own_go (unhide H7).1 ((unhide H8).2.trans (unhide H9).2.2 (fun _ _ h => h))) (unhide H9).1).mono ?_; clear HSM; rintro e w10 ⟨rfl, hf10⟩; have H10 := hide hf10; clear hf10))
        exact ⟨⟨j + 1, hlt, by go_num, ((unhide HF).trans (unhide H9).2.1 (fun _ _ h => h)).trans (unhide H10) (fun _ _ h => h)⟩, by simp [intOf]; omega⟩
    · have hkl : ¬ (j : Int) < (Fs.length : Int) := by omega
      go_wp2_with fail
      go_ret
      exact ⟨rfl, (unhide HX).2.2.2.1.trans hfr (fun _ _ h => h)⟩
end Go.Proofs.Ytoflkfnmbighaaa

