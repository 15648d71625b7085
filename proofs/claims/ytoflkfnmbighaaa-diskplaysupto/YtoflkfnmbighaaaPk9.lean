import Derived.Test.YtoflkfnmbighaaaPk7
import Derived.Test.YtoflkfnmbighaaaPk8
import Derived.Test.YtoflkfnmbighaaaPk6
namespace Go.Proofs.Ytoflkfnmbighaaa
open Go.RowKit Go.ChangeShapes Go.WideShapes Go.Maps

set_option maxHeartbeats 4000000 in
set_option maxRecDepth 100000 in
/-- played: Read, refused. -/
theorem played_6a (W : World) (d m : Nat) (r : RD) (v : Value) (O T : Nat → Prop) (h : PS W d m r v O T) (n : ByteArray) (a z b : Int) (on : Bool) (xv : Value)  (hn : n.size ≤ maxLen) (hne : ¬ (r.found n).2 = 0) :
    Calls Try.prog 7 #[.pointer (some ⟨d, 0, none⟩), r.agg v, .agg #[.int .i64 6, .string n, .int .i64 a, .int .i64 z, .int .u64 b, .bool on, xv]] W (PL W d m O T r) := by
  obtain ⟨ao, c, rfl⟩ := h.G.form
  obtain ⟨w3, hw3⟩ : ∃ w3, w3 = ((W.alloc (.cells (r.cells (.slice ao r.fs.length c)) 30)).alloc (.cells #[.int .i64 6, .string n, .int .i64 a, .int .i64 z, .int .u64 b, .bool on, xv] 38)).alloc (.cells zero8 30) := ⟨_, rfl⟩
  have hf3 : Fr (fun _ => False) W w3 := by rw [hw3]; exact (box2 _ _ _).alloc _
  have hB3 : B3 W w3 (r.cells (.slice ao r.fs.length c)) #[.int .i64 6, .string n, .int .i64 a, .int .i64 z, .int .u64 b, .bool on, xv] := by rw [hw3]; exact B3.new _ _ _
  have HC := hide (changed_no w3 d r ao c 6 a z b n on xv (by decide) (by decide) (by decide) (by decide) (by decide) (by decide) (by decide))
  have HX := hide (And.intro h (And.intro hf3 hB3))
  clear hf3 hB3 h
  unfold RD.agg at HC ⊢
  unfold RD.cells zero8 at hw3
  go_enter Try.func7, Try.ntmps7
  go_wp2_with fail
  rw [← hw3]
  clear hw3
  refine (unhide HC).mono ?_
  rintro e w5 ⟨rfl, hf5⟩
  obtain ⟨h, hf3, hB3⟩ := unhide HX
  have hB5 := hB3.fr hf5 (fun _ h => h.elim)
  have hf05 := hf3.trans hf5 (fun _ _ h => h)
  obtain ⟨w6, hw6⟩ : ∃ w6, w6 = w5.alloc (.cells #[.int .i64 (r.limit : Nat), .int .i64 (r.born : Nat), .int .i64 (r.writes : Nat), .slice ao r.fs.length c, .int .i64 r.armed, .int .i64 r.tear, .bool r.off, .bool r.full] 30) := ⟨_, rfl⟩
  have hf6 : Fr (fun _ => False) w5 w6 := by rw [hw6]; exact box1 _ _
  have hB6 := hB5.fr hf6 (fun _ h => h.elim)
  have hf06 := hf05.trans hf6 (fun _ _ h => h)
  have hP6 := h.fr hf06 (fun _ _ h => h)
  have hsz : W.heap.size + 1 + 1 < w6.heap.size := lt_of_block hB6.z
  have hlt := h.lt
  obtain ⟨c0, c1, c2, c3, c4, c5, c6, c7, fz⟩ := cells_of8 hB6.t
  have o0 := cell_of_blk (o := 0) hB6.o rfl
  have o1 := cell_of_blk (o := 1) hB6.o rfl
  have o2 := cell_of_blk (o := 2) hB6.o rfl
  have o3 := cell_of_blk (o := 3) hB6.o rfl
  have o5 := cell_of_blk (o := 5) hB6.o rfl
  clear hB5 hf5 hf3 hB3 HC hf6 hf05
  rw [hw6] at c0 c1 c2 c3 c4 c5 c6 c7 fz o0 o1 o2 o3 o5
  go_wp2_with fail
  rw [← hw6]
  obtain ⟨s, q, hD6, hR⟩ := hP6.D
  obtain ⟨ao', c', Fs, g1', hfs, hG6⟩ := hP6.G.at_
  have g1'' : ao = ao' ∧ c = c' := by simpa using g1'
  obtain ⟨rfl, rfl⟩ := g1''
  clear g1'
  have hlF := len_map hfs
  have h256 : Fs.length ≤ 256 := by rw [hlF]; exact hR.n256
  clear hw6
  refine (read_no d m s q O n _ a z w6 hD6 hn (rel_no hR hne)).mono ?_
  rintro e w7 ⟨rfl, hw7⟩
  obtain rfl := hw7.symm
  clear hw7
  have hGF := hG6.fr0 (Fr.refl (fun _ => False) _)
  rw [← hlF] at hGF
  have HF := hide (gfound_any r ao c Fs T n w6 hGF hfs h256)
  rw [hlF] at HF
  have hB7 := hB6.fr (Fr.refl (fun _ => False) _) (fun _ h => h.elim)
  have hf07 := hf06.trans (Fr.refl (fun _ => False) _) (fun _ _ h => h)
  have HX6 := hide (And.intro h (And.intro hf07 hB7))
  clear c0 c1 c2 c3 c4 c5 c6 c7 fz o0 o1 o2 o3 o5
  obtain ⟨c0, c1, c2, c3, c4, c5, c6, c7, _⟩ := cells_of8 hB7.t
  have o0 := cell_of_blk (o := 0) hB7.o rfl
  have o1 := cell_of_blk (o := 1) hB7.o rfl
  have o2 := cell_of_blk (o := 2) hB7.o rfl
  have o3 := cell_of_blk (o := 3) hB7.o rfl
  generalize r.found n = kc at *
  obtain ⟨fk, cc⟩ := kc
  dsimp only at hne HF
  have hcc : ((cc : Int) == cc) = true := by simp
  unfold RD.agg at HF
  clear hG6 hGF hfs hD6 hR hP6 hB6 hf06 hB7 hf07 hsz hlt h HX hlF h256
  go_wp2_with fail
  refine (unhide HF).mono ?_
  rintro e w8 ⟨rfl, hf8⟩
  obtain ⟨h, hf07, hB7⟩ := unhide HX6
  have hB8 := hB7.fr hf8 (fun _ h => h.elim)
  have hf08 := hf07.trans hf8 (fun _ _ h => h)
  clear c0 c1 c2 c3 c4 c5 c6 c7 o0 o1 o2 o3
  obtain ⟨c0, c1, c2, c3, c4, c5, c6, c7, _⟩ := cells_of8 hB8.t
  obtain ⟨V, hrV, hgV, hfin, _⟩ := PL.same h hf08 hB8.z
  unfold RD.agg at hrV
  (try dsimp only at hrV)
  have HV := hide hrV
  have HE := hide (And.intro hgV hfin)
  clear hrV hgV hfin
  clear hB8 hf08 hB7 hf07 h HX6 HF hf8
  go_wp2_with (refine wpList_stN rfl 30 (.tmp 6) _ rfl _ _ rfl rfl (unhide HV) ?_)
  (try simp only [Exit.inBlock, Exit.then])
  refine bodyPost_ret (results_cellt rfl _ _ (W.heap.size + 1 + 1) 0 _ _ _ rfl rfl (unhide HE).1 Try.underlying30 rfl (by kernel_rfl)) rfl ?_
  exact (unhide HE).2
set_option maxHeartbeats 4000000 in
set_option maxRecDepth 100000 in
/-- played: Read of what is not there. -/
theorem played_6b1 (W : World) (d m : Nat) (r : RD) (v : Value) (O T : Nat → Prop) (h : PS W d m r v O T) (n : ByteArray) (a z b : Int) (on : Bool) (xv : Value)  (hn : n.size ≤ maxLen) (k : Nat) (f : RFl) (ho : r.off = false) (hk : nix r.fs n = some k) (hFk : r.found n = ((k : Int), 0)) (hf : r.fs[k]? = some f) (en : nm f.name = nm n) (h1 : a < 0) :
    Calls Try.prog 7 #[.pointer (some ⟨d, 0, none⟩), r.agg v, .agg #[.int .i64 6, .string n, .int .i64 a, .int .i64 z, .int .u64 b, .bool on, xv]] W (PL W d m O T r) := by
  have HPR := hide ho
  clear ho
  have HB := hide (h1)
  clear h1
  obtain ⟨ao, c, rfl⟩ := h.G.form
  obtain ⟨w3, hw3⟩ : ∃ w3, w3 = ((W.alloc (.cells (r.cells (.slice ao r.fs.length c)) 30)).alloc (.cells #[.int .i64 6, .string n, .int .i64 a, .int .i64 z, .int .u64 b, .bool on, xv] 38)).alloc (.cells zero8 30) := ⟨_, rfl⟩
  have hf3 : Fr (fun _ => False) W w3 := by rw [hw3]; exact (box2 _ _ _).alloc _
  have hB3 : B3 W w3 (r.cells (.slice ao r.fs.length c)) #[.int .i64 6, .string n, .int .i64 a, .int .i64 z, .int .u64 b, .bool on, xv] := by rw [hw3]; exact B3.new _ _ _
  have HC := hide (changed_no w3 d r ao c 6 a z b n on xv (by decide) (by decide) (by decide) (by decide) (by decide) (by decide) (by decide))
  have HX := hide (And.intro h (And.intro hf3 hB3))
  clear hf3 hB3 h
  unfold RD.agg at HC ⊢
  unfold RD.cells zero8 at hw3
  go_enter Try.func7, Try.ntmps7
  go_wp2_with fail
  rw [← hw3]
  clear hw3
  refine (unhide HC).mono ?_
  rintro e w5 ⟨rfl, hf5⟩
  obtain ⟨h, hf3, hB3⟩ := unhide HX
  have hB5 := hB3.fr hf5 (fun _ h => h.elim)
  have hf05 := hf3.trans hf5 (fun _ _ h => h)
  obtain ⟨w6, hw6⟩ : ∃ w6, w6 = w5.alloc (.cells #[.int .i64 (r.limit : Nat), .int .i64 (r.born : Nat), .int .i64 (r.writes : Nat), .slice ao r.fs.length c, .int .i64 r.armed, .int .i64 r.tear, .bool r.off, .bool r.full] 30) := ⟨_, rfl⟩
  have hf6 : Fr (fun _ => False) w5 w6 := by rw [hw6]; exact box1 _ _
  have hB6 := hB5.fr hf6 (fun _ h => h.elim)
  have hf06 := hf05.trans hf6 (fun _ _ h => h)
  have hP6 := h.fr hf06 (fun _ _ h => h)
  have hsz : W.heap.size + 1 + 1 < w6.heap.size := lt_of_block hB6.z
  have hlt := h.lt
  obtain ⟨c0, c1, c2, c3, c4, c5, c6, c7, fz⟩ := cells_of8 hB6.t
  have o0 := cell_of_blk (o := 0) hB6.o rfl
  have o1 := cell_of_blk (o := 1) hB6.o rfl
  have o2 := cell_of_blk (o := 2) hB6.o rfl
  have o3 := cell_of_blk (o := 3) hB6.o rfl
  have o5 := cell_of_blk (o := 5) hB6.o rfl
  clear hB5 hf5 hf3 hB3 HC hf6 hf05
  rw [hw6] at c0 c1 c2 c3 c4 c5 c6 c7 fz o0 o1 o2 o3 o5
  go_wp2_with fail
  rw [← hw6]
  obtain ⟨s, q, hD6, hR⟩ := hP6.D
  obtain ⟨ao', c', Fs, g1', hfs, hG6⟩ := hP6.G.at_
  have g1'' : ao = ao' ∧ c = c' := by simpa using g1'
  obtain ⟨rfl, rfl⟩ := g1''
  clear g1'
  have hlF := len_map hfs
  have h256 : Fs.length ≤ 256 := by rw [hlF]; exact hR.n256
  clear hw6
  have ho := unhide HPR
  clear HPR
  have hfm := List.mem_of_getElem? hf
  obtain ⟨x, hx, hxf⟩ := get_map hfs hf
  have hso : s.off = false := hR.off ▸ ho
  have hhas := rel_has hR hk
  have hbl : (s.F (nm n)).b.length = f.rb.length := by rw [← en]; exact rel_blen hR f hfm
  have hln := rel_len hR f hfm
  have hul := hR.ul
  have hlm := hR.lim1
  have hrl : f.rb.length ≤ 1048576 := by omega
  have hkl : (k : Int) < (r.fs.length : Int) := by have := (List.getElem?_eq_some_iff.1 hf).1; omega
  have hbad : a < 0 ∨ z < 0 ∨ (f.rb.length : Int) < a ∨ (f.rb.length : Int) - a < z := by
    have hb := unhide HB
    omega
  refine (read_bad d m s q O n a z w6 hD6 hso hn hhas (by omega) (by rw [hbl]; exact hbad)).mono ?_
  clear hbad
  rintro e w7 ⟨rfl, hf7⟩
  have hGF := hG6.fr0 hf7
  rw [← hlF] at hGF
  have HF := hide (gfound_any r ao c Fs T n w7 hGF hfs h256)
  rw [hlF] at HF
  have hB7 := hB6.fr hf7 (fun _ h => h.elim)
  have hf07 := hf06.trans hf7 (fun _ _ h => h)
  rw [hFk] at HF
  have HX6 := hide (And.intro h (And.intro hf07 hB7))
  have HG := hide (And.intro (hG6.fr0 hf7) (And.intro hx hxf))
  clear c0 c1 c2 c3 c4 c5 c6 c7 fz o0 o1 o2 o3 o5
  obtain ⟨c0, c1, c2, c3, c4, c5, c6, c7, _⟩ := cells_of8 hB7.t
  have o0 := cell_of_blk (o := 0) hB7.o rfl
  have o1 := cell_of_blk (o := 1) hB7.o rfl
  have o2 := cell_of_blk (o := 2) hB7.o rfl
  have o3 := cell_of_blk (o := 3) hB7.o rfl
  unfold RD.agg at HF
  dsimp only at HF
  have hlt8 := h.lt
  have HLT := hide hlt8
  clear hG6 hGF hfs hD6 hR hP6 hB6 hf06 hB7 hf07 hsz hlt h HX hlF h256 hlt8 hx hxf hso hhas hbl hln hul hlm ho hk hFk en hfm hf
  go_wp2_with fail
  refine (unhide HF).mono ?_
  rintro e w8 ⟨rfl, hf8⟩
  obtain ⟨h, hf07, hB7⟩ := unhide HX6
  have hB8 := hB7.fr hf8 (fun _ h => h.elim)
  have hf08 := hf07.trans hf8 (fun _ _ h => h)
  have hG8 := (unhide HG).1.fr0 hf8
  obtain ⟨g, rfl, hTg, d0, d1, _⟩ := hG8.at_ (unhide HG).2.1
  obtain ⟨bo, bc, hform⟩ := hG8.form (unhide HG).2.1
  have hrow := hG8.b _ (List.mem_of_getElem? (unhide HG).2.1)
  rw [hform] at d1 hrow
  have hgW : g < W.heap.size := (unhide HLT) g (.inr hTg)
  rw [(unhide HG).2.2] at d0 d1 hrow
  clear hform hTg hG8
  clear c0 c1 c2 c3 c4 c5 c6 c7 o0 o1 o2 o3
  obtain ⟨c0, c1, c2, c3, c4, c5, c6, c7, _⟩ := cells_of8 hB8.t
  have o2 := cell_of_blk (o := 2) hB8.o rfl
  have o3 := cell_of_blk (o := 3) hB8.o rfl
  obtain ⟨V, hrV, hgV, hfin, _⟩ := PL.same h hf08 hB8.z
  unfold RD.agg at hrV
  (try dsimp only at hrV)
  have HV := hide hrV
  have HE := hide (And.intro hgV hfin)
  clear hrV hgV hfin
  clear hB8 hf08 hB7 hf07 h HX6 HF hf8 HG HLT hrow hgW hf7
  have h1 := unhide HB
  clear HB
  generalize f.rb.length = rl at *
  go_wp2_with (refine wpList_stN rfl 30 (.tmp 6) _ rfl _ _ rfl rfl (unhide HV) ?_)
  (try simp only [Exit.inBlock, Exit.then])
  refine bodyPost_ret (results_cellt rfl _ _ (W.heap.size + 1 + 1) 0 _ _ _ rfl rfl (unhide HE).1 Try.underlying30 rfl (by kernel_rfl)) rfl ?_
  exact (unhide HE).2
end Go.Proofs.Ytoflkfnmbighaaa

namespace Go.Proofs.Ytoflkfnmbighaaa
open Go.RowKit Go.ChangeShapes Go.WideShapes Go.Maps

set_option maxHeartbeats 4000000 in
set_option maxRecDepth 100000 in
/-- played: Read of what is not there. -/
theorem played_6b2 (W : World) (d m : Nat) (r : RD) (v : Value) (O T : Nat → Prop) (h : PS W d m r v O T) (n : ByteArray) (a z b : Int) (on : Bool) (xv : Value)  (hn : n.size ≤ maxLen) (k : Nat) (f : RFl) (ho : r.off = false) (hk : nix r.fs n = some k) (hFk : r.found n = ((k : Int), 0)) (hf : r.fs[k]? = some f) (en : nm f.name = nm n) (h1 : ¬ a < 0) (h2 : z < 0) :
    Calls Try.prog 7 #[.pointer (some ⟨d, 0, none⟩), r.agg v, .agg #[.int .i64 6, .string n, .int .i64 a, .int .i64 z, .int .u64 b, .bool on, xv]] W (PL W d m O T r) := by
  have HPR := hide ho
  clear ho
  have HB := hide (And.intro h1 (h2))
  clear h1 h2
  obtain ⟨ao, c, rfl⟩ := h.G.form
  obtain ⟨w3, hw3⟩ : ∃ w3, w3 = ((W.alloc (.cells (r.cells (.slice ao r.fs.length c)) 30)).alloc (.cells #[.int .i64 6, .string n, .int .i64 a, .int .i64 z, .int .u64 b, .bool on, xv] 38)).alloc (.cells zero8 30) := ⟨_, rfl⟩
  have hf3 : Fr (fun _ => False) W w3 := by rw [hw3]; exact (box2 _ _ _).alloc _
  have hB3 : B3 W w3 (r.cells (.slice ao r.fs.length c)) #[.int .i64 6, .string n, .int .i64 a, .int .i64 z, .int .u64 b, .bool on, xv] := by rw [hw3]; exact B3.new _ _ _
  have HC := hide (changed_no w3 d r ao c 6 a z b n on xv (by decide) (by decide) (by decide) (by decide) (by decide) (by decide) (by decide))
  have HX := hide (And.intro h (And.intro hf3 hB3))
  clear hf3 hB3 h
  unfold RD.agg at HC ⊢
  unfold RD.cells zero8 at hw3
  go_enter Try.func7, Try.ntmps7
  go_wp2_with fail
  rw [← hw3]
  clear hw3
  refine (unhide HC).mono ?_
  rintro e w5 ⟨rfl, hf5⟩
  obtain ⟨h, hf3, hB3⟩ := unhide HX
  have hB5 := hB3.fr hf5 (fun _ h => h.elim)
  have hf05 := hf3.trans hf5 (fun _ _ h => h)
  obtain ⟨w6, hw6⟩ : ∃ w6, w6 = w5.alloc (.cells #[.int .i64 (r.limit : Nat), .int .i64 (r.born : Nat), .int .i64 (r.writes : Nat), .slice ao r.fs.length c, .int .i64 r.armed, .int .i64 r.tear, .bool r.off, .bool r.full] 30) := ⟨_, rfl⟩
  have hf6 : Fr (fun _ => False) w5 w6 := by rw [hw6]; exact box1 _ _
  have hB6 := hB5.fr hf6 (fun _ h => h.elim)
  have hf06 := hf05.trans hf6 (fun _ _ h => h)
  have hP6 := h.fr hf06 (fun _ _ h => h)
  have hsz : W.heap.size + 1 + 1 < w6.heap.size := lt_of_block hB6.z
  have hlt := h.lt
  obtain ⟨c0, c1, c2, c3, c4, c5, c6, c7, fz⟩ := cells_of8 hB6.t
  have o0 := cell_of_blk (o := 0) hB6.o rfl
  have o1 := cell_of_blk (o := 1) hB6.o rfl
  have o2 := cell_of_blk (o := 2) hB6.o rfl
  have o3 := cell_of_blk (o := 3) hB6.o rfl
  have o5 := cell_of_blk (o := 5) hB6.o rfl
  clear hB5 hf5 hf3 hB3 HC hf6 hf05
  rw [hw6] at c0 c1 c2 c3 c4 c5 c6 c7 fz o0 o1 o2 o3 o5
  go_wp2_with fail
  rw [← hw6]
  obtain ⟨s, q, hD6, hR⟩ := hP6.D
  obtain ⟨ao', c', Fs, g1', hfs, hG6⟩ := hP6.G.at_
  have g1'' : ao = ao' ∧ c = c' := by simpa using g1'
  obtain ⟨rfl, rfl⟩ := g1''
  clear g1'
  have hlF := len_map hfs
  have h256 : Fs.length ≤ 256 := by rw [hlF]; exact hR.n256
  clear hw6
  have ho := unhide HPR
  clear HPR
  have hfm := List.mem_of_getElem? hf
  obtain ⟨x, hx, hxf⟩ := get_map hfs hf
  have hso : s.off = false := hR.off ▸ ho
  have hhas := rel_has hR hk
  have hbl : (s.F (nm n)).b.length = f.rb.length := by rw [← en]; exact rel_blen hR f hfm
  have hln := rel_len hR f hfm
  have hul := hR.ul
  have hlm := hR.lim1
  have hrl : f.rb.length ≤ 1048576 := by omega
  have hkl : (k : Int) < (r.fs.length : Int) := by have := (List.getElem?_eq_some_iff.1 hf).1; omega
  have hbad : a < 0 ∨ z < 0 ∨ (f.rb.length : Int) < a ∨ (f.rb.length : Int) - a < z := by
    have hb := unhide HB
    omega
  refine (read_bad d m s q O n a z w6 hD6 hso hn hhas (by omega) (by rw [hbl]; exact hbad)).mono ?_
  clear hbad
  rintro e w7 ⟨rfl, hf7⟩
  have hGF := hG6.fr0 hf7
  rw [← hlF] at hGF
  have HF := hide (gfound_any r ao c Fs T n w7 hGF hfs h256)
  rw [hlF] at HF
  have hB7 := hB6.fr hf7 (fun _ h => h.elim)
  have hf07 := hf06.trans hf7 (fun _ _ h => h)
  rw [hFk] at HF
  have HX6 := hide (And.intro h (And.intro hf07 hB7))
  have HG := hide (And.intro (hG6.fr0 hf7) (And.intro hx hxf))
  clear c0 c1 c2 c3 c4 c5 c6 c7 fz o0 o1 o2 o3 o5
  obtain ⟨c0, c1, c2, c3, c4, c5, c6, c7, _⟩ := cells_of8 hB7.t
  have o0 := cell_of_blk (o := 0) hB7.o rfl
  have o1 := cell_of_blk (o := 1) hB7.o rfl
  have o2 := cell_of_blk (o := 2) hB7.o rfl
  have o3 := cell_of_blk (o := 3) hB7.o rfl
  unfold RD.agg at HF
  dsimp only at HF
  have hlt8 := h.lt
  have HLT := hide hlt8
  clear hG6 hGF hfs hD6 hR hP6 hB6 hf06 hB7 hf07 hsz hlt h HX hlF h256 hlt8 hx hxf hso hhas hbl hln hul hlm ho hk hFk en hfm hf
  go_wp2_with fail
  refine (unhide HF).mono ?_
  rintro e w8 ⟨rfl, hf8⟩
  obtain ⟨h, hf07, hB7⟩ := unhide HX6
  have hB8 := hB7.fr hf8 (fun _ h => h.elim)
  have hf08 := hf07.trans hf8 (fun _ _ h => h)
  have hG8 := (unhide HG).1.fr0 hf8
  obtain ⟨g, rfl, hTg, d0, d1, _⟩ := hG8.at_ (unhide HG).2.1
  obtain ⟨bo, bc, hform⟩ := hG8.form (unhide HG).2.1
  have hrow := hG8.b _ (List.mem_of_getElem? (unhide HG).2.1)
  rw [hform] at d1 hrow
  have hgW : g < W.heap.size := (unhide HLT) g (.inr hTg)
  rw [(unhide HG).2.2] at d0 d1 hrow
  clear hform hTg hG8
  clear c0 c1 c2 c3 c4 c5 c6 c7 o0 o1 o2 o3
  obtain ⟨c0, c1, c2, c3, c4, c5, c6, c7, _⟩ := cells_of8 hB8.t
  have o2 := cell_of_blk (o := 2) hB8.o rfl
  have o3 := cell_of_blk (o := 3) hB8.o rfl
  obtain ⟨V, hrV, hgV, hfin, _⟩ := PL.same h hf08 hB8.z
  unfold RD.agg at hrV
  (try dsimp only at hrV)
  have HV := hide hrV
  have HE := hide (And.intro hgV hfin)
  clear hrV hgV hfin
  clear hB8 hf08 hB7 hf07 h HX6 HF hf8 HG HLT hrow hgW hf7
  obtain ⟨h1, h2⟩ := unhide HB
  clear HB
  generalize f.rb.length = rl at *
  go_wp2_with (refine wpList_stN rfl 30 (.tmp 6) _ rfl _ _ rfl rfl (unhide HV) ?_)
  (try simp only [Exit.inBlock, Exit.then])
  refine bodyPost_ret (results_cellt rfl _ _ (W.heap.size + 1 + 1) 0 _ _ _ rfl rfl (unhide HE).1 Try.underlying30 rfl (by kernel_rfl)) rfl ?_
  exact (unhide HE).2
end Go.Proofs.Ytoflkfnmbighaaa

namespace Go.Proofs.Ytoflkfnmbighaaa
open Go.RowKit Go.ChangeShapes Go.WideShapes Go.Maps

set_option maxHeartbeats 4000000 in
set_option maxRecDepth 100000 in
/-- played: Read of what is not there. -/
theorem played_6b3 (W : World) (d m : Nat) (r : RD) (v : Value) (O T : Nat → Prop) (h : PS W d m r v O T) (n : ByteArray) (a z b : Int) (on : Bool) (xv : Value)  (hn : n.size ≤ maxLen) (k : Nat) (f : RFl) (ho : r.off = false) (hk : nix r.fs n = some k) (hFk : r.found n = ((k : Int), 0)) (hf : r.fs[k]? = some f) (en : nm f.name = nm n) (h1 : ¬ a < 0) (h2 : ¬ z < 0) (h3 : (f.rb.length : Int) < a) :
    Calls Try.prog 7 #[.pointer (some ⟨d, 0, none⟩), r.agg v, .agg #[.int .i64 6, .string n, .int .i64 a, .int .i64 z, .int .u64 b, .bool on, xv]] W (PL W d m O T r) := by
  have HPR := hide ho
  clear ho
  have HB := hide (And.intro h1 (And.intro h2 (h3)))
  clear h1 h2 h3
  obtain ⟨ao, c, rfl⟩ := h.G.form
  obtain ⟨w3, hw3⟩ : ∃ w3, w3 = ((W.alloc (.cells (r.cells (.slice ao r.fs.length c)) 30)).alloc (.cells #[.int .i64 6, .string n, .int .i64 a, .int .i64 z, .int .u64 b, .bool on, xv] 38)).alloc (.cells zero8 30) := ⟨_, rfl⟩
  have hf3 : Fr (fun _ => False) W w3 := by rw [hw3]; exact (box2 _ _ _).alloc _
  have hB3 : B3 W w3 (r.cells (.slice ao r.fs.length c)) #[.int .i64 6, .string n, .int .i64 a, .int .i64 z, .int .u64 b, .bool on, xv] := by rw [hw3]; exact B3.new _ _ _
  have HC := hide (changed_no w3 d r ao c 6 a z b n on xv (by decide) (by decide) (by decide) (by decide) (by decide) (by decide) (by decide))
  have HX := hide (And.intro h (And.intro hf3 hB3))
  clear hf3 hB3 h
  unfold RD.agg at HC ⊢
  unfold RD.cells zero8 at hw3
  go_enter Try.func7, Try.ntmps7
  go_wp2_with fail
  rw [← hw3]
  clear hw3
  refine (unhide HC).mono ?_
  rintro e w5 ⟨rfl, hf5⟩
  obtain ⟨h, hf3, hB3⟩ := unhide HX
  have hB5 := hB3.fr hf5 (fun _ h => h.elim)
  have hf05 := hf3.trans hf5 (fun _ _ h => h)
  obtain ⟨w6, hw6⟩ : ∃ w6, w6 = w5.alloc (.cells #[.int .i64 (r.limit : Nat), .int .i64 (r.born : Nat), .int .i64 (r.writes : Nat), .slice ao r.fs.length c, .int .i64 r.armed, .int .i64 r.tear, .bool r.off, .bool r.full] 30) := ⟨_, rfl⟩
  have hf6 : Fr (fun _ => False) w5 w6 := by rw [hw6]; exact box1 _ _
  have hB6 := hB5.fr hf6 (fun _ h => h.elim)
  have hf06 := hf05.trans hf6 (fun _ _ h => h)
  have hP6 := h.fr hf06 (fun _ _ h => h)
  have hsz : W.heap.size + 1 + 1 < w6.heap.size := lt_of_block hB6.z
  have hlt := h.lt
  obtain ⟨c0, c1, c2, c3, c4, c5, c6, c7, fz⟩ := cells_of8 hB6.t
  have o0 := cell_of_blk (o := 0) hB6.o rfl
  have o1 := cell_of_blk (o := 1) hB6.o rfl
  have o2 := cell_of_blk (o := 2) hB6.o rfl
  have o3 := cell_of_blk (o := 3) hB6.o rfl
  have o5 := cell_of_blk (o := 5) hB6.o rfl
  clear hB5 hf5 hf3 hB3 HC hf6 hf05
  rw [hw6] at c0 c1 c2 c3 c4 c5 c6 c7 fz o0 o1 o2 o3 o5
  go_wp2_with fail
  rw [← hw6]
  obtain ⟨s, q, hD6, hR⟩ := hP6.D
  obtain ⟨ao', c', Fs, g1', hfs, hG6⟩ := hP6.G.at_
  have g1'' : ao = ao' ∧ c = c' := by simpa using g1'
  obtain ⟨rfl, rfl⟩ := g1''
  clear g1'
  have hlF := len_map hfs
  have h256 : Fs.length ≤ 256 := by rw [hlF]; exact hR.n256
  clear hw6
  have ho := unhide HPR
  clear HPR
  have hfm := List.mem_of_getElem? hf
  obtain ⟨x, hx, hxf⟩ := get_map hfs hf
  have hso : s.off = false := hR.off ▸ ho
  have hhas := rel_has hR hk
  have hbl : (s.F (nm n)).b.length = f.rb.length := by rw [← en]; exact rel_blen hR f hfm
  have hln := rel_len hR f hfm
  have hul := hR.ul
  have hlm := hR.lim1
  have hrl : f.rb.length ≤ 1048576 := by omega
  have hkl : (k : Int) < (r.fs.length : Int) := by have := (List.getElem?_eq_some_iff.1 hf).1; omega
  have hbad : a < 0 ∨ z < 0 ∨ (f.rb.length : Int) < a ∨ (f.rb.length : Int) - a < z := by
    have hb := unhide HB
    omega
  refine (read_bad d m s q O n a z w6 hD6 hso hn hhas (by omega) (by rw [hbl]; exact hbad)).mono ?_
  clear hbad
  rintro e w7 ⟨rfl, hf7⟩
  have hGF := hG6.fr0 hf7
  rw [← hlF] at hGF
  have HF := hide (gfound_any r ao c Fs T n w7 hGF hfs h256)
  rw [hlF] at HF
  have hB7 := hB6.fr hf7 (fun _ h => h.elim)
  have hf07 := hf06.trans hf7 (fun _ _ h => h)
  rw [hFk] at HF
  have HX6 := hide (And.intro h (And.intro hf07 hB7))
  have HG := hide (And.intro (hG6.fr0 hf7) (And.intro hx hxf))
  clear c0 c1 c2 c3 c4 c5 c6 c7 fz o0 o1 o2 o3 o5
  obtain ⟨c0, c1, c2, c3, c4, c5, c6, c7, _⟩ := cells_of8 hB7.t
  have o0 := cell_of_blk (o := 0) hB7.o rfl
  have o1 := cell_of_blk (o := 1) hB7.o rfl
  have o2 := cell_of_blk (o := 2) hB7.o rfl
  have o3 := cell_of_blk (o := 3) hB7.o rfl
  unfold RD.agg at HF
  dsimp only at HF
  have hlt8 := h.lt
  have HLT := hide hlt8
  clear hG6 hGF hfs hD6 hR hP6 hB6 hf06 hB7 hf07 hsz hlt h HX hlF h256 hlt8 hx hxf hso hhas hbl hln hul hlm ho hk hFk en hfm hf
  go_wp2_with fail
  refine (unhide HF).mono ?_
  rintro e w8 ⟨rfl, hf8⟩
  obtain ⟨h, hf07, hB7⟩ := unhide HX6
  have hB8 := hB7.fr hf8 (fun _ h => h.elim)
  have hf08 := hf07.trans hf8 (fun _ _ h => h)
  have hG8 := (unhide HG).1.fr0 hf8
  obtain ⟨g, rfl, hTg, d0, d1, _⟩ := hG8.at_ (unhide HG).2.1
  obtain ⟨bo, bc, hform⟩ := hG8.form (unhide HG).2.1
  have hrow := hG8.b _ (List.mem_of_getElem? (unhide HG).2.1)
  rw [hform] at d1 hrow
  have hgW : g < W.heap.size := (unhide HLT) g (.inr hTg)
  rw [(unhide HG).2.2] at d0 d1 hrow
  clear hform hTg hG8
  clear c0 c1 c2 c3 c4 c5 c6 c7 o0 o1 o2 o3
  obtain ⟨c0, c1, c2, c3, c4, c5, c6, c7, _⟩ := cells_of8 hB8.t
  have o2 := cell_of_blk (o := 2) hB8.o rfl
  have o3 := cell_of_blk (o := 3) hB8.o rfl
  obtain ⟨V, hrV, hgV, hfin, _⟩ := PL.same h hf08 hB8.z
  unfold RD.agg at hrV
  (try dsimp only at hrV)
  have HV := hide hrV
  have HE := hide (And.intro hgV hfin)
  clear hrV hgV hfin
  clear hB8 hf08 hB7 hf07 h HX6 HF hf8 HG HLT hrow hgW hf7
  obtain ⟨h1, h2, h3⟩ := unhide HB
  clear HB
  generalize f.rb.length = rl at *
  go_wp2_with (refine wpList_stN rfl 30 (.tmp 6) _ rfl _ _ rfl rfl (unhide HV) ?_)
  (try simp only [Exit.inBlock, Exit.then])
  refine bodyPost_ret (results_cellt rfl _ _ (W.heap.size + 1 + 1) 0 _ _ _ rfl rfl (unhide HE).1 Try.underlying30 rfl (by kernel_rfl)) rfl ?_
  exact (unhide HE).2
end Go.Proofs.Ytoflkfnmbighaaa

namespace Go.Proofs.Ytoflkfnmbighaaa
open Go.RowKit Go.ChangeShapes Go.WideShapes Go.Maps

set_option maxHeartbeats 4000000 in
set_option maxRecDepth 100000 in
/-- played: Read of what is not there. -/
theorem played_6b4 (W : World) (d m : Nat) (r : RD) (v : Value) (O T : Nat → Prop) (h : PS W d m r v O T) (n : ByteArray) (a z b : Int) (on : Bool) (xv : Value)  (hn : n.size ≤ maxLen) (k : Nat) (f : RFl) (ho : r.off = false) (hk : nix r.fs n = some k) (hFk : r.found n = ((k : Int), 0)) (hf : r.fs[k]? = some f) (en : nm f.name = nm n) (h1 : ¬ a < 0) (h2 : ¬ z < 0) (h3 : ¬ (f.rb.length : Int) < a) (h4 : (f.rb.length : Int) - a < z) :
    Calls Try.prog 7 #[.pointer (some ⟨d, 0, none⟩), r.agg v, .agg #[.int .i64 6, .string n, .int .i64 a, .int .i64 z, .int .u64 b, .bool on, xv]] W (PL W d m O T r) := by
  have HPR := hide ho
  clear ho
  have HB := hide (And.intro h1 (And.intro h2 (And.intro h3 (h4))))
  clear h1 h2 h3 h4
  obtain ⟨ao, c, rfl⟩ := h.G.form
  obtain ⟨w3, hw3⟩ : ∃ w3, w3 = ((W.alloc (.cells (r.cells (.slice ao r.fs.length c)) 30)).alloc (.cells #[.int .i64 6, .string n, .int .i64 a, .int .i64 z, .int .u64 b, .bool on, xv] 38)).alloc (.cells zero8 30) := ⟨_, rfl⟩
  have hf3 : Fr (fun _ => False) W w3 := by rw [hw3]; exact (box2 _ _ _).alloc _
  have hB3 : B3 W w3 (r.cells (.slice ao r.fs.length c)) #[.int .i64 6, .string n, .int .i64 a, .int .i64 z, .int .u64 b, .bool on, xv] := by rw [hw3]; exact B3.new _ _ _
  have HC := hide (changed_no w3 d r ao c 6 a z b n on xv (by decide) (by decide) (by decide) (by decide) (by decide) (by decide) (by decide))
  have HX := hide (And.intro h (And.intro hf3 hB3))
  clear hf3 hB3 h
  unfold RD.agg at HC ⊢
  unfold RD.cells zero8 at hw3
  go_enter Try.func7, Try.ntmps7
  go_wp2_with fail
  rw [← hw3]
  clear hw3
  refine (unhide HC).mono ?_
  rintro e w5 ⟨rfl, hf5⟩
  obtain ⟨h, hf3, hB3⟩ := unhide HX
  have hB5 := hB3.fr hf5 (fun _ h => h.elim)
  have hf05 := hf3.trans hf5 (fun _ _ h => h)
  obtain ⟨w6, hw6⟩ : ∃ w6, w6 = w5.alloc (.cells #[.int .i64 (r.limit : Nat), .int .i64 (r.born : Nat), .int .i64 (r.writes : Nat), .slice ao r.fs.length c, .int .i64 r.armed, .int .i64 r.tear, .bool r.off, .bool r.full] 30) := ⟨_, rfl⟩
  have hf6 : Fr (fun _ => False) w5 w6 := by rw [hw6]; exact box1 _ _
  have hB6 := hB5.fr hf6 (fun _ h => h.elim)
  have hf06 := hf05.trans hf6 (fun _ _ h => h)
  have hP6 := h.fr hf06 (fun _ _ h => h)
  have hsz : W.heap.size + 1 + 1 < w6.heap.size := lt_of_block hB6.z
  have hlt := h.lt
  obtain ⟨c0, c1, c2, c3, c4, c5, c6, c7, fz⟩ := cells_of8 hB6.t
  have o0 := cell_of_blk (o := 0) hB6.o rfl
  have o1 := cell_of_blk (o := 1) hB6.o rfl
  have o2 := cell_of_blk (o := 2) hB6.o rfl
  have o3 := cell_of_blk (o := 3) hB6.o rfl
  have o5 := cell_of_blk (o := 5) hB6.o rfl
  clear hB5 hf5 hf3 hB3 HC hf6 hf05
  rw [hw6] at c0 c1 c2 c3 c4 c5 c6 c7 fz o0 o1 o2 o3 o5
  go_wp2_with fail
  rw [← hw6]
  obtain ⟨s, q, hD6, hR⟩ := hP6.D
  obtain ⟨ao', c', Fs, g1', hfs, hG6⟩ := hP6.G.at_
  have g1'' : ao = ao' ∧ c = c' := by simpa using g1'
  obtain ⟨rfl, rfl⟩ := g1''
  clear g1'
  have hlF := len_map hfs
  have h256 : Fs.length ≤ 256 := by rw [hlF]; exact hR.n256
  clear hw6
  have ho := unhide HPR
  clear HPR
  have hfm := List.mem_of_getElem? hf
  obtain ⟨x, hx, hxf⟩ := get_map hfs hf
  have hso : s.off = false := hR.off ▸ ho
  have hhas := rel_has hR hk
  have hbl : (s.F (nm n)).b.length = f.rb.length := by rw [← en]; exact rel_blen hR f hfm
  have hln := rel_len hR f hfm
  have hul := hR.ul
  have hlm := hR.lim1
  have hrl : f.rb.length ≤ 1048576 := by omega
  have hkl : (k : Int) < (r.fs.length : Int) := by have := (List.getElem?_eq_some_iff.1 hf).1; omega
  have hbad : a < 0 ∨ z < 0 ∨ (f.rb.length : Int) < a ∨ (f.rb.length : Int) - a < z := by
    have hb := unhide HB
    omega
  refine (read_bad d m s q O n a z w6 hD6 hso hn hhas (by omega) (by rw [hbl]; exact hbad)).mono ?_
  clear hbad
  rintro e w7 ⟨rfl, hf7⟩
  have hGF := hG6.fr0 hf7
  rw [← hlF] at hGF
  have HF := hide (gfound_any r ao c Fs T n w7 hGF hfs h256)
  rw [hlF] at HF
  have hB7 := hB6.fr hf7 (fun _ h => h.elim)
  have hf07 := hf06.trans hf7 (fun _ _ h => h)
  rw [hFk] at HF
  have HX6 := hide (And.intro h (And.intro hf07 hB7))
  have HG := hide (And.intro (hG6.fr0 hf7) (And.intro hx hxf))
  clear c0 c1 c2 c3 c4 c5 c6 c7 fz o0 o1 o2 o3 o5
  obtain ⟨c0, c1, c2, c3, c4, c5, c6, c7, _⟩ := cells_of8 hB7.t
  have o0 := cell_of_blk (o := 0) hB7.o rfl
  have o1 := cell_of_blk (o := 1) hB7.o rfl
  have o2 := cell_of_blk (o := 2) hB7.o rfl
  have o3 := cell_of_blk (o := 3) hB7.o rfl
  unfold RD.agg at HF
  dsimp only at HF
  have hlt8 := h.lt
  have HLT := hide hlt8
  clear hG6 hGF hfs hD6 hR hP6 hB6 hf06 hB7 hf07 hsz hlt h HX hlF h256 hlt8 hx hxf hso hhas hbl hln hul hlm ho hk hFk en hfm hf
  go_wp2_with fail
  refine (unhide HF).mono ?_
  rintro e w8 ⟨rfl, hf8⟩
  obtain ⟨h, hf07, hB7⟩ := unhide HX6
  have hB8 := hB7.fr hf8 (fun _ h => h.elim)
  have hf08 := hf07.trans hf8 (fun _ _ h => h)
  have hG8 := (unhide HG).1.fr0 hf8
  obtain ⟨g, rfl, hTg, d0, d1, _⟩ := hG8.at_ (unhide HG).2.1
  obtain ⟨bo, bc, hform⟩ := hG8.form (unhide HG).2.1
  have hrow := hG8.b _ (List.mem_of_getElem? (unhide HG).2.1)
  rw [hform] at d1 hrow
  have hgW : g < W.heap.size := (unhide HLT) g (.inr hTg)
  rw [(unhide HG).2.2] at d0 d1 hrow
  clear hform hTg hG8
  clear c0 c1 c2 c3 c4 c5 c6 c7 o0 o1 o2 o3
  obtain ⟨c0, c1, c2, c3, c4, c5, c6, c7, _⟩ := cells_of8 hB8.t
  have o2 := cell_of_blk (o := 2) hB8.o rfl
  have o3 := cell_of_blk (o := 3) hB8.o rfl
  obtain ⟨V, hrV, hgV, hfin, _⟩ := PL.same h hf08 hB8.z
  unfold RD.agg at hrV
  (try dsimp only at hrV)
  have HV := hide hrV
  have HE := hide (And.intro hgV hfin)
  clear hrV hgV hfin
  clear hB8 hf08 hB7 hf07 h HX6 HF hf8 HG HLT hrow hgW hf7
  obtain ⟨h1, h2, h3, h4⟩ := unhide HB
  clear HB
  generalize f.rb.length = rl at *
  have h5 : IntKind.i64.wrap ((rl : Int) - a) = (rl : Int) - a := wrapI _ (by omega) (by omega)
  go_wp2_with (refine wpList_stN rfl 30 (.tmp 6) _ rfl _ _ rfl rfl (unhide HV) ?_)
  (try simp only [Exit.inBlock, Exit.then])
  refine bodyPost_ret (results_cellt rfl _ _ (W.heap.size + 1 + 1) 0 _ _ _ rfl rfl (unhide HE).1 Try.underlying30 rfl (by kernel_rfl)) rfl ?_
  exact (unhide HE).2
end Go.Proofs.Ytoflkfnmbighaaa

namespace Go.Proofs.Ytoflkfnmbighaaa
open Go.RowKit Go.ChangeShapes Go.WideShapes Go.Maps

set_option maxHeartbeats 2000000 in
set_option maxRecDepth 100000 in
/-- changed: Create. -/
theorem changed_1 (W : World) (d m : Nat) (r : RD) (v : Value) (O T : Nat → Prop) (h : PS W d m r v O T) (hwr : r.writes ≤ 1000000) (n : ByteArray) (a z b : Int) (on : Bool) (x : Value)  :
    Calls Try.prog 15 #[.pointer (some ⟨d, 0, none⟩), r.agg v, .agg #[.int .i64 1, .string n, .int .i64 a, .int .i64 z, .int .u64 b, .bool on, x]] W (CH W d m O T (r.createR n).1) := by
  obtain ⟨ao, c, rfl⟩ := h.G.form
  obtain ⟨w4, hw4⟩ : ∃ w4, w4 = (((W.alloc (.cells (r.cells (.slice ao r.fs.length c)) 30)).alloc (.cells #[.int .i64 1, .string n, .int .i64 a, .int .i64 z, .int .u64 b, .bool on, x] 38)).alloc (.cells zero8 30)).alloc (.cells zero8 30) := ⟨_, rfl⟩
  have hf4 : Fr (fun _ => False) W w4 := by rw [hw4]; exact ((box2 _ _ _).alloc _).alloc _
  have hB4 : B4 W w4 (r.cells (.slice ao r.fs.length c)) #[.int .i64 1, .string n, .int .i64 a, .int .i64 z, .int .u64 b, .bool on, x] := by rw [hw4]; exact B4.new _ _ _
  obtain ⟨s, q, H0, hR⟩ := h.D
  have H1 := H0.fr hf4 (fun _ _ h => h)
  have hw : s.writes ≤ 1000000 := by rw [← hR.wr]; exact hwr
  have HC := hide (pcreate H1 hR n)
  have HX := hide (And.intro h (And.intro hf4 (And.intro hB4 (And.intro H0 hR))))
  clear H1 hf4 hB4 H0 hw
  unfold RD.agg
  unfold RD.cells zero8 at hw4
  generalize hrr : r.createR n = rr at *
  obtain ⟨r', code⟩ := rr
  go_enter Try.func15, Try.ntmps15
  go_wp2_with fail
  rw [← hw4]
  clear hw4
  refine (unhide HC).mono ?_
  rintro e w5 ⟨rfl, s', q', O', hD5, hR5, hf5, hO5⟩
  obtain ⟨h, hf4, hB4, H0, hR⟩ := unhide HX
  have hOW : ∀ k, O k → k < W.heap.size := fun k hk => H0.lt k hk
  have hTW : ∀ k, T k → k < W.heap.size := h.G.lt
  have hB5 := hB4.fr hf5 hOW
  have G2 := (h.G.fr0 hf4).fr hf5 (fun k hk hk2 => h.dis k hk2 hk)
  have hR2 := hR
  have HG := hide (gcreate G2 hR2 n)
  rw [hrr] at HG
  have hs4 := hf4.size
  have H5 := hide (And.intro hD5 (And.intro hR5 (And.intro hf5 (And.intro hO5 hB5))))
  obtain ⟨c0, c1, c2, c3, c4, c5, c6, c7, _⟩ := cells_of8 hB5.t
  have o1 := cell_of_blk (o := 1) hB5.o rfl
  have o2 := cell_of_blk (o := 2) hB5.o rfl
  have o3 := cell_of_blk (o := 3) hB5.o rfl
  have o4 := cell_of_blk (o := 4) hB5.o rfl
  have o6 := cell_of_blk (o := 6) hB5.o rfl
  clear hD5 hR5 hf5 hO5 hB5 G2 hR2 HC h hf4 hB4 H0 hR
  go_wp2_with fail
  unfold RD.agg at HG
  refine (unhide HG).mono ?_
  rintro e w6 ⟨v6, T6, rfl, hG6, hT6, hf6⟩
  obtain ⟨ao6, c6', rfl⟩ := hG6.form
  obtain ⟨hD5, hR5, hf5, hO5, hB5⟩ := unhide H5
  obtain ⟨h, hf4, hB4, H0, hR⟩ := unhide HX
  have hB6 := hB5.fr hf6 hTW
  obtain ⟨V1, hr1, hg1, hf1⟩ := gbox hB6.u r' ao6 r'.fs.length c6'
  have hz1 := (hf1.block _ (lt_of_block hB6.z) (by show ¬ W.heap.size + 2 = W.heap.size + 3; omega)).trans hB6.z
  obtain ⟨V2, hr2, hg2, hf2⟩ := gbox hz1 r' ao6 r'.fs.length c6'
  have hsz : W.heap.size + 3 < w5.heap.size := lt_of_block hB5.u
  have hO'W : ∀ k, O' k → k < w5.heap.size := fun k hk => hD5.lt k hk
  have hOT : ∀ k, O' k → ¬ T k := fun k hk ht => by
    rcases hO5 k hk with h9 | h9
    · exact h.dis k h9 ht
    · have := hTW k ht; omega
  have hbx : ∀ k, O' k ∨ T6 k → k ≠ W.heap.size + 2 ∧ k ≠ W.heap.size + 3 := fun k hk => by
    rcases hk with hk | hk
    · rcases hO5 k hk with h9 | h9
      · have := hOW k h9; omega
      · have := lt_of_block hB4.u; omega
    · rcases hT6 k hk with h9 | h9
      · have := hTW k h9; omega
      · omega
  have hD2 : DkAt V2 d m s' q' O' := ((hD5.fr hf6 hOT).fr hf1 (fun k hk e => (hbx k (.inl hk)).2 e)).fr hf2 (fun k hk e => (hbx k (.inl hk)).1 e)
  have hG2 : GD V2 r' (.slice ao6 r'.fs.length c6') T6 := (hG6.fr hf1 (fun k hk e => (hbx k (.inr hk)).2 e)).fr hf2 (fun k hk e => (hbx k (.inr hk)).1 e)
  have hfin : CH W d m O T r' (.returned (.tuple #[r'.agg (.slice ao6 r'.fs.length c6'), .bool true, .bool true])) V2 := by
    refine ⟨_, O', T6, rfl, ⟨⟨s', q', hD2, hR5⟩, hG2, fun k hk ht => ?_⟩, fun k hk => ?_, fun k hk => ?_, ?_⟩
    · rcases hT6 k ht with h9 | h9
      · exact hOT k hk h9
      · have := hO'W k hk; omega
    · rcases hO5 k hk with h9 | h9
      · exact .inl h9
      · exact .inr (by omega)
    · rcases hT6 k hk with h9 | h9
      · exact .inl h9
      · exact .inr (by omega)
    · refine ((((hf4.mono (fun _ _ h => h.elim)).trans hf5 (fun i hi e => .inl e)).trans hf6 (fun i hi e => .inr e)).trans hf1 (fun i hi e => ?_)).trans hf2 (fun i hi e => ?_)
      · have e' : i = W.heap.size + 3 := e; omega
      · have e' : i = W.heap.size + 2 := e; omega
  unfold RD.agg at hr1 hr2
  have HR1 := hide hr1
  have HR2 := hide hr2
  have HE := hide (And.intro hg2 hfin)
  have hu1 := range_cells hg1
  clear hr1 hr2 hg1 hg2 hf1 hf2 hfin hD2 hG2 hbx hOT hO'W hB6 hz1 hD5 hR5 hf5 hO5 hB5 h hf4 hB4 H0 hR hG6 hT6 hf6 c0 c1 c2 c3 c4 c5 c6 c7 HX H5 HG
  obtain ⟨k0, k1, k2, k3, k4, k5, k6, k7⟩ := hu1
  have hcc : (code == code) = true := by simp
  go_wp2_with (first | (refine wpList_stN rfl 30 (.tmp 9) _ rfl _ _ rfl rfl (unhide HR1) ?_) | (refine wpList_stN rfl 30 _ _ rfl _ _ rfl rfl (unhide HR2) ?_))
  (try simp only [Exit.inBlock, Exit.then])
  refine bodyPost_ret (results_celltt rfl _ _ (W.heap.size + 2) 0 _ _ _ _ rfl rfl rfl (unhide HE).1 Try.underlying30 rfl (by kernel_rfl)) rfl ?_
  first
    | exact (unhide HE).2
    | simpa using (unhide HE).2
end Go.Proofs.Ytoflkfnmbighaaa

