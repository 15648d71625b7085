import Derived.Test.YtoflkfnmbighaaaPk6
import Derived.Test.YtoflkfnmbighaaaPk7
namespace Go.Proofs.Ytoflkfnmbighaaa
open Go.RowKit Go.ChangeShapes Go.WideShapes Go.Maps

theorem gtnm (S : List ByteArray) : (scells S) = (S.map nm).map encStr := by
  simp [scells, encStr, nm]
theorem perm_sub : ∀ A B : List (List UInt8), A.Nodup → A ⊆ B → B.length ≤ A.length → A.Perm B
  | [], B, _, _, h => by
    have : B = [] := List.eq_nil_of_length_eq_zero (by simpa using h)
    rw [this]
  | a :: A, B, hn, hs, hl => by
    rw [List.nodup_cons] at hn
    have ha : a ∈ B := hs (List.mem_cons_self ..)
    have hB := List.perm_cons_erase ha
    refine (List.Perm.cons a (perm_sub A (B.erase a) hn.2 (fun x hx => ?_) ?_)).trans hB.symm
    · refine (List.mem_erase_of_ne (fun e => ?_)).mpr (hs (List.mem_cons_of_mem _ hx))
      rw [e] at hx
      exact hn.1 hx
    · have := hB.length_eq
      simp at this hl
      omega
/-- The program's names are the document's. -/
theorem names_eq {s : DM} {r : RD} (hR : Rel s r) (S : List ByteArray) (hS : Low (r.fs.map fun f => f.name) S) (hlen : S.length = r.fs.length) (ss : List (List UInt8)) (hp : ss.Perm (strKeys s.D)) : (ss.mergeSort (fun x y => decide (x ≤ y))).map encStr = scells S := by
  have hk : (strKeys s.D).Perm (r.fs.map fun f => nm f.name) := by
    obtain ⟨es, he⟩ := hR.map
    have h1 := hR.keys
    rw [he] at h1 ⊢
    have h2 := h1.map strOf
    simp only [List.map_map, ents] at h2
    have e1 : strKeys (DataW.map es) = es.map (strOf ∘ Prod.fst) := rfl
    rw [e1]
    refine h2.trans ?_
    exact List.Perm.refl _
  have hSn : (S.map nm).Pairwise (· < ·) := by rw [List.pairwise_map]; exact hS.rise
  have hnd : (S.map nm).Nodup := hSn.imp fun h e => by rw [e] at h; exact List.lt_irrefl _ h
  have hsub : S.map nm ⊆ r.fs.map fun f => nm f.name := fun x hx => by
    obtain ⟨a, ha, rfl⟩ := List.mem_map.mp hx
    obtain ⟨f, hf, e⟩ := List.mem_map.mp (hS.mem a ha)
    exact List.mem_map.mpr ⟨f, hf, by rw [e]⟩
  have hperm : (S.map nm).Perm (r.fs.map fun f => nm f.name) := perm_sub _ _ hnd hsub (by simp [hlen])
  have hP : (ss.mergeSort (fun x y => decide (x ≤ y))).Perm (S.map nm) := (List.mergeSort_perm _ _).trans (hp.trans (hk.trans hperm.symm))
  have hsort : (ss.mergeSort (fun x y => decide (x ≤ y))).Pairwise (fun a b => a ≤ b) := by
    have := List.pairwise_mergeSort (le := fun x y : List UInt8 => decide (x ≤ y)) (fun a b c h1 h2 => by simp at h1 h2 ⊢; exact List.le_trans h1 h2) (fun a b => by simp; exact List.le_total a b) ss
    simpa using this
  rw [gtnm]
  congr 1
  exact hP.eq_of_pairwise (le := fun a b => a ≤ b) (fun a b _ _ h1 h2 => List.le_antisymm h1 h2) hsort (hSn.imp fun h => List.le_of_lt h)
set_option maxRecDepth 100000 in
/-- names, of like lists. -/
theorem lnames_any (a b : Option Addr) (ca cb : Nat) (S : List ByteArray) (b1 b2 : Nat) (W : World) (h1 : W.ownsRow b1 9 1 (.slice a S.length ca) S.length (scells S)) (h2 : W.ownsRow b2 9 1 (.slice b S.length cb) S.length (scells S)) (hl : S.length ≤ 256) :
    Calls Try.prog 29 #[.slice a S.length ca, .slice b S.length cb] W fun e w' => e = .returned (.bool true) ∧ Fr (fun _ => False) W w' := by
  have hat : ∀ (o : Option Addr) (c bb : Nat), W.ownsRow bb 9 1 (.slice o S.length c) S.length (scells S) → ∀ j (hj : j < S.length), ∃ g, o = some ⟨g, 0, none⟩ ∧ W.cell? ⟨g, j, none⟩ = some (.string S[j]) := fun o c bb hr j hj => by
    obtain ⟨g, rfl⟩ : ∃ g, o = some ⟨g, 0, none⟩ := by
      rcases hr.2 with ⟨_, e⟩ | ⟨g, c', cur, e, _⟩
      · omega
      · simp only [Value.slice.injEq] at e; exact ⟨g, e.1⟩
    have h9 := hr.cells (g := g) rfl j (.string S[j]) (by simp [scells, hj])
    rw [addr_add] at h9
    exact ⟨g, rfl, by simpa using h9⟩
  have HX := hide (And.intro (hat a ca b1 h1) (hat b cb b2 h2))
  clear h1 h2 hat
  have hll : ((S.length : Int) == (S.length : Int)) = true := by simp
  go_enter Try.func29, Try.ntmps29
  go_wp2_with fail
  go_loopw [5] (fun iv wr => ∃ j : Nat, j ≤ S.length ∧ iv = .int .i64 (j : Nat) ∧ Fr (fun _ => False) W wr) (fun iv _ => S.length - (intOf iv).toNat)
  case atStart => exact ⟨0, Nat.zero_le _, rfl, Fr.refl _ _⟩
  case round =>
    obtain ⟨j, hj, rfl, hfr⟩ := hrel
    have HFr := hide hfr.drew
    by_cases hlt : j < S.length
    · obtain ⟨g1, rfl, k1'⟩ := (unhide HX).1 j hlt
      obtain ⟨g2, rfl, k2'⟩ := (unhide HX).2 j hlt
      have k1 := (hfr.cell (p := ⟨g1, j, none⟩) (lt_of_cell k1') (fun h => h)).trans k1'
      have k2 := (hfr.cell (p := ⟨g2, j, none⟩) (lt_of_cell k2') (fun h => h)).trans k2'
      clear k1' k2' hfr
      have hkl : (j : Int) < (S.length : Int) := by omega
      generalize S[j] = x at *
      have hxx : (x.toList == x.toList) = true := by simp
      go_wp2_with fail
      go_region
      go_wp2_with fail
      exact ⟨⟨j + 1, hlt, by go_num, unhide HFr⟩, by simp [intOf]; omega⟩
    · have hkl : ¬ (j : Int) < (S.length : Int) := by omega
      go_wp2_with fail
      go_ret
      exact ⟨rfl, hfr⟩
end Go.Proofs.Ytoflkfnmbighaaa

namespace Go.Proofs.Ytoflkfnmbighaaa
open Go.RowKit Go.ChangeShapes Go.WideShapes Go.Maps

theorem pend_eq {s : DM} {r : RD} (hR : Rel s r) {Fs : List GF} (hfs : Fs.map Prod.fst = r.fs) : s.pend = (pndN Fs Fs.length : Nat) := by
  unfold DM.pend
  rw [rel_sum hR]
  unfold pndN
  rw [List.take_length]
  have e : (Fs.map fun x => x.1.rb.length - safeN x.1.rb x.1.rb.length) = r.fs.map fun f => f.rb.length - safeN f.rb f.rb.length := by rw [← hfs, List.map_map]; rfl
  rw [e, sum_cast, List.map_map]
  congr 1
  refine List.map_congr_left fun f hf => ?_
  have h1 := safeN_eq (hR.F f hf)
  have h2 := rel_blen hR f hf
  have h3 := (hR.F f hf).sl
  simp only [DM.pd, Function.comp, h1, h2]
  omega
/-- Files that are not there are none. -/
def DM.tidy (s : DM) : DM := { s with F := fun k => if Maps.has s.D (.string k) = true then s.F k else ⟨[], 0, []⟩ }
theorem Rel.tidy {s : DM} {r : RD} (h : Rel s r) : Rel s.tidy r := by
  have hF : ∀ f ∈ r.fs, s.tidy.F (nm f.name) = s.F (nm f.name) := fun f hf => by
    have := (has_keys h (nm f.name)).mpr ⟨f, hf, rfl⟩
    simp [DM.tidy, this]
  refine ⟨h.lim, h.lim1, h.wr, h.off, h.full, h.arm, h.tear, h.l0, h.t0, h.map, h.keys, h.nd, h.nl, h.n256, fun f hf => by rw [hF f hf]; exact h.F f hf, fun f hf g hg p hp q hq => ?_, h.used, h.ul, ?_⟩
  · rw [hF f hf] at hp
    rw [hF g hg] at hq
    exact h.com f hf g hg p hp q hq
  · rw [List.map_congr_left (g := fun f => (s.F (nm f.name)).ps.length) (fun f hf => by rw [hF f hf])]
    exact h.tot
/-- A call that only tells. -/
def Tells (w1 : World) (f : Nat) (args : Array Value) (v : Value) : Prop := ∀ V, Fr (fun _ => False) w1 V → Calls Try.prog f args V fun e w' => e = .returned v ∧ Fr (fun _ => False) w1 w'
theorem tells_all {w1 : World} {d m : Nat} {s : DM} {q : DW} {O T : Nat → Prop} {r : RD} {ao : Option Addr} {c : Nat} {Fs : List GF} (hD : DkAt w1 d m s q O) (hR : Rel s r) (hG : GAt w1 (.slice ao Fs.length c) Fs T) (hfs : Fs.map Prod.fst = r.fs) :
    Tells w1 14 #[.pointer (some ⟨d, 0, none⟩)] (.bool r.off) ∧ Tells w1 26 #[.pointer (some ⟨d, 0, none⟩)] (.int .i64 (r.used : Nat)) ∧ Tells w1 27 #[r.agg (.slice ao Fs.length c)] (.int .i64 (r.used : Nat)) ∧ Tells w1 11 #[.pointer (some ⟨d, 0, none⟩)] (.int .i64 (pndN Fs Fs.length : Nat)) ∧ Tells w1 28 #[r.agg (.slice ao Fs.length c)] (.int .i64 (pndN Fs Fs.length : Nat)) ∧ Tells w1 13 #[.pointer (some ⟨d, 0, none⟩)] (.int .i64 (r.writes : Nat)) := by
  have h256 : Fs.length ≤ 256 := by rw [len_map hfs]; exact hR.n256
  have hbs : ∀ y ∈ Fs, y.1.rb.length ≤ 1048576 := fun y hy => by
    have := rel_len hR y.1 (by rw [← hfs]; exact List.mem_map.mpr ⟨y, hy, rfl⟩)
    have := hR.ul
    have := hR.lim1
    omega
  refine ⟨fun V hV => ?_, fun V hV => ?_, fun V hV => ?_, fun V hV => ?_, fun V hV => ?_, fun V hV => ?_⟩
  · refine (off_any d m s q O V (hD.fr hV (fun _ _ h => h))).mono ?_
    rintro e w' ⟨rfl, rfl⟩
    exact ⟨by rw [hR.off], hV⟩
  · refine (used_any d m s q O V (hD.fr hV (fun _ _ h => h))).mono ?_
    rintro e w' ⟨rfl, rfl⟩
    exact ⟨by rw [show r.used = s.used from hR.used.symm], hV⟩
  · refine (gused_any r ao c Fs T V (hG.fr0 hV) h256 hbs).mono ?_
    rintro e w' ⟨rfl, hf⟩
    exact ⟨by rw [lenN_used hfs], hV.trans hf (fun _ _ h => h)⟩
  · have hR' := hR.tidy
    have hD' : DkAt V d m s.tidy q O := (hD.fr hV (fun _ _ h => h)).reF _ (fun k hk => by simp [hk])
    have hp := pend_eq hR' hfs
    have hall : ∀ x : List UInt8, (s.tidy.F x).safe ≤ (s.tidy.F x).b.length ∧ (s.tidy.F x).b.length ≤ 1048576 := fun x => by
      by_cases hx : Maps.has s.D (.string x) = true
      · obtain ⟨f, hf, rfl⟩ := (has_keys hR x).mp hx
        have h1 := rel_blen hR' f hf
        have h2 := rel_len hR' f hf
        have h3 := hR'.ul
        have h4 := hR'.lim1
        have h5 := (hR'.F f hf).sl
        omega
      · simp [DM.tidy, hx]
    refine (pending_any d m s.tidy q O V hD' (fun x => ?_) ?_ (fun x => ?_)).mono ?_
    · have := hall x
      simp only [DM.pd]
      omega
    · rw [show s.tidy.D = s.D from rfl, rel_size hR]; exact hR.n256
    · have := hall x
      omega
    · rintro e w' ⟨rfl, hf⟩
      exact ⟨by rw [hp], hV.trans hf (fun _ _ h => h)⟩
  · refine (gpending_any r ao c Fs T V (hG.fr0 hV) h256 hbs).mono ?_
    rintro e w' ⟨rfl, hf⟩
    exact ⟨rfl, hV.trans hf (fun _ _ h => h)⟩
  · refine (writes_any d m s q O V (hD.fr hV (fun _ _ h => h))).mono ?_
    rintro e w' ⟨rfl, rfl⟩
    exact ⟨by rw [hR.wr], hV⟩
end Go.Proofs.Ytoflkfnmbighaaa

namespace Go.Proofs.Ytoflkfnmbighaaa
open Go.RowKit Go.ChangeShapes Go.WideShapes Go.Maps

set_option maxHeartbeats 4000000 in
set_option maxRecDepth 100000 in
/-- played: Size and Synced, refused. -/
theorem played_oa (W : World) (d m : Nat) (r : RD) (v : Value) (O T : Nat → Prop) (h : PS W d m r v O T) (n : ByteArray) (ki : Int) (a z b : Int) (on : Bool) (xv : Value) (g1 : ¬ ki = 1) (g2 : ¬ ki = 2) (g3 : ¬ ki = 3) (g4 : ¬ ki = 4) (g5 : ¬ ki = 5) (g7 : ¬ ki = 7) (g11 : ¬ ki = 11) (g8 : ¬ ki = 8) (g9 : ¬ ki = 9) (g10 : ¬ ki = 10) (g6 : ¬ ki = 6) (hn : n.size ≤ maxLen) (hne : ¬ (r.found n).2 = 0) :
    Calls Try.prog 7 #[.pointer (some ⟨d, 0, none⟩), r.agg v, .agg #[.int .i64 ki, .string n, .int .i64 a, .int .i64 z, .int .u64 b, .bool on, xv]] W (PL W d m O T r) := by
  obtain ⟨ao, c, rfl⟩ := h.G.form
  obtain ⟨w3, hw3⟩ : ∃ w3, w3 = ((W.alloc (.cells (r.cells (.slice ao r.fs.length c)) 30)).alloc (.cells #[.int .i64 ki, .string n, .int .i64 a, .int .i64 z, .int .u64 b, .bool on, xv] 38)).alloc (.cells zero8 30) := ⟨_, rfl⟩
  have hf3 : Fr (fun _ => False) W w3 := by rw [hw3]; exact (box2 _ _ _).alloc _
  have hB3 : B3 W w3 (r.cells (.slice ao r.fs.length c)) #[.int .i64 ki, .string n, .int .i64 a, .int .i64 z, .int .u64 b, .bool on, xv] := by rw [hw3]; exact B3.new _ _ _
  have HC := hide (changed_no w3 d r ao c ki a z b n on xv g1 g2 g3 g4 g5 g7 g11)
  have HX := hide (And.intro h (And.intro hf3 hB3))
  clear hf3 hB3 h
  unfold RD.agg at HC ⊢
  unfold RD.cells zero8 at hw3
  go_enter Try.func7, Try.ntmps7
  go_wp2_with fail
  rw [← hw3]
  clear hw3
  refine (unhide HC).mono ?_
  rintro e w5 ⟨rfl, hf5⟩
  obtain ⟨h, hf3, hB3⟩ := unhide HX
  have hB5 := hB3.fr hf5 (fun _ h => h.elim)
  have hf05 := hf3.trans hf5 (fun _ _ h => h)
  obtain ⟨w6, hw6⟩ : ∃ w6, w6 = w5.alloc (.cells #[.int .i64 (r.limit : Nat), .int .i64 (r.born : Nat), .int .i64 (r.writes : Nat), .slice ao r.fs.length c, .int .i64 r.armed, .int .i64 r.tear, .bool r.off, .bool r.full] 30) := ⟨_, rfl⟩
  have hf6 : Fr (fun _ => False) w5 w6 := by rw [hw6]; exact box1 _ _
  have hB6 := hB5.fr hf6 (fun _ h => h.elim)
  have hf06 := hf05.trans hf6 (fun _ _ h => h)
  have hP6 := h.fr hf06 (fun _ _ h => h)
  have hsz : W.heap.size + 1 + 1 < w6.heap.size := lt_of_block hB6.z
  have hlt := h.lt
  obtain ⟨c0, c1, c2, c3, c4, c5, c6, c7, fz⟩ := cells_of8 hB6.t
  have o0 := cell_of_blk (o := 0) hB6.o rfl
  have o1 := cell_of_blk (o := 1) hB6.o rfl
  have o2 := cell_of_blk (o := 2) hB6.o rfl
  have o3 := cell_of_blk (o := 3) hB6.o rfl
  have o5 := cell_of_blk (o := 5) hB6.o rfl
  clear hB5 hf5 hf3 hB3 HC hf6 hf05
  rw [hw6] at c0 c1 c2 c3 c4 c5 c6 c7 fz o0 o1 o2 o3 o5
  go_wp2_with fail
  rw [← hw6]
  obtain ⟨s, q, hD6, hR⟩ := hP6.D
  obtain ⟨ao', c', Fs, g1', hfs, hG6⟩ := hP6.G.at_
  have g1'' : ao = ao' ∧ c = c' := by simpa using g1'
  obtain ⟨rfl, rfl⟩ := g1''
  clear g1'
  have hlF := len_map hfs
  have h256 : Fs.length ≤ 256 := by rw [hlF]; exact hR.n256
  clear hw6
  refine (size_no d m s q O n _ w6 hD6 hn (rel_no hR hne)).mono ?_
  rintro e w7 ⟨rfl, hw7⟩
  obtain rfl := hw7.symm
  clear hw7
  clear c0 c1 c2 c3 c4 c5 c6 c7 fz o0 o1 o2 o3 o5
  have o1 := cell_of_blk (o := 1) hB6.o rfl
  have HNO := hide (synced_no d m s q O n _ w6 hD6 hn (rel_no hR hne))
  generalize hfd : (r.found n).2 = fc at HNO ⊢
  go_wp2_with fail
  refine (unhide HNO).mono ?_
  rintro e w7 ⟨rfl, hw7⟩
  obtain rfl := hw7.symm
  clear hw7 HNO
  subst hfd
  clear o1
  have hGF := hG6.fr0 (Fr.refl (fun _ => False) _)
  rw [← hlF] at hGF
  have HF := hide (gfound_any r ao c Fs T n w6 hGF hfs h256)
  rw [hlF] at HF
  have hB7 := hB6.fr (Fr.refl (fun _ => False) _) (fun _ h => h.elim)
  have hf07 := hf06.trans (Fr.refl (fun _ => False) _) (fun _ _ h => h)
  have HX6 := hide (And.intro h (And.intro hf07 hB7))
  obtain ⟨c0, c1, c2, c3, c4, c5, c6, c7, _⟩ := cells_of8 hB7.t
  have o0 := cell_of_blk (o := 0) hB7.o rfl
  have o1 := cell_of_blk (o := 1) hB7.o rfl
  have o2 := cell_of_blk (o := 2) hB7.o rfl
  have o3 := cell_of_blk (o := 3) hB7.o rfl
  generalize r.found n = kc at *
  obtain ⟨fk, cc⟩ := kc
  dsimp only at hne HF
  have hcc : ((cc : Int) == cc) = true := by simp
  unfold RD.agg at HF
  clear hG6 hGF hfs hD6 hR hP6 hB6 hf06 hB7 hf07 hsz hlt h HX hlF h256
  go_wp2_with fail
  refine (unhide HF).mono ?_
  rintro e w8 ⟨rfl, hf8⟩
  obtain ⟨h, hf07, hB7⟩ := unhide HX6
  have hB8 := hB7.fr hf8 (fun _ h => h.elim)
  have hf08 := hf07.trans hf8 (fun _ _ h => h)
  clear c0 c1 c2 c3 c4 c5 c6 c7 o0 o1 o2 o3
  obtain ⟨c0, c1, c2, c3, c4, c5, c6, c7, _⟩ := cells_of8 hB8.t
  obtain ⟨V, hrV, hgV, hfin, _⟩ := PL.same h hf08 hB8.z
  unfold RD.agg at hrV
  (try dsimp only at hrV)
  have HV := hide hrV
  have HE := hide (And.intro hgV hfin)
  clear hrV hgV hfin
  clear hB8 hf08 hB7 hf07 h HX6 HF hf8
  go_wp2_with (refine wpList_stN rfl 30 (.tmp 6) _ rfl _ _ rfl rfl (unhide HV) ?_)
  (try simp only [Exit.inBlock, Exit.then])
  refine bodyPost_ret (results_cellt rfl _ _ (W.heap.size + 1 + 1) 0 _ _ _ rfl rfl (unhide HE).1 Try.underlying30 rfl (by kernel_rfl)) rfl ?_
  exact (unhide HE).2
set_option maxHeartbeats 4000000 in
set_option maxRecDepth 100000 in
/-- played: Size and Synced. -/
theorem played_ob (W : World) (d m : Nat) (r : RD) (v : Value) (O T : Nat → Prop) (h : PS W d m r v O T) (n : ByteArray) (ki : Int) (a z b : Int) (on : Bool) (xv : Value) (g1 : ¬ ki = 1) (g2 : ¬ ki = 2) (g3 : ¬ ki = 3) (g4 : ¬ ki = 4) (g5 : ¬ ki = 5) (g7 : ¬ ki = 7) (g11 : ¬ ki = 11) (g8 : ¬ ki = 8) (g9 : ¬ ki = 9) (g10 : ¬ ki = 10) (g6 : ¬ ki = 6) (hn : n.size ≤ maxLen) (k : Nat) (f : RFl) (ho : r.off = false) (hk : nix r.fs n = some k) (hFk : r.found n = ((k : Int), 0)) (hf : r.fs[k]? = some f) (en : nm f.name = nm n) :
    Calls Try.prog 7 #[.pointer (some ⟨d, 0, none⟩), r.agg v, .agg #[.int .i64 ki, .string n, .int .i64 a, .int .i64 z, .int .u64 b, .bool on, xv]] W (PL W d m O T r) := by
  have HPR := hide ho
  clear ho
  obtain ⟨ao, c, rfl⟩ := h.G.form
  obtain ⟨w3, hw3⟩ : ∃ w3, w3 = ((W.alloc (.cells (r.cells (.slice ao r.fs.length c)) 30)).alloc (.cells #[.int .i64 ki, .string n, .int .i64 a, .int .i64 z, .int .u64 b, .bool on, xv] 38)).alloc (.cells zero8 30) := ⟨_, rfl⟩
  have hf3 : Fr (fun _ => False) W w3 := by rw [hw3]; exact (box2 _ _ _).alloc _
  have hB3 : B3 W w3 (r.cells (.slice ao r.fs.length c)) #[.int .i64 ki, .string n, .int .i64 a, .int .i64 z, .int .u64 b, .bool on, xv] := by rw [hw3]; exact B3.new _ _ _
  have HC := hide (changed_no w3 d r ao c ki a z b n on xv g1 g2 g3 g4 g5 g7 g11)
  have HX := hide (And.intro h (And.intro hf3 hB3))
  clear hf3 hB3 h
  unfold RD.agg at HC ⊢
  unfold RD.cells zero8 at hw3
  go_enter Try.func7, Try.ntmps7
  go_wp2_with fail
  rw [← hw3]
  clear hw3
  refine (unhide HC).mono ?_
  rintro e w5 ⟨rfl, hf5⟩
  obtain ⟨h, hf3, hB3⟩ := unhide HX
  have hB5 := hB3.fr hf5 (fun _ h => h.elim)
  have hf05 := hf3.trans hf5 (fun _ _ h => h)
  obtain ⟨w6, hw6⟩ : ∃ w6, w6 = w5.alloc (.cells #[.int .i64 (r.limit : Nat), .int .i64 (r.born : Nat), .int .i64 (r.writes : Nat), .slice ao r.fs.length c, .int .i64 r.armed, .int .i64 r.tear, .bool r.off, .bool r.full] 30) := ⟨_, rfl⟩
  have hf6 : Fr (fun _ => False) w5 w6 := by rw [hw6]; exact box1 _ _
  have hB6 := hB5.fr hf6 (fun _ h => h.elim)
  have hf06 := hf05.trans hf6 (fun _ _ h => h)
  have hP6 := h.fr hf06 (fun _ _ h => h)
  have hsz : W.heap.size + 1 + 1 < w6.heap.size := lt_of_block hB6.z
  have hlt := h.lt
  obtain ⟨c0, c1, c2, c3, c4, c5, c6, c7, fz⟩ := cells_of8 hB6.t
  have o0 := cell_of_blk (o := 0) hB6.o rfl
  have o1 := cell_of_blk (o := 1) hB6.o rfl
  have o2 := cell_of_blk (o := 2) hB6.o rfl
  have o3 := cell_of_blk (o := 3) hB6.o rfl
  have o5 := cell_of_blk (o := 5) hB6.o rfl
  clear hB5 hf5 hf3 hB3 HC hf6 hf05
  rw [hw6] at c0 c1 c2 c3 c4 c5 c6 c7 fz o0 o1 o2 o3 o5
  go_wp2_with fail
  rw [← hw6]
  obtain ⟨s, q, hD6, hR⟩ := hP6.D
  obtain ⟨ao', c', Fs, g1', hfs, hG6⟩ := hP6.G.at_
  have g1'' : ao = ao' ∧ c = c' := by simpa using g1'
  obtain ⟨rfl, rfl⟩ := g1''
  clear g1'
  have hlF := len_map hfs
  have h256 : Fs.length ≤ 256 := by rw [hlF]; exact hR.n256
  clear hw6
  have ho := unhide HPR
  clear HPR
  have hfm := List.mem_of_getElem? hf
  obtain ⟨x, hx, hxf⟩ := get_map hfs hf
  have hso : s.off = false := hR.off ▸ ho
  have hhas := rel_has hR hk
  have hbl : (s.F (nm n)).b.length = f.rb.length := by rw [← en]; exact rel_blen hR f hfm
  have hln := rel_len hR f hfm
  have hul := hR.ul
  have hlm := hR.lim1
  have hrl : f.rb.length ≤ 1048576 := by omega
  have hkl : (k : Int) < (r.fs.length : Int) := by have := (List.getElem?_eq_some_iff.1 hf).1; omega
  have z1 := size_at d m s q O n w6 hD6 hso hn hhas
  have z2 := synced_at d m s q O n w6 hD6 hso hn hhas
  rw [hbl] at z1
  have hsv : (s.F (nm n)).safe = safeN f.rb f.rb.length := by rw [← en]; exact (safeN_eq (hR.F f hfm)).symm
  rw [hsv] at z2
  refine z1.mono ?_
  rintro e w7 ⟨rfl, hw7⟩
  obtain rfl := hw7.symm
  clear hw7 z1
  clear c0 c1 c2 c3 c4 c5 c6 c7 fz o0 o1 o2 o3 o5
  have o1 := cell_of_blk (o := 1) hB6.o rfl
  have HZ2 := hide z2
  generalize hsn : safeN f.rb f.rb.length = sf at HZ2
  clear z2 hsv
  go_wp2_with fail
  refine (unhide HZ2).mono ?_
  rintro e w7 ⟨rfl, hw7⟩
  obtain rfl := hw7.symm
  clear hw7 HZ2 o1
  have hGF := hG6.fr0 (Fr.refl (fun _ => False) _)
  rw [← hlF] at hGF
  have HF := hide (gfound_any r ao c Fs T n w6 hGF hfs h256)
  rw [hlF] at HF
  have hB7 := hB6.fr (Fr.refl (fun _ => False) _) (fun _ h => h.elim)
  have hf07 := hf06.trans (Fr.refl (fun _ => False) _) (fun _ _ h => h)
  rw [hFk] at HF
  have HX6 := hide (And.intro h (And.intro hf07 hB7))
  have HG := hide (And.intro (hG6.fr0 (Fr.refl (fun _ => False) _)) (And.intro hx hxf))
  obtain ⟨c0, c1, c2, c3, c4, c5, c6, c7, _⟩ := cells_of8 hB7.t
  have o0 := cell_of_blk (o := 0) hB7.o rfl
  have o1 := cell_of_blk (o := 1) hB7.o rfl
  have o2 := cell_of_blk (o := 2) hB7.o rfl
  have o3 := cell_of_blk (o := 3) hB7.o rfl
  unfold RD.agg at HF
  dsimp only at HF
  have hlt8 := h.lt
  have HLT := hide hlt8
  clear hG6 hGF hfs hD6 hR hP6 hB6 hf06 hB7 hf07 hsz hlt h HX hlF h256 hlt8 hx hxf hso hhas hbl hln hul hlm ho hk hFk en hfm hf
  go_wp2_with fail
  refine (unhide HF).mono ?_
  rintro e w8 ⟨rfl, hf8⟩
  obtain ⟨h, hf07, hB7⟩ := unhide HX6
  have hB8 := hB7.fr hf8 (fun _ h => h.elim)
  have hf08 := hf07.trans hf8 (fun _ _ h => h)
  have hG8 := (unhide HG).1.fr0 hf8
  obtain ⟨g, rfl, hTg, d0, d1, _⟩ := hG8.at_ (unhide HG).2.1
  obtain ⟨bo, bc, hform⟩ := hG8.form (unhide HG).2.1
  have hrow := hG8.b _ (List.mem_of_getElem? (unhide HG).2.1)
  rw [hform] at d1 hrow
  have hgW : g < W.heap.size := (unhide HLT) g (.inr hTg)
  rw [(unhide HG).2.2] at d0 d1 hrow
  clear hform hTg hG8
  clear c0 c1 c2 c3 c4 c5 c6 c7 o0 o1 o2 o3
  obtain ⟨c0, c1, c2, c3, c4, c5, c6, c7, _⟩ := cells_of8 hB8.t
  have o2 := cell_of_blk (o := 2) hB8.o rfl
  have o3 := cell_of_blk (o := 3) hB8.o rfl
  have HSA := hide (fun (V' : World) (hf : Fr (fun _ => False) w8 V') => (gsafe_any f.name 0 bo bc f.rb V' (own_go hrow hf) hrl).mono fun e w3 ⟨he, h3⟩ => (show e = _ ∧ Fr (fun _ => False) w8 w3 from ⟨he, hf.trans h3 (fun _ _ h => h)⟩))
  rw [hsn] at HSA
  have HB8 := hide (And.intro hB8 (And.intro hf08 h))
  clear hsn
  generalize f.name = fnm at *
  generalize f.rb.length = rl at *
  have q1 : ((rl : Int) == (rl : Int)) = true := by simp
  have q2 : ((sf : Int) == (sf : Int)) = true := by simp
  clear hrow HG HLT HF HX6 hf07 hB7 hf08 hB8 h
  have HK : Hid (∀ V, Fr (fun b => b = W.heap.size + 1 + 1) w8 V → (fun V => Fr (fun b => b = W.heap.size + 1 + 1) w8 V ∧ V.cell? ⟨W.heap.size, 0, none⟩ = some (.int .i64 (r.limit : Nat)) ∧ V.cell? ⟨W.heap.size, 1, none⟩ = some (.int .i64 (r.born : Nat)) ∧ V.cell? ⟨W.heap.size, 2, none⟩ = some (.int .i64 (r.writes : Nat)) ∧ V.cell? ⟨W.heap.size, 3, none⟩ = some (.slice (some ⟨g, 0, none⟩) r.fs.length c) ∧ V.cell? ⟨W.heap.size, 4, none⟩ = some (.int .i64 r.armed) ∧ V.cell? ⟨W.heap.size, 5, none⟩ = some (.int .i64 r.tear) ∧ V.cell? ⟨W.heap.size, 6, none⟩ = some (.bool r.off) ∧ V.cell? ⟨W.heap.size, 7, none⟩ = some (.bool r.full) ∧ V.cell? ⟨W.heap.size + 1, 2, none⟩ = some (.int .i64 a) ∧ V.cell? ⟨W.heap.size + 1, 3, none⟩ = some (.int .i64 z) ∧ V.cell? ⟨g, k * 2, none⟩ = some (.string fnm) ∧ V.cell? ⟨g, k * 2 + 1, none⟩ = some (.slice bo rl bc)) V) := fun V hf => ⟨hf, (hf.cell (p := ⟨W.heap.size, 0, none⟩) (lt_of_cell c0) (by show ¬ W.heap.size = W.heap.size + 1 + 1; omega)).trans c0, (hf.cell (p := ⟨W.heap.size, 1, none⟩) (lt_of_cell c1) (by show ¬ W.heap.size = W.heap.size + 1 + 1; omega)).trans c1, (hf.cell (p := ⟨W.heap.size, 2, none⟩) (lt_of_cell c2) (by show ¬ W.heap.size = W.heap.size + 1 + 1; omega)).trans c2, (hf.cell (p := ⟨W.heap.size, 3, none⟩) (lt_of_cell c3) (by show ¬ W.heap.size = W.heap.size + 1 + 1; omega)).trans c3, (hf.cell (p := ⟨W.heap.size, 4, none⟩) (lt_of_cell c4) (by show ¬ W.heap.size = W.heap.size + 1 + 1; omega)).trans c4, (hf.cell (p := ⟨W.heap.size, 5, none⟩) (lt_of_cell c5) (by show ¬ W.heap.size = W.heap.size + 1 + 1; omega)).trans c5, (hf.cell (p := ⟨W.heap.size, 6, none⟩) (lt_of_cell c6) (by show ¬ W.heap.size = W.heap.size + 1 + 1; omega)).trans c6, (hf.cell (p := ⟨W.heap.size, 7, none⟩) (lt_of_cell c7) (by show ¬ W.heap.size = W.heap.size + 1 + 1; omega)).trans c7, (hf.cell (p := ⟨W.heap.size + 1, 2, none⟩) (lt_of_cell o2) (by show ¬ W.heap.size + 1 = W.heap.size + 1 + 1; omega)).trans o2, (hf.cell (p := ⟨W.heap.size + 1, 3, none⟩) (lt_of_cell o3) (by show ¬ W.heap.size + 1 = W.heap.size + 1 + 1; omega)).trans o3, (hf.cell (p := ⟨g, k * 2, none⟩) (lt_of_cell d0) (by show ¬ g = W.heap.size + 1 + 1; omega)).trans d0, (hf.cell (p := ⟨g, k * 2 + 1, none⟩) (lt_of_cell d1) (by show ¬ g = W.heap.size + 1 + 1; omega)).trans d1⟩
  go_wp2_with fail
  refine wp_region_noPanic ?_
  refine wp_region_held_drew (S := (fun V => Fr (fun b => b = W.heap.size + 1 + 1) w8 V ∧ V.cell? ⟨W.heap.size, 0, none⟩ = some (.int .i64 (r.limit : Nat)) ∧ V.cell? ⟨W.heap.size, 1, none⟩ = some (.int .i64 (r.born : Nat)) ∧ V.cell? ⟨W.heap.size, 2, none⟩ = some (.int .i64 (r.writes : Nat)) ∧ V.cell? ⟨W.heap.size, 3, none⟩ = some (.slice (some ⟨g, 0, none⟩) r.fs.length c) ∧ V.cell? ⟨W.heap.size, 4, none⟩ = some (.int .i64 r.armed) ∧ V.cell? ⟨W.heap.size, 5, none⟩ = some (.int .i64 r.tear) ∧ V.cell? ⟨W.heap.size, 6, none⟩ = some (.bool r.off) ∧ V.cell? ⟨W.heap.size, 7, none⟩ = some (.bool r.full) ∧ V.cell? ⟨W.heap.size + 1, 2, none⟩ = some (.int .i64 a) ∧ V.cell? ⟨W.heap.size + 1, 3, none⟩ = some (.int .i64 z) ∧ V.cell? ⟨g, k * 2, none⟩ = some (.string fnm) ∧ V.cell? ⟨g, k * 2 + 1, none⟩ = some (.slice bo rl bc))) (by kernel_rfl) ((unhide HK) _ ((Fr.refl _ _).drew)) (fun hHeld => ?_)
  refine wtk (i := 0) (v := ?_) rfl (Or.inl ⟨by rfl, ?_⟩) hHeld ?_
  rotate_left
  · intro w hSw; (try dsimp only at hSw); (try obtain ⟨_, s0, s1, s2, s3, s4, s5, s6, s7, s8, s9, s10, s11⟩ := hSw); go_simp; (try with_reducible rfl)
  (try simp only [Act.put, nrm])
  refine wtk (i := 1) (v := ?_) rfl (Or.inl ⟨by rfl, ?_⟩) hHeld ?_
  rotate_left
  · intro w hSw; (try dsimp only at hSw); (try obtain ⟨_, s0, s1, s2, s3, s4, s5, s6, s7, s8, s9, s10, s11⟩ := hSw); go_simp; (try with_reducible rfl)
  (try simp only [Act.put, nrm])
  refine wtk (i := 2) (v := ?_) rfl (Or.inl ⟨by rfl, ?_⟩) hHeld ?_
  rotate_left
  · intro w hSw; (try dsimp only at hSw); (try obtain ⟨_, s0, s1, s2, s3, s4, s5, s6, s7, s8, s9, s10, s11⟩ := hSw); go_simp; (try with_reducible rfl)
  (try simp only [Act.put, nrm])
  refine wtk (i := 3) (v := ?_) rfl (Or.inl ⟨by rfl, ?_⟩) hHeld ?_
  rotate_left
  · intro w hSw; (try dsimp only at hSw); (try obtain ⟨_, s0, s1, s2, s3, s4, s5, s6, s7, s8, s9, s10, s11⟩ := hSw); go_simp; (try with_reducible rfl)
  (try simp only [Act.put, nrm])
  refine wtk (i := 4) (v := ?_) rfl (Or.inl ⟨by rfl, ?_⟩) hHeld ?_
  rotate_left
  · intro w hSw; (try dsimp only at hSw); (try obtain ⟨_, s0, s1, s2, s3, s4, s5, s6, s7, s8, s9, s10, s11⟩ := hSw); go_simp; (try with_reducible rfl)
  (try simp only [Act.put, nrm])
  refine wtk (i := 5) (v := ?_) rfl (Or.inl ⟨by rfl, ?_⟩) hHeld ?_
  rotate_left
  · intro w hSw; (try dsimp only at hSw); (try obtain ⟨_, s0, s1, s2, s3, s4, s5, s6, s7, s8, s9, s10, s11⟩ := hSw); go_simp; (try with_reducible rfl)
  (try simp only [Act.put, nrm])
  refine wtk (i := 6) (v := ?_) rfl (Or.inl ⟨by rfl, ?_⟩) hHeld ?_
  rotate_left
  · intro w hSw; (try dsimp only at hSw); (try obtain ⟨_, s0, s1, s2, s3, s4, s5, s6, s7, s8, s9, s10, s11⟩ := hSw); go_simp; (try with_reducible rfl)
  (try simp only [Act.put, nrm])
  refine wtk (i := 7) (v := ?_) rfl (Or.inl ⟨by rfl, ?_⟩) hHeld ?_
  rotate_left
  · intro w hSw; (try dsimp only at hSw); (try obtain ⟨_, s0, s1, s2, s3, s4, s5, s6, s7, s8, s9, s10, s11⟩ := hSw); go_simp; (try with_reducible rfl)
  (try simp only [Act.put, nrm])
  refine wtk (i := 8) (v := ?_) rfl (Or.inl ⟨by rfl, ?_⟩) hHeld ?_
  rotate_left
  · intro w hSw; (try dsimp only at hSw); (try obtain ⟨_, s0, s1, s2, s3, s4, s5, s6, s7, s8, s9, s10, s11⟩ := hSw); go_simp; (try with_reducible rfl)
  (try simp only [Act.put, nrm])
  refine wtk (i := 9) (v := ?_) rfl (Or.inl ⟨by rfl, ?_⟩) hHeld ?_
  rotate_left
  · intro w hSw; (try dsimp only at hSw); (try obtain ⟨_, s0, s1, s2, s3, s4, s5, s6, s7, s8, s9, s10, s11⟩ := hSw); go_simp; (try with_reducible rfl)
  (try simp only [Act.put, nrm])
  refine wtk (i := 10) (v := ?_) rfl (Or.inl ⟨by rfl, ?_⟩) hHeld ?_
  rotate_left
  · intro w hSw; (try dsimp only at hSw); (try obtain ⟨_, s0, s1, s2, s3, s4, s5, s6, s7, s8, s9, s10, s11⟩ := hSw); go_simp; (try with_reducible rfl)
  (try simp only [Act.put, nrm])
  refine wtk (i := 11) (v := ?_) rfl (Or.inl ⟨by rfl, ?_⟩) hHeld ?_
  rotate_left
  · intro w hSw; (try dsimp only at hSw); (try obtain ⟨_, s0, s1, s2, s3, s4, s5, s6, s7, s8, s9, s10, s11⟩ := hSw); go_simp; (try with_reducible rfl)
  (try simp only [Act.put, nrm])
  refine wtk (i := 12) (v := ?_) rfl (Or.inl ⟨by rfl, ?_⟩) hHeld ?_
  rotate_left
  · intro w hSw; (try dsimp only at hSw); (try obtain ⟨_, s0, s1, s2, s3, s4, s5, s6, s7, s8, s9, s10, s11⟩ := hSw); go_simp; (try with_reducible rfl)
  (try simp only [Act.put, nrm])
  refine wtk (i := 13) (v := ?_) rfl (Or.inl ⟨by rfl, ?_⟩) hHeld ?_
  rotate_left
  · intro w hSw; (try dsimp only at hSw); (try obtain ⟨_, s0, s1, s2, s3, s4, s5, s6, s7, s8, s9, s10, s11⟩ := hSw); go_simp; (try with_reducible rfl)
  (try simp only [Act.put, nrm])
  refine wtk (i := 14) (v := ?_) rfl (Or.inl ⟨by rfl, ?_⟩) hHeld ?_
  rotate_left
  · intro w hSw; (try dsimp only at hSw); (try obtain ⟨_, s0, s1, s2, s3, s4, s5, s6, s7, s8, s9, s10, s11⟩ := hSw); go_simp; (try with_reducible rfl)
  (try simp only [Act.put, nrm])
  refine wtk (i := 15) (v := ?_) rfl (Or.inl ⟨by rfl, ?_⟩) hHeld ?_
  rotate_left
  · intro w hSw; (try dsimp only at hSw); (try obtain ⟨_, s0, s1, s2, s3, s4, s5, s6, s7, s8, s9, s10, s11⟩ := hSw); go_simp; (try with_reducible rfl)
  (try simp only [Act.put, nrm])
  refine wtk (i := 16) (v := ?_) rfl (Or.inl ⟨by rfl, ?_⟩) hHeld ?_
  rotate_left
  · intro w hSw; (try dsimp only at hSw); (try obtain ⟨_, s0, s1, s2, s3, s4, s5, s6, s7, s8, s9, s10, s11⟩ := hSw); go_simp; (try with_reducible rfl)
  (try simp only [Act.put, nrm])
  refine wtk (i := 17) (v := ?_) rfl (Or.inl ⟨by rfl, ?_⟩) hHeld ?_
  rotate_left
  · intro w hSw; (try dsimp only at hSw); (try obtain ⟨_, s0, s1, s2, s3, s4, s5, s6, s7, s8, s9, s10, s11⟩ := hSw); go_simp; (try with_reducible rfl)
  (try simp only [Act.put, nrm])
  refine wtk (i := 18) (v := ?_) rfl (Or.inl ⟨by rfl, ?_⟩) hHeld ?_
  rotate_left
  · intro w hSw; (try dsimp only at hSw); (try obtain ⟨_, s0, s1, s2, s3, s4, s5, s6, s7, s8, s9, s10, s11⟩ := hSw); go_simp; (try with_reducible rfl)
  (try simp only [Act.put, nrm])
  refine wtk (i := 19) (v := ?_) rfl (Or.inl ⟨by rfl, ?_⟩) hHeld ?_
  rotate_left
  · intro w hSw; (try dsimp only at hSw); (try obtain ⟨_, s0, s1, s2, s3, s4, s5, s6, s7, s8, s9, s10, s11⟩ := hSw); go_simp; (try with_reducible rfl)
  (try simp only [Act.put, nrm])
  refine wtk (i := 20) (v := ?_) rfl (Or.inl ⟨by rfl, ?_⟩) hHeld ?_
  rotate_left
  · intro w hSw; (try dsimp only at hSw); (try obtain ⟨_, s0, s1, s2, s3, s4, s5, s6, s7, s8, s9, s10, s11⟩ := hSw); go_simp; (try with_reducible rfl)
  (try simp only [Act.put, nrm])
  refine wtk (i := 21) (v := ?_) rfl (Or.inl ⟨by rfl, ?_⟩) hHeld ?_
  rotate_left
  · intro w hSw; (try dsimp only at hSw); (try obtain ⟨_, s0, s1, s2, s3, s4, s5, s6, s7, s8, s9, s10, s11⟩ := hSw); go_simp; (try with_reducible rfl)
  (try simp only [Act.put, nrm])
  refine wtk (i := 22) (v := ?_) rfl (Or.inl ⟨by rfl, ?_⟩) hHeld ?_
  rotate_left
  · intro w hSw; (try dsimp only at hSw); (try obtain ⟨_, s0, s1, s2, s3, s4, s5, s6, s7, s8, s9, s10, s11⟩ := hSw); go_simp; (try with_reducible rfl)
  (try simp only [Act.put, nrm])
  refine wtk (i := 23) (v := ?_) rfl (Or.inl ⟨by rfl, ?_⟩) hHeld ?_
  rotate_left
  · intro w hSw; (try dsimp only at hSw); (try obtain ⟨_, s0, s1, s2, s3, s4, s5, s6, s7, s8, s9, s10, s11⟩ := hSw); go_simp; (try with_reducible rfl)
  (try simp only [Act.put, nrm])
  refine wtk (i := 24) (v := ?_) rfl (Or.inl ⟨by rfl, ?_⟩) hHeld ?_
  rotate_left
  · intro w hSw; (try dsimp only at hSw); (try obtain ⟨_, s0, s1, s2, s3, s4, s5, s6, s7, s8, s9, s10, s11⟩ := hSw); go_simp; (try with_reducible rfl)
  (try simp only [Act.put, nrm])
  refine wpAnyH_ready (rs := [25]) (by kernel_rfl) (by simp) (AllReadyH.cons rfl (fun K hK => ?_) AllReadyH.nil)
  go_simp
  refine ((unhide HSA) _ ((Fr.refl _ _).drew)).mono ?_
  rintro e w10 ⟨rfl, hf10⟩
  have H10 := hide hf10
  clear hf10
  go_simp
  refine hK.out _ _ ((unhide HK) _ ((unhide H10).mono (fun _ _ h => h.elim))) (fun hHeld => ?_)
  clear hK K
  (try simp only [Act.put, nrm])
  refine wtk (i := 26) (v := ?_) rfl (Or.inl ⟨by rfl, ?_⟩) hHeld ?_
  rotate_left
  · intro w hSw; (try dsimp only at hSw); (try obtain ⟨_, s0, s1, s2, s3, s4, s5, s6, s7, s8, s9, s10, s11⟩ := hSw); go_simp; (try with_reducible rfl)
  (try simp only [Act.put, nrm])
  refine wtk (i := 27) (v := ?_) rfl (Or.inl ⟨by rfl, ?_⟩) hHeld ?_
  rotate_left
  · intro w hSw; (try dsimp only at hSw); (try obtain ⟨_, s0, s1, s2, s3, s4, s5, s6, s7, s8, s9, s10, s11⟩ := hSw); go_simp; (try with_reducible rfl)
  (try simp only [Act.put, nrm])
  obtain ⟨hB8, hf08, h⟩ := unhide HB8
  have hB10 := hB8.fr (unhide H10) (fun _ h => h.elim)
  obtain ⟨V, hrV, hgV, hfin, hfV⟩ := PL.same h (hf08.trans (unhide H10) (fun _ _ h => h)) hB10.z
  unfold RD.agg at hrV
  (try dsimp only at hrV)
  have HFV := hide (((unhide H10).mono (fun _ _ h => h.elim)).trans hfV (fun _ _ h => h))
  have HV := hide hrV
  have HE := hide (And.intro hgV hfin)
  clear hrV hgV hfin
  clear hB10 hfV hB8 hf08 h
  refine wpAnyH_ready (rs := [28]) (by kernel_rfl) (by simp) (AllReadyH.cons rfl (fun K hK => ?_) AllReadyH.nil)
  refine wp_stN 30 (.tmp 6) (.tmp 187) rfl _ _ rfl rfl (unhide HV) ?_
  refine hK.out _ _ ((unhide HK) _ (unhide HFV)) (fun hHeld => ?_)
  clear hK K
  (try simp only [Act.put, nrm])
  refine wtk (i := 29) (v := ?_) rfl (Or.inl ⟨by rfl, ?_⟩) hHeld ?_
  rotate_left
  · intro w hSw; (try dsimp only at hSw); (try obtain ⟨_, s0, s1, s2, s3, s4, s5, s6, s7, s8, s9, s10, s11⟩ := hSw); go_simp; (try with_reducible rfl)
  (try simp only [Act.put, nrm])
  refine wpAnyH_done (by kernel_rfl) ?_ _
  refine NoPanic.normal ?_
  go_wp2_with fail
  (try simp only [Exit.inBlock, Exit.then])
  refine bodyPost_ret (results_cellt rfl _ _ (W.heap.size + 1 + 1) 0 _ _ _ rfl rfl (unhide HE).1 Try.underlying30 rfl (by kernel_rfl)) rfl ?_
  exact (unhide HE).2
end Go.Proofs.Ytoflkfnmbighaaa

namespace Go.Proofs.Ytoflkfnmbighaaa
open Go.RowKit Go.ChangeShapes Go.WideShapes Go.Maps

set_option maxHeartbeats 4000000 in
set_option maxRecDepth 100000 in
/-- played: Read. -/
theorem played_6c (W : World) (d m : Nat) (r : RD) (v : Value) (O T : Nat → Prop) (h : PS W d m r v O T) (n : ByteArray) (a' z' : Nat) (a z b : Int) (on : Bool) (xv : Value)  (hn : n.size ≤ maxLen) (k : Nat) (f : RFl) (ho : r.off = false) (hk : nix r.fs n = some k) (hFk : r.found n = ((k : Int), 0)) (hf : r.fs[k]? = some f) (en : nm f.name = nm n) (ea : a = (a' : Nat)) (ez : z = (z' : Nat)) (hle : a' + z' ≤ f.rb.length) :
    Calls Try.prog 7 #[.pointer (some ⟨d, 0, none⟩), r.agg v, .agg #[.int .i64 6, .string n, .int .i64 a, .int .i64 z, .int .u64 b, .bool on, xv]] W (PL W d m O T r) := by
  have HPR := hide ho
  clear ho
  have HEZ := hide (And.intro ea ez)
  clear ea ez
  obtain ⟨ao, c, rfl⟩ := h.G.form
  obtain ⟨w3, hw3⟩ : ∃ w3, w3 = ((W.alloc (.cells (r.cells (.slice ao r.fs.length c)) 30)).alloc (.cells #[.int .i64 6, .string n, .int .i64 a, .int .i64 z, .int .u64 b, .bool on, xv] 38)).alloc (.cells zero8 30) := ⟨_, rfl⟩
  have hf3 : Fr (fun _ => False) W w3 := by rw [hw3]; exact (box2 _ _ _).alloc _
  have hB3 : B3 W w3 (r.cells (.slice ao r.fs.length c)) #[.int .i64 6, .string n, .int .i64 a, .int .i64 z, .int .u64 b, .bool on, xv] := by rw [hw3]; exact B3.new _ _ _
  have HC := hide (changed_no w3 d r ao c 6 a z b n on xv (by decide) (by decide) (by decide) (by decide) (by decide) (by decide) (by decide))
  have HX := hide (And.intro h (And.intro hf3 hB3))
  clear hf3 hB3 h
  unfold RD.agg at HC ⊢
  unfold RD.cells zero8 at hw3
  go_enter Try.func7, Try.ntmps7
  go_wp2_with fail
  rw [← hw3]
  clear hw3
  refine (unhide HC).mono ?_
  rintro e w5 ⟨rfl, hf5⟩
  obtain ⟨h, hf3, hB3⟩ := unhide HX
  have hB5 := hB3.fr hf5 (fun _ h => h.elim)
  have hf05 := hf3.trans hf5 (fun _ _ h => h)
  obtain ⟨w6, hw6⟩ : ∃ w6, w6 = w5.alloc (.cells #[.int .i64 (r.limit : Nat), .int .i64 (r.born : Nat), .int .i64 (r.writes : Nat), .slice ao r.fs.length c, .int .i64 r.armed, .int .i64 r.tear, .bool r.off, .bool r.full] 30) := ⟨_, rfl⟩
  have hf6 : Fr (fun _ => False) w5 w6 := by rw [hw6]; exact box1 _ _
  have hB6 := hB5.fr hf6 (fun _ h => h.elim)
  have hf06 := hf05.trans hf6 (fun _ _ h => h)
  have hP6 := h.fr hf06 (fun _ _ h => h)
  have hsz : W.heap.size + 1 + 1 < w6.heap.size := lt_of_block hB6.z
  have hlt := h.lt
  obtain ⟨c0, c1, c2, c3, c4, c5, c6, c7, fz⟩ := cells_of8 hB6.t
  have o0 := cell_of_blk (o := 0) hB6.o rfl
  have o1 := cell_of_blk (o := 1) hB6.o rfl
  have o2 := cell_of_blk (o := 2) hB6.o rfl
  have o3 := cell_of_blk (o := 3) hB6.o rfl
  have o5 := cell_of_blk (o := 5) hB6.o rfl
  clear hB5 hf5 hf3 hB3 HC hf6 hf05
  rw [hw6] at c0 c1 c2 c3 c4 c5 c6 c7 fz o0 o1 o2 o3 o5
  go_wp2_with fail
  rw [← hw6]
  obtain ⟨s, q, hD6, hR⟩ := hP6.D
  obtain ⟨ao', c', Fs, g1', hfs, hG6⟩ := hP6.G.at_
  have g1'' : ao = ao' ∧ c = c' := by simpa using g1'
  obtain ⟨rfl, rfl⟩ := g1''
  clear g1'
  have hlF := len_map hfs
  have h256 : Fs.length ≤ 256 := by rw [hlF]; exact hR.n256
  clear hw6
  have ho := unhide HPR
  clear HPR
  have hfm := List.mem_of_getElem? hf
  obtain ⟨x, hx, hxf⟩ := get_map hfs hf
  have hso : s.off = false := hR.off ▸ ho
  have hhas := rel_has hR hk
  have hbl : (s.F (nm n)).b.length = f.rb.length := by rw [← en]; exact rel_blen hR f hfm
  have hln := rel_len hR f hfm
  have hul := hR.ul
  have hlm := hR.lim1
  have hrl : f.rb.length ≤ 1048576 := by omega
  have hkl : (k : Int) < (r.fs.length : Int) := by have := (List.getElem?_eq_some_iff.1 hf).1; omega
  have hfb : (s.F (nm n)).b = f.rb.map RB.v := by rw [← en]; exact (hR.F f hfm).b
  have z3 := read_at d m a' z' s q O n w6 hD6 hso hn hhas (by omega) (by omega)
  rw [hfb, ← (unhide HEZ).1, ← (unhide HEZ).2] at z3
  refine z3.mono ?_
  clear z3 hfb
  rintro e w7 ⟨v7, rfl, hr7, hf7⟩
  have H7 := hide hr7
  clear hr7
  have hGF := hG6.fr0 hf7
  rw [← hlF] at hGF
  have HF := hide (gfound_any r ao c Fs T n w7 hGF hfs h256)
  rw [hlF] at HF
  have hB7 := hB6.fr hf7 (fun _ h => h.elim)
  have hf07 := hf06.trans hf7 (fun _ _ h => h)
  rw [hFk] at HF
  have HX6 := hide (And.intro h (And.intro hf07 hB7))
  have HG := hide (And.intro (hG6.fr0 hf7) (And.intro hx hxf))
  clear c0 c1 c2 c3 c4 c5 c6 c7 fz o0 o1 o2 o3 o5
  obtain ⟨c0, c1, c2, c3, c4, c5, c6, c7, _⟩ := cells_of8 hB7.t
  have o0 := cell_of_blk (o := 0) hB7.o rfl
  have o1 := cell_of_blk (o := 1) hB7.o rfl
  have o2 := cell_of_blk (o := 2) hB7.o rfl
  have o3 := cell_of_blk (o := 3) hB7.o rfl
  unfold RD.agg at HF
  dsimp only at HF
  have hlt8 := h.lt
  have HLT := hide hlt8
  clear hG6 hGF hfs hD6 hR hP6 hB6 hf06 hB7 hf07 hsz hlt h HX hlF h256 hlt8 hx hxf hso hhas hbl hln hul hlm ho hk hFk en hfm hf
  go_wp2_with fail
  refine (unhide HF).mono ?_
  rintro e w8 ⟨rfl, hf8⟩
  obtain ⟨h, hf07, hB7⟩ := unhide HX6
  have hB8 := hB7.fr hf8 (fun _ h => h.elim)
  have hf08 := hf07.trans hf8 (fun _ _ h => h)
  have hG8 := (unhide HG).1.fr0 hf8
  obtain ⟨g, rfl, hTg, d0, d1, _⟩ := hG8.at_ (unhide HG).2.1
  obtain ⟨bo, bc, hform⟩ := hG8.form (unhide HG).2.1
  have hrow := hG8.b _ (List.mem_of_getElem? (unhide HG).2.1)
  rw [hform] at d1 hrow
  have hgW : g < W.heap.size := (unhide HLT) g (.inr hTg)
  rw [(unhide HG).2.2] at d0 d1 hrow
  clear hform hTg hG8
  clear c0 c1 c2 c3 c4 c5 c6 c7 o0 o1 o2 o3
  obtain ⟨c0, c1, c2, c3, c4, c5, c6, c7, _⟩ := cells_of8 hB8.t
  have o2 := cell_of_blk (o := 2) hB8.o rfl
  have o3 := cell_of_blk (o := 3) hB8.o rfl
  have HBY : Hid (∀ V' : World, Fr (fun _ => False) w8 V' → Calls Try.prog 23 #[.agg #[.string f.name, .slice bo f.rb.length bc], .int .i64 (a' : Nat), .int .i64 (z' : Nat)] V' fun e w3 => ∃ v, e = .returned v ∧ w3.ownsRow V'.heap.size 5 1 v z' (cellsOf (((f.rb.map RB.v).drop a').take z')) ∧ Fr (fun _ => False) w8 w3) := fun V' hf => (gbytes_any f.name 0 a' z' bo bc f.rb V' (own_go hrow hf) hrl hle).mono fun e w3 ⟨v, he, ho, h3⟩ => ⟨v, he, ho, hf.trans h3 (fun _ _ h => h)⟩
  have hel : (((f.rb.map RB.v).drop a').take z').length = z' := by rw [List.length_take, List.length_drop, List.length_map]; omega
  have HSM := hide (fun (x y : Value) (b1 b2 : Nat) (V' : World) (hx : V'.ownsRow b1 5 1 x z' (cellsOf (((f.rb.map RB.v).drop a').take z'))) (hy : V'.ownsRow b2 5 1 y z' (cellsOf (((f.rb.map RB.v).drop a').take z'))) (hf : Fr (fun _ => False) w8 V') => (show Calls Try.prog 22 #[x, y] V' fun e w' => e = .returned (.bool true) ∧ Fr (fun _ => False) w8 w' from (same_any x y (((f.rb.map RB.v).drop a').take z') (((f.rb.map RB.v).drop a').take z') V' (own_src (by rw [hel]; exact hx)) (own_src (by rw [hel]; exact hy)) (by rw [hel]; omega)).mono fun e w' ⟨he, n, hw⟩ => ⟨by rw [he]; simp [sameB], by rw [hw]; exact hf.drewN n⟩))
  have H78 := hide (own_go (unhide H7) hf8)
  have HB8 := hide (And.intro hB8 (And.intro hf08 h))
  obtain ⟨ea, ez⟩ := unhide HEZ
  have hA1 : ¬ a < 0 := by omega
  have hA2 : ¬ z < 0 := by omega
  have hA3 : ¬ a > (f.rb.length : Int) := by omega
  have hA4 : ¬ z > (f.rb.length : Int) - a := by omega
  have hA5 : IntKind.i64.wrap ((f.rb.length : Int) - a) = (f.rb.length : Int) - a := wrapI _ (by omega) (by omega)
  rw [← ea, ← ez] at HBY
  clear ea ez hel hle HEZ
  generalize f.name = fnm at *
  generalize ((f.rb.map RB.v).drop a').take z' = rv at *
  generalize f.rb.length = rl at *
  clear H7 hrow HG HLT HF HX6 hf07 hB7 hf08 hB8 h hf7
  have HK : Hid (∀ V, Fr (fun b => b = W.heap.size + 1 + 1) w8 V → (fun V => Fr (fun b => b = W.heap.size + 1 + 1) w8 V ∧ V.cell? ⟨W.heap.size, 0, none⟩ = some (.int .i64 (r.limit : Nat)) ∧ V.cell? ⟨W.heap.size, 1, none⟩ = some (.int .i64 (r.born : Nat)) ∧ V.cell? ⟨W.heap.size, 2, none⟩ = some (.int .i64 (r.writes : Nat)) ∧ V.cell? ⟨W.heap.size, 3, none⟩ = some (.slice (some ⟨g, 0, none⟩) r.fs.length c) ∧ V.cell? ⟨W.heap.size, 4, none⟩ = some (.int .i64 r.armed) ∧ V.cell? ⟨W.heap.size, 5, none⟩ = some (.int .i64 r.tear) ∧ V.cell? ⟨W.heap.size, 6, none⟩ = some (.bool r.off) ∧ V.cell? ⟨W.heap.size, 7, none⟩ = some (.bool r.full) ∧ V.cell? ⟨W.heap.size + 1, 2, none⟩ = some (.int .i64 a) ∧ V.cell? ⟨W.heap.size + 1, 3, none⟩ = some (.int .i64 z) ∧ V.cell? ⟨g, k * 2, none⟩ = some (.string fnm) ∧ V.cell? ⟨g, k * 2 + 1, none⟩ = some (.slice bo rl bc)) V) := fun V hf => ⟨hf, (hf.cell (p := ⟨W.heap.size, 0, none⟩) (lt_of_cell c0) (by show ¬ W.heap.size = W.heap.size + 1 + 1; omega)).trans c0, (hf.cell (p := ⟨W.heap.size, 1, none⟩) (lt_of_cell c1) (by show ¬ W.heap.size = W.heap.size + 1 + 1; omega)).trans c1, (hf.cell (p := ⟨W.heap.size, 2, none⟩) (lt_of_cell c2) (by show ¬ W.heap.size = W.heap.size + 1 + 1; omega)).trans c2, (hf.cell (p := ⟨W.heap.size, 3, none⟩) (lt_of_cell c3) (by show ¬ W.heap.size = W.heap.size + 1 + 1; omega)).trans c3, (hf.cell (p := ⟨W.heap.size, 4, none⟩) (lt_of_cell c4) (by show ¬ W.heap.size = W.heap.size + 1 + 1; omega)).trans c4, (hf.cell (p := ⟨W.heap.size, 5, none⟩) (lt_of_cell c5) (by show ¬ W.heap.size = W.heap.size + 1 + 1; omega)).trans c5, (hf.cell (p := ⟨W.heap.size, 6, none⟩) (lt_of_cell c6) (by show ¬ W.heap.size = W.heap.size + 1 + 1; omega)).trans c6, (hf.cell (p := ⟨W.heap.size, 7, none⟩) (lt_of_cell c7) (by show ¬ W.heap.size = W.heap.size + 1 + 1; omega)).trans c7, (hf.cell (p := ⟨W.heap.size + 1, 2, none⟩) (lt_of_cell o2) (by show ¬ W.heap.size + 1 = W.heap.size + 1 + 1; omega)).trans o2, (hf.cell (p := ⟨W.heap.size + 1, 3, none⟩) (lt_of_cell o3) (by show ¬ W.heap.size + 1 = W.heap.size + 1 + 1; omega)).trans o3, (hf.cell (p := ⟨g, k * 2, none⟩) (lt_of_cell d0) (by show ¬ g = W.heap.size + 1 + 1; omega)).trans d0, (hf.cell (p := ⟨g, k * 2 + 1, none⟩) (lt_of_cell d1) (by show ¬ g = W.heap.size + 1 + 1; omega)).trans d1⟩
  go_wp2_with fail
  refine wp_region_noPanic ?_
  refine wp_region_held_drew (S := (fun V => Fr (fun b => b = W.heap.size + 1 + 1) w8 V ∧ V.cell? ⟨W.heap.size, 0, none⟩ = some (.int .i64 (r.limit : Nat)) ∧ V.cell? ⟨W.heap.size, 1, none⟩ = some (.int .i64 (r.born : Nat)) ∧ V.cell? ⟨W.heap.size, 2, none⟩ = some (.int .i64 (r.writes : Nat)) ∧ V.cell? ⟨W.heap.size, 3, none⟩ = some (.slice (some ⟨g, 0, none⟩) r.fs.length c) ∧ V.cell? ⟨W.heap.size, 4, none⟩ = some (.int .i64 r.armed) ∧ V.cell? ⟨W.heap.size, 5, none⟩ = some (.int .i64 r.tear) ∧ V.cell? ⟨W.heap.size, 6, none⟩ = some (.bool r.off) ∧ V.cell? ⟨W.heap.size, 7, none⟩ = some (.bool r.full) ∧ V.cell? ⟨W.heap.size + 1, 2, none⟩ = some (.int .i64 a) ∧ V.cell? ⟨W.heap.size + 1, 3, none⟩ = some (.int .i64 z) ∧ V.cell? ⟨g, k * 2, none⟩ = some (.string fnm) ∧ V.cell? ⟨g, k * 2 + 1, none⟩ = some (.slice bo rl bc))) (by kernel_rfl) ((unhide HK) _ ((Fr.refl _ _).drew)) (fun hHeld => ?_)
  refine wtk (i := 0) (v := ?_) rfl (Or.inl ⟨by rfl, ?_⟩) hHeld ?_
  rotate_left
  · intro w hSw; (try dsimp only at hSw); (try obtain ⟨_, s0, s1, s2, s3, s4, s5, s6, s7, s8, s9, s10, s11⟩ := hSw); go_simp; (try with_reducible rfl)
  (try simp only [Act.put, nrm])
  refine wtk (i := 1) (v := ?_) rfl (Or.inl ⟨by rfl, ?_⟩) hHeld ?_
  rotate_left
  · intro w hSw; (try dsimp only at hSw); (try obtain ⟨_, s0, s1, s2, s3, s4, s5, s6, s7, s8, s9, s10, s11⟩ := hSw); go_simp; (try with_reducible rfl)
  (try simp only [Act.put, nrm])
  refine wtk (i := 2) (v := ?_) rfl (Or.inl ⟨by rfl, ?_⟩) hHeld ?_
  rotate_left
  · intro w hSw; (try dsimp only at hSw); (try obtain ⟨_, s0, s1, s2, s3, s4, s5, s6, s7, s8, s9, s10, s11⟩ := hSw); go_simp; (try with_reducible rfl)
  (try simp only [Act.put, nrm])
  refine wtk (i := 3) (v := ?_) rfl (Or.inl ⟨by rfl, ?_⟩) hHeld ?_
  rotate_left
  · intro w hSw; (try dsimp only at hSw); (try obtain ⟨_, s0, s1, s2, s3, s4, s5, s6, s7, s8, s9, s10, s11⟩ := hSw); go_simp; (try with_reducible rfl)
  (try simp only [Act.put, nrm])
  refine wtk (i := 4) (v := ?_) rfl (Or.inl ⟨by rfl, ?_⟩) hHeld ?_
  rotate_left
  · intro w hSw; (try dsimp only at hSw); (try obtain ⟨_, s0, s1, s2, s3, s4, s5, s6, s7, s8, s9, s10, s11⟩ := hSw); go_simp; (try with_reducible rfl)
  (try simp only [Act.put, nrm])
  refine wtk (i := 5) (v := ?_) rfl (Or.inl ⟨by rfl, ?_⟩) hHeld ?_
  rotate_left
  · intro w hSw; (try dsimp only at hSw); (try obtain ⟨_, s0, s1, s2, s3, s4, s5, s6, s7, s8, s9, s10, s11⟩ := hSw); go_simp; (try with_reducible rfl)
  (try simp only [Act.put, nrm])
  refine wtk (i := 6) (v := ?_) rfl (Or.inl ⟨by rfl, ?_⟩) hHeld ?_
  rotate_left
  · intro w hSw; (try dsimp only at hSw); (try obtain ⟨_, s0, s1, s2, s3, s4, s5, s6, s7, s8, s9, s10, s11⟩ := hSw); go_simp; (try with_reducible rfl)
  (try simp only [Act.put, nrm])
  refine wtk (i := 7) (v := ?_) rfl (Or.inl ⟨by rfl, ?_⟩) hHeld ?_
  rotate_left
  · intro w hSw; (try dsimp only at hSw); (try obtain ⟨_, s0, s1, s2, s3, s4, s5, s6, s7, s8, s9, s10, s11⟩ := hSw); go_simp; (try with_reducible rfl)
  (try simp only [Act.put, nrm])
  refine wtk (i := 8) (v := ?_) rfl (Or.inl ⟨by rfl, ?_⟩) hHeld ?_
  rotate_left
  · intro w hSw; (try dsimp only at hSw); (try obtain ⟨_, s0, s1, s2, s3, s4, s5, s6, s7, s8, s9, s10, s11⟩ := hSw); go_simp; (try with_reducible rfl)
  (try simp only [Act.put, nrm])
  refine wtk (i := 9) (v := ?_) rfl (Or.inl ⟨by rfl, ?_⟩) hHeld ?_
  rotate_left
  · intro w hSw; (try dsimp only at hSw); (try obtain ⟨_, s0, s1, s2, s3, s4, s5, s6, s7, s8, s9, s10, s11⟩ := hSw); go_simp; (try with_reducible rfl)
  (try simp only [Act.put, nrm])
  refine wtk (i := 10) (v := ?_) rfl (Or.inl ⟨by rfl, ?_⟩) hHeld ?_
  rotate_left
  · intro w hSw; (try dsimp only at hSw); (try obtain ⟨_, s0, s1, s2, s3, s4, s5, s6, s7, s8, s9, s10, s11⟩ := hSw); go_simp; (try with_reducible rfl)
  (try simp only [Act.put, nrm])
  refine wtk (i := 11) (v := ?_) rfl (Or.inl ⟨by rfl, ?_⟩) hHeld ?_
  rotate_left
  · intro w hSw; (try dsimp only at hSw); (try obtain ⟨_, s0, s1, s2, s3, s4, s5, s6, s7, s8, s9, s10, s11⟩ := hSw); go_simp; (try with_reducible rfl)
  (try simp only [Act.put, nrm])
  refine wtk (i := 12) (v := ?_) rfl (Or.inl ⟨by rfl, ?_⟩) hHeld ?_
  rotate_left
  · intro w hSw; (try dsimp only at hSw); (try obtain ⟨_, s0, s1, s2, s3, s4, s5, s6, s7, s8, s9, s10, s11⟩ := hSw); go_simp; (try with_reducible rfl)
  (try simp only [Act.put, nrm])
  refine wtk (i := 13) (v := ?_) rfl (Or.inl ⟨by rfl, ?_⟩) hHeld ?_
  rotate_left
  · intro w hSw; (try dsimp only at hSw); (try obtain ⟨_, s0, s1, s2, s3, s4, s5, s6, s7, s8, s9, s10, s11⟩ := hSw); go_simp; (try with_reducible rfl)
  (try simp only [Act.put, nrm])
  refine wpAnyH_ready (rs := [14]) (by kernel_rfl) (by simp) (AllReadyH.cons rfl (fun K hK => ?_) AllReadyH.nil)
  go_simp
  refine ((unhide HBY) _ ((Fr.refl _ _).drew)).mono ?_
  rintro e w9 ⟨v9, rfl, hr9, hf9⟩
  have H9 := hide (And.intro hr9 hf9)
  clear hr9 hf9
  go_simp
  refine hK.out _ _ ((unhide HK) _ ((unhide H9).2.mono (fun _ _ h => h.elim))) (fun hHeld => ?_)
  clear hK K
  (try simp only [Act.put, nrm])
  refine wpAnyH_ready (rs := [15]) (by kernel_rfl) (by simp) (AllReadyH.cons rfl (fun K hK => ?_) AllReadyH.nil)
  go_simp
  refine ((unhide HSM) v7 v9 _ _ w9 (own_go (unhide H78) (unhide H9).2) (unhide H9).1 (unhide H9).2).mono ?_
  rintro e w10 ⟨rfl, hf10⟩
  have H10 := hide hf10
  clear hf10
  go_simp
  refine hK.out _ _ ((unhide HK) _ ((unhide H10).mono (fun _ _ h => h.elim))) (fun hHeld => ?_)
  clear hK K
  (try simp only [Act.put, nrm])
  refine wtk (i := 16) (v := ?_) rfl (Or.inl ⟨by rfl, ?_⟩) hHeld ?_
  rotate_left
  · intro w hSw; (try dsimp only at hSw); (try obtain ⟨_, s0, s1, s2, s3, s4, s5, s6, s7, s8, s9, s10, s11⟩ := hSw); go_simp; (try with_reducible rfl)
  (try simp only [Act.put, nrm])
  obtain ⟨hB8, hf08, h⟩ := unhide HB8
  have hB10 := hB8.fr (unhide H10) (fun _ h => h.elim)
  obtain ⟨V, hrV, hgV, hfin, hfV⟩ := PL.same h (hf08.trans (unhide H10) (fun _ _ h => h)) hB10.z
  unfold RD.agg at hrV
  (try dsimp only at hrV)
  have HFV := hide (((unhide H10).mono (fun _ _ h => h.elim)).trans hfV (fun _ _ h => h))
  have HV := hide hrV
  have HE := hide (And.intro hgV hfin)
  clear hrV hgV hfin
  clear hB10 hfV hB8 hf08 h
  refine wpAnyH_ready (rs := [17]) (by kernel_rfl) (by simp) (AllReadyH.cons rfl (fun K hK => ?_) AllReadyH.nil)
  refine wp_stN 30 (.tmp 6) (.tmp 130) rfl _ _ rfl rfl (unhide HV) ?_
  refine hK.out _ _ ((unhide HK) _ (unhide HFV)) (fun hHeld => ?_)
  clear hK K
  (try simp only [Act.put, nrm])
  refine wtk (i := 18) (v := ?_) rfl (Or.inl ⟨by rfl, ?_⟩) hHeld ?_
  rotate_left
  · intro w hSw; (try dsimp only at hSw); (try obtain ⟨_, s0, s1, s2, s3, s4, s5, s6, s7, s8, s9, s10, s11⟩ := hSw); go_simp; (try with_reducible rfl)
  (try simp only [Act.put, nrm])
  refine wpAnyH_done (by kernel_rfl) ?_ _
  refine NoPanic.normal ?_
  go_wp2_with fail
  (try simp only [Exit.inBlock, Exit.then])
  refine bodyPost_ret (results_cellt rfl _ _ (W.heap.size + 1 + 1) 0 _ _ _ rfl rfl (unhide HE).1 Try.underlying30 rfl (by kernel_rfl)) rfl ?_
  exact (unhide HE).2
end Go.Proofs.Ytoflkfnmbighaaa

