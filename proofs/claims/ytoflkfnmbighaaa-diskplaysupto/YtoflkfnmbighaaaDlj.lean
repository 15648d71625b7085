import Derived.Test.YtoflkfnmbighaaaDli
namespace Go.Proofs.Ytoflkfnmbighaaa
open Go.RowKit Go.ChangeShapes Go.WideShapes Go.Maps Go.Sort

/-- The first bytes of a row of one's own. -/
theorem src_pre {w : World} {base n oc : Nat} {oo : Option Addr} {od : List Nat} (h : w.ownsRow base 5 1 (.slice oo od.length oc) od.length (cellsOf od)) (hn : n ≤ od.length) : Src w (.slice oo n oc) (od.take n) := by
  have hlt : (od.take n).length = n := by rw [List.length_take, Nat.min_eq_left hn]
  rcases h.2 with ⟨e1, e2⟩ | ⟨g, cap, cur, e1, _⟩
  · simp only [Value.slice.injEq] at e1
    obtain ⟨rfl, _, rfl⟩ := e1
    have hn0 : n = 0 := by omega
    subst hn0
    exact .inl ⟨rfl, by simp⟩
  · simp only [Value.slice.injEq] at e1
    obtain ⟨rfl, _, rfl⟩ := e1
    refine .inr (.inl ⟨g, 0, oc, by rw [hlt], fun j v hv => ?_⟩)
    have hj : j < n := by
      have := (List.getElem?_eq_some_iff.1 hv).1
      simp [cellsOf] at this
      omega
    rw [Nat.zero_add]
    refine (h.cellAt j (by omega)).trans ?_
    rw [← hv]
    simp only [cellsOf, List.map_take]
    rw [List.getElem?_take_of_lt hj]
theorem own_cap {w : World} {base n oc : Nat} {oo : Option Addr} {xs : List Value} (h : w.ownsRow base 5 1 (.slice oo n oc) n xs) : n ≤ oc := by
  rcases h.2 with ⟨e1, e2⟩ | ⟨g, cap, cur, e1, _, _, hc, _⟩
  · omega
  · simp only [Value.slice.injEq] at e1
    omega
/-- make([]byte, n). -/
theorem make_n (n : Nat) (w : World) (hn : n ≤ 1000000) : (Instr.makeSlice 36 (.int .i64 (n : Int)) (.int .i64 (n : Int))).run Try.prog w = .ok (.slice (some ⟨w.heap.size, 0, none⟩) n n) (w.alloc (.cells (madeCells #[.int .u8 0] n) 5)) := by
  obtain ⟨i, hi, hz, hs, hb⟩ := info_parts Try.info5
  have := run_make (P := Try.prog) w 36 5 i (.int .u8 0) Try.underlying36 hi hz .i64 .i64 n n (by omega) (Int.le_refl _) (by rw [hb]; omega) (by omega)
  simpa [hs, Value.cells] using this
theorem made_at (n j : Nat) (hj : j < n) : (madeCells #[.int .u8 0] n)[j]? = some (.int .u8 0) := by
  simp [madeCells, hj, Nat.mod_one]
/-- Bytes of one's own that are filled with rising numbers. -/
structure Fil (w0 w : World) (g n L k : Nat) : Prop where
  fr : Fr (fun b => b = g) w0 w
  at_ : ∀ j, j < n → ∃ z : Nat, w.cell? ⟨g, j, none⟩ = some (.int .u8 (z : Nat)) ∧ w.frozen? ⟨g, j, none⟩ = false ∧ (j < k → z = (L + j) % 256)
theorem fil_start (w : World) (n L : Nat) : Fil (w.alloc (.cells (madeCells #[.int .u8 0] n) 5)) (w.alloc (.cells (madeCells #[.int .u8 0] n) 5)) w.heap.size n L 0 := by
  refine ⟨Fr.refl _ _, fun j hj => ⟨0, ?_, ?_, fun h => by omega⟩⟩
  · rw [World.cell?_alloc_at _ _ _ _ rfl]
    exact made_at n j hj
  · have h := heap_alloc_new w (.cells (madeCells #[.int .u8 0] n) 5)
    simp only [World.frozen?, h]
    simp
theorem Fil.step {w0 w : World} {g n L k : Nat} (h : Fil w0 w g n L k) (hk : k < n) (z : Int) (hz : z = ((L + k) % 256 : Nat)) : Fil w0 (w.setCell ⟨g, k, none⟩ (.int .u8 z)) g n L (k + 1) := by
  subst hz
  refine ⟨h.fr.setCell (p := ⟨g, k, none⟩) (.inl rfl) _, fun i hi => ?_⟩
  obtain ⟨z, h1, h2, h3⟩ := h.at_ i hi
  obtain ⟨zk, k1, _⟩ := h.at_ k hk
  by_cases hik : i = k
  · subst hik
    exact ⟨(L + i) % 256, World.cell?_setCell_same _ _ _ h1, by rw [World.frozen?_setCell]; exact h2, fun _ => rfl⟩
  · exact ⟨z, by rw [World.cell?_setCell_other _ _ _ _ (by intro h; injection h with _ h2 _; exact hik h2.symm)]; exact h1, by rw [World.frozen?_setCell]; exact h2, fun h => h3 (by omega)⟩
theorem Fil.src {w0 w : World} {g n L : Nat} (h : Fil w0 w g n L n) : Src w (.slice (some ⟨g, 0, none⟩) n n) (List.range' L n) := by
  refine .inr (.inl ⟨g, 0, n, by rw [List.length_range'], fun j v hv => ?_⟩)
  have hj : j < n := by
    have := (List.getElem?_eq_some_iff.1 hv).1
    simp [cellsOf] at this
    omega
  obtain ⟨z, h1, _, h3⟩ := h.at_ j hj
  rw [Nat.zero_add, h1, ← hv, h3 hj]
  simp [cellsOf, B, hj]
theorem wr256 (a k : Nat) (h : a + k ≤ 3000) : wrap64 ((a : Int) + (k : Int)) % 256 = (((a + k) % 256 : Nat) : Int) := by
  rw [show wrap64 ((a : Int) + (k : Int)) = (a : Int) + (k : Int) by unfold wrap64; omega]
  omega
/-- append(order, byte): it lies where it lay, or in a new block. -/
theorem app_zo (w : World) (base z : Nat) (v : Value) (l : List Nat) (h : w.ownsRow base 5 1 v l.length (cellsOf l)) (hb : base ≤ w.heap.size) (hl : l.length ≤ 1048576) :
    ∃ ao cap w', (Builtin.append_ #[36, 36] 36 #[v, .slice (some ⟨w.heap.size, 0, none⟩) 1 1]).run Try.prog (w.alloc (.cells #[.int .u8 ((z % 256 : Nat) : Int)] 5)) = .ok (.slice ao (l.length + 1) cap) w' ∧ w'.ownsRow base 5 1 (.slice ao (l.length + 1) cap) (l.length + 1) (cellsOf (l ++ [z])) ∧ Fr (fun g => v.ownBlock = some g) w w' ∧ ∀ g, (Value.slice ao (l.length + 1) cap).ownBlock = some g → v.ownBlock = some g ∨ w.heap.size ≤ g := by
  have h1 : (w.alloc (.cells #[.int .u8 ((z % 256 : Nat) : Int)] 5)).ownsRow base 5 1 v l.length (cellsOf l) := ownsRow_of_block h (fun k hk => Below.heap_alloc _ _ _ (h.lt k hk).2)
  have hs : Src (w.alloc (.cells #[.int .u8 ((z % 256 : Nat) : Int)] 5)) (.slice (some ⟨w.heap.size, 0, none⟩) 1 1) [z] := .inr (.inl ⟨w.heap.size, 0, 1, rfl, fun j u hu => by
    rw [World.cell?_alloc_at _ _ _ _ rfl]
    simpa [cellsOf, B] using hu⟩)
  obtain ⟨ao, cap, w', hr, hown, hg, hat⟩ := run_app_sl _ 36 base l.length v _ (cellsOf l) [z] h1 hs (by simp; omega) (by simp; omega)
  refine ⟨ao, cap, w', hr, by rw [cellsOf_append]; exact hown, ((box1 w _).mono (fun _ _ h => h.elim)).grown hg (fun g hg => .inl hg), fun g hg => ?_⟩
  rcases hat with e | e
  · exact .inl (e ▸ hg)
  · have : some g = some ((w.alloc (.cells #[.int .u8 ((z % 256 : Nat) : Int)] 5)).heap.size) := hg.symm.trans e
    simp at this
    exact .inr (by omega)
/-- Both files synced. -/
theorem TW.sync2 {w W : World} {d m : Nat} {s : DM} {q : DW} {O : Nat → Prop} {f : Nat → Nat} {od : List Nat} {safe : Nat} {G : List Own3} (h : TW w W d m s q O f od safe G) {W1 W2 : World} {q2 : DW} {O1 O2 : Nat → Prop}
    (hD2 : DkAt W2 d m ((s.syn (key2 0)).syn (key2 1)) q2 O2) (hf1 : Fr O W W1) (hf2 : Fr O1 W1 W2) (hO1 : ∀ k, O1 k → O k ∨ W.heap.size ≤ k) (hO2 : ∀ k, O2 k → O1 k ∨ W1.heap.size ≤ k) : TW w W2 d m ((s.syn (key2 0)).syn (key2 1)) q2 O2 f od od.length [] := by
  have o1 : ∀ k, O1 k → w.heap.size ≤ k := fun k hk => (hO1 k hk).elim (h.o k) (Nat.le_trans h.fr.size)
  have f1 := h.fr.absorb hf1 h.o
  refine ⟨hD2, f1.absorb hf2 o1, fun k hk => (hO2 k hk).elim (o1 k) (Nat.le_trans f1.size), h.t.sync, fun i hi => ?_, h.es, h.full, h.limit, h.two, fun k hk => ?_⟩
  · rw [h.D.fb_eq hD2 rfl (key2 i) (h.has i hi)]; exact h.fb i hi
  · simp only [DM.syn]
    rw [if_neg (hk 1 (by decide)), if_neg (hk 0 (by decide))]
    exact h.oth k hk
theorem src_cell {w : World} {g o n c : Nat} {a : List Nat} (h : Src w (.slice (some ⟨g, o, none⟩) n c) a) (k : Nat) (hk : k < a.length) : w.cell? ⟨g, o + k, none⟩ = some (.int .u8 ((a[k] % 256 : Nat) : Int)) := by
  obtain ⟨g', o', e, hc⟩ := src_at h k hk
  cases e
  exact hc
/-- A piece that is written whole. -/
theorem TW.piece {w W : World} {d m : Nat} {s : DM} {q : DW} {O : Nat → Prop} {f : Nat → Nat} {od : List Nat} {safe : Nat} {G : List Own3} (h : TW w W d m s q O f od safe G) (j : Nat) (hj : j < 2) (name : ByteArray) (hnm : nm name = key2 j) (hn : name.size ≤ maxLen) (ho : s.off = false) (g n : Nat) (hx : Src W (.slice (some ⟨g, 0, none⟩) n n) (List.range' od.length n)) (hg : ¬ O g) (hroom : od.length + n ≤ 65536)
    (hw : s.writes < 1000000000) (hl0 : 0 ≤ s.left) (hl : s.left < 9223372036854775808) (ht0 : 0 ≤ s.tear) (ht : s.tear < 9223372036854775808) (hfree : s.left = 0 ∨ 1 < s.left) :
    Calls Try.prog 10 #[.pointer (some ⟨d, 0, none⟩), .string name, .slice (some ⟨g, 0, none⟩) n n] W fun e W' => e = .returned (.int .i64 0) ∧ ∃ s1 q1 O1 G1, TW w W' d m s1 q1 O1 f (od ++ List.replicate n j) safe G1 ∧ s1.writes = s.writes + 1 ∧ s1.left = (if s.left = 0 then 0 else s.left - 1) ∧ s1.tear = s.tear ∧ s1.off = false ∧ Fr O W W' ∧ ∀ k, O1 k → O k ∨ W.heap.size ≤ k := by
  have hcnt : s.count n = ({ s with writes := s.writes + 1, left := if s.left = 0 then 0 else s.left - 1 }, n) := by
    rcases hfree with e | e
    · simp only [DM.count, e]
      congr 1
    · have : ¬ s.left = 0 := by omega
      simp only [DM.count, if_neg this, if_pos e]
  refine (h.append j hj name hnm hn ho _ n hx (fun g' o k c e => by cases e; exact hg) (fun xo k c e => by cases e; exact Nat.le_refl _) hroom hw hl0 hl ht0 ht).mono ?_
  rintro e W' ⟨rfl, q', O', hT, hf, hO⟩
  rw [hcnt] at hT
  refine ⟨?_, _, q', O', _, hT, ?_, ?_, ?_, ?_, hf, hO⟩
  · rw [hcnt]
    simp [DM.code, ho]
  all_goals
    simp only [DM.app, List.length_range', hcnt]
  exact ho
/-- The piece that is torn. -/
theorem TW.torn {w W : World} {d m : Nat} {s : DM} {q : DW} {O : Nat → Prop} {f : Nat → Nat} {od : List Nat} {safe : Nat} {G : List Own3} (h : TW w W d m s q O f od safe G) (j : Nat) (hj : j < 2) (name : ByteArray) (hnm : nm name = key2 j) (hn : name.size ≤ maxLen) (ho : s.off = false) (g n c : Nat) (hx : Src W (.slice (some ⟨g, 0, none⟩) n n) (List.range' od.length n)) (hg : ¬ O g) (hroom : od.length + n ≤ 65536)
    (hw : s.writes < 1000000000) (ht0 : 0 ≤ s.tear) (ht : s.tear < 9223372036854775808) (hone : s.left = 1) (hc : min (n : Int) s.tear = (c : Nat)) :
    Calls Try.prog 10 #[.pointer (some ⟨d, 0, none⟩), .string name, .slice (some ⟨g, 0, none⟩) n n] W fun e W' => e = .returned (.int .i64 6) ∧ ∃ s1 q1 O1 G1, TW w W' d m s1 q1 O1 f (od ++ List.replicate c j) safe G1 ∧ s1.off = true ∧ Fr O W W' ∧ ∀ k, O1 k → O k ∨ W.heap.size ≤ k := by
  have h0 : ¬ s.left = 0 := by omega
  have h1 : ¬ 1 < s.left := by omega
  have hcnt : s.count n = ({ s with writes := s.writes + 1, left := s.left - 1, off := true }, c) := by
    simp only [DM.count, if_neg h0, if_neg h1]
    rw [hc]
    rfl
  refine (h.append j hj name hnm hn ho _ n hx (fun g' o k c e => by cases e; exact hg) (fun xo k c e => by cases e; exact Nat.le_refl _) hroom hw (by omega) (by omega) ht0 ht).mono ?_
  rintro e W' ⟨rfl, q', O', hT, hf, hO⟩
  rw [hcnt] at hT
  refine ⟨?_, _, q', O', _, hT, ?_, hf, hO⟩
  · rw [hcnt]
    simp [DM.code]
  · simp only [DM.app, List.length_range', hcnt]
/-- Armed. -/
theorem TW.armed {w W W' : World} {d m : Nat} {s : DM} {q : DW} {O : Nat → Prop} {f : Nat → Nat} {od : List Nat} {safe : Nat} {G : List Own3} {n b : Int} (h : TW w W d m s q O f od safe G) (hD : DkAt W' d m { s with left := n, tear := b } q O) (hf : Fr (fun k => k = d) W W') : TW w W' d m { s with left := n, tear := b } q O f od safe G :=
  ⟨hD, h.fr.absorb hf (fun k e => by rw [e]; exact h.o _ h.D.od), h.o, ⟨h.t.ne, h.t.b, h.t.sf, h.t.p, h.t.rise, h.t.low, h.t.wh, h.t.fbs, h.t.le, h.t.pos, h.t.used⟩, h.fb, h.es, h.full, h.limit, h.two, h.oth⟩
end Go.Proofs.Ytoflkfnmbighaaa
