import Derived.Test.YthccbfgjekdiiaaDoorSbo
namespace Go.Proofs.YthccbfgjekdiiaaDoor
open Go.RowKit

/-- Where a slice of bytes lies, and what it holds. -/
def Src (w : World) (x : Value) (l : List Nat) : Prop :=
  (x = .slice none 0 0 ∧ l = []) ∨ (∃ g o c, x = .slice (some ⟨g, o, none⟩) l.length c ∧ ∀ j v, (cellsOf l)[j]? = some v → w.cell? ⟨g, o + j, none⟩ = some v) ∨ ∃ a c, x = .slice (some a) 0 c ∧ l = []
theorem Src.fr {w w' : World} {x : Value} {l : List Nat} {S : Nat → Prop} (h : Src w x l) (hf : Fr S w w') (hS : ∀ g o m c, x = .slice (some ⟨g, o, none⟩) m c → ¬ S g) : Src w' x l := by
  rcases h with h | ⟨g, o, c, hx, hc⟩ | h
  · exact .inl h
  · exact .inr (.inl ⟨g, o, c, hx, fun j v hv => (hf.cell (p := ⟨g, o + j, none⟩) (lt_of_cell (hc j v hv)) (hS g o _ c hx)).trans (hc j v hv)⟩)
  · exact .inr (.inr h)
theorem Src.fr0 {w w' : World} {x : Value} {l : List Nat} (h : Src w x l) (hf : Fr (fun _ => False) w w') : Src w' x l := h.fr hf (fun _ _ _ _ _ h => h)
/-- Of nothing it does not matter where it lies. -/
theorem Src.frD {w w' : World} {x : Value} {l : List Nat} {S : Nat → Prop} (h : Src w x l) (hf : Fr S w w') (hS : l = [] ∨ ∀ g o m c, x = .slice (some ⟨g, o, none⟩) m c → ¬ S g) : Src w' x l := by
  rcases hS with rfl | hS
  · rcases h with h | ⟨g, o, c, hx, _⟩ | h
    · exact .inl h
    · exact .inr (.inr ⟨_, c, hx, rfl⟩)
    · exact .inr (.inr h)
  · exact h.fr hf hS
theorem Src.form {w : World} {x : Value} {l : List Nat} (h : Src w x l) : ∃ xo xc, x = .slice xo l.length xc := by
  rcases h with ⟨rfl, rfl⟩ | ⟨g, o, c, rfl, _⟩ | ⟨a, c, rfl, rfl⟩
  · exact ⟨none, 0, rfl⟩
  · exact ⟨_, c, rfl⟩
  · exact ⟨_, c, rfl⟩
theorem src_at {w : World} {xo : Option Addr} {n xc : Nat} {a : List Nat} (h : Src w (.slice xo n xc) a) (k : Nat) (hk : k < a.length) : ∃ g o, xo = some ⟨g, o, none⟩ ∧ w.cell? ⟨g, o + k, none⟩ = some (.int .u8 ((a[k] % 256 : Nat) : Int)) := by
  rcases h with ⟨_, e⟩ | ⟨g, o, c, hx, hc⟩ | ⟨_, _, _, e⟩
  · subst e; simp at hk
  · simp only [Value.slice.injEq] at hx
    exact ⟨g, o, hx.1, hc k _ (by simp [cellsOf, hk, B])⟩
  · subst e; simp at hk
theorem made_zeros (n : Nat) : madeCells (Value.int .u8 0).cells (n * 1) = (V8 (List.replicate n 0)).toArray := by
  have e : (Value.int .u8 0).cells = #[.int .u8 0] := rfl
  rw [e, Nat.mul_one, madeCells]
  apply Array.ext_getElem?
  intro j
  by_cases h : j < n <;> simp [V8, h, Nat.mod_one]
theorem Tryd.infoU8 : (Tryd.prog.info? 5).map (fun i => (i.zero, i.size, i.bytes)) = some (some (.int .u8 0), 1, 1) := by kernel_rfl
theorem Tryd.sizeU8 : (Tryd.prog.info? 5).map (·.size) = some 1 := by kernel_rfl
theorem add_at (g j : Nat) : (⟨g, 0, none⟩ : Addr).add j = ⟨g, j, none⟩ := by unfold Addr.add; split <;> simp_all
theorem cells_of_lt (l : List Nat) (h : ∀ c ∈ l, c < 256) : cellsOf l = V8 l := by
  apply List.map_congr_left
  intro c hc
  rw [B, Nat.mod_eq_of_lt (h c hc)]
theorem sby_lt (s : S8) : ∀ c ∈ sby s, c < 256 := by
  intro c hc
  simp only [sby, List.mem_map] at hc
  obtain ⟨j, _, rfl⟩ := hc
  exact Nat.mod_lt _ (by decide)
theorem sby_len (s : S8) : (sby s).length = 32 := by simp [sby]
theorem u8s_sz (l : List Nat) : (u8s l).size = l.length := by rw [u8s_V]; exact (List.size_toArray).trans (V8_len l)
/-- Stores leave a block a block. -/
theorem block_setCells {g : Nat} {ty : TypeId} : ∀ (vs : List Value) (o : Nat) (w : World) (cur : Array Value), w.heap[g]? = some (.cells cur ty (0, 0)) → ∃ cur' : Array Value, (w.setCells g o vs).heap[g]? = some (.cells cur' ty (0, 0)) ∧ cur'.size = cur.size
  | [], _, _, cur, h => ⟨cur, h, rfl⟩
  | v :: r, o, w, cur, h => by
    obtain ⟨cur', h1, h2⟩ := block_setCells (g := g) (ty := ty) r (o + 1) (w.setCell ⟨g, o, none⟩ v) (cur.setIfInBounds o v) (heap_setCell_same w g o cur ty v h)
    exact ⟨cur', h1, by rw [h2]; simp⟩
/-- A new block of n bytes. -/
structure NB (w w' : World) (g n : Nat) : Prop where
  le : w.heap.size ≤ g
  blk : ∃ cur : Array Value, w'.heap[g]? = some (.cells cur 5 (0, 0)) ∧ cur.size = n
theorem NB.base {w0 w w' : World} {g n : Nat} (h : NB w w' g n) (hl : w0.heap.size ≤ w.heap.size) : NB w0 w' g n := ⟨Nat.le_trans hl h.le, h.blk⟩
/-- The bytes are laid, a slice is made, and the first of them are copied. -/
theorem lay_sum (l : List Nat) (hl : l.length = 32) (n : Nat) (h1 : 1 ≤ n) (h2 : n ≤ 32) (w3 : World) :
    ∃ W4 W5 W6, (w3.alloc (.cells (Array.replicate 32 (.int .u8 0)) 123)).there w3.heap.size 0 (u8s l).size ∧ (Tryd.prog.info? 123).map (·.size) = some (u8s l).size ∧ (u8s l).all (·.oneCell') = true ∧
      (w3.alloc (.cells (Array.replicate 32 (.int .u8 0)) 123)).setCells w3.heap.size 0 (u8s l).toList = W4 ∧
      (Instr.makeSlice 25 (.int .i64 (n : Int)) (.int .i64 (n : Int))).run Tryd.prog W4 = .ok (.slice (some ⟨W4.heap.size, 0, none⟩) n n) W5 ∧
      (∀ ty, (Builtin.copy_ #[25, 25] ty #[.slice (some ⟨W4.heap.size, 0, none⟩) n n, .slice (some ⟨w3.heap.size, 0, none⟩) 32 32]).run Tryd.prog W5 = .ok (goInt n) W6) ∧
      BtAt W6 W4.heap.size n (fun j => (l.take n).getD j 0) ∧ Fr (fun _ => False) w3 W6 ∧ NB w3 W6 W4.heap.size n := by
  have hth : (w3.alloc (.cells (Array.replicate 32 (.int .u8 0)) 123)).there w3.heap.size 0 (V8 l).length := fun j hj => by
    rw [V8_len, hl] at hj
    rw [Nat.zero_add, World.cell?_alloc_at _ _ _ _ rfl, World.frozen?_alloc_at _ _ _ _ rfl, Array.getElem?_replicate, if_pos hj]
    exact ⟨rfl, rfl⟩
  have hrg := World.rangeAt_setCells_same (w3.alloc (.cells (Array.replicate 32 (.int .u8 0)) 123)) w3.heap.size 0 (V8 l) hth
  have hF4 : Fr (fun _ => False) w3 ((w3.alloc (.cells (Array.replicate 32 (.int .u8 0)) 123)).setCells w3.heap.size 0 (V8 l)) := Fr.setCells ((Fr.refl _ _).alloc _) (.inr (Nat.le_refl _)) _
  obtain ⟨W4, hW4⟩ : ∃ W4, (w3.alloc (.cells (Array.replicate 32 (.int .u8 0)) 123)).setCells w3.heap.size 0 (V8 l) = W4 := ⟨_, rfl⟩
  rw [hW4] at hrg hF4
  have hb3 : w3.heap.size < W4.heap.size := by
    have := hrg 0 (.int .u8 (l.getD 0 0 : Nat)) (by rw [V8, List.getElem?_map, List.getElem?_eq_getElem (by omega), Option.map_some, List.getD, List.getElem?_eq_getElem (by omega), Option.getD_some])
    exact lt_of_cell this
  obtain ⟨i0, hi, hz0, hz1, hz2⟩ := info_parts Tryd.infoU8
  have hmk := run_make (P := Tryd.prog) (w := W4) 25 5 i0 (.int .u8 0) Tryd.underlying25 hi hz0 .i64 .i64 (n : Int) (n : Int) (by omega) (by omega) (by rw [hz2]; omega) (by omega)
  rw [hz1, Int.toNat_natCast, made_zeros] at hmk
  have hF5 : Fr (fun _ => False) W4 (W4.alloc (.cells (V8 (List.replicate n 0)).toArray 5)) := (Fr.refl _ _).alloc _
  have hth5 : (W4.alloc (.cells (V8 (List.replicate n 0)).toArray 5)).there W4.heap.size 0 n := by
    have := alloc_there W4 (V8 (List.replicate n 0)) 5
    rwa [V8_len, List.length_replicate] at this
  have hlt5 : (V8 (l.take n)).length = n := by rw [V8_len, List.length_take]; omega
  have hcp := fun ty => run_copy_cells (P := Tryd.prog) (W4.alloc (.cells (V8 (List.replicate n 0)).toArray 5)) 25 25 ty 5 W4.heap.size 0 n n ⟨w3.heap.size, 0, none⟩ 32 32 (V8 (l.take n)) Tryd.underlying25 Tryd.sizeU8 (by rw [hlt5]; exact (Nat.min_eq_right h2).symm)
    (fun j v hv => by
      rw [add_at]
      have hv2 : (V8 l)[j]? = some v := by
        rw [V8, List.getElem?_map] at hv ⊢
        rw [List.getElem?_take] at hv
        split at hv
        · exact hv
        · cases hv
      have := hrg j v hv2
      rw [Nat.zero_add] at this
      exact (hF5.cell (p := ⟨w3.heap.size, j, none⟩) hb3 (fun h => h)).trans this)
    (fun j hj => (hth5 j (by omega)).1) (fun j hj => (hth5 j (by omega)).2) (V8_one _)
  rw [hlt5] at hcp
  have hrs := World.rangeAt_setCells_same (W4.alloc (.cells (V8 (List.replicate n 0)).toArray 5)) W4.heap.size 0 (V8 (l.take n)) (by rw [hlt5]; exact hth5)
  refine ⟨W4, _, _, by rw [u8s_sz, ← V8_len]; exact hth, by rw [u8s_sz, hl]; exact info_b32, all_oneCell_toArray (V8_one l), hW4, hmk, hcp, fun j hj => ⟨?_, ?_⟩, hF4.trans (Fr.setCells hF5 (.inr (Nat.le_refl _)) _) (fun _ _ h => h), ⟨Nat.le_of_lt hb3, ?_⟩⟩
  · have := hrs j (.int .u8 ((l.take n).getD j 0 : Nat)) (by
      have hj2 : j < (l.take n).length := by rw [List.length_take]; omega
      rw [V8, List.getElem?_map, List.getElem?_eq_getElem hj2, Option.map_some, List.getD, List.getElem?_eq_getElem hj2, Option.getD_some])
    rw [Nat.zero_add] at this
    exact this
  · have := (hth5 j hj).2
    rw [Nat.zero_add] at this
    rw [World.frozen?_setCells]; exact this
  · obtain ⟨cur', h1, h2⟩ := block_setCells (V8 (l.take n)) 0 (W4.alloc (.cells (V8 (List.replicate n 0)).toArray 5)) (V8 (List.replicate n 0)).toArray (heap_alloc_new W4 _)
    exact ⟨cur', h1, by rw [h2, List.size_toArray, V8_len, List.length_replicate]⟩
theorem BtAt.src {w : World} {b n c : Nat} {f : Nat → Nat} {l : List Nat} (h : BtAt w b n f) (hl : l.length = n) (e : ∀ j, j < n → f j = l.getD j 0 % 256) : Src w (.slice (some ⟨b, 0, none⟩) n c) l := by
  refine .inr (.inl ⟨b, 0, c, by rw [hl], fun j v hv => ?_⟩)
  have hj : j < l.length := by
    have := (List.getElem?_eq_some_iff.1 hv).1
    simpa [cellsOf] using this
  rw [Nat.zero_add, (h j (by omega)).1, e j (by omega), ← hv, cellsOf, List.getElem?_map, List.getD, List.getElem?_eq_getElem hj]
  rfl
set_option maxRecDepth 100000 in
theorem hsum_none (b o : Nat) (n : Int) (w : World) (hn : n < 1 ∨ 32 < n) : Calls Tryd.prog 56 #[.pointer (some ⟨b, o, none⟩), .int .i64 n] w fun e w' => e = .returned (.slice none 0 0) ∧ w' = w := by
  by_cases h1 : n < 1
  · go_enter Tryd.func56, Tryd.ntmps56
    go_wp2_with fail
    go_ret
    exact ⟨rfl, rfl⟩
  · have h2 : 32 < n := by omega
    go_enter Tryd.func56, Tryd.ntmps56
    go_wp2_with fail
    go_ret
    exact ⟨rfl, rfl⟩
set_option maxRecDepth 100000 in
theorem hsum_any (b o t n : Nat) (s : S8) (f : Nat → Nat) (w : World) (hg : GS w) (hh : HsAt w b o s f t) (hs : s.ok) (hf : ∀ j, j < 64 → f j < 256) (ht : t < 18446744073709551616) (h1 : 1 ≤ n) (h2 : n ≤ 32) :
    Calls Tryd.prog 56 #[.pointer (some ⟨b, o, none⟩), .int .i64 n] w fun e w' => ∃ g, e = .returned (.slice (some ⟨g, 0, none⟩) n n) ∧ BtAt w' g n (fun j => ((sby (fin s f t)).take n).getD j 0) ∧ Fr (fun _ => False) w w' ∧ NB w w' g n := by
  have hz1 := zero_b32
  have hi : (Tryd.prog.info? 93).map (·.size) = some (hv s f t).length := by rw [hv_len]; exact info_h
  have HG := hide (And.intro hg (And.intro hh.all (And.intro hs (And.intro hf (And.intro hi ht)))))
  clear hg hh hs hf hi ht
  have n1 : ¬ (n : Int) < 1 := by omega
  have n2 : ¬ (32 : Int) < (n : Int) := by omega
  go_enter Tryd.func56, Tryd.ntmps56
  go_wp2_with (refine wpList_load_mid rfl 93 (.tmp 14) rfl b o rfl (hv s f t) _ (unhide HG).2.1 Tryd.underlying93 rfl (unhide HG).2.2.2.2.1 ?_)
  refine (fin_any s f t w (unhide HG).2.2.1 (unhide HG).2.2.2.1 (unhide HG).2.2.2.2.2 (unhide HG).1.1).mono ?_
  rintro e w1 ⟨rfl, hF1⟩
  have hzok := fin_ok s f t
  generalize hzz : fin s f t = z at *
  have H1 := hide (And.intro hF1 hzok)
  have HZ := hide hzz
  clear hF1 hzok hzz
  go_wp2_with fail
  refine (bytes_any z w1 (unhide H1).2).mono ?_
  rintro e w2 ⟨rfl, hF2⟩
  obtain ⟨W4, W5, W6, hth, hi, hone, hW4, hmk, hcp, hbt, hF6, hle⟩ := lay_sum (sby z) (sby_len z) n h1 h2 w2
  generalize u8s (sby z) = U at *
  have hle2 : NB w W6 W4.heap.size n := hle.base (Nat.le_trans (unhide H1).1.size hF2.size)
  have HB := hide (And.intro hth (And.intro hi (And.intro hone (And.intro hW4 (And.intro hcp (And.intro hbt (And.intro (((unhide H1).1.trans hF2 (fun _ _ h => h)).trans hF6 (fun _ _ h => h)) hle2)))))))
  clear hth hi hone hW4 hbt hF6 hle hle2 hF2
  go_wp2_with (refine wpList_store_to rfl 123 (.tmp 5) (.tmp 17) rfl w2.heap.size 0 U rfl rfl (unhide HB).1 (unhide HB).2.1 (unhide HB).2.2.1 W4 (unhide HB).2.2.2.1 ?_)
  go_ret
  exact ⟨_, rfl, by rw [unhide HZ]; exact (unhide HB).2.2.2.2.2.1, (unhide HB).2.2.2.2.2.2.1, (unhide HB).2.2.2.2.2.2.2⟩
end Go.Proofs.YthccbfgjekdiiaaDoor
