import Derived.Test.YthccbfgjekdiiaaDoorSbh
namespace Go.Proofs.YthccbfgjekdiiaaDoor
open Go.RowKit

theorem zero_b32 (w : World) : (zeroValue 123).run Tryd.prog w = .ok (.agg (Array.replicate 32 (.int .u8 0))) w := by kernel_rfl
theorem info_b32 : (Tryd.prog.info? 123).map (·.size) = some 32 := by kernel_rfl
theorem info_st' : (Tryd.prog.info? 88).map (·.size) = some 8 := by kernel_rfl
/-- The words as bytes, the highest first. -/
def sbf (s : S8) (j : Nat) : Nat := s.vals.getD (j / 4) 0 / 2 ^ (24 - 8 * (j % 4)) % 256
def sby (s : S8) : List Nat := (List.range 32).map (sbf s)
/-- Bytes in a block, to be written. -/
def BtAt (w : World) (g n : Nat) (f : Nat → Nat) : Prop := ∀ j, j < n → w.cell? ⟨g, j, none⟩ = some (.int .u8 (f j : Nat)) ∧ w.frozen? ⟨g, j, none⟩ = false
theorem BtAt.congr {w : World} {b n : Nat} {f f' : Nat → Nat} (h : BtAt w b n f) (e : ∀ j, j < n → f j = f' j) : BtAt w b n f' := fun j hj => by rw [← e j hj]; exact h j hj
theorem BtAt.put {w : World} {b n : Nat} {f : Nat → Nat} (h : BtAt w b n f) (k v : Nat) : BtAt (w.setCell ⟨b, k, none⟩ (.int .u8 (v : Int))) b n (fun j => if j = k then v else f j) := by
  intro j hj
  refine ⟨?_, ?_⟩
  · by_cases e : j = k
    · subst e
      rw [World.cell?_setCell_same _ _ _ (h j hj).1]; simp
    · rw [World.cell?_setCell_other _ _ _ _ (by intro h; injection h with _ h2 _; exact e h2.symm), (h j hj).1]; simp [e]
  · rw [World.frozen?_setCell]; exact (h j hj).2
theorem BtAt.fr {w w' : World} {b n : Nat} {f : Nat → Nat} {S : Nat → Prop} (h : BtAt w b n f) (hf : Fr S w w') (hS : ¬ S b) : BtAt w' b n f := fun j hj => by
  have hb := lt_of_cell (h j hj).1
  exact ⟨(hf.cell (p := ⟨b, j, none⟩) hb hS).trans (h j hj).1, (hf.frozen (p := ⟨b, j, none⟩) hb hS).trans (h j hj).2⟩
theorem put4 {w : World} {g n : Nat} {s : S8} (h : BtAt w g 32 (fun j => if j < 4 * n then sbf s j else 0)) :
    BtAt ((((w.setCell ⟨g, 4 * n, none⟩ (.int .u8 ((sbf s (4 * n) : Nat) : Int))).setCell ⟨g, 4 * n + 1, none⟩ (.int .u8 ((sbf s (4 * n + 1) : Nat) : Int))).setCell ⟨g, 4 * n + 2, none⟩ (.int .u8 ((sbf s (4 * n + 2) : Nat) : Int))).setCell ⟨g, 4 * n + 3, none⟩ (.int .u8 ((sbf s (4 * n + 3) : Nat) : Int))) g 32 (fun j => if j < 4 * (n + 1) then sbf s j else 0) := by
  refine ((((h.put _ _).put _ _).put _ _).put _ _).congr (fun j _ => ?_)
  by_cases e3 : j = 4 * n + 3
  · subst e3; simp [show 4 * n + 3 < 4 * (n + 1) by omega]
  · by_cases e2 : j = 4 * n + 2
    · subst e2; simp [show 4 * n + 2 < 4 * (n + 1) by omega]
    · by_cases e1 : j = 4 * n + 1
      · subst e1; simp [show 4 * n + 1 < 4 * (n + 1) by omega]
      · by_cases e0 : j = 4 * n
        · subst e0; simp [show 4 * n < 4 * (n + 1) by omega]
        · simp only [e3, e2, e1, e0, if_false]
          by_cases hj : j < 4 * n
          · rw [if_pos hj, if_pos (by omega)]
          · rw [if_neg hj, if_neg (by omega)]
theorem sbf_at (s : S8) (n i v : Nat) (hi : i < 4) (hv : s.vals.getD n 0 = v) : sbf s (4 * n + i) = v / 2 ^ (24 - 8 * i) % 256 := by
  rw [sbf, show (4 * n + i) / 4 = n by omega, show (4 * n + i) % 4 = i by omega, hv]
/-- The way out with an array of bytes: what is loaded, what is stored, what lies there then. -/
theorem arr8_end {wq : World} {g g1 N : Nat} {f f1 : Nat → Nat} {l : List Nat} (h : BtAt wq g N f) (h1 : BtAt wq g1 N f1) (hl : l.length = N) (e : ∀ j, j < N → f j = l.getD j 0) :
    ∃ cs : List Value, u8s l = cs.toArray ∧ cs.length = N ∧ wq.rangeAt g 0 cs ∧ wq.there g1 0 cs.toArray.size ∧ cs.toArray.all (·.oneCell') = true ∧ (wq.setCells g1 0 cs).rangeAt g1 0 cs := by
  have hth : wq.there g1 0 (V8 l).length := fun j hj => by
    rw [V8_len] at hj
    rw [Nat.zero_add]
    exact ⟨by rw [(h1 j (by omega)).1]; rfl, (h1 j (by omega)).2⟩
  refine ⟨V8 l, u8s_V l, by rw [V8_len, hl], fun j v hv => ?_, by rw [List.size_toArray]; exact hth, all_oneCell_toArray (V8_one l), World.rangeAt_setCells_same wq g1 0 _ hth⟩
  obtain ⟨hj, rfl⟩ := V8_at l j v hv
  rw [Nat.zero_add, (h j (by omega)).1, e j (by omega)]
theorem n8 (n : Nat) (h : n < 8) : n = 0 ∨ n = 1 ∨ n = 2 ∨ n = 3 ∨ n = 4 ∨ n = 5 ∨ n = 6 ∨ n = 7 := by omega
theorem index_st0 (s0 s1 s2 s3 s4 s5 s6 s7 : Nat) (w : World) : (Instr.index 88 (.agg #[.int .u32 (s0 : Int), .int .u32 (s1 : Int), .int .u32 (s2 : Int), .int .u32 (s3 : Int), .int .u32 (s4 : Int), .int .u32 (s5 : Int), .int .u32 (s6 : Int), .int .u32 (s7 : Int)]) (.int .i64 ((0 : Nat) : Int))).run Tryd.prog w = .ok (.int .u32 (s0 : Int)) w := by kernel_rfl
theorem index_st1 (s0 s1 s2 s3 s4 s5 s6 s7 : Nat) (w : World) : (Instr.index 88 (.agg #[.int .u32 (s0 : Int), .int .u32 (s1 : Int), .int .u32 (s2 : Int), .int .u32 (s3 : Int), .int .u32 (s4 : Int), .int .u32 (s5 : Int), .int .u32 (s6 : Int), .int .u32 (s7 : Int)]) (.int .i64 ((1 : Nat) : Int))).run Tryd.prog w = .ok (.int .u32 (s1 : Int)) w := by kernel_rfl
theorem index_st2 (s0 s1 s2 s3 s4 s5 s6 s7 : Nat) (w : World) : (Instr.index 88 (.agg #[.int .u32 (s0 : Int), .int .u32 (s1 : Int), .int .u32 (s2 : Int), .int .u32 (s3 : Int), .int .u32 (s4 : Int), .int .u32 (s5 : Int), .int .u32 (s6 : Int), .int .u32 (s7 : Int)]) (.int .i64 ((2 : Nat) : Int))).run Tryd.prog w = .ok (.int .u32 (s2 : Int)) w := by kernel_rfl
theorem index_st3 (s0 s1 s2 s3 s4 s5 s6 s7 : Nat) (w : World) : (Instr.index 88 (.agg #[.int .u32 (s0 : Int), .int .u32 (s1 : Int), .int .u32 (s2 : Int), .int .u32 (s3 : Int), .int .u32 (s4 : Int), .int .u32 (s5 : Int), .int .u32 (s6 : Int), .int .u32 (s7 : Int)]) (.int .i64 ((3 : Nat) : Int))).run Tryd.prog w = .ok (.int .u32 (s3 : Int)) w := by kernel_rfl
theorem index_st4 (s0 s1 s2 s3 s4 s5 s6 s7 : Nat) (w : World) : (Instr.index 88 (.agg #[.int .u32 (s0 : Int), .int .u32 (s1 : Int), .int .u32 (s2 : Int), .int .u32 (s3 : Int), .int .u32 (s4 : Int), .int .u32 (s5 : Int), .int .u32 (s6 : Int), .int .u32 (s7 : Int)]) (.int .i64 ((4 : Nat) : Int))).run Tryd.prog w = .ok (.int .u32 (s4 : Int)) w := by kernel_rfl
theorem index_st5 (s0 s1 s2 s3 s4 s5 s6 s7 : Nat) (w : World) : (Instr.index 88 (.agg #[.int .u32 (s0 : Int), .int .u32 (s1 : Int), .int .u32 (s2 : Int), .int .u32 (s3 : Int), .int .u32 (s4 : Int), .int .u32 (s5 : Int), .int .u32 (s6 : Int), .int .u32 (s7 : Int)]) (.int .i64 ((5 : Nat) : Int))).run Tryd.prog w = .ok (.int .u32 (s5 : Int)) w := by kernel_rfl
theorem index_st6 (s0 s1 s2 s3 s4 s5 s6 s7 : Nat) (w : World) : (Instr.index 88 (.agg #[.int .u32 (s0 : Int), .int .u32 (s1 : Int), .int .u32 (s2 : Int), .int .u32 (s3 : Int), .int .u32 (s4 : Int), .int .u32 (s5 : Int), .int .u32 (s6 : Int), .int .u32 (s7 : Int)]) (.int .i64 ((6 : Nat) : Int))).run Tryd.prog w = .ok (.int .u32 (s6 : Int)) w := by kernel_rfl
theorem index_st7 (s0 s1 s2 s3 s4 s5 s6 s7 : Nat) (w : World) : (Instr.index 88 (.agg #[.int .u32 (s0 : Int), .int .u32 (s1 : Int), .int .u32 (s2 : Int), .int .u32 (s3 : Int), .int .u32 (s4 : Int), .int .u32 (s5 : Int), .int .u32 (s6 : Int), .int .u32 (s7 : Int)]) (.int .i64 ((7 : Nat) : Int))).run Tryd.prog w = .ok (.int .u32 (s7 : Int)) w := by kernel_rfl
theorem index_st (s0 s1 s2 s3 s4 s5 s6 s7 n v : Nat) (hn : n < 8) (hv : (S8.vals ⟨s0, s1, s2, s3, s4, s5, s6, s7⟩).getD n 0 = v) (w : World) : (Instr.index 88 (.agg #[.int .u32 (s0 : Int), .int .u32 (s1 : Int), .int .u32 (s2 : Int), .int .u32 (s3 : Int), .int .u32 (s4 : Int), .int .u32 (s5 : Int), .int .u32 (s6 : Int), .int .u32 (s7 : Int)]) (.int .i64 (n : Int))).run Tryd.prog w = .ok (.int .u32 (v : Int)) w := by
  subst hv
  rcases n8 n hn with rfl | rfl | rfl | rfl | rfl | rfl | rfl | rfl
  · exact index_st0 s0 s1 s2 s3 s4 s5 s6 s7 w
  · exact index_st1 s0 s1 s2 s3 s4 s5 s6 s7 w
  · exact index_st2 s0 s1 s2 s3 s4 s5 s6 s7 w
  · exact index_st3 s0 s1 s2 s3 s4 s5 s6 s7 w
  · exact index_st4 s0 s1 s2 s3 s4 s5 s6 s7 w
  · exact index_st5 s0 s1 s2 s3 s4 s5 s6 s7 w
  · exact index_st6 s0 s1 s2 s3 s4 s5 s6 s7 w
  · exact index_st7 s0 s1 s2 s3 s4 s5 s6 s7 w
set_option maxRecDepth 100000 in
set_option maxHeartbeats 4000000 in
theorem bytes_any (s : S8) (w : World) (hs : s.ok) :
    Calls Tryd.prog 85 #[.agg #[.int .u32 s.a, .int .u32 s.b, .int .u32 s.c, .int .u32 s.d, .int .u32 s.e, .int .u32 s.f, .int .u32 s.g, .int .u32 s.h]] w fun e w' => e = .returned (.agg (u8s (sby s))) ∧ Fr (fun _ => False) w w' := by
  have hz1 := zero_b32
  obtain ⟨s0, s1, s2, s3, s4, s5, s6, s7⟩ := s
  simp only
  have HS := hide hs
  clear hs
  go_enter Tryd.func85, Tryd.ntmps85
  go_wp2_with fail
  go_loopw [7] (fun i wr => ∃ n : Nat, n ≤ 8 ∧ i = .int .i64 n ∧ BtAt wr (w.heap.size + 1 + 1) 32 (fun j => if j < 4 * n then sbf ⟨s0, s1, s2, s3, s4, s5, s6, s7⟩ j else 0) ∧ BtAt wr (w.heap.size + 1) 32 (fun _ => 0) ∧ Fr (fun _ => False) w wr) (fun i _ => 8 - (intOf i).toNat)
  case atStart =>
    refine ⟨0, Nat.zero_le _, rfl, ?_, ?_, (((Fr.refl _ _).alloc _).alloc _).alloc _⟩
    · intro j hj
      have e : w.heap.size + 1 + 1 = ((w.alloc (.cells #[.int .u32 (s0 : Int), .int .u32 (s1 : Int), .int .u32 (s2 : Int), .int .u32 (s3 : Int), .int .u32 (s4 : Int), .int .u32 (s5 : Int), .int .u32 (s6 : Int), .int .u32 (s7 : Int)] 88)).alloc (.cells (Array.replicate 32 (.int .u8 0)) 123)).heap.size := by simp
      rw [e, World.cell?_alloc_at _ _ _ _ rfl, World.frozen?_alloc_at _ _ _ _ rfl, Array.getElem?_replicate, if_pos hj]
      exact ⟨rfl, rfl⟩
    · intro j hj
      have e : w.heap.size + 1 = (w.alloc (.cells #[.int .u32 (s0 : Int), .int .u32 (s1 : Int), .int .u32 (s2 : Int), .int .u32 (s3 : Int), .int .u32 (s4 : Int), .int .u32 (s5 : Int), .int .u32 (s6 : Int), .int .u32 (s7 : Int)] 88)).heap.size := by simp
      rw [World.cell?_alloc_past _ _ _ (by simp), World.frozen?_alloc_past _ _ _ (by simp), e, World.cell?_alloc_at _ _ _ _ rfl, World.frozen?_alloc_at _ _ _ _ rfl, Array.getElem?_replicate, if_pos hj]
      exact ⟨rfl, rfl⟩
  case round =>
    obtain ⟨n, hn, rfl, hB, hR, hF⟩ := hrel
    rename World => wr
    by_cases hlt : n < 8
    · obtain ⟨v, hv⟩ : ∃ v, (S8.vals ⟨s0, s1, s2, s3, s4, s5, s6, s7⟩).getD n 0 = v := ⟨_, rfl⟩
      have hvl : v < 4294967296 := by
        obtain ⟨h1, h2, h3, h4, h5, h6, h7, h8⟩ := unhide HS
        simp only at h1 h2 h3 h4 h5 h6 h7 h8
        rcases n8 n hlt with rfl | rfl | rfl | rfl | rfl | rfl | rfl | rfl <;> simp [S8.vals] at hv <;> omega
      have hP := put4 (n := n) hB
      have hFP : Fr (fun _ => False) w ((((wr.setCell ⟨w.heap.size + 1 + 1, 4 * n, none⟩ (.int .u8 ((sbf ⟨s0, s1, s2, s3, s4, s5, s6, s7⟩ (4 * n) : Nat) : Int))).setCell ⟨w.heap.size + 1 + 1, 4 * n + 1, none⟩ (.int .u8 ((sbf ⟨s0, s1, s2, s3, s4, s5, s6, s7⟩ (4 * n + 1) : Nat) : Int))).setCell ⟨w.heap.size + 1 + 1, 4 * n + 2, none⟩ (.int .u8 ((sbf ⟨s0, s1, s2, s3, s4, s5, s6, s7⟩ (4 * n + 2) : Nat) : Int))).setCell ⟨w.heap.size + 1 + 1, 4 * n + 3, none⟩ (.int .u8 ((sbf ⟨s0, s1, s2, s3, s4, s5, s6, s7⟩ (4 * n + 3) : Nat) : Int))) :=
        (((hF.setCell (p := ⟨w.heap.size + 1 + 1, 4 * n, none⟩) (.inr (by simp only; omega)) _).setCell (p := ⟨w.heap.size + 1 + 1, 4 * n + 1, none⟩) (.inr (by simp only; omega)) _).setCell (p := ⟨w.heap.size + 1 + 1, 4 * n + 2, none⟩) (.inr (by simp only; omega)) _).setCell (p := ⟨w.heap.size + 1 + 1, 4 * n + 3, none⟩) (.inr (by simp only; omega)) _
      have hRP : BtAt ((((wr.setCell ⟨w.heap.size + 1 + 1, 4 * n, none⟩ (.int .u8 ((sbf ⟨s0, s1, s2, s3, s4, s5, s6, s7⟩ (4 * n) : Nat) : Int))).setCell ⟨w.heap.size + 1 + 1, 4 * n + 1, none⟩ (.int .u8 ((sbf ⟨s0, s1, s2, s3, s4, s5, s6, s7⟩ (4 * n + 1) : Nat) : Int))).setCell ⟨w.heap.size + 1 + 1, 4 * n + 2, none⟩ (.int .u8 ((sbf ⟨s0, s1, s2, s3, s4, s5, s6, s7⟩ (4 * n + 2) : Nat) : Int))).setCell ⟨w.heap.size + 1 + 1, 4 * n + 3, none⟩ (.int .u8 ((sbf ⟨s0, s1, s2, s3, s4, s5, s6, s7⟩ (4 * n + 3) : Nat) : Int))) (w.heap.size + 1) 32 (fun _ => 0) :=
        hR.fr (S := fun k => k = w.heap.size + 1 + 1) (((((Fr.refl (fun k => k = w.heap.size + 1 + 1) wr).setCell (S := fun k => k = w.heap.size + 1 + 1) (p := ⟨w.heap.size + 1 + 1, 4 * n, none⟩) (.inl rfl) _).setCell (S := fun k => k = w.heap.size + 1 + 1) (p := ⟨w.heap.size + 1 + 1, 4 * n + 1, none⟩) (.inl rfl) _).setCell (S := fun k => k = w.heap.size + 1 + 1) (p := ⟨w.heap.size + 1 + 1, 4 * n + 2, none⟩) (.inl rfl) _).setCell (S := fun k => k = w.heap.size + 1 + 1) (p := ⟨w.heap.size + 1 + 1, 4 * n + 3, none⟩) (.inl rfl) _) (by omega)
      have c0 : wr.cell? ⟨w.heap.size + 1 + 1, 4 * n, none⟩ = some (.int .u8 0) := by
        have h := (hB (4 * n) (by omega)).1
        simp only at h
        rw [if_neg (by omega)] at h
        exact h
      have z0 := (hB (4 * n) (by omega)).2
      have y0 : sbf ⟨s0, s1, s2, s3, s4, s5, s6, s7⟩ (4 * n) = v / 16777216 % 256 := sbf_at _ n 0 v (by decide) hv
      have c1 : wr.cell? ⟨w.heap.size + 1 + 1, 4 * n + 1, none⟩ = some (.int .u8 0) := by
        have h := (hB (4 * n + 1) (by omega)).1
        simp only at h
        rw [if_neg (by omega)] at h
        exact h
      have z1 := (hB (4 * n + 1) (by omega)).2
      have y1 : sbf ⟨s0, s1, s2, s3, s4, s5, s6, s7⟩ (4 * n + 1) = v / 65536 % 256 := sbf_at _ n 1 v (by decide) hv
      have c2 : wr.cell? ⟨w.heap.size + 1 + 1, 4 * n + 2, none⟩ = some (.int .u8 0) := by
        have h := (hB (4 * n + 2) (by omega)).1
        simp only at h
        rw [if_neg (by omega)] at h
        exact h
      have z2 := (hB (4 * n + 2) (by omega)).2
      have y2 : sbf ⟨s0, s1, s2, s3, s4, s5, s6, s7⟩ (4 * n + 2) = v / 256 % 256 := sbf_at _ n 2 v (by decide) hv
      have c3 : wr.cell? ⟨w.heap.size + 1 + 1, 4 * n + 3, none⟩ = some (.int .u8 0) := by
        have h := (hB (4 * n + 3) (by omega)).1
        simp only at h
        rw [if_neg (by omega)] at h
        exact h
      have z3 := (hB (4 * n + 3) (by omega)).2
      have y3 : sbf ⟨s0, s1, s2, s3, s4, s5, s6, s7⟩ (4 * n + 3) = v / 1 % 256 := sbf_at _ n 3 v (by decide) hv
      rw [y0, y1, y2, y3] at hP hFP hRP
      have HP := hide (And.intro hP (And.intro hFP hRP))
      clear hP hFP hRP hB hR hF y0 y1 y2 y3
      have p0 : (v : Int) / 16777216 = ((v / 16777216 % 256 : Nat) : Int) := by omega
      have p1 : (v : Int) / 65536 % 256 = ((v / 65536 % 256 : Nat) : Int) := by omega
      have p2 : (v : Int) / 256 % 256 = ((v / 256 % 256 : Nat) : Int) := by omega
      have p3 : (v : Int) % 256 = ((v / 1 % 256 : Nat) : Int) := by omega
      generalize v / 16777216 % 256 = b0 at *
      generalize v / 65536 % 256 = b1 at *
      generalize v / 256 % 256 = b2 at *
      generalize v / 1 % 256 = b3 at *
      have hix := index_st s0 s1 s2 s3 s4 s5 s6 s7 n v hlt hv wr
      clear hv
      have i1 : (n : Int) < 8 := by omega
      have j0 : (0 : Int) ≤ 4 * (n : Int) := by omega
      have m0 : 4 * (n : Int) < 32 := by omega
      have n0 : (4 * (n : Int)).toNat = 4 * n := by omega
      have r0 : IntKind.i64.wrap (4 * (n : Int)) = 4 * (n : Int) := by rw [IntKind.wrap_i64]; omega
      have j1 : (0 : Int) ≤ 4 * (n : Int) + 1 := by omega
      have m1 : 4 * (n : Int) + 1 < 32 := by omega
      have n1 : (4 * (n : Int) + 1).toNat = 4 * n + 1 := by omega
      have r1 : IntKind.i64.wrap (4 * (n : Int) + 1) = 4 * (n : Int) + 1 := by rw [IntKind.wrap_i64]; omega
      have j2 : (0 : Int) ≤ 4 * (n : Int) + 2 := by omega
      have m2 : 4 * (n : Int) + 2 < 32 := by omega
      have n2 : (4 * (n : Int) + 2).toNat = 4 * n + 2 := by omega
      have r2 : IntKind.i64.wrap (4 * (n : Int) + 2) = 4 * (n : Int) + 2 := by rw [IntKind.wrap_i64]; omega
      have j3 : (0 : Int) ≤ 4 * (n : Int) + 3 := by omega
      have m3 : 4 * (n : Int) + 3 < 32 := by omega
      have n3 : (4 * (n : Int) + 3).toNat = 4 * n + 3 := by omega
      have r3 : IntKind.i64.wrap (4 * (n : Int) + 3) = 4 * (n : Int) + 3 := by rw [IntKind.wrap_i64]; omega
      go_wp2_with fail
      exact ⟨⟨n + 1, by omega, by go_num, (unhide HP).1, (unhide HP).2.2, (unhide HP).2.1⟩, by simp [intOf]; omega⟩
    · obtain rfl : n = 8 := by omega
      obtain ⟨cs, hcs, hlen, hrg, hth, hone, hend⟩ := arr8_end (l := sby ⟨s0, s1, s2, s3, s4, s5, s6, s7⟩) hB hR (by simp [sby]) (fun j hj => by
        simp only [show j < 4 * 8 from hj, if_true]
        rw [sby, List.getD, List.getElem?_map, List.getElem?_range hj]; rfl)
      have hi : (Tryd.prog.info? 123).map (·.size) = some cs.length := by rw [hlen]; exact info_b32
      have hi2 : (Tryd.prog.info? 123).map (·.size) = some cs.toArray.size := by rw [List.size_toArray, hlen]; exact info_b32
      have HE := hide (And.intro hend (And.intro hF (And.intro hcs (And.intro hi (And.intro hi2 (And.intro hrg (And.intro hth hone)))))))
      clear hend hF hcs hlen hi hi2 hrg hth hone hB hR
      go_wp2_with (first
        | (refine wpList_load_mid rfl 123 (.tmp 3) rfl (w.heap.size + 1 + 1) 0 rfl cs _ (unhide HE).2.2.2.2.2.1 Tryd.underlying123 rfl (unhide HE).2.2.2.1 ?_)
        | (refine wpList_store_mid rfl 123 (.tmp 2) (.tmp 38) rfl (w.heap.size + 1) 0 cs.toArray rfl rfl (unhide HE).2.2.2.2.2.2.1 (unhide HE).2.2.2.2.1 (unhide HE).2.2.2.2.2.2.2 ?_))
      refine bodyPost_ret (results_cell_mid rfl _ _ (w.heap.size + 1) 0 cs _ rfl (unhide HE).1 Tryd.underlying123 rfl (unhide HE).2.2.2.1) rfl ?_
      exact ⟨by rw [(unhide HE).2.2.1], Fr.setCells (unhide HE).2.1 (.inr (by omega)) _⟩
end Go.Proofs.YthccbfgjekdiiaaDoor
