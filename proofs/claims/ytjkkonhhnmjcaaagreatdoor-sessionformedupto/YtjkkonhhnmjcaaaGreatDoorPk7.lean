import Derived.Test.YtjkkonhhnmjcaaaGreatDoorPk6
import Derived.ScopeJumps
import Derived.Laws.StructEq
import Derived.Test.YtjkkonhhnmjcaaaGreatDoorPk5
import Derived.Test.YtjkkonhhnmjcaaaGreatDoorCards
import Derived.Test.YtjkkonhhnmjcaaaGreatDoorTie
import Derived.WalkKit
import Derived.ProofKit
import Derived.OpenShut
import Derived.LaidLaws
import Derived.SizedLaws
import Derived.JoinedCond
import Derived.Deep.Slices
import Derived.Deep.DeepHandedRow
import Derived.Deep.DeepWitnessRowRef
namespace Go.Proofs.YtjkkonhhnmjcaaaGreatDoor
open Go.RowKit Go.Maps

/-- What of a message Take looks at. -/
structure MsX (xs : List Value) (ki icl inu co : Nat) (a : AN) : Prop where
  k : xs[0]? = some (.int .u8 (ki : Nat))
  i1 : xs[11]? = some (.int .u32 (icl : Nat))
  i2 : xs[12]? = some (.int .u32 (inu : Nat))
  an : ∀ j v, a.cs[j]? = some v → xs[13 + j]? = some v
  c : xs[20]? = some (.int .u8 (co : Nat))
set_option maxRecDepth 100000 in
theorem stake_ans (d : Nat) (xs : List Value) (icl inu co : Nat) (a : AN) (hm : MsX xs 3 icl inu co a) (w : World) (R : Int → World → Prop)
    (hC : Calls Tryz.prog 20 #[.pointer (some ⟨d, 0, none⟩), .agg a.cs.toArray] (w.alloc (.cells xs.toArray 51)) fun e w' => ∃ r, e = .returned (.int .i64 r) ∧ R r w') :
    Calls Tryz.prog 11 #[.pointer (some ⟨d, 0, none⟩), .agg xs.toArray] w fun e w' => ∃ r, e = .returned (.int .i64 r) ∧ R r w' := by
  have hb := heap_alloc_new w (.cells xs.toArray 51)
  have c0 : (w.alloc (.cells xs.toArray 51)).cell? ⟨w.heap.size, 0, none⟩ = some (.int .u8 3) := cell_of_blkS hb (by simpa using hm.k)
  have HR : Hid ((w.alloc (.cells xs.toArray 51)).rangeAt w.heap.size 13 a.cs) := hide (fun j v hv => cell_of_blkS hb (by simpa using hm.an j v hv))
  have HC := hide hC
  clear hb hC hm
  go_enter Tryz.func11, Tryz.ntmps11
  go_wp2_with (refine wpList_load_mid rfl 47 (.tmp 10) rfl w.heap.size 13 rfl _ _ (unhide HR) Tryz.underlying47 rfl Tryz.sizeAn ?_)
  refine (unhide HC).mono ?_
  rintro e w1 ⟨r, rfl, hR⟩
  go_wp2_with fail
  go_ret
  exact ⟨r, rfl, hR⟩
set_option maxRecDepth 100000 in
theorem stake_busy (d : Nat) (xs : List Value) (icl inu co : Nat) (a : AN) (hm : MsX xs 4 icl inu co a) (hco : co < 256) (w : World) (R : Int → World → Prop)
    (hC : Calls Tryz.prog 21 #[.pointer (some ⟨d, 0, none⟩), .agg #[.int .u32 (icl : Nat), .int .u32 (inu : Nat)], .int .i64 (co : Nat)] (w.alloc (.cells xs.toArray 51)) fun e w' => ∃ r, e = .returned (.int .i64 r) ∧ R r w') :
    Calls Tryz.prog 11 #[.pointer (some ⟨d, 0, none⟩), .agg xs.toArray] w fun e w' => ∃ r, e = .returned (.int .i64 r) ∧ R r w' := by
  have hb := heap_alloc_new w (.cells xs.toArray 51)
  have c0 : (w.alloc (.cells xs.toArray 51)).cell? ⟨w.heap.size, 0, none⟩ = some (.int .u8 4) := cell_of_blkS hb (by simpa using hm.k)
  have c1 : (w.alloc (.cells xs.toArray 51)).cell? ⟨w.heap.size, 11, none⟩ = some (.int .u32 (icl : Nat)) := cell_of_blkS hb (by simpa using hm.i1)
  have c2 : (w.alloc (.cells xs.toArray 51)).cell? ⟨w.heap.size, 12, none⟩ = some (.int .u32 (inu : Nat)) := cell_of_blkS hb (by simpa using hm.i2)
  have c3 : (w.alloc (.cells xs.toArray 51)).cell? ⟨w.heap.size, 20, none⟩ = some (.int .u8 (co : Nat)) := cell_of_blkS hb (by simpa using hm.c)
  have HC := hide hC
  have hwr : wrap64 (co : Int) = (co : Int) := by unfold wrap64; omega
  clear hb hC hm
  go_enter Tryz.func11, Tryz.ntmps11
  go_wp2_with fail
  refine (unhide HC).mono ?_
  rintro e w1 ⟨r, rfl, hR⟩
  go_wp2_with fail
  go_ret
  exact ⟨r, rfl, hR⟩
set_option maxRecDepth 100000 in
theorem stake_no (d : Nat) (xs : List Value) (ki icl inu co : Nat) (a : AN) (hm : MsX xs ki icl inu co a) (h3 : ki ≠ 3) (h4 : ki ≠ 4) (w : World) :
    Calls Tryz.prog 11 #[.pointer (some ⟨d, 0, none⟩), .agg xs.toArray] w fun e w' => e = .returned (.int .i64 1) ∧ Fr (fun _ => False) w w' := by
  have hb := heap_alloc_new w (.cells xs.toArray 51)
  have c0 : (w.alloc (.cells xs.toArray 51)).cell? ⟨w.heap.size, 0, none⟩ = some (.int .u8 (ki : Nat)) := cell_of_blkS hb (by simpa using hm.k)
  have e3 : ((ki : Int) == 3) = false := by simp; omega
  have e4 : ((ki : Int) == 4) = false := by simp; omega
  have e5 : ¬ (ki : Int) = 3 := by omega
  have e6 : ¬ (ki : Int) = 4 := by omega
  clear hb hm h3 h4
  go_enter Tryz.func11, Tryz.ntmps11
  go_wp2_with fail
  go_ret
  exact ⟨rfl, box1S w _⟩
end Go.Proofs.YtjkkonhhnmjcaaaGreatDoor

namespace Go.Proofs.YtjkkonhhnmjcaaaGreatDoor
open Go.RowKit Go.Maps

end Go.Proofs.YtjkkonhhnmjcaaaGreatDoor

namespace Go.Proofs.YtjkkonhhnmjcaaaGreatDoor
open Go.RowKit Go.Maps

theorem rd_fds {w : World} {x : Value} {F : List F5} (h : Rd w x F.length 5 (fcells F)) : Fds w x F := by
  obtain ⟨xo, c, rfl, h1, h2, h3⟩ := h.f
  cases F with
  | nil => exact .inl ⟨xo, c, rfl, rfl⟩
  | cons f r =>
    obtain ⟨e0, _⟩ := fcells_at (f :: r) 0 (by simp)
    obtain ⟨g, o, rfl, _⟩ := h3 _ _ e0
    refine .inr ⟨g, o, c, rfl, fun j hj => ?_⟩
    obtain ⟨d0, d1, d2, d3, d4⟩ := fcells_at (f :: r) j hj
    have k : ∀ i u, (fcells (f :: r))[i]? = some u → w.cell? ⟨g, o + i, none⟩ = some u := fun i u hu => by
      obtain ⟨g', o', e, hc⟩ := h3 i u hu
      cases e
      exact hc
    exact ⟨k _ _ d0, by rw [Nat.add_assoc]; exact k _ _ d1, by rw [Nat.add_assoc]; exact k _ _ d2, by rw [Nat.add_assoc]; exact k _ _ d3, by rw [Nat.add_assoc]; exact k _ _ d4⟩
/-- A request more. -/
theorem SsAt.call {w w' : World} {d mw ma c : Nat} {cs : List SC} {dn : List Nat} {dv : Value} {T : Nat → Prop} (h : SsAt w d mw ma c cs dn dv T) (q : SC) (hd : q.d = none) (hl : cs.length < 4096) (hid : q.r.cl = c ∧ q.r.nu = cs.length + 1) (hFl : q.F.length ≤ 1048576)
    (hf : Fr (fun g => g = mw) w w') (hm : MpR w' mw c (nW cs + 1) (fun j => if j = cs.length + 1 then some q.v else fW cs j)) (hF : w'.ownsRow w.heap.size 70 5 q.r.fv q.F.length (fcells q.F)) :
    SsAt w' d mw ma c (cs ++ [q]) dn dv (fun g => T g ∨ Nb w w' g) := by
  have hn := nA_put cs q hd
  have hdm := h.dm
  have hL : ∀ {e z n : Nat} {v : Value} {xs : List Value}, e ≠ 59 → LsT w T e z v n xs → LsT w' (fun g => T g ∨ Nb w w' g) e z v n xs := fun he hl =>
    ⟨ownsRow_of_blockS hl.o (fun g hg => hf.block g (hl.o.lt g hg).2 (fun e => (hl.ne h he hg).2.1 e)), fun g hg => .inl (hl.t g hg), hl.l⟩
  refine ⟨h.c16, by simp; omega, (hf.block d (h.lt d h.own.1) hdm.1).trans h.blk, ?_, ?_, hL (by decide) h.dn, fun x hx => ?_, fun j x hx => ?_, ⟨.inl h.own.1, .inl h.own.2.1, .inl h.own.2.2⟩, h.ap, fun g hg => ?_⟩
  · rw [hn.2, fW_put cs q hd]; exact hm
  · rw [hn.1, fA_put cs q hd]; exact h.am.keep (hf.block ma (h.lt ma h.own.2.2) (fun e => h.ap e.symm))
  · rcases List.mem_append.1 hx with hx | hx
    · exact ⟨fun e => hL (by decide) ((h.qs x hx).wt e), fun y e => ⟨hL (by decide) ((h.qs x hx).an y e).1, hL (by decide) ((h.qs x hx).an y e).2⟩⟩
    · simp at hx
      subst hx
      exact ⟨fun _ => ⟨ownsRow_baseS hF (Nat.zero_le _), fun g hg => .inr (hF.lt g hg), hFl⟩, fun y e => by rw [hd] at e; cases e⟩
  · by_cases e : j < cs.length
    · rw [List.getElem?_append_left e] at hx
      exact h.id j x hx
    · have hjl := (List.getElem?_eq_some_iff.1 hx).1
      simp at hjl
      obtain rfl : j = cs.length := by omega
      rw [List.getElem?_concat_length] at hx
      cases hx
      exact hid
  · rcases hg with hg | hg
    · exact Nat.lt_of_lt_of_le (h.lt g hg) hf.size
    · exact hg.2
end Go.Proofs.YtjkkonhhnmjcaaaGreatDoor

namespace Go.Proofs.YtjkkonhhnmjcaaaGreatDoor
open Go.RowKit Go.Maps

theorem wrap_sum0 (a b n : Nat) (h : a + b = n) (hn : n ≤ 4096) : wrap64 ((a : Int) + (b : Int)) = (n : Int) := by unfold wrap64; omega
theorem wrap_sum (a b n : Nat) (h : a + b = n) (hn : n ≤ 4096) : IntKind.i64.wrap ((a : Int) + (b : Int)) = (n : Int) := (IntWalk.i64_left _).trans (wrap_sum0 a b n h hn)
set_option maxRecDepth 100000 in
set_option maxHeartbeats 4000000 in
theorem scall_bad (d mw ma c : Nat) (cs : List SC) (dn : List Nat) (dv : Value) (T : Nat → Prop) (w : World) (h : SsAt w d mw ma c cs dn dv T) (r : RQ) (F : List F5) (hx : Rd w r.fv F.length 5 (fcells F)) (hl : F.length ≤ 1048576) (hv : ∀ f ∈ F, f.v < 4294967296 ∧ f.u < 256) (hfm : r.frm F = false) :
    Calls Tryz.prog 6 #[.pointer (some ⟨d, 0, none⟩), r.v] w fun e w' => e = .returned (.tuple #[.agg #[.int .u32 0, .int .u32 0], .int .i64 1]) ∧ Fr (fun _ => False) w w' := by
  have HFM : Hid (∀ W', Fr (fun _ => False) w W' → Calls Tryz.prog 8 #[r.v] W' fun e w' => e = .returned (.bool false) ∧ Fr (fun _ => False) W' w') := hide (fun W' hf => by
    have := formed_any r F W' (rd_fds (hx.fr0 hf)) (by omega) hv
    rw [hfm] at this
    exact this)
  have HX := hide (And.intro h hx)
  have hld := h.lt d h.own.1
  obtain ⟨cl, nu, ac, op, rc, ve, wa, ow, fv, rs⟩ := r
  have HFV : Hid (fv.oneCell' = true) := hide hx.oneX
  simp only [RQ.v] at HFM ⊢
  clear h hx hfm hv
  go_enter Tryz.func6, Tryz.ntmps6
  go_wp2_with fail
  obtain ⟨W1, hW1⟩ : ∃ W1, (w.alloc (.cells #[.int .u32 (cl : Nat), .int .u32 (nu : Nat), .int .u32 (ac : Nat), .int .u8 (op : Nat), .int .u32 (rc : Nat), .int .u32 (ve : Nat), .int .u32 (wa : Nat), .int .u32 (ow : Nat), fv, .string rs] 27)).alloc (.cells #[.int .u32 0, .int .u32 0] 24) = W1 := ⟨_, rfl⟩
  have hf1 : Fr (fun _ => False) w W1 := by rw [← hW1]; exact (box1S w _).alloc _
  have hb1 : W1.heap[w.heap.size]? = some (.cells #[.int .u32 (cl : Nat), .int .u32 (nu : Nat), .int .u32 (ac : Nat), .int .u8 (op : Nat), .int .u32 (rc : Nat), .int .u32 (ve : Nat), .int .u32 (wa : Nat), .int .u32 (ow : Nat), fv, .string rs] 27) := by rw [← hW1]; exact (Below.heap_alloc _ _ _ (by simp)).trans (heap_alloc_new w _)
  have hb2 : W1.heap[w.heap.size + 1]? = some (.cells #[.int .u32 0, .int .u32 0] 24) := by
    rw [← hW1]
    have := heap_alloc_new (w.alloc (.cells #[.int .u32 (cl : Nat), .int .u32 (nu : Nat), .int .u32 (ac : Nat), .int .u8 (op : Nat), .int .u32 (rc : Nat), .int .u32 (ve : Nat), .int .u32 (wa : Nat), .int .u32 (ow : Nat), fv, .string rs] 27)) (.cells #[.int .u32 0, .int .u32 0] 24)
    rwa [World.size_alloc] at this
  rw [hW1]
  clear hW1
  refine ((unhide HFM) W1 hf1).mono ?_
  rintro e W2 ⟨rfl, hf2⟩
  have hc1 := (hf2.block _ (lt_of_block hb1) (fun h => h)).trans hb1
  have hc2 := (hf2.block _ (lt_of_block hb2) (fun h => h)).trans hb2
  have hf02 := hf1.trans0 hf2
  have s0 : W2.cell? ⟨w.heap.size + 1, 0, none⟩ = some (.int .u32 0) := cell_of_blkS hc2 rfl
  have s1 : W2.cell? ⟨w.heap.size + 1, 1, none⟩ = some (.int .u32 0) := cell_of_blkS hc2 rfl
  have y0 : W2.frozen? ⟨w.heap.size + 1, 0, none⟩ = false := frz_of_blk hc2
  have y1 : W2.frozen? ⟨w.heap.size + 1, 1, none⟩ = false := frz_of_blk hc2
  have HB := hide (And.intro hc1 (And.intro hc2 hf02))
  clear hf1 hb1 hb2 hf2 hc1 hc2 hf02 HFM
  go_wp2_with fail
  refine bodyPost_ret (results_cellt rfl _ _ (w.heap.size + 1) 0 [.int .u32 0, .int .u32 0] _ _ rfl rfl (range_of_block (t := 24) ?_) Tryz.underlying24 rfl Tryz.sizeId2) rfl ?_
  · have hb := blkset (blkset (unhide HB).2.1 0 (.int .u32 0)) 1 (.int .u32 0)
    simpa using hb
  · exact ⟨rfl, ((unhide HB).2.2.setCell (p := ⟨w.heap.size + 1, 0, none⟩) (.inr (by show w.heap.size ≤ w.heap.size + 1; omega)) _).setCell (p := ⟨w.heap.size + 1, 1, none⟩) (.inr (by show w.heap.size ≤ w.heap.size + 1; omega)) _⟩
set_option maxRecDepth 100000 in
set_option maxHeartbeats 4000000 in
theorem scall_full (d mw ma c : Nat) (cs : List SC) (dn : List Nat) (dv : Value) (T : Nat → Prop) (w : World) (h : SsAt w d mw ma c cs dn dv T) (r : RQ) (F : List F5) (hx : Rd w r.fv F.length 5 (fcells F)) (hl : F.length ≤ 1048576) (hv : ∀ f ∈ F, f.v < 4294967296 ∧ f.u < 256) (hfm : r.frm F = true) (hkl : cs.length = 4096) :
    Calls Tryz.prog 6 #[.pointer (some ⟨d, 0, none⟩), r.v] w fun e w' => e = .returned (.tuple #[.agg #[.int .u32 0, .int .u32 0], .int .i64 2]) ∧ Fr (fun _ => False) w w' := by
  have HFM : Hid (∀ W', Fr (fun _ => False) w W' → Calls Tryz.prog 8 #[r.v] W' fun e w' => e = .returned (.bool true) ∧ Fr (fun _ => False) W' w') := hide (fun W' hf => by
    have := formed_any r F W' (rd_fds (hx.fr0 hf)) (by omega) hv
    rw [hfm] at this
    exact this)
  have HX := hide (And.intro h hx)
  have hld := h.lt d h.own.1
  obtain ⟨cl, nu, ac, op, rc, ve, wa, ow, fv, rs⟩ := r
  have HFV : Hid (fv.oneCell' = true) := hide hx.oneX
  simp only [RQ.v] at HFM ⊢
  clear h hx hfm hv
  go_enter Tryz.func6, Tryz.ntmps6
  go_wp2_with fail
  obtain ⟨W1, hW1⟩ : ∃ W1, (w.alloc (.cells #[.int .u32 (cl : Nat), .int .u32 (nu : Nat), .int .u32 (ac : Nat), .int .u8 (op : Nat), .int .u32 (rc : Nat), .int .u32 (ve : Nat), .int .u32 (wa : Nat), .int .u32 (ow : Nat), fv, .string rs] 27)).alloc (.cells #[.int .u32 0, .int .u32 0] 24) = W1 := ⟨_, rfl⟩
  have hf1 : Fr (fun _ => False) w W1 := by rw [← hW1]; exact (box1S w _).alloc _
  have hb1 : W1.heap[w.heap.size]? = some (.cells #[.int .u32 (cl : Nat), .int .u32 (nu : Nat), .int .u32 (ac : Nat), .int .u8 (op : Nat), .int .u32 (rc : Nat), .int .u32 (ve : Nat), .int .u32 (wa : Nat), .int .u32 (ow : Nat), fv, .string rs] 27) := by rw [← hW1]; exact (Below.heap_alloc _ _ _ (by simp)).trans (heap_alloc_new w _)
  have hb2 : W1.heap[w.heap.size + 1]? = some (.cells #[.int .u32 0, .int .u32 0] 24) := by
    rw [← hW1]
    have := heap_alloc_new (w.alloc (.cells #[.int .u32 (cl : Nat), .int .u32 (nu : Nat), .int .u32 (ac : Nat), .int .u8 (op : Nat), .int .u32 (rc : Nat), .int .u32 (ve : Nat), .int .u32 (wa : Nat), .int .u32 (ow : Nat), fv, .string rs] 27)) (.cells #[.int .u32 0, .int .u32 0] 24)
    rwa [World.size_alloc] at this
  rw [hW1]
  clear hW1
  refine ((unhide HFM) W1 hf1).mono ?_
  rintro e W2 ⟨rfl, hf2⟩
  have hc1 := (hf2.block _ (lt_of_block hb1) (fun h => h)).trans hb1
  have hc2 := (hf2.block _ (lt_of_block hb2) (fun h => h)).trans hb2
  have hf02 := hf1.trans0 hf2
  have s0 : W2.cell? ⟨w.heap.size + 1, 0, none⟩ = some (.int .u32 0) := cell_of_blkS hc2 rfl
  have s1 : W2.cell? ⟨w.heap.size + 1, 1, none⟩ = some (.int .u32 0) := cell_of_blkS hc2 rfl
  have y0 : W2.frozen? ⟨w.heap.size + 1, 0, none⟩ = false := frz_of_blk hc2
  have y1 : W2.frozen? ⟨w.heap.size + 1, 1, none⟩ = false := frz_of_blk hc2
  have HB := hide (And.intro hc1 (And.intro hc2 hf02))
  clear hf1 hb1 hb2 hf2 hc1 hc2 hf02 HFM
  obtain ⟨a, ha⟩ : ∃ a, nW cs = a := ⟨_, rfl⟩
  obtain ⟨b, hb⟩ : ∃ b, nA cs = b := ⟨_, rfl⟩
  obtain ⟨k, hk⟩ : ∃ k, cs.length = k := ⟨_, rfl⟩
  have hab : a + b = k := by rw [← ha, ← hb, ← hk]; exact nWA cs
  have hk4 : k ≤ 4096 := by rw [← hk]; exact (unhide HX).1.len
  have HN := hide (And.intro ha (And.intro hb hk))
  rw [hk] at hkl
  have HW := hide (wrap_sum a b k hab hk4)
  clear hab ha hb hk
  have HS3 : Hid (∀ W', Fr (fun _ => False) w W' → W'.cell? ⟨d, 1, none⟩ = some (.map (some mw)) ∧ W'.cell? ⟨d, 2, none⟩ = some (.map (some ma)) ∧ (Builtin.len_ #[56] 3 #[.map (some mw)]).run Tryz.prog W' = .ok (.int .i64 (a : Nat)) W' ∧ (Builtin.len_ #[57] 3 #[.map (some ma)]).run Tryz.prog W' = .ok (.int .i64 (b : Nat)) W') := hide (fun W' hf => by
    have hh := (unhide HX).1.fr0 hf
    have h1 := hh.wm.len Tryz.underlying56 3
    have h2 := hh.am.len Tryz.underlying57 3
    rw [(unhide HN).1] at h1
    rw [(unhide HN).2.1] at h2
    exact ⟨hh.cells.2.1, hh.cells.2.2.1, h1, h2⟩)
  go_wp2_with fail
  refine wp_region_held_drew (S := (fun W => W.cell? ⟨d, 1, none⟩ = some (.map (some mw)) ∧ W.cell? ⟨d, 2, none⟩ = some (.map (some ma)) ∧ (Builtin.len_ #[56] 3 #[.map (some mw)]).run Tryz.prog W = .ok (.int .i64 (a : Nat)) W ∧ (Builtin.len_ #[57] 3 #[.map (some ma)]).run Tryz.prog W = .ok (.int .i64 (b : Nat)) W)) (by kernel_rfl) ((unhide HS3) _ (unhide HB).2.2.drew) (fun hHeld => ?_)
  refine wtk2S (i := 0) rfl hHeld ?_
  (try simp only [Act.put, nrmS])
  refine wtk2S (i := 1) rfl hHeld ?_
  (try simp only [Act.put, nrmS])
  refine wtk2S (i := 2) rfl hHeld ?_
  (try simp only [Act.put, nrmS])
  refine wtk2S (i := 3) rfl hHeld ?_
  (try simp only [Act.put, nrmS])
  refine wtk2S (i := 4) rfl hHeld ?_
  (try simp only [Act.put, nrmS])
  refine wtk2S (i := 5) rfl hHeld ?_
  (try simp only [Act.put, nrmS])
  refine wtk2S (i := 6) rfl hHeld ?_
  (try simp only [Act.put, nrmS])
  refine wtk2S (i := 7) rfl hHeld ?_
  (try simp only [Act.put, nrmS])
  refine wtk2S (i := 8) rfl hHeld ?_
  (try simp only [Act.put, nrmS])
  refine wtk2S (i := 9) rfl hHeld ?_
  (try simp only [Act.put, nrmS])
  refine wtk2S (i := 10) rfl hHeld ?_
  (try simp only [Act.put, nrmS])
  refine wtk2S (i := 11) rfl hHeld ?_
  (try simp only [Act.put, nrmS])
  refine wpAnyH_done (by kernel_rfl) ?_ _
  have hww := unhide HW
  simp only [hww]
  clear hHeld HS3 hww HW
  subst hkl
  go_wp2_with fail
  refine bodyPost_ret (results_cellt rfl _ _ (w.heap.size + 1) 0 [.int .u32 0, .int .u32 0] _ _ rfl rfl (range_of_block (t := 24) ?_) Tryz.underlying24 rfl Tryz.sizeId2) rfl ?_
  · have hb : ((W2.setCell ⟨w.heap.size + 1, 0, none⟩ (.int .u32 0)).setCell ⟨w.heap.size + 1, 1, none⟩ (.int .u32 0)).heap[w.heap.size + 1]? = some (.cells #[.int .u32 0, .int .u32 0] 24) := by simpa using blkset (blkset (unhide HB).2.1 0 (.int .u32 0)) 1 (.int .u32 0)
    exact hb
  · exact ⟨rfl, (((unhide HB).2.2.setCell (p := ⟨w.heap.size + 1, 0, none⟩) (.inr (by show w.heap.size ≤ w.heap.size + 1; omega)) _).setCell (p := ⟨w.heap.size + 1, 1, none⟩) (.inr (by show w.heap.size ≤ w.heap.size + 1; omega)) _).drew⟩
set_option maxRecDepth 100000 in
set_option maxHeartbeats 4000000 in
theorem scall_ok (d mw ma c : Nat) (cs : List SC) (dn : List Nat) (dv : Value) (T : Nat → Prop) (w : World) (h : SsAt w d mw ma c cs dn dv T) (r : RQ) (F : List F5) (hx : Rd w r.fv F.length 5 (fcells F)) (hl : F.length ≤ 1048576) (hv : ∀ f ∈ F, f.v < 4294967296 ∧ f.u < 256) (hfm : r.frm F = true) (hkl : cs.length < 4096) :
    Calls Tryz.prog 6 #[.pointer (some ⟨d, 0, none⟩), r.v] w fun e w' => e = .returned (.tuple #[.agg #[.int .u32 (c : Nat), .int .u32 ((cs.length : Int) + 1)], .int .i64 0]) ∧ (∃ v, SsAt w' d mw ma c (cs ++ [⟨{ r with cl := c, nu := cs.length + 1, fv := v }, F, 0, 0, none⟩]) dn dv (fun g => T g ∨ Nb w w' g)) ∧ Fr (fun g => g = mw) w w' := by
  have HFM : Hid (∀ W', Fr (fun _ => False) w W' → Calls Tryz.prog 8 #[r.v] W' fun e w' => e = .returned (.bool true) ∧ Fr (fun _ => False) W' w') := hide (fun W' hf => by
    have := formed_any r F W' (rd_fds (hx.fr0 hf)) (by omega) hv
    rw [hfm] at this
    exact this)
  have HX := hide (And.intro h hx)
  have hld := h.lt d h.own.1
  obtain ⟨cl, nu, ac, op, rc, ve, wa, ow, fv, rs⟩ := r
  have HFV : Hid (fv.oneCell' = true) := hide hx.oneX
  simp only [RQ.v] at HFM ⊢
  clear h hx hfm hv
  go_enter Tryz.func6, Tryz.ntmps6
  go_wp2_with fail
  obtain ⟨W1, hW1⟩ : ∃ W1, (w.alloc (.cells #[.int .u32 (cl : Nat), .int .u32 (nu : Nat), .int .u32 (ac : Nat), .int .u8 (op : Nat), .int .u32 (rc : Nat), .int .u32 (ve : Nat), .int .u32 (wa : Nat), .int .u32 (ow : Nat), fv, .string rs] 27)).alloc (.cells #[.int .u32 0, .int .u32 0] 24) = W1 := ⟨_, rfl⟩
  have hf1 : Fr (fun _ => False) w W1 := by rw [← hW1]; exact (box1S w _).alloc _
  have hb1 : W1.heap[w.heap.size]? = some (.cells #[.int .u32 (cl : Nat), .int .u32 (nu : Nat), .int .u32 (ac : Nat), .int .u8 (op : Nat), .int .u32 (rc : Nat), .int .u32 (ve : Nat), .int .u32 (wa : Nat), .int .u32 (ow : Nat), fv, .string rs] 27) := by rw [← hW1]; exact (Below.heap_alloc _ _ _ (by simp)).trans (heap_alloc_new w _)
  have hb2 : W1.heap[w.heap.size + 1]? = some (.cells #[.int .u32 0, .int .u32 0] 24) := by
    rw [← hW1]
    have := heap_alloc_new (w.alloc (.cells #[.int .u32 (cl : Nat), .int .u32 (nu : Nat), .int .u32 (ac : Nat), .int .u8 (op : Nat), .int .u32 (rc : Nat), .int .u32 (ve : Nat), .int .u32 (wa : Nat), .int .u32 (ow : Nat), fv, .string rs] 27)) (.cells #[.int .u32 0, .int .u32 0] 24)
    rwa [World.size_alloc] at this
  rw [hW1]
  clear hW1
  refine ((unhide HFM) W1 hf1).mono ?_
  rintro e W2 ⟨rfl, hf2⟩
  have hc1 := (hf2.block _ (lt_of_block hb1) (fun h => h)).trans hb1
  have hc2 := (hf2.block _ (lt_of_block hb2) (fun h => h)).trans hb2
  have hf02 := hf1.trans0 hf2
  have s0 : W2.cell? ⟨w.heap.size + 1, 0, none⟩ = some (.int .u32 0) := cell_of_blkS hc2 rfl
  have s1 : W2.cell? ⟨w.heap.size + 1, 1, none⟩ = some (.int .u32 0) := cell_of_blkS hc2 rfl
  have y0 : W2.frozen? ⟨w.heap.size + 1, 0, none⟩ = false := frz_of_blk hc2
  have y1 : W2.frozen? ⟨w.heap.size + 1, 1, none⟩ = false := frz_of_blk hc2
  have HB := hide (And.intro hc1 (And.intro hc2 hf02))
  clear hf1 hb1 hb2 hf2 hc1 hc2 hf02 HFM
  obtain ⟨a, ha⟩ : ∃ a, nW cs = a := ⟨_, rfl⟩
  obtain ⟨b, hb⟩ : ∃ b, nA cs = b := ⟨_, rfl⟩
  obtain ⟨k, hk⟩ : ∃ k, cs.length = k := ⟨_, rfl⟩
  have hab : a + b = k := by rw [← ha, ← hb, ← hk]; exact nWA cs
  have hk4 : k ≤ 4096 := by rw [← hk]; exact (unhide HX).1.len
  have HN := hide (And.intro ha (And.intro hb hk))
  rw [hk] at hkl
  have HW := hide (wrap_sum a b k hab hk4)
  clear hab ha hb hk
  have HS3 : Hid (∀ W', Fr (fun _ => False) w W' → W'.cell? ⟨d, 1, none⟩ = some (.map (some mw)) ∧ W'.cell? ⟨d, 2, none⟩ = some (.map (some ma)) ∧ (Builtin.len_ #[56] 3 #[.map (some mw)]).run Tryz.prog W' = .ok (.int .i64 (a : Nat)) W' ∧ (Builtin.len_ #[57] 3 #[.map (some ma)]).run Tryz.prog W' = .ok (.int .i64 (b : Nat)) W') := hide (fun W' hf => by
    have hh := (unhide HX).1.fr0 hf
    have h1 := hh.wm.len Tryz.underlying56 3
    have h2 := hh.am.len Tryz.underlying57 3
    rw [(unhide HN).1] at h1
    rw [(unhide HN).2.1] at h2
    exact ⟨hh.cells.2.1, hh.cells.2.2.1, h1, h2⟩)
  go_wp2_with fail
  refine wp_region_held_drew (S := (fun W => W.cell? ⟨d, 1, none⟩ = some (.map (some mw)) ∧ W.cell? ⟨d, 2, none⟩ = some (.map (some ma)) ∧ (Builtin.len_ #[56] 3 #[.map (some mw)]).run Tryz.prog W = .ok (.int .i64 (a : Nat)) W ∧ (Builtin.len_ #[57] 3 #[.map (some ma)]).run Tryz.prog W = .ok (.int .i64 (b : Nat)) W)) (by kernel_rfl) ((unhide HS3) _ (unhide HB).2.2.drew) (fun hHeld => ?_)
  refine wtk2S (i := 0) rfl hHeld ?_
  (try simp only [Act.put, nrmS])
  refine wtk2S (i := 1) rfl hHeld ?_
  (try simp only [Act.put, nrmS])
  refine wtk2S (i := 2) rfl hHeld ?_
  (try simp only [Act.put, nrmS])
  refine wtk2S (i := 3) rfl hHeld ?_
  (try simp only [Act.put, nrmS])
  refine wtk2S (i := 4) rfl hHeld ?_
  (try simp only [Act.put, nrmS])
  refine wtk2S (i := 5) rfl hHeld ?_
  (try simp only [Act.put, nrmS])
  refine wtk2S (i := 6) rfl hHeld ?_
  (try simp only [Act.put, nrmS])
  refine wtk2S (i := 7) rfl hHeld ?_
  (try simp only [Act.put, nrmS])
  refine wtk2S (i := 8) rfl hHeld ?_
  (try simp only [Act.put, nrmS])
  refine wtk2S (i := 9) rfl hHeld ?_
  (try simp only [Act.put, nrmS])
  refine wtk2S (i := 10) rfl hHeld ?_
  (try simp only [Act.put, nrmS])
  refine wtk2S (i := 11) rfl hHeld ?_
  (try simp only [Act.put, nrmS])
  refine wpAnyH_done (by kernel_rfl) ?_ _
  have hww := unhide HW
  simp only [hww]
  clear hHeld HS3 hww HW
  have hnk : ¬ (k : Int) ≥ 4096 := by omega
  have hnk2 : ¬ (4096 : Int) ≤ (k : Int) := by omega
  have hnk3 : ¬ 4096 ≤ k := by omega
  have hw1 : wrap64 ((k : Int) + 1) = (k : Int) + 1 := by unfold wrap64; omega
  have hw2 : IntKind.u32.wrap ((k : Int) + 1) = (k : Int) + 1 := by
    have e : ((k : Int) + 1) % 4294967296 = (k : Int) + 1 := by omega
    simp [IntKind.wrap, IntKind.bits, IntKind.signed, e]
  have hcc := ((unhide HX).1.fr0 (unhide HB).2.2).cells
  have c0 := hcc.1
  have e0 : W2.cell? ⟨w.heap.size, 0, none⟩ = some (.int .u32 (cl : Nat)) := cell_of_blkS (unhide HB).1 rfl
  have e1 : W2.cell? ⟨w.heap.size, 1, none⟩ = some (.int .u32 (nu : Nat)) := cell_of_blkS (unhide HB).1 rfl
  have z0 : W2.frozen? ⟨w.heap.size, 0, none⟩ = false := frz_of_blk (unhide HB).1
  have z1 : W2.frozen? ⟨w.heap.size, 1, none⟩ = false := frz_of_blk (unhide HB).1
  have hdw : d ≠ w.heap.size := by omega
  clear hcc
  go_wp2_with fail
  obtain ⟨W3, hW3⟩ : ∃ W3, ((W2.setCell ⟨w.heap.size, 0, none⟩ (.int .u32 (c : Nat))).setCell ⟨w.heap.size, 1, none⟩ (.int .u32 ((k : Int) + 1))).drew = W3 := ⟨_, rfl⟩
  have hb3 : W3.heap[w.heap.size]? = some (.cells #[.int .u32 (c : Nat), .int .u32 ((k : Int) + 1), .int .u32 (ac : Nat), .int .u8 (op : Nat), .int .u32 (rc : Nat), .int .u32 (ve : Nat), .int .u32 (wa : Nat), .int .u32 (ow : Nat), fv, .string rs] 27) := by
    rw [← hW3]
    have hb : ((W2.setCell ⟨w.heap.size, 0, none⟩ (.int .u32 (c : Nat))).setCell ⟨w.heap.size, 1, none⟩ (.int .u32 ((k : Int) + 1))).heap[w.heap.size]? = some (.cells #[.int .u32 (c : Nat), .int .u32 ((k : Int) + 1), .int .u32 (ac : Nat), .int .u8 (op : Nat), .int .u32 (rc : Nat), .int .u32 (ve : Nat), .int .u32 (wa : Nat), .int .u32 (ow : Nat), fv, .string rs] 27) := by simpa using blkset (blkset (unhide HB).1 0 (.int .u32 (c : Nat))) 1 (.int .u32 ((k : Int) + 1))
    exact hb
  have hb4 : W3.heap[w.heap.size + 1]? = some (.cells #[.int .u32 0, .int .u32 0] 24) := by
    rw [← hW3]
    exact ((Below.heap_setCell _ ⟨w.heap.size, 1, none⟩ _ (w.heap.size + 1) (by show w.heap.size + 1 ≠ w.heap.size; omega)).trans (Below.heap_setCell W2 ⟨w.heap.size, 0, none⟩ _ (w.heap.size + 1) (by show w.heap.size + 1 ≠ w.heap.size; omega))).trans (unhide HB).2.1
  have hf3 : Fr (fun _ => False) w W3 := by
    rw [← hW3]
    exact (((unhide HB).2.2.setCell (p := ⟨w.heap.size, 0, none⟩) (.inr (Nat.le_refl _)) _).setCell (p := ⟨w.heap.size, 1, none⟩) (.inr (Nat.le_refl _)) _).drew
  rw [hW3]
  clear hW3 s0 s1 y0 y1 e0 e1 z0 z1 c0 hw1 hw2 HB
  have HB := hide (And.intro hb3 (And.intro hb4 hf3))
  clear hb3 hb4 hf3
  have HG : Hid (∀ W', Fr (fun g => g = mw) W3 W' → W'.heap[w.heap.size]? = some (.cells #[.int .u32 (c : Nat), .int .u32 ((k : Int) + 1), .int .u32 (ac : Nat), .int .u8 (op : Nat), .int .u32 (rc : Nat), .int .u32 (ve : Nat), .int .u32 (wa : Nat), .int .u32 (ow : Nat), fv, .string rs] 27) ∧ W'.heap[w.heap.size + 1]? = some (.cells #[.int .u32 0, .int .u32 0] 24) ∧ W'.cell? ⟨d, 1, none⟩ = some (.map (some mw))) := hide (fun W' hf => by
    have hh := (unhide HX).1
    have hml := hh.lt mw hh.own.2.1
    have hcd := (hh.fr0 (unhide HB).2.2).cells.2.1
    exact ⟨(hf.block _ (lt_of_block (unhide HB).1) (by omega)).trans (unhide HB).1, (hf.block _ (lt_of_block (unhide HB).2.1) (by omega)).trans (unhide HB).2.1, (hf.cell (p := ⟨d, 1, none⟩) (lt_of_cell hcd) hh.dm.1).trans hcd⟩)
  have HS7 : Hid (∀ W', Fr (fun g => g = mw) W3 W' → W'.cell? ⟨d, 1, none⟩ = some (.map (some mw)) ∧ W'.cell? ⟨w.heap.size, 0, none⟩ = some (.int .u32 (c : Nat)) ∧ W'.cell? ⟨w.heap.size, 1, none⟩ = some (.int .u32 ((k : Int) + 1)) ∧ W'.rangeAt w.heap.size 0 [.int .u32 (c : Nat), .int .u32 ((k : Int) + 1), .int .u32 (ac : Nat), .int .u8 (op : Nat), .int .u32 (rc : Nat), .int .u32 (ve : Nat), .int .u32 (wa : Nat), .int .u32 (ow : Nat), fv, .string rs]) := hide (fun W' hf => by
    have hb := (unhide HG) W' hf
    exact ⟨hb.2.2, cell_of_blkS hb.1 rfl, cell_of_blkS hb.1 rfl, range_of_block hb.1⟩)
  refine wp_region_held_drew (S := (fun W => W.cell? ⟨d, 1, none⟩ = some (.map (some mw)) ∧ W.cell? ⟨w.heap.size, 0, none⟩ = some (.int .u32 (c : Nat)) ∧ W.cell? ⟨w.heap.size, 1, none⟩ = some (.int .u32 ((k : Int) + 1)) ∧ W.rangeAt w.heap.size 0 [.int .u32 (c : Nat), .int .u32 ((k : Int) + 1), .int .u32 (ac : Nat), .int .u8 (op : Nat), .int .u32 (rc : Nat), .int .u32 (ve : Nat), .int .u32 (wa : Nat), .int .u32 (ow : Nat), fv, .string rs])) (by kernel_rfl) ((unhide HS7) _ (Fr.refl _ _).drew) (fun hHeld => ?_)
  refine wtk2S (i := 0) rfl hHeld ?_
  (try simp only [Act.put, nrmS])
  refine wtk2S (i := 1) rfl hHeld ?_
  (try simp only [Act.put, nrmS])
  refine wtk2S (i := 2) rfl hHeld ?_
  (try simp only [Act.put, nrmS])
  refine wtk2S (i := 3) rfl hHeld ?_
  (try simp only [Act.put, nrmS])
  refine wtk2S (i := 4) rfl hHeld ?_
  (try simp only [Act.put, nrmS])
  refine wtk2S (i := 5) rfl hHeld ?_
  (try simp only [Act.put, nrmS])
  refine wtkS (i := 6) rfl (yieldsIf_load_mid rfl 27 (.tmp 3) rfl w.heap.size 0 rfl _ _ (fun w h => h.2.2.2) Tryz.underlying27 rfl Tryz.sizeRq) hHeld ?_
  (try simp only [Act.put, nrmS])
  refine wpAnyH_ready (rs := [7]) (by kernel_rfl) (by simp) (AllReadyH.cons rfl (fun K hK => ?_) AllReadyH.nil)
  have HOA := hide (ownReq_any ⟨c, k + 1, ac, op, rc, ve, wa, ow, fv, rs⟩ F.length (fcells F) W3.drew ((unhide HX).2.fr0 (unhide HB).2.2.drew) hl)
  go_simp
  refine (unhide HOA).mono ?_
  rintro e W4 ⟨v, rfl, hF4, hf4⟩
  clear HOA
  have hov := own_one hF4
  have hf34 : Fr (fun g => g = mw) W3 W4 := ((Fr.refl _ _).drew.trans0 hf4).mono (fun _ _ e => e.elim)
  have hfw4 : Fr (fun _ => False) w W4 := (unhide HB).2.2.drew.trans0 hf4
  have hmw4 := ((unhide HX).1.fr0 hfw4).wm
  have hcs := (unhide HX).1.c16
  have hnk5 := (unhide HN).2.2
  have hnw := nWA cs
  obtain ⟨W5, hup, hm5, hf5⟩ := hmw4.put (by omega) (by have := (unhide HX).1.len; omega) Tryz.underlying56 (k := cs.length + 1) (by have := (unhide HX).1.len; omega) (SC.v ⟨⟨c, k + 1, ac, op, rc, ve, wa, ow, v, rs⟩, F, 0, 0, none⟩)
  rw [fW_no (.inr (Nat.lt_succ_self _))] at hm5
  rw [hnk5] at hup
  have hup' : (Instr.mapUpdate 56 (.map (some mw)) (.agg #[.int .u32 (c : Nat), .int .u32 ((k : Int) + 1)]) (.agg #[.int .u32 (c : Nat), .int .u32 ((k : Int) + 1), .int .u32 (ac : Nat), .int .u8 (op : Nat), .int .u32 (rc : Nat), .int .u32 (ve : Nat), .int .u32 (wa : Nat), .int .u32 (ow : Nat), v, .string rs, .int .i64 0, .int .i64 0])).run Tryz.prog W4 = .ok () W5 := hup
  have hf35 : Fr (fun g => g = mw) W3 W5 := hf34.trans hf5 (fun _ _ e => e)
  have hfw5 : Fr (fun g => g = mw) w W5 := (hfw4.mono (fun _ _ e => e.elim)).trans hf5 (fun _ _ e => e)
  have hml := (unhide HX).1.lt mw (unhide HX).1.own.2.1
  have hF5 : W5.ownsRow w.heap.size 70 5 v F.length (fcells F) := ownsRow_baseS (ownsRow_of_blockS hF4 (fun g hg => hf5.block g (hF4.lt g hg).2 (fun e => by have h1 := (hF4.lt g hg).1; have h2 := (unhide HB).2.2.size; have : W3.drew.heap.size = W3.heap.size := rfl; omega))) (unhide HB).2.2.size
  have HUP := hide hup'
  have H5 := hide (And.intro hm5 (And.intro hf35 (And.intro hfw5 hF5)))
  have HV := hide hov
  clear hup hup' hm5 hf5 hf35 hfw5 hF5 hF4 hf4 hfw4 hmw4 hml hov hcs hnk5 hnw
  simp only [RQ.v]
  try dsimp only
  refine hK.out _ _ ((unhide HS7) _ hf34) (fun hHeld => ?_)
  clear hK K
  (try simp only [Act.put, nrmS])
  clear hf34
  refine wtk2S (i := 8) rfl hHeld ?_
  (try simp only [Act.put, nrmS])
  refine wpAnyH_ready (rs := [9]) (by kernel_rfl) (by simp) (AllReadyH.cons rfl (fun K hK => ?_) AllReadyH.nil)
  refine step_mu rfl 56 (.tmp 37) (.tmp 39) (.tmp 42) rfl _ _ _ (by simp [Act.eval]) (by simp [Act.eval]) (by simp [Act.eval]) (unhide HUP) ?_
  refine hK.out _ _ ((unhide HS7) _ (unhide H5).2.1) (fun hHeld => ?_)
  clear hK K
  (try simp only [Act.put, nrmS])
  refine wpAnyH_done (by kernel_rfl) ?_ _
  clear hHeld HS7 HUP
  have hb5 := (unhide HG) W5 (unhide H5).2.1
  have e0 : W5.cell? ⟨w.heap.size, 0, none⟩ = some (.int .u32 (c : Nat)) := cell_of_blkS hb5.1 rfl
  have e1 : W5.cell? ⟨w.heap.size, 1, none⟩ = some (.int .u32 ((k : Int) + 1)) := cell_of_blkS hb5.1 rfl
  have s0 : W5.cell? ⟨w.heap.size + 1, 0, none⟩ = some (.int .u32 0) := cell_of_blkS hb5.2.1 rfl
  have s1 : W5.cell? ⟨w.heap.size + 1, 1, none⟩ = some (.int .u32 0) := cell_of_blkS hb5.2.1 rfl
  have y0 : W5.frozen? ⟨w.heap.size + 1, 0, none⟩ = false := frz_of_blk hb5.2.1
  have y1 : W5.frozen? ⟨w.heap.size + 1, 1, none⟩ = false := frz_of_blk hb5.2.1
  have hb6 : ((W5.setCell ⟨w.heap.size + 1, 0, none⟩ (.int .u32 (c : Nat))).setCell ⟨w.heap.size + 1, 1, none⟩ (.int .u32 ((k : Int) + 1))).heap[w.heap.size + 1]? = some (.cells #[.int .u32 (c : Nat), .int .u32 ((k : Int) + 1)] 24) := by simpa using blkset (blkset hb5.2.1 0 (.int .u32 (c : Nat))) 1 (.int .u32 ((k : Int) + 1))
  have hf56 : Fr (fun g => g = w.heap.size + 1) W5 ((W5.setCell ⟨w.heap.size + 1, 0, none⟩ (.int .u32 (c : Nat))).setCell ⟨w.heap.size + 1, 1, none⟩ (.int .u32 ((k : Int) + 1))) := ((Fr.refl (fun g => g = w.heap.size + 1) W5).setCell (p := ⟨w.heap.size + 1, 0, none⟩) (.inl rfl) _).setCell (p := ⟨w.heap.size + 1, 1, none⟩) (.inl rfl) _
  have HE : Hid ((∃ v', SsAt ((W5.setCell ⟨w.heap.size + 1, 0, none⟩ (.int .u32 (c : Nat))).setCell ⟨w.heap.size + 1, 1, none⟩ (.int .u32 ((k : Int) + 1))) d mw ma c (cs ++ [⟨⟨c, cs.length + 1, ac, op, rc, ve, wa, ow, v', rs⟩, F, 0, 0, none⟩]) dn dv (fun g => T g ∨ Nb w ((W5.setCell ⟨w.heap.size + 1, 0, none⟩ (.int .u32 (c : Nat))).setCell ⟨w.heap.size + 1, 1, none⟩ (.int .u32 ((k : Int) + 1))) g)) ∧ Fr (fun g => g = mw) w ((W5.setCell ⟨w.heap.size + 1, 0, none⟩ (.int .u32 (c : Nat))).setCell ⟨w.heap.size + 1, 1, none⟩ (.int .u32 ((k : Int) + 1)))) := hide (by
    have h5 := unhide H5
    have hk5 := (unhide HN).2.2
    have hfw : Fr (fun g => g = mw) w ((W5.setCell ⟨w.heap.size + 1, 0, none⟩ (.int .u32 (c : Nat))).setCell ⟨w.heap.size + 1, 1, none⟩ (.int .u32 ((k : Int) + 1))) := h5.2.2.1.trans hf56 (fun g hg e => by omega)
    have hml := (unhide HX).1.lt mw (unhide HX).1.own.2.1
    have hz : W5.heap[w.heap.size + 1]? ≠ none := by rw [hb5.2.1]; simp
    refine ⟨⟨v, (unhide HX).1.call ⟨⟨c, cs.length + 1, ac, op, rc, ve, wa, ow, v, rs⟩, F, 0, 0, none⟩ rfl (by omega) ⟨rfl, rfl⟩ hl hfw ?_ ?_⟩, hfw⟩
    · have := h5.1.keep (w' := (W5.setCell ⟨w.heap.size + 1, 0, none⟩ (.int .u32 (c : Nat))).setCell ⟨w.heap.size + 1, 1, none⟩ (.int .u32 ((k : Int) + 1))) (hf56.block mw (by obtain ⟨a, b, hb⟩ := h5.1.blk; exact lt_of_block hb) (by omega))
      rw [hk5] at this ⊢
      simpa using this
    · refine ownsRow_of_blockS h5.2.2.2 (fun g hg => hf56.block g (h5.2.2.2.lt g hg).2 (fun e => ?_))
      obtain ⟨cur, hb⟩ := own_blk h5.2.2.2 hg
      rw [e, hb5.2.1] at hb
      simp at hb)
  have HE2 := hide hb6
  clear hb6 hf56 hb5 HX HG H5 HV HB
  go_wp2_with fail
  refine bodyPost_ret (results_cellt rfl _ _ (w.heap.size + 1) 0 [.int .u32 (c : Nat), .int .u32 ((k : Int) + 1)] _ _ rfl rfl (range_of_block (t := 24) (unhide HE2)) Tryz.underlying24 rfl Tryz.sizeId2) rfl ?_
  exact ⟨congrArg (fun z : Nat => Ending.returned (.tuple #[.agg #[.int .u32 (c : Nat), .int .u32 ((z : Int) + 1)], .int .i64 0])) (unhide HN).2.2.symm, unhide HE⟩
end Go.Proofs.YtjkkonhhnmjcaaaGreatDoor

namespace Go.Proofs.YtjkkonhhnmjcaaaGreatDoor
open Go.RowKit Go.Maps

theorem jump_mono {l : Nat} {J J' : Act → World → Prop} {Q : Exit → Act → World → Prop} (h : ∀ a w, J a w → J' a w) : ∀ (e : Exit) (a : Act) (w : World), Exit.jump l J Q e a w → Exit.jump l J' Q e a w := fun e a w hj => by
  cases e with
  | goto l => exact ⟨hj.1, h _ _ hj.2⟩
  | _ => exact hj
/-- A scope with one label, come to from ahead. -/
theorem wp_scope1d {P : Program} {a : Act} {w : World} {Q : Exit → Act → World → Prop} {pre X : Code} (l : Nat) (J : Act → World → Prop) (μ : Act → World → Nat) (hf : findLabel (pre.seq ((Code.label l).seq X)) l = some (Code.skip.seq X))
    (first : pre.wp P (Exit.then J (Exit.jump l J Q)) a w) (pass : ∀ a w, J a w → X.wp P (Exit.jump l (fun a' w' => J a' w' ∧ μ a' w' < μ a w) Q) a w) : (Code.scope (pre.seq ((Code.label l).seq X))).wp P Q a w := by
  refine wp_scope_jumps l J μ hf (wp_seq (Code.wp_mono (fun e a w h => ?_) first)) (fun a w h => wp_seq (wp_skip (pass a w h)))
  cases e with
  | normal => exact wp_seq (wp_label (Code.wp_mono (jump_mono (fun _ _ h => h.1)) (pass a w h)))
  | _ => exact h
/-- The cells of messages. -/
def zR : List Value := [.int .u32 0, .int .u32 0, .int .u32 0, .int .u8 0, .int .u32 0, .int .u32 0, .int .u32 0, .int .u32 0, .slice none 0 0, .string ⟨#[]⟩]
def zA : List Value := [.int .u32 0, .int .u32 0, .int .u8 0, .int .u32 0, .int .u32 0, .slice none 0 0, .slice none 0 0]
def zE : List Value := .int .u32 0 :: (zR ++ [.int .u8 0, .slice none 0 0])
def hmsg (r : RQ) : List Value := .int .u8 1 :: (r.cs ++ ([.int .u32 0, .int .u32 0] ++ (zA ++ (.int .u8 0 :: (zE ++ [.int .u32 0])))))
def tmsg (c k : Nat) : List Value := .int .u8 2 :: (zR ++ ([.int .u32 (c : Nat), .int .u32 (k : Nat)] ++ (zA ++ (.int .u8 0 :: (zE ++ [.int .u32 0])))))
theorem hmsg_one (r : RQ) (h : r.fv.oneCell' = true) : ∀ v ∈ hmsg r, v.oneCell' = true := by
  intro v hv
  simp only [hmsg, List.mem_cons, List.mem_append] at hv
  rcases hv with rfl | hv | hv | hv | rfl | hv | rfl | hv
  · rfl
  · exact RQ.one r h v hv
  · rcases hv with rfl | rfl | hv
    · rfl
    · rfl
    · cases hv
  · exact List.all_eq_true.1 (show List.all zA (fun v => v.oneCell') = true from rfl) v hv
  · rfl
  · exact List.all_eq_true.1 (show List.all zE (fun v => v.oneCell') = true from rfl) v hv
  · rfl
  · cases hv
theorem tmsg_one (c k : Nat) : ∀ v ∈ tmsg c k, v.oneCell' = true := List.all_eq_true.1 (show List.all (tmsg c k) (fun v => v.oneCell') = true from rfl)
theorem Tryz.infoMs : (Tryz.prog.info? 51).map (fun i => (i.zero, i.size, i.bytes)) = some (some (.agg (.int .u8 0 :: (zR ++ ([.int .u32 0, .int .u32 0] ++ (zA ++ (.int .u8 0 :: (zE ++ [.int .u32 0])))))).toArray), 35, 288) := by kernel_rfl
/-- append(l, m) of messages. -/
theorem app_ms (w : World) (base n : Nat) (v : Value) (xs m : List Value) (hm : m.length = 35) (h1 : ∀ u ∈ m, u.oneCell' = true) (h : w.ownsRow base 51 35 v n xs) (hb : base ≤ w.heap.size) (hl : n ≤ 100000) :
    ∃ ao cap w', (Builtin.append_ #[42, 42] 42 #[v, .slice (some ⟨w.heap.size, 0, none⟩) 1 1]).run Tryz.prog (w.alloc (.cells m.toArray 51)) = .ok (.slice ao (n + 1) cap) w' ∧ w'.ownsRow base 51 35 (.slice ao (n + 1) cap) (n + 1) (xs ++ m) ∧ Fr (fun g => v.ownBlock = some g) w w' ∧
      ∀ g, (Value.slice ao (n + 1) cap).ownBlock = some g → v.ownBlock = some g ∨ w.heap.size ≤ g := by
  obtain ⟨i0, hi, hz0, hz1, hz2⟩ := info_parts Tryz.infoMs
  have hb' := ownsRow_of_blockS (w' := w.alloc (.cells m.toArray 51)) h (fun g hg => Below.heap_alloc _ _ _ (h.lt g hg).2)
  obtain ⟨v', w', hr, h2, h3, _, h5⟩ := run_append_own_at (P := Tryz.prog) (w := w.alloc (.cells m.toArray 51)) base 42 42 51 i0 _ 35 288 Tryz.underlying42 hi hz0 hz1 hz2 rfl (by decide) v n xs hb' ⟨w.heap.size, 0, none⟩ 1 1 m hm (fun j u hu => by
    rw [addr_addS, World.cell?_alloc_at _ _ _ _ rfl]; simpa using hu) h1 (by simp only [maxLen]; omega) (by omega) (by simp; omega)
  obtain ⟨ao, cap, rfl⟩ := own_formX h2
  refine ⟨ao, cap, w', hr, h2, ((box1S w _).mono (fun _ _ h => h.elim)).grown h3 (fun g hg => .inl hg), fun g hg => ?_⟩
  rcases h5 with e | e
  · rw [e] at hg; exact .inl hg
  · rw [e] at hg; cases hg; exact .inr (by simp)
end Go.Proofs.YtjkkonhhnmjcaaaGreatDoor

namespace Go.Proofs.YtjkkonhhnmjcaaaGreatDoor
open Go.RowKit Go.Maps

/-- A request with another list. -/
def RQ.re (r : RQ) (v : Value) : RQ := ⟨r.cl, r.nu, r.ac, r.op, r.rc, r.ve, r.wa, r.ow, v, r.rs⟩
/-- Out, between two rounds. -/
structure OutI (W2 wr : World) (c : Nat) (cs : List SC) (j : Nat) (hv tv : Value) (R : List RQ) : Prop where
  fr : Fr (fun _ => False) W2 wr
  h : wr.ownsRow W2.heap.size 51 35 hv j (R.flatMap hmsg)
  t : wr.ownsRow W2.heap.size 51 35 tv j (((wl cs).take j).flatMap (tmsg c))
  ap : ∀ g, hv.ownBlock = some g → tv.ownBlock ≠ some g
  rl : R.length = j
  rr : ∀ (i : Nat) r, R[i]? = some r → ∃ k q, (wl cs)[i]? = some k ∧ cs[k - 1]? = some q ∧ ∃ v, r = (q.r.re v) ∧ OwF wr W2.heap.size v q.F
theorem OutI.step {W2 wr w2 w3 w4 : World} {c : Nat} {cs : List SC} {j : Nat} {hv tv : Value} {R : List RQ} (h : OutI W2 wr c cs j hv tv R) (hf2 : Fr (fun _ => False) wr w2) {k : Nat} {q : SC} {v : Value} (hk : (wl cs)[j]? = some k) (hq : cs[k - 1]? = some q) (hv2 : OwF w2 wr.heap.size v q.F)
    {hv' tv' : Value} (h3 : w3.ownsRow W2.heap.size 51 35 hv' (j + 1) (R.flatMap hmsg ++ hmsg (q.r.re v))) (hf3 : Fr (fun g => hv.ownBlock = some g) w2 w3) (ht3 : ∀ g, hv'.ownBlock = some g → hv.ownBlock = some g ∨ w2.heap.size ≤ g)
    (h4 : w4.ownsRow W2.heap.size 51 35 tv' (j + 1) (((wl cs).take j).flatMap (tmsg c) ++ tmsg c k)) (hf4 : Fr (fun g => tv.ownBlock = some g) w3 w4) (ht4 : ∀ g, tv'.ownBlock = some g → tv.ownBlock = some g ∨ w3.heap.size ≤ g) : OutI W2 w4 c cs (j + 1) hv' tv' (R ++ [q.r.re v]) := by
  have hb := h.fr.size
  have hfr : Fr (fun _ => False) W2 w4 := by
    refine ((h.fr.trans0 hf2).trans hf3 (fun g hg e => ?_)).trans hf4 (fun g hg e => ?_)
    · have := (h.h.lt g e).1; omega
    · have := (h.t.lt g e).1; omega
  have hfld : ∀ {b n : Nat} {x : Value} {xs : List Value} {w0 : World}, w0.ownsRow b 70 5 x n xs → (∀ g, x.ownBlock = some g → w2.heap[g]? = w0.heap[g]? ∧ g < w2.heap.size) → w4.ownsRow b 70 5 x n xs := fun hr hk => ownsRow_of_blockS hr (fun g hg => by
    obtain ⟨k1, k2⟩ := hk g hg
    obtain ⟨cur, hc⟩ := own_blk hr hg
    have e2 : w2.heap[g]? = some (.cells cur 70) := k1.trans hc
    have n3 : ¬ hv.ownBlock = some g := fun e => by
      obtain ⟨c1, hc1⟩ := own_blk h.h e
      have := (hf2.block g (lt_of_block hc1) (fun h => h)).trans hc1
      rw [e2] at this
      simp at this
    have e3 := (hf3.block g k2 n3).trans e2
    have n4 : ¬ tv.ownBlock = some g := fun e => by
      obtain ⟨c1, hc1⟩ := own_blk h.t e
      have := (hf2.block g (lt_of_block hc1) (fun h => h)).trans hc1
      rw [e2] at this
      simp at this
    rw [hf4.block g (lt_of_block e3) n4, e3]
    exact hc.symm)
  have htk : (wl cs).take (j + 1) = (wl cs).take j ++ [k] := by rw [List.take_add_one, hk]; rfl
  refine ⟨hfr, ?_, ?_, fun g hg e => ?_, by simp [h.rl], fun i r hi => ?_⟩
  · rw [List.flatMap_append]
    simp only [List.flatMap_cons, List.flatMap_nil, List.append_nil]
    refine ownsRow_of_blockS h3 (fun g hg => hf4.block g (h3.lt g hg).2 (fun e => ?_))
    rcases ht3 g hg with e1 | e1
    · exact h.ap g e1 e
    · have := (h.t.lt g e).2
      have := hf2.size
      omega
  · rw [htk, List.flatMap_append]
    simpa using h4
  · rcases ht3 g hg with e1 | e1
    · rcases ht4 g e with e2 | e2
      · exact h.ap g e1 e2
      · have h5 := (h.h.lt g e1).2
        have h6 := hf2.size
        have h7 := hf3.size
        omega
    · rcases ht4 g e with e2 | e2
      · have h5 := (h.t.lt g e2).2
        have h6 := hf2.size
        omega
      · have h5 := (h3.lt g hg).2
        omega
  · by_cases e : i < R.length
    · rw [List.getElem?_append_left e] at hi
      obtain ⟨k', q', a1, a2, v', a3, a4⟩ := h.rr i r hi
      exact ⟨k', q', a1, a2, v', a3, hfld a4 (fun g hg => ⟨hf2.block g (a4.lt g hg).2 (fun h => h), Nat.lt_of_lt_of_le (a4.lt g hg).2 hf2.size⟩)⟩
    · have hil := (List.getElem?_eq_some_iff.1 hi).1
      simp at hil
      obtain rfl : i = R.length := by omega
      rw [List.getElem?_concat_length] at hi
      cases hi
      rw [h.rl]
      exact ⟨k, q, hk, hq, v, rfl, ownsRow_baseS (hfld hv2 (fun g hg => ⟨rfl, (hv2.lt g hg).2⟩)) hb⟩
def lenSl : Value → Nat
  | .slice _ n _ => n
  | _ => 0
/-- What is left of the ids. -/
def LeftI (lv : Value) (g n cap j : Nat) : Prop := (j < n ∧ lv = .slice (some ⟨g, 2 * j, none⟩) (n - j) (cap - j)) ∨ (j = n ∧ ∃ lo lc, lv = .slice lo 0 lc)
theorem LeftI.len {lv : Value} {g n cap j : Nat} (h : LeftI lv g n cap j) : lenSl lv = n - j := by
  rcases h with ⟨h1, rfl⟩ | ⟨h1, lo, lc, rfl⟩
  · rfl
  · simp [lenSl]; omega
/-- What holds at the label. -/
def OutJ (W2 : World) (d c g cap : Nat) (cs : List SC) (a : Act) (wr : World) : Prop :=
  ∃ (j : Nat) (hv tv lv : Value) (R : List RQ) (u1 u5 u6 u7 u8 u9 u10 u11 u12 u13 u14 u15 u16 u17 u18 u19 u20 u21 u22 u23 u24 u25 u26 u27 u28 u29 u30 u31 u32 u33 u34 : Value), a = { tmps := #[.pointer (some ⟨d, 0, none⟩), u1, hv, tv, lv, u5, u6, u7, u8, u9, u10, u11, u12, u13, u14, u15, u16, u17, u18, u19, u20, u21, u22, u23, u24, u25, u26, u27, u28, u29, u30, u31, u32, u33, u34], defers := [] } ∧ j ≤ (wl cs).length ∧ OutI W2 wr c cs j hv tv R ∧ LeftI lv g (wl cs).length cap j
def muO (a : Act) (_ : World) : Nat := lenSl (a.tmps.getD 4 undef)
end Go.Proofs.YtjkkonhhnmjcaaaGreatDoor

namespace Go.Proofs.YtjkkonhhnmjcaaaGreatDoor
open Go.RowKit Go.Maps

theorem left_cells {w : World} {base g cap n : Nat} {ks : List Nat} {c : Nat} (h : w.ownsRow base 24 2 (.slice (some ⟨g, 0, none⟩) n cap) n (icells (ks.map fun k => (c, k)))) {j k : Nat} (hk : ks[j]? = some k) : w.cell? ⟨g, 2 * j, none⟩ = some (.int .u32 (c : Nat)) ∧ w.cell? ⟨g, 2 * j + 1, none⟩ = some (.int .u32 (k : Nat)) := by
  have hl := (List.getElem?_eq_some_iff.1 hk).1
  have hn : n * 2 = ks.length * 2 := by have := h.1; rw [icells_len, List.length_map] at this; omega
  have hkk : (ks.map fun k => (c, k))[j]? = some (c, k) := by simp [hk]
  have e : ∀ i, i < 2 → (icells (ks.map fun k => (c, k)))[2 * j + i]? = (icell (c, k))[i]? := fun i hi => by
    rw [icells_get _ _ (by simp; omega)]
    have e1 : (2 * j + i) / 2 = j := by omega
    have e2 : (2 * j + i) % 2 = i := by omega
    rw [e1, e2, getElem!_pos (ks.map fun k => (c, k)) j (by simpa using hl)]
    have e3 : (ks.map fun k => (c, k))[j]'(by simpa using hl) = (c, k) := (List.getElem?_eq_some_iff.1 hkk).2
    rw [e3]
    match i, hi with
    | 0, _ => rfl
    | 1, _ => rfl
  exact ⟨(h.cellAt (2 * j) (by omega)).trans (by have := e 0 (by omega); simpa [icell] using this), (h.cellAt (2 * j + 1) (by omega)).trans (by have := e 1 (by omega); simpa [icell] using this)⟩
theorem fieldRq (x0 x1 x2 x3 x4 x5 x6 x7 x8 x9 x10 x11 : Value) (w : World) : (Instr.field 62 (.agg #[x0, x1, x2, x3, x4, x5, x6, x7, x8, x9, x10, x11]) 0).run Tryz.prog w = .ok (.agg #[x0, x1, x2, x3, x4, x5, x6, x7, x8, x9]) w := by kernel_rfl
/-- What holds at Out's label, whatever Waiting told. -/
def OutK (w : World) (d c : Nat) (cs : List SC) (a : Act) (wr : World) : Prop := ∃ W2 g cap, Fr (fun _ => False) w W2 ∧ ((wl cs).length = 0 ∨ W2.ownsRow w.heap.size 24 2 (.slice (some ⟨g, 0, none⟩) (wl cs).length cap) (wl cs).length (icells ((wl cs).map fun k => (c, k)))) ∧ OutJ W2 d c g cap cs a wr
set_option maxRecDepth 100000 in
set_option maxHeartbeats 8000000 in
/-- Out. -/
theorem sout_any (d mw ma c : Nat) (cs : List SC) (dn : List Nat) (dv : Value) (T : Nat → Prop) (w : World) (h : SsAt w d mw ma c cs dn dv T) :
    Calls Tryz.prog 10 #[.pointer (some ⟨d, 0, none⟩)] w fun e w' => ∃ hv tv, e = .returned (.tuple #[hv, tv]) ∧ ∃ W2 R, Fr (fun _ => False) w W2 ∧ OutI W2 w' c cs (wl cs).length hv tv R := by
  have HC := hide (swaiting_any d mw ma c cs dn dv T w h)
  have HX := hide h
  clear h
  go_enter Tryz.func10, Tryz.ntmps10
  go_wp2_with fail
  refine wp_scope1d 0 (OutK w d c cs) muO rfl ?_ ?_
  · go_wp2_with fail
    refine (unhide HC).mono ?_
    rintro e W2 ⟨v, rfl, hrow, hf2⟩
    have hlen : ((wl cs).map fun k => (c, k)).length = (wl cs).length := by simp
    unfold OwI at hrow
    rw [hlen] at hrow
    have HR := hide (And.intro hrow hf2)
    clear hrow hf2 HC
    go_wp2_with fail
    have hrow := (unhide HR).1
    have hO : OutI W2 W2 c cs 0 (.slice none 0 0) (.slice none 0 0) [] := ⟨Fr.refl _ _, World.ownsRow_nil _ _ _ _, by rw [List.take_zero]; exact World.ownsRow_nil _ _ _ _, (fun g hg => by cases hg), rfl, (fun i r hi => by simp at hi)⟩
    rcases hrow.2 with ⟨e1, e2⟩ | ⟨g, cap, cur, e1, _⟩
    · exact ⟨W2, 0, 0, (unhide HR).2, .inl e2, 0, _, _, v, [], _, _, _, _, _, _, _, _, _, _, _, _, _, _, _, _, _, _, _, _, _, _, _, _, _, _, _, _, _, _, _, rfl, by omega, hO, .inr ⟨by omega, none, 0, e1⟩⟩
    · refine ⟨W2, g, cap, (unhide HR).2, .inr (by rw [← e1]; exact hrow), 0, _, _, v, [], _, _, _, _, _, _, _, _, _, _, _, _, _, _, _, _, _, _, _, _, _, _, _, _, _, _, _, _, _, _, _, rfl, by omega, hO, ?_⟩
      by_cases h0 : (wl cs).length = 0
      · exact .inr ⟨by omega, some ⟨g, 0, none⟩, cap, by rw [e1, h0]⟩
      · exact .inl ⟨by omega, by rw [e1]; simp⟩
  · clear HC
    intro a wr hJ
    obtain ⟨W2, g, cap, hf2, hrow, j, hv, tv, lv, R, u1, u5, u6, u7, u8, u9, u10, u11, u12, u13, u14, u15, u16, u17, u18, u19, u20, u21, u22, u23, u24, u25, u26, u27, u28, u29, u30, u31, u32, u33, u34, rfl, hj, hO, hL⟩ := hJ
    generalize hMM : muO { tmps := _, defers := _ } wr = M
    have hM : (wl cs).length - j = M := by rw [← hMM, ← hL.len]; rfl
    clear hMM
    dsimp only
    rcases hL with ⟨hlt, rfl⟩ | ⟨rfl, lo, lc, rfl⟩
    · obtain ⟨k, hk⟩ : ∃ k, (wl cs)[j]? = some k := ⟨_, List.getElem?_eq_getElem hlt⟩
      have hrw := hrow.resolve_left (by omega)
      have hrr : wr.ownsRow w.heap.size 24 2 (.slice (some ⟨g, 0, none⟩) (wl cs).length cap) (wl cs).length (icells ((wl cs).map fun k => (c, k))) := ownsRow_of_blockS hrw (fun x hx => hO.fr.block x (hrw.lt x hx).2 (fun h => h))
      obtain ⟨c0, c1⟩ := left_cells hrr hk
      have hcap : (wl cs).length ≤ cap := by
        rcases hrr.2 with ⟨e, _⟩ | ⟨g', cap', cur, e, _, _, h3, _⟩
        · cases e
        · simp only [Value.slice.injEq] at e; omega
      have hkm := (wl_mem cs k).1 (List.mem_of_getElem? hk)
      obtain ⟨i, q, hki, hq, hd⟩ : ∃ i q, k = i + 1 ∧ cs[i]? = some q ∧ q.d = none := by
        unfold fW at hkm
        split at hkm
        · cases hkm
        · rename_i hk0
          cases hq : cs[k - 1]? with
          | none => rw [hq] at hkm; cases hkm
          | some q =>
            rw [hq] at hkm
            refine ⟨k - 1, q, by omega, hq, ?_⟩
            cases hd : q.d with
            | none => rfl
            | some x => simp [hd] at hkm
      have hfw : Fr (fun _ => False) w wr := hf2.trans0 hO.fr
      have hs := (unhide HX).fr0 hfw
      have hq' : cs[k - 1]? = some q := by rw [hki]; exact hq
      have hQO := (hs.qs q (List.mem_of_getElem? hq)).wt hd
      have HL : Hid (∀ W', Fr (fun _ => False) wr W' → (Instr.lookup 56 (.map (some mw)) (.agg #[.int .u32 (c : Nat), .int .u32 (k : Nat)]) false).run Tryz.prog W' = .ok (.agg #[.int .u32 (q.r.cl : Nat), .int .u32 (q.r.nu : Nat), .int .u32 (q.r.ac : Nat), .int .u8 (q.r.op : Nat), .int .u32 (q.r.rc : Nat), .int .u32 (q.r.ve : Nat), .int .u32 (q.r.wa : Nat), .int .u32 (q.r.ow : Nat), q.r.fv, .string q.r.rs, .int .i64 q.la, .int .i64 (q.n : Nat)]) W') := hide (fun W' hf => by
        have := (hs.look_w hq hd W' hf).2
        rw [← hki] at this
        exact this)
      have hcd := hs.cells.2.1
      have hdl := lt_of_cell hcd
      have HF := hide (And.intro hf2 (And.intro hrow (And.intro hO (And.intro hk (And.intro hq' (And.intro hQO (And.intro hM hlt)))))))
      have HCD := hide hcd
      have hgl : g < wr.heap.size := lt_of_cell c0
      obtain ⟨vo, vc, rfl⟩ := own_formX hO.h
      obtain ⟨to_, tc, rfl⟩ := own_formX hO.t
      obtain ⟨D, hD⟩ : ∃ D, (wl cs).length - j = D + 1 := ⟨(wl cs).length - j - 1, by omega⟩
      obtain ⟨E, hE⟩ : ∃ E, cap - j = E + 1 := ⟨cap - j - 1, by omega⟩
      have HDE := hide (And.intro hD (And.intro hE hcap))
      rw [hD, hE]
      have n1 : ¬ ((D : Int) + 1 = 0) := by omega
      have hjw : (0 : Int) ≤ 0 := by omega
      clear hf2 hrow hO hk hq hq' hd hQO hM hlt hrw hrr hcap hkm hki hfw hs hcd hD hE hj
      go_wp2_with fail
      obtain ⟨W3, hW3⟩ : ∃ W3, wr.alloc (.cells #[.int .u32 (c : Nat), .int .u32 (k : Nat)] 24) = W3 := ⟨_, rfl⟩
      have hf3 : Fr (fun _ => False) wr W3 := by rw [← hW3]; exact box1S wr _
      have hb3 : W3.heap[wr.heap.size]? = some (.cells #[.int .u32 (c : Nat), .int .u32 (k : Nat)] 24) := by rw [← hW3]; exact heap_alloc_new wr _
      rw [hW3]
      clear hW3
      have HS5 : Hid (∀ W', Fr (fun _ => False) W3 W' → W'.cell? ⟨d, 1, none⟩ = some (.map (some mw)) ∧ W'.cell? ⟨wr.heap.size, 0, none⟩ = some (.int .u32 (c : Nat)) ∧ W'.cell? ⟨wr.heap.size, 1, none⟩ = some (.int .u32 (k : Nat)) ∧ (Instr.lookup 56 (.map (some mw)) (.agg #[.int .u32 (c : Nat), .int .u32 (k : Nat)]) false).run Tryz.prog W' = .ok (.agg #[.int .u32 (q.r.cl : Nat), .int .u32 (q.r.nu : Nat), .int .u32 (q.r.ac : Nat), .int .u8 (q.r.op : Nat), .int .u32 (q.r.rc : Nat), .int .u32 (q.r.ve : Nat), .int .u32 (q.r.wa : Nat), .int .u32 (q.r.ow : Nat), q.r.fv, .string q.r.rs, .int .i64 q.la, .int .i64 (q.n : Nat)]) W') := hide (fun W' hf => by
        have hb := (hf.block _ (lt_of_block hb3) (fun h => h)).trans hb3
        exact ⟨((hf3.trans0 hf).cell (p := ⟨d, 1, none⟩) hdl (fun h => h)).trans (unhide HCD), cell_of_blkS hb rfl, cell_of_blkS hb rfl, (unhide HL) W' (hf3.trans0 hf)⟩)
      have HG3 := hide (And.intro hf3 hb3)
      clear hf3 hb3 c0 c1
      refine wp_region_held_drew (S := (fun W => W.cell? ⟨d, 1, none⟩ = some (.map (some mw)) ∧ W.cell? ⟨wr.heap.size, 0, none⟩ = some (.int .u32 (c : Nat)) ∧ W.cell? ⟨wr.heap.size, 1, none⟩ = some (.int .u32 (k : Nat)) ∧ (Instr.lookup 56 (.map (some mw)) (.agg #[.int .u32 (c : Nat), .int .u32 (k : Nat)]) false).run Tryz.prog W = .ok (.agg #[.int .u32 (q.r.cl : Nat), .int .u32 (q.r.nu : Nat), .int .u32 (q.r.ac : Nat), .int .u8 (q.r.op : Nat), .int .u32 (q.r.rc : Nat), .int .u32 (q.r.ve : Nat), .int .u32 (q.r.wa : Nat), .int .u32 (q.r.ow : Nat), q.r.fv, .string q.r.rs, .int .i64 q.la, .int .i64 (q.n : Nat)]) W)) (by kernel_rfl) ((unhide HS5) _ (Fr.refl _ _).drew) (fun hHeld => ?_)
      have hfq := fieldRq
      refine wtk2S (i := 0) rfl hHeld ?_
      (try simp only [Act.put, nrmS])
      refine wtk2S (i := 1) rfl hHeld ?_
      (try simp only [Act.put, nrmS])
      refine wtk2S (i := 2) rfl hHeld ?_
      (try simp only [Act.put, nrmS])
      refine wtk2S (i := 3) rfl hHeld ?_
      (try simp only [Act.put, nrmS])
      refine wtk2S (i := 4) rfl hHeld ?_
      (try simp only [Act.put, nrmS])
      refine wtk2S (i := 5) rfl hHeld ?_
      (try simp only [Act.put, nrmS])
      refine wtk2S (i := 6) rfl hHeld ?_
      (try simp only [Act.put, nrmS])
      refine wtk2S (i := 7) rfl hHeld ?_
      (try simp only [Act.put, nrmS])
      clear hfq
      refine wpAnyH_ready (rs := [8]) (by kernel_rfl) (by simp) (AllReadyH.cons rfl (fun K hK => ?_) AllReadyH.nil)
      have HOA := hide (ownReq_any q.r q.F.length (fcells q.F) W3.drew (own_rd ((unhide HF).2.2.2.2.2.1.fr (S := fun _ => False) ((unhide HG3).1.drew) (fun _ _ h => h)).o (fcells_one _)) (unhide HF).2.2.2.2.2.1.l)
      go_simp
      refine (unhide HOA).mono ?_
      rintro e W4 ⟨v, rfl, hF4, hf4⟩
      clear HOA
      have hov := own_one hF4
      have hf34 : Fr (fun _ => False) W3 W4 := (Fr.refl _ _).drew.trans0 hf4
      have hfr4 : Fr (fun _ => False) wr W4 := (unhide HG3).1.trans0 hf34
      have hF4' : OwF W4 wr.heap.size v q.F := ownsRow_baseS hF4 (unhide HG3).1.size
      have hhv : W4.ownsRow W2.heap.size 51 35 (.slice vo j vc) j (R.flatMap hmsg) := ownsRow_of_blockS (unhide HF).2.2.1.h (fun x hx => hfr4.block x ((unhide HF).2.2.1.h.lt x hx).2 (fun h => h))
      have hbb : W2.heap.size ≤ W4.heap.size := Nat.le_trans (unhide HF).2.2.1.fr.size hfr4.size
      have hj4 : j ≤ 100000 := by have h1 := (unhide HF).2.2.2.2.2.2.2; have h2 := wl_len cs; have h3 := (unhide HX).len; omega
      obtain ⟨ao5, cap5, W5, hap5, ho5, hf5, ht5⟩ := app_ms W4 W2.heap.size j (.slice vo j vc) (R.flatMap hmsg) (hmsg (q.r.re v)) rfl (hmsg_one _ hov) hhv hbb hj4
      have hap5' : (Builtin.append_ #[42, 42] 42 #[.slice vo j vc, .slice (some ⟨W4.heap.size, 0, none⟩) 1 1]).run Tryz.prog (W4.alloc (.cells #[.int .u8 1, .int .u32 (q.r.cl : Nat), .int .u32 (q.r.nu : Nat), .int .u32 (q.r.ac : Nat), .int .u8 (q.r.op : Nat), .int .u32 (q.r.rc : Nat), .int .u32 (q.r.ve : Nat), .int .u32 (q.r.wa : Nat), .int .u32 (q.r.ow : Nat), v, .string q.r.rs, .int .u32 0, .int .u32 0, .int .u32 0, .int .u32 0, .int .u8 0, .int .u32 0, .int .u32 0, .slice none 0 0, .slice none 0 0, .int .u8 0, .int .u32 0, .int .u32 0, .int .u32 0, .int .u32 0, .int .u8 0, .int .u32 0, .int .u32 0, .int .u32 0, .int .u32 0, .slice none 0 0, .string ⟨#[]⟩, .int .u8 0, .slice none 0 0, .int .u32 0] 51)) = .ok (.slice ao5 (j + 1) cap5) W5 := hap5
      have hb5 : W5.heap[wr.heap.size]? = some (.cells #[.int .u32 (c : Nat), .int .u32 (k : Nat)] 24) := by
        have hb4 := (hf34.block _ (lt_of_block (unhide HG3).2) (fun h => h)).trans (unhide HG3).2
        refine (hf5.block _ (lt_of_block hb4) (fun e => ?_)).trans hb4
        have := ((unhide HF).2.2.1.h.lt _ e).2
        omega
      have hcd5 : W5.cell? ⟨d, 1, none⟩ = some (.map (some mw)) := by
        have h4 := (hfr4.cell (p := ⟨d, 1, none⟩) hdl (fun h => h)).trans (unhide HCD)
        refine (hf5.cell (p := ⟨d, 1, none⟩) (lt_of_cell h4) (fun e => ?_)).trans h4
        obtain ⟨cur, hc⟩ := own_blk (unhide HF).2.2.1.h e
        have hbd := ((unhide HX).fr0 ((unhide HF).1.trans0 (unhide HF).2.2.1.fr)).blk
        rw [hbd] at hc
        simp at hc
      have hlk5 : (Instr.lookup 56 (.map (some mw)) (.agg #[.int .u32 (c : Nat), .int .u32 (k : Nat)]) false).run Tryz.prog W5 = .ok (.agg #[.int .u32 (q.r.cl : Nat), .int .u32 (q.r.nu : Nat), .int .u32 (q.r.ac : Nat), .int .u8 (q.r.op : Nat), .int .u32 (q.r.rc : Nat), .int .u32 (q.r.ve : Nat), .int .u32 (q.r.wa : Nat), .int .u32 (q.r.ow : Nat), q.r.fv, .string q.r.rs, .int .i64 q.la, .int .i64 (q.n : Nat)]) W5 := by
        have hs5 := ((unhide HX).fr0 ((unhide HF).1.trans0 ((unhide HF).2.2.1.fr.trans0 hfr4))).wm
        obtain ⟨e1, c1, hb1⟩ := hs5.blk
        have hne : ¬ (Value.slice vo j vc).ownBlock = some mw := fun e => by
          obtain ⟨cur, hc⟩ := own_blk hhv e
          rw [hb1] at hc
          cases hc
        have hk5 := hs5.keep (w' := W5) (hf5.block mw (lt_of_block hb1) hne)
        obtain ⟨i, q2, hki, hq2, hd2⟩ : ∃ i q2, k = i + 1 ∧ cs[i]? = some q2 ∧ q2.d = none := by
          have hkm := (wl_mem cs k).1 (List.mem_of_getElem? (unhide HF).2.2.2.1)
          unfold fW at hkm
          split at hkm
          · cases hkm
          · rename_i hk0
            cases hq : cs[k - 1]? with
            | none => rw [hq] at hkm; cases hkm
            | some q2 =>
              rw [hq] at hkm
              refine ⟨k - 1, q2, by omega, hq, ?_⟩
              cases hd : q2.d with
              | none => rfl
              | some x => simp [hd] at hkm
        have hqq : q2 = q := by
          have := (unhide HF).2.2.2.2.1
          rw [hki, Nat.add_sub_cancel, hq2] at this
          exact Option.some.inj this
        subst hqq
        have hc16 := (unhide HX).c16
        have hln := (unhide HX).len
        have hil := (List.getElem?_eq_some_iff.1 hq2).1
        have := (hk5.look_yes (by omega) Tryz.underlying56 (Tryz.zeroValue62 W5) (k := k) (by omega) (by rw [hki]; exact fW_at hq2 hd2)).2
        exact this
      have HAP5 := hide hap5'
      have H5 := hide (And.intro ho5 (And.intro hf5 (And.intro ht5 (And.intro hfr4 (And.intro hF4' (And.intro hbb (And.intro hj4 hb5)))))))
      have HS55 := hide (And.intro hcd5 (And.intro (cell_of_blkS hb5 rfl : W5.cell? ⟨wr.heap.size, 0, none⟩ = some (.int .u32 (c : Nat))) (And.intro (cell_of_blkS hb5 rfl : W5.cell? ⟨wr.heap.size, 1, none⟩ = some (.int .u32 (k : Nat))) hlk5)))
      clear hap5 hap5' ho5 hf5 ht5 hfr4 hF4' hbb hj4 hb5 hcd5 hlk5 hhv hF4 hf4
      simp only [RQ.v]
      try dsimp only
      refine hK.out _ _ ((unhide HS5) _ hf34) (fun hHeld => ?_)
      clear hK K
      (try simp only [Act.put, nrmS])
      refine wtk2S (i := 9) rfl hHeld ?_
      (try simp only [Act.put, nrmS])
      refine wpAnyH_ready (rs := [10]) (by kernel_rfl) (by simp) (AllReadyH.cons rfl (fun K hK => ?_) AllReadyH.nil)
      go_simp
      refine hK.out _ _ ((unhide HS5) _ (hf34.alloc _)) (fun hHeld => ?_)
      clear hK K
      (try simp only [Act.put, nrmS])
      clear hf34
      refine wpAnyH_ready (rs := [11]) (by kernel_rfl) (by simp) (AllReadyH.cons rfl (fun K hK => ?_) AllReadyH.nil)
      refine step_appS rfl (.tmp 16) (.tmp 26) 42 42 rfl _ _ _ (by simp [Act.eval]) (by simp [Act.eval]) (unhide HAP5) ?_
      refine hK.out _ _ (unhide HS55) (fun hHeld => ?_)
      clear hK K
      (try simp only [Act.put, nrmS])
      refine wtk2S (i := 12) rfl hHeld ?_
      (try simp only [Act.put, nrmS])
      refine wpAnyH_done (by kernel_rfl) ?_ _
      clear hHeld HS5 HAP5 HL hov
      have e0 := (unhide HS55).2.1
      have e1 := (unhide HS55).2.2.1
      clear HS55
      have h5 := unhide H5
      have htv : W5.ownsRow W2.heap.size 51 35 (.slice to_ j tc) j (((wl cs).take j).flatMap (tmsg c)) := by
        have h4 := ownsRow_of_blockS (w' := W4) (unhide HF).2.2.1.t (fun x hx => h5.2.2.2.1.block x ((unhide HF).2.2.1.t.lt x hx).2 (fun h => h))
        exact ownsRow_of_blockS h4 (fun x hx => h5.2.1.block x (h4.lt x hx).2 (fun e => (unhide HF).2.2.1.ap x e hx))
      obtain ⟨ao6, cap6, W6, hap6, ho6, hf6, ht6⟩ := app_ms W5 W2.heap.size j (.slice to_ j tc) _ (tmsg c k) rfl (tmsg_one c k) htv (Nat.le_trans h5.2.2.2.2.2.1 h5.2.1.size) h5.2.2.2.2.2.2.1
      have hap6' : (Builtin.append_ #[42, 42] 42 #[.slice to_ j tc, .slice (some ⟨W5.heap.size, 0, none⟩) 1 1]).run Tryz.prog (W5.alloc (.cells #[.int .u8 2, .int .u32 0, .int .u32 0, .int .u32 0, .int .u8 0, .int .u32 0, .int .u32 0, .int .u32 0, .int .u32 0, .slice none 0 0, .string ⟨#[]⟩, .int .u32 (c : Nat), .int .u32 (k : Nat), .int .u32 0, .int .u32 0, .int .u8 0, .int .u32 0, .int .u32 0, .slice none 0 0, .slice none 0 0, .int .u8 0, .int .u32 0, .int .u32 0, .int .u32 0, .int .u32 0, .int .u8 0, .int .u32 0, .int .u32 0, .int .u32 0, .int .u32 0, .slice none 0 0, .string ⟨#[]⟩, .int .u8 0, .slice none 0 0, .int .u32 0] 51)) = .ok (.slice ao6 (j + 1) cap6) W6 := hap6
      have hO6 := (unhide HF).2.2.1.step h5.2.2.2.1 (unhide HF).2.2.2.1 (unhide HF).2.2.2.2.1 h5.2.2.2.2.1 h5.1 h5.2.1 h5.2.2.1 ho6 hf6 ht6
      have HAP6 := hide hap6'
      have HO6 := hide hO6
      clear h5 htv hap6 hap6' ho6 hf6 ht6 hO6 H5
      go_wp2_with (at_builtin; refine wpList_appS rfl (.tmp 28) (.tmp 31) 42 42 rfl _ _ _ rfl rfl (unhide HAP6) ?_)
      all_goals
        go_step3
        have hF := unhide HF
        have hDE := unhide HDE
        refine ⟨rfl, ⟨W2, g, cap, hF.1, hF.2.1, j + 1, _, _, _, _, _, _, _, _, _, _, _, _, _, _, _, _, _, _, _, _, _, _, _, _, _, _, _, _, _, _, _, _, _, _, _, rfl, by omega, unhide HO6, ?_⟩, by simp only [muO, lenSl]; have h1 := hF.2.2.2.2.2.2.1; show D < M; omega⟩
      · obtain rfl : D = 0 := by omega
        exact .inr ⟨by omega, _, _, rfl⟩
      · by_cases h0 : D = 0
        · subst h0
          exact .inr ⟨by omega, _, _, rfl⟩
        · refine .inl ⟨by omega, ?_⟩
          have e1 : (wl cs).length - (j + 1) = D := by omega
          have e2 : cap - (j + 1) = E := by omega
          rw [e1, e2]
          rfl
    · have HE : Hid (∃ W2 R, Fr (fun _ => False) w W2 ∧ OutI W2 wr c cs (wl cs).length hv tv R) := hide ⟨W2, R, hf2, hO⟩
      clear hrow hO hM hf2 hj HX
      go_wp2_with fail
      simp only [Exit.jump]
      go_ret2
      exact ⟨_, _, rfl, unhide HE⟩
end Go.Proofs.YtjkkonhhnmjcaaaGreatDoor

namespace Go.Proofs.YtjkkonhhnmjcaaaGreatDoor
open Go.RowKit Go.Maps

theorem Tryz.held_id : Tryz.prog.stoodInHeld 24 = false := by kernel_rfl
theorem Tryz.fields_id : Tryz.prog.underlying 24 = some (.struct (Tryz.prog.fieldsOf 24)) := by kernel_rfl
theorem nat_eq (a b : Nat) : ((a : Int) == (b : Int)) = decide (a = b) := by
  by_cases h : a = b
  · subst h; simp
  · have : ¬ ((a : Int) = (b : Int)) := by omega
    simp [h, this]
theorem eql_id (a b c d : Nat) (w : World) : (binOp .eql 24 (.agg #[.int .u32 (a : Nat), .int .u32 (b : Nat)]) (.agg #[.int .u32 (c : Nat), .int .u32 (d : Nat)])).run Tryz.prog w = .ok (.bool (decide (a = c) && decide (b = d))) w := by
  rw [run_eql_struct, show (10000 : Nat) = 9999 + 1 from rfl, run_equalIn_agg _ 9999 _ _ _ Tryz.fields_id Tryz.held_id]
  by_cases h1 : a = c <;> by_cases h2 : b = d <;> simp [Program.fieldsOf, Tryz.underlying24, Op.eqFields, go_sem, h1, h2, nat_eq]
theorem neq_id (a b c d : Nat) (w : World) : (binOp .neq 24 (.agg #[.int .u32 (a : Nat), .int .u32 (b : Nat)]) (.agg #[.int .u32 (c : Nat), .int .u32 (d : Nat)])).run Tryz.prog w = .ok (.bool (!(decide (a = c) && decide (b = d)))) w := by
  rw [run_neq_struct, show (10000 : Nat) = 9999 + 1 from rfl, run_equalIn_agg _ 9999 _ _ _ Tryz.fields_id Tryz.held_id]
  by_cases h1 : a = c <;> by_cases h2 : b = d <;> simp [Program.fieldsOf, Tryz.underlying24, Op.eqFields, go_sem, h1, h2, nat_eq]
/-- What create tells. -/
def crR : RQ := ⟨0, 0, 1, 1, 0, 0, 7, 6, .slice none 0 0, ⟨#[]⟩⟩
set_option maxRecDepth 100000 in
theorem create_any (w : World) : Calls Tryz.prog 9 #[] w fun e w' => e = .returned crR.v ∧ Fr (fun _ => False) w w' := by
  go_enter Tryz.func9, Tryz.ntmps9
  go_wp2_with fail
  refine bodyPost_ret (results_cell_mid rfl _ _ w.heap.size 0 crR.cs _ rfl (range_of_block (t := 27) (heap_alloc_new w _)) Tryz.underlying27 rfl Tryz.sizeRq) rfl ?_
  exact ⟨rfl, box1S w _⟩
/-- What answered tells. -/
def ansA (c k r : Nat) : AN := ⟨c, k, 0, r, 1, .slice none 0 0, .slice none 0 0⟩
def ansM (c k r : Nat) : List Value := .int .u8 3 :: (zR ++ ([.int .u32 0, .int .u32 0] ++ ((ansA c k r).cs ++ (.int .u8 0 :: (zE ++ [.int .u32 0])))))
theorem ansM_x (c k r : Nat) : MsX (ansM c k r) 3 0 0 0 (ansA c k r) := ⟨rfl, rfl, rfl, fun j v hj => by
  have hl := (List.getElem?_eq_some_iff.1 hj).1
  have h7 : j < 7 := hl
  match j, h7 with
  | 0, _ => exact hj
  | 1, _ => exact hj
  | 2, _ => exact hj
  | 3, _ => exact hj
  | 4, _ => exact hj
  | 5, _ => exact hj
  | 6, _ => exact hj, rfl⟩
def zM : List Value := .int .u8 0 :: (zR ++ ([.int .u32 0, .int .u32 0] ++ (zA ++ (.int .u8 0 :: (zE ++ [.int .u32 0])))))
theorem ansM_one (c k r : Nat) : ∀ v ∈ ansM c k r, v.oneCell' = true := List.all_eq_true.1 (show List.all (ansM c k r) (fun v => v.oneCell') = true from rfl)
set_option maxRecDepth 100000 in
set_option maxHeartbeats 4000000 in
theorem answered_any (c k r : Nat) (w : World) : Calls Tryz.prog 12 #[.int .u32 (c : Nat), .int .u32 (k : Nat), .int .u32 (r : Nat)] w fun e w' => e = .returned (.agg (ansM c k r).toArray) ∧ Fr (fun _ => False) w w' := by
  have hb : ((w.alloc (.cells zM.toArray 51)).alloc (.cells #[.int .u32 (c : Nat), .int .u32 (k : Nat)] 24)).heap[w.heap.size]? = some (.cells zM.toArray 51) := (Below.heap_alloc _ _ _ (by simp)).trans (heap_alloc_new w _)
  obtain ⟨W8, hst, hb8, hf8⟩ := st_all (P := Tryz.prog) (ty := 51) zM (ansM c k r) hb rfl Tryz.sizeMs (ansM_one c k r)
  have hfin : Fr (fun _ => False) w W8 := ((box1S w _).alloc _).trans hf8 (fun g hg e => by omega)
  have HST := hide hst
  have HE := hide (And.intro (range_of_block hb8) hfin)
  clear hb hst hb8 hf8 hfin
  go_enter Tryz.func12, Tryz.ntmps12
  go_wp2_with (refine wpList_stN rfl 51 (.tmp 6) (.tmp 14) rfl _ _ rfl rfl (unhide HST) ?_)
  refine bodyPost_ret (results_cell_mid rfl _ _ w.heap.size 0 _ _ rfl (unhide HE).1 Tryz.underlying51 rfl Tryz.sizeMs) rfl ?_
  exact ⟨rfl, (unhide HE).2⟩
end Go.Proofs.YtjkkonhhnmjcaaaGreatDoor

namespace Go.Proofs.YtjkkonhhnmjcaaaGreatDoor
open Go.RowKit Go.Maps

theorem SsAt.mono {w : World} {d mw ma c : Nat} {cs : List SC} {dn : List Nat} {dv : Value} {T T' : Nat → Prop} (h : SsAt w d mw ma c cs dn dv T) (hT : ∀ g, T g → T' g) (hl : ∀ g, T' g → g < w.heap.size) : SsAt w d mw ma c cs dn dv T' :=
  ⟨h.c16, h.len, h.blk, h.wm, h.am, h.dn.mono hT, fun q hq => ⟨fun e => ((h.qs q hq).wt e).mono hT, fun x e => ⟨((h.qs q hq).an x e).1.mono hT, ((h.qs q hq).an x e).2.mono hT⟩⟩, h.id, ⟨hT _ h.own.1, hT _ h.own.2.1, hT _ h.own.2.2⟩, h.ap, hl⟩
/-- A session, wherever its maps lie. -/
def SS (w : World) (d c : Nat) (cs : List SC) (dn : List Nat) (T : Nat → Prop) : Prop := ∃ mw ma dv, SsAt w d mw ma c cs dn dv T
/-- The session's blocks, and those made since. -/
def Tn (T : Nat → Prop) (w w' : World) (g : Nat) : Prop := T g ∨ Nb w w' g
theorem SS.fr {w w' : World} {d c : Nat} {cs : List SC} {dn : List Nat} {T S : Nat → Prop} (h : SS w d c cs dn T) (hf : Fr S w w') (hS : ∀ g, T g → ¬ S g) : SS w' d c cs dn T := by
  obtain ⟨mw, ma, dv, h⟩ := h
  exact ⟨mw, ma, dv, h.fr hf hS⟩
theorem SS.fr0 {w w' : World} {d c : Nat} {cs : List SC} {dn : List Nat} {T : Nat → Prop} (h : SS w d c cs dn T) (hf : Fr (fun _ => False) w w') : SS w' d c cs dn T := h.fr hf (fun _ _ h => h)
theorem SS.lt {w : World} {d c : Nat} {cs : List SC} {dn : List Nat} {T : Nat → Prop} (h : SS w d c cs dn T) : ∀ g, T g → g < w.heap.size := by
  obtain ⟨mw, ma, dv, h⟩ := h
  exact h.lt
theorem SS.dT {w : World} {d c : Nat} {cs : List SC} {dn : List Nat} {T : Nat → Prop} (h : SS w d c cs dn T) : T d := by
  obtain ⟨mw, ma, dv, h⟩ := h
  exact h.own.1
theorem SS.len {w : World} {d c : Nat} {cs : List SC} {dn : List Nat} {T : Nat → Prop} (h : SS w d c cs dn T) : cs.length ≤ 4096 := by
  obtain ⟨mw, ma, dv, h⟩ := h
  exact h.len
theorem SS.new (c : Nat) (w : World) (hc : c < 16) :
    Calls Tryz.prog 5 #[.int .u32 (c : Nat)] w fun e w' => ∃ d, e = .returned (.tuple #[.pointer (some ⟨d, 0, none⟩), .int .i64 0]) ∧ SS w' d c [] [] (Nb w w') ∧ Fr (fun _ => False) w w' := by
  refine (snew_in c w hc).mono ?_
  rintro e w' ⟨d, h1, ⟨mw, ma, h2⟩, h3⟩
  exact ⟨d, h1, ⟨mw, ma, _, h2⟩, h3⟩
theorem SS.call {w : World} {d c : Nat} {cs : List SC} {dn : List Nat} {T : Nat → Prop} (h : SS w d c cs dn T) (r : RQ) (F : List F5) (hx : Rd w r.fv F.length 5 (fcells F)) (hl : F.length ≤ 1048576) (hv : ∀ f ∈ F, f.v < 4294967296 ∧ f.u < 256) (hfm : r.frm F = true) (hkl : cs.length < 4096) :
    Calls Tryz.prog 6 #[.pointer (some ⟨d, 0, none⟩), r.v] w fun e w' => e = .returned (.tuple #[.agg #[.int .u32 (c : Nat), .int .u32 ((cs.length : Int) + 1)], .int .i64 0]) ∧ (∃ v, SS w' d c (cs ++ [⟨⟨c, cs.length + 1, r.ac, r.op, r.rc, r.ve, r.wa, r.ow, v, r.rs⟩, F, 0, 0, none⟩]) dn (Tn T w w')) ∧ Fr T w w' := by
  obtain ⟨mw, ma, dv, h⟩ := h
  refine (scall_ok d mw ma c cs dn dv T w h r F hx hl hv hfm hkl).mono ?_
  rintro e w' ⟨h1, ⟨v, h2⟩, h3⟩
  exact ⟨h1, ⟨v, mw, ma, dv, h2⟩, h3.mono (fun g _ e => by rw [e]; exact h.own.2.1)⟩
theorem SS.bad {w : World} {d c : Nat} {cs : List SC} {dn : List Nat} {T : Nat → Prop} (h : SS w d c cs dn T) (r : RQ) (F : List F5) (hx : Rd w r.fv F.length 5 (fcells F)) (hl : F.length ≤ 1048576) (hv : ∀ f ∈ F, f.v < 4294967296 ∧ f.u < 256) (hfm : r.frm F = false) :
    Calls Tryz.prog 6 #[.pointer (some ⟨d, 0, none⟩), r.v] w fun e w' => e = .returned (.tuple #[.agg #[.int .u32 0, .int .u32 0], .int .i64 1]) ∧ Fr (fun _ => False) w w' := by
  obtain ⟨mw, ma, dv, h⟩ := h
  exact scall_bad d mw ma c cs dn dv T w h r F hx hl hv hfm
theorem SS.full {w : World} {d c : Nat} {cs : List SC} {dn : List Nat} {T : Nat → Prop} (h : SS w d c cs dn T) (r : RQ) (F : List F5) (hx : Rd w r.fv F.length 5 (fcells F)) (hl : F.length ≤ 1048576) (hv : ∀ f ∈ F, f.v < 4294967296 ∧ f.u < 256) (hfm : r.frm F = true) (hkl : cs.length = 4096) :
    Calls Tryz.prog 6 #[.pointer (some ⟨d, 0, none⟩), r.v] w fun e w' => e = .returned (.tuple #[.agg #[.int .u32 0, .int .u32 0], .int .i64 2]) ∧ Fr (fun _ => False) w w' := by
  obtain ⟨mw, ma, dv, h⟩ := h
  exact scall_full d mw ma c cs dn dv T w h r F hx hl hv hfm hkl
theorem SS.waiting {w : World} {d c : Nat} {cs : List SC} {dn : List Nat} {T : Nat → Prop} (h : SS w d c cs dn T) :
    Calls Tryz.prog 19 #[.pointer (some ⟨d, 0, none⟩)] w fun e w' => ∃ v, e = .returned v ∧ OwI w' w.heap.size v ((wl cs).map fun k => (c, k)) ∧ Fr (fun _ => False) w w' := by
  obtain ⟨mw, ma, dv, h⟩ := h
  exact swaiting_any d mw ma c cs dn dv T w h
theorem SS.done {w : World} {d c : Nat} {cs : List SC} {dn : List Nat} {T : Nat → Prop} (h : SS w d c cs dn T) :
    Calls Tryz.prog 13 #[.pointer (some ⟨d, 0, none⟩)] w fun e w' => ∃ v, e = .returned v ∧ OwI w' w.heap.size v (dn.map fun k => (c, k)) ∧ Fr (fun _ => False) w w' := by
  obtain ⟨mw, ma, dv, h⟩ := h
  exact sdone_any d mw ma c cs dn dv T w h
theorem SS.out {w : World} {d c : Nat} {cs : List SC} {dn : List Nat} {T : Nat → Prop} (h : SS w d c cs dn T) :
    Calls Tryz.prog 10 #[.pointer (some ⟨d, 0, none⟩)] w fun e w' => ∃ hv tv, e = .returned (.tuple #[hv, tv]) ∧ ∃ W2 R, Fr (fun _ => False) w W2 ∧ OutI W2 w' c cs (wl cs).length hv tv R := by
  obtain ⟨mw, ma, dv, h⟩ := h
  exact sout_any d mw ma c cs dn dv T w h
/-- Take of an answer of a request that waits. -/
theorem SS.answer {w : World} {d c : Nat} {cs : List SC} {dn : List Nat} {T : Nat → Prop} (h : SS w d c cs dn T) (xs : List Value) (icl inu ico : Nat) (a : AN) (hm : MsX xs 3 icl inu ico a) (i : Nat) (q : SC) (hq : cs[i]? = some q) (hd : q.d = none) (hc : a.cl = c) (hn : a.nu = i + 1) (F : List F5) (H : List SM)
    (hF : Rd w a.fv F.length 5 (fcells F)) (hH : Rd w a.hv H.length 4 (scells H)) (hFl : F.length ≤ 1048576) (hHl : H.length ≤ 1048576) (hdl : dn.length ≤ 1048575) :
    Calls Tryz.prog 11 #[.pointer (some ⟨d, 0, none⟩), .agg xs.toArray] w fun e w' => ∃ r, e = .returned (.int .i64 r) ∧ r = 0 ∧ (∃ v u, SS w' d c (cs.set i { q with d := some ⟨⟨c, i + 1, a.co, a.rc, a.ve, v, u⟩, F, H⟩ }) (dn ++ [i + 1]) (Tn T w w')) ∧ Fr T w w' := by
  obtain ⟨mw, ma, dv, h⟩ := h
  obtain ⟨cl, nu, co, rc, ve, fv, hv⟩ := a
  simp only at hc hn hF hH
  subst hc
  subst hn
  have hf1 := box1S w (.cells xs.toArray 51)
  refine stake_ans d xs icl inu ico _ hm w _ ?_
  refine (sta_wait d mw ma cl cs dn dv T _ (h.fr0 hf1) i q hq hd co rc ve fv hv F H (hF.fr0 hf1) (hH.fr0 hf1) hFl hHl hdl).mono ?_
  rintro e w' ⟨h1, v, u, dv', h2, h3⟩
  have hfw : Fr T w w' := (hf1.mono (fun _ _ e => e.elim)).trans h3 (fun g _ e => by
    rcases e with e | e | e | e
    · rw [e]; exact h.own.2.1
    · rw [e]; exact h.own.2.2
    · exact h.dn.t g e
    · rw [e]; exact h.own.1)
  refine ⟨0, h1, rfl, ⟨v, u, mw, ma, dv', h2.mono (fun g hg => ?_) (fun g hg => ?_)⟩, hfw⟩
  · rcases hg with hg | hg
    · exact .inl hg
    · exact .inr ⟨Nat.le_trans hf1.size hg.1, hg.2⟩
  · rcases hg with hg | hg
    · exact Nat.lt_of_lt_of_le (h.lt g hg) hfw.size
    · exact hg.2
/-- What is known of an id that was not called. -/
def Unc (c : Nat) (cs : List SC) (cl k : Nat) : Prop := cl = c → k = 0 ∨ cs.length < k
/-- Take of an answer of none. -/
theorem SS.ansNone {w : World} {d c : Nat} {cs : List SC} {dn : List Nat} {T : Nat → Prop} (h : SS w d c cs dn T) (xs : List Value) (icl inu ico : Nat) (a : AN) (hm : MsX xs 3 icl inu ico a) (hu : Unc c cs a.cl a.nu) (hcl : a.cl < 4294967296) (hnu : a.nu < 4294967296) :
    Calls Tryz.prog 11 #[.pointer (some ⟨d, 0, none⟩), .agg xs.toArray] w fun e w' => ∃ r, e = .returned (.int .i64 r) ∧ r = 15 ∧ Fr (fun _ => False) w w' := by
  obtain ⟨mw, ma, dv, h⟩ := h
  have hf1 := box1S w (.cells xs.toArray 51)
  have h1 := h.fr0 hf1
  refine stake_ans d xs icl inu ico _ hm w _ ?_
  refine (sta_none d mw ma a.cl a.nu a.co a.rc a.ve a.fv a.hv _ h1.cells.2.1 h1.cells.2.2.1 (fun W' hf => (h1.look_wn hcl hnu (fun e => fW_no (hu e)) W' hf).1) (fun W' hf => h1.look_an hcl hnu (fun e => fA_no (hu e)) W' hf)).mono ?_
  rintro e w' ⟨e1, hf⟩
  exact ⟨15, e1, rfl, hf1.trans0 hf⟩
/-- Take of an answer of a request that is answered. -/
theorem SS.ansDone {w : World} {d c : Nat} {cs : List SC} {dn : List Nat} {T : Nat → Prop} (h : SS w d c cs dn T) (xs : List Value) (icl inu ico : Nat) (a : AN) (hm : MsX xs 3 icl inu ico a) (i : Nat) (q : SC) (x : AD) (hq : cs[i]? = some q) (hd : q.d = some x) (hc : a.cl = c) (hn : a.nu = i + 1) (b : Bool)
    (hS : ∀ W', Fr (fun _ => False) w W' → Calls Tryz.prog 32 #[.agg x.a.cs.toArray, .agg a.cs.toArray] W' fun e w' => e = .returned (.bool b) ∧ Fr (fun _ => False) W' w') :
    Calls Tryz.prog 11 #[.pointer (some ⟨d, 0, none⟩), .agg xs.toArray] w fun e w' => ∃ r, e = .returned (.int .i64 r) ∧ r = (if b then 0 else 4) ∧ Fr (fun _ => False) w w' := by
  obtain ⟨mw, ma, dv, h⟩ := h
  obtain ⟨cl, nu, co, rc, ve, fv, hv⟩ := a
  simp only at hc hn
  subst hc
  subst hn
  have hf1 := box1S w (.cells xs.toArray 51)
  have h1 := h.fr0 hf1
  have hx := (h.qs q (List.mem_of_getElem? hq)).an x hd
  have h7 : ∀ v ∈ x.a.cs, v.oneCell' = true := AN.one x.a (own_one hx.1.o) (own_one hx.2.o)
  have hc16 := h.c16
  have hil := (List.getElem?_eq_some_iff.1 hq).1
  have hln := h.len
  refine stake_ans d xs icl inu ico _ hm w _ ?_
  cases b with
  | true =>
    refine (sta_same d mw ma cl (i + 1) co rc ve fv hv x.a h7 _ h1.cells.2.1 h1.cells.2.2.1 (fun W' hf => (h1.look_wn (by omega) (by omega) (fun _ => fW_dn hq hd) W' hf).1) (fun W' hf => h1.look_a hq hd W' hf) (fun W' hf => hS W' (hf1.trans0 hf))).mono ?_
    rintro e w' ⟨e1, hf⟩
    exact ⟨0, e1, rfl, hf1.trans0 hf⟩
  | false =>
    refine (sta_other d mw ma cl (i + 1) co rc ve fv hv x.a h7 _ h1.cells.2.1 h1.cells.2.2.1 (fun W' hf => (h1.look_wn (by omega) (by omega) (fun _ => fW_dn hq hd) W' hf).1) (fun W' hf => h1.look_a hq hd W' hf) (fun W' hf => hS W' (hf1.trans0 hf))).mono ?_
    rintro e w' ⟨e1, hf⟩
    exact ⟨4, e1, rfl, hf1.trans0 hf⟩
/-- Take of a refusal of a request that waits. -/
theorem SS.busy {w : World} {d c : Nat} {cs : List SC} {dn : List Nat} {T : Nat → Prop} (h : SS w d c cs dn T) (xs : List Value) (ico : Nat) (a : AN) (i : Nat) (hm : MsX xs 4 c (i + 1) ico a) (hco : ico < 256) (q : SC) (hq : cs[i]? = some q) (hd : q.d = none) (hn : q.n ≤ 1000000000000) :
    Calls Tryz.prog 11 #[.pointer (some ⟨d, 0, none⟩), .agg xs.toArray] w fun e w' => ∃ r, e = .returned (.int .i64 r) ∧ r = 0 ∧ SS w' d c (cs.set i { q with la := (ico : Nat), n := q.n + 1 }) dn T ∧ Fr T w w' := by
  obtain ⟨mw, ma, dv, h⟩ := h
  have hf1 := box1S w (.cells xs.toArray 51)
  have h1 := h.fr0 hf1
  have hc16 := h.c16
  have hil := (List.getElem?_eq_some_iff.1 hq).1
  have hln := h.len
  have hnw := nWA cs
  refine stake_busy d xs c (i + 1) ico a hm hco w _ ?_
  refine (stb_wait d mw c (i + 1) (ico : Nat) q.la q.n hn q.r.cs rfl (RQ.one q.r (own_one ((h.qs q (List.mem_of_getElem? hq)).wt hd).o)) _ h1.cells.2.1 h.dm.1 (h1.lt mw h1.own.2.1) (fun W => MpR W mw c (nW cs) (fun j => if j = i + 1 then some (SC.v { q with la := (ico : Nat), n := q.n + 1 }) else fW cs j)) (fun W' hf => (h1.look_w hq hd W' hf).1) (fun W' hf => ?_)).mono ?_
  · obtain ⟨W2, a1, a2, a3⟩ := (h1.fr0 hf).wm.put (by omega) (by omega) Tryz.underlying56 (k := i + 1) (by omega) (SC.v { q with la := (ico : Nat), n := q.n + 1 })
    rw [fW_at hq hd] at a2
    exact ⟨W2, a1, by simpa using a2, a3⟩
  · rintro e w' ⟨e1, hp, w1, hf2, hf3⟩
    have h4 := h1.busy hf2 (q' := { q with la := (ico : Nat), n := q.n + 1 }) hq hd rfl rfl hd hp hf3
    exact ⟨0, e1, rfl, ⟨mw, ma, dv, h4⟩, ((hf1.trans0 hf2).mono (fun _ _ e => e.elim)).trans hf3 (fun g _ e => by rw [e]; exact h.own.2.1)⟩
/-- Take of a refusal of another id. -/
theorem SS.busyDone {w : World} {d c : Nat} {cs : List SC} {dn : List Nat} {T : Nat → Prop} (h : SS w d c cs dn T) (xs : List Value) (ico : Nat) (a : AN) (i : Nat) (hm : MsX xs 4 c (i + 1) ico a) (hco : ico < 256) (q : SC) (x : AD) (hq : cs[i]? = some q) (hd : q.d = some x) :
    Calls Tryz.prog 11 #[.pointer (some ⟨d, 0, none⟩), .agg xs.toArray] w fun e w' => ∃ r, e = .returned (.int .i64 r) ∧ r = 0 ∧ Fr (fun _ => False) w w' := by
  obtain ⟨mw, ma, dv, h⟩ := h
  have hf1 := box1S w (.cells xs.toArray 51)
  have h1 := h.fr0 hf1
  have hx := (h.qs q (List.mem_of_getElem? hq)).an x hd
  have hc16 := h.c16
  have hil := (List.getElem?_eq_some_iff.1 hq).1
  have hln := h.len
  refine stake_busy d xs c (i + 1) ico a hm hco w _ ?_
  refine (stb_done d mw ma c (i + 1) (ico : Nat) x.a (AN.one x.a (own_one hx.1.o) (own_one hx.2.o)) _ h1.cells.2.1 h1.cells.2.2.1 (fun W' hf => (h1.look_wn (by omega) (by omega) (fun _ => fW_dn hq hd) W' hf).1) (fun W' hf => h1.look_a hq hd W' hf)).mono ?_
  rintro e w' ⟨e1, hf⟩
  exact ⟨0, e1, rfl, hf1.trans0 hf⟩
theorem SS.busyNone {w : World} {d c : Nat} {cs : List SC} {dn : List Nat} {T : Nat → Prop} (h : SS w d c cs dn T) (xs : List Value) (icl inu ico : Nat) (a : AN) (hm : MsX xs 4 icl inu ico a) (hco : ico < 256) (hu : Unc c cs icl inu) (hcl : icl < 4294967296) (hnu : inu < 4294967296) :
    Calls Tryz.prog 11 #[.pointer (some ⟨d, 0, none⟩), .agg xs.toArray] w fun e w' => ∃ r, e = .returned (.int .i64 r) ∧ r = 15 ∧ Fr (fun _ => False) w w' := by
  obtain ⟨mw, ma, dv, h⟩ := h
  have hf1 := box1S w (.cells xs.toArray 51)
  have h1 := h.fr0 hf1
  refine stake_busy d xs icl inu ico a hm hco w _ ?_
  refine (stb_none d mw ma icl inu (ico : Nat) _ h1.cells.2.1 h1.cells.2.2.1 (fun W' hf => (h1.look_wn hcl hnu (fun e => fW_no (hu e)) W' hf).1) (fun W' hf => h1.look_an hcl hnu (fun e => fA_no (hu e)) W' hf)).mono ?_
  rintro e w' ⟨e1, hf⟩
  exact ⟨15, e1, rfl, hf1.trans0 hf⟩
end Go.Proofs.YtjkkonhhnmjcaaaGreatDoor

namespace Go.Proofs.YtjkkonhhnmjcaaaGreatDoor
open Go.RowKit Go.Maps

theorem eql_31 (w : World) : (binOp .eql 24 (.agg #[.int .u32 3, .int .u32 1]) (.agg #[.int .u32 3, .int .u32 1])).run Tryz.prog w = .ok (.bool true) w := eql_id 3 1 3 1 w
theorem own_one_form {w : World} {base e z n : Nat} {v : Value} {xs : List Value} (h : w.ownsRow base e z v n xs) (hn : 0 < n) : ∃ g cap, v = .slice (some ⟨g, 0, none⟩) n cap ∧ base ≤ g ∧ ∀ i u, xs[i]? = some u → w.cell? ⟨g, i, none⟩ = some u := by
  rcases h.2 with ⟨rfl, e⟩ | ⟨g, cap, cur, rfl, hb, _⟩
  · omega
  · refine ⟨g, cap, rfl, hb, fun i u hu => ?_⟩
    have hi := (List.getElem?_eq_some_iff.1 hu).1
    rw [h.cellAt i (by have := h.1; omega)]
    exact hu
set_option maxRecDepth 100000 in
set_option maxHeartbeats 4000000 in
/-- awake. -/
theorem awake17 (w : World) : Calls Tryz.prog 4 #[] w fun e w' => e = .returned (.bool true) ∧ Fr (fun _ => False) w w' := by
  go_enter Tryz.func4, Tryz.ntmps4
  go_wp2_with fail
  refine (SS.new 3 w (by omega)).mono ?_
  rintro e w1 ⟨d, rfl, hs1, hf1⟩
  have HS1 := hide (And.intro hs1 hf1)
  clear hs1 hf1
  go_wp2_with fail
  refine (create_any _).mono ?_
  rintro e w2 ⟨rfl, hf2⟩
  have HC : Hid (Calls Tryz.prog 6 #[.pointer (some ⟨d, 0, none⟩), crR.v] w2 fun e w' => e = .returned (.tuple #[.agg #[.int .u32 3, .int .u32 1], .int .i64 0]) ∧ (∃ v, SS w' d 3 [(⟨⟨3, 1, 1, 1, 0, 0, 7, 6, v, ⟨#[]⟩⟩, [], 0, 0, none⟩ : SC)] [] (Tn (Nb w w1) w2 w')) ∧ Fr (Nb w w1) w2 w') := hide (((unhide HS1).1.fr0 hf2).call crR [] (Rd.nil w2 5) (by simp) (fun f hf => by simp at hf) rfl (by simp))
  have HF2 := hide hf2
  clear hf2
  go_wp2_with fail
  refine (unhide HC).mono ?_
  rintro e w3 ⟨rfl, ⟨v, hs3⟩, hf3⟩
  have HS3 := hide (And.intro hs3 hf3)
  clear hs3 hf3 HC
  go_wp2_with fail
  obtain ⟨w4, hw4⟩ : ∃ w4, w3.alloc (.cells #[.int .u32 3, .int .u32 1] 24) = w4 := ⟨_, rfl⟩
  have hf4 : Fr (fun _ => False) w3 w4 := by rw [← hw4]; exact box1S w3 _
  have hb4 : w4.heap[w3.heap.size]? = some (.cells #[.int .u32 3, .int .u32 1] 24) := by rw [← hw4]; exact heap_alloc_new w3 _
  rw [hw4]
  clear hw4
  refine ((unhide HS3).1.fr0 hf4).out.mono ?_
  rintro e w5 ⟨hv, tv, rfl, W2, R, hfo, hO⟩
  have hwl : wl [(⟨⟨3, 1, 1, 1, 0, 0, 7, 6, v, ⟨#[]⟩⟩, [], 0, 0, none⟩ : SC)] = [1] := rfl
  rw [hwl] at hO
  have hR1 : R.length = 1 := hO.rl
  obtain ⟨r, rfl⟩ : ∃ r, R = [r] := by
    match R, hR1 with
    | [r], _ => exact ⟨r, rfl⟩
  obtain ⟨k, q, hk, hq, v', hr, _⟩ := hO.rr 0 r rfl
  rw [hwl] at hk
  obtain rfl : 1 = k := by simpa using hk
  obtain rfl : (⟨⟨3, 1, 1, 1, 0, 0, 7, 6, v, ⟨#[]⟩⟩, [], 0, 0, none⟩ : SC) = q := by simpa using hq
  subst hr
  obtain ⟨gh, ch, rfl, hgb, hgc⟩ := own_one_form hO.h (by simp)
  obtain ⟨gt, ct, rfl, htb, htc⟩ := own_one_form hO.t (by simp)
  have hfo2 : Fr (fun _ => False) w4 w5 := hfo.trans0 hO.fr
  have hb5 := (hfo2.block _ (lt_of_block hb4) (fun h => h)).trans hb4
  have hS5 : w5.cell? ⟨w3.heap.size, 0, none⟩ = some (.int .u32 3) ∧ w5.cell? ⟨w3.heap.size, 1, none⟩ = some (.int .u32 1) ∧ w5.cell? ⟨gh, 0, none⟩ = some (.int .u8 1) ∧ w5.cell? ⟨gh, 1, none⟩ = some (.int .u32 3) ∧ w5.cell? ⟨gh, 2, none⟩ = some (.int .u32 1) ∧ w5.cell? ⟨gt, 0, none⟩ = some (.int .u8 2) ∧ w5.cell? ⟨gt, 11, none⟩ = some (.int .u32 3) ∧ w5.cell? ⟨gt, 12, none⟩ = some (.int .u32 1) := ⟨cell_of_blkS hb5 rfl, cell_of_blkS hb5 rfl, hgc 0 _ rfl, hgc 1 _ rfl, hgc 2 _ rfl, htc 0 _ rfl, htc 11 _ rfl, htc 12 _ rfl⟩
  have hsz4 : w4.heap.size ≤ W2.heap.size := hfo.size
  have hsz3 : w3.heap.size ≤ w4.heap.size := hf4.size
  have HSZ := hide (And.intro hgb (And.intro htb (And.intro hsz4 hsz3)))
  have HS5 := hide hS5
  have HK : Hid (∀ (X : Nat → Prop) W', (∀ g, X g → g < w3.heap.size) → Fr X w5 W' → W'.cell? ⟨w3.heap.size, 0, none⟩ = some (.int .u32 3) ∧ W'.cell? ⟨w3.heap.size, 1, none⟩ = some (.int .u32 1) ∧ W'.cell? ⟨gh, 0, none⟩ = some (.int .u8 1) ∧ W'.cell? ⟨gh, 1, none⟩ = some (.int .u32 3) ∧ W'.cell? ⟨gh, 2, none⟩ = some (.int .u32 1) ∧ W'.cell? ⟨gt, 0, none⟩ = some (.int .u8 2) ∧ W'.cell? ⟨gt, 11, none⟩ = some (.int .u32 3) ∧ W'.cell? ⟨gt, 12, none⟩ = some (.int .u32 1)) := hide (fun X W' hX hf => by
    have hz := unhide HSZ
    have h5 := hS5
    have n3 : ¬ X w3.heap.size := fun e => by have := hX _ e; omega
    have n1 : ¬ X gh := fun e => by have := hX _ e; omega
    have n2 : ¬ X gt := fun e => by have := hX _ e; omega
    exact ⟨(hf.cell (lt_of_cell h5.1) n3).trans h5.1, (hf.cell (lt_of_cell h5.2.1) n3).trans h5.2.1, (hf.cell (lt_of_cell h5.2.2.1) n1).trans h5.2.2.1, (hf.cell (lt_of_cell h5.2.2.2.1) n1).trans h5.2.2.2.1, (hf.cell (lt_of_cell h5.2.2.2.2.1) n1).trans h5.2.2.2.2.1, (hf.cell (lt_of_cell h5.2.2.2.2.2.1) n2).trans h5.2.2.2.2.2.1, (hf.cell (lt_of_cell h5.2.2.2.2.2.2.1) n2).trans h5.2.2.2.2.2.2.1, (hf.cell (lt_of_cell h5.2.2.2.2.2.2.2) n2).trans h5.2.2.2.2.2.2.2⟩)
  have HS55 := hide (((unhide HS3).1.fr0 hf4).fr0 hfo2)
  have HF5 := hide (hf4.trans0 hfo2)
  clear hO hR1 hk hq hgc htc hfo hfo2 hb4 hb5 hf4 hS5 hsz4 hsz3 hgb htb hwl
  go_wp2_with fail
  have heq := eql_31
  refine wp_region_held_drew (S := (fun W => W.cell? ⟨w3.heap.size, 0, none⟩ = some (.int .u32 3) ∧ W.cell? ⟨w3.heap.size, 1, none⟩ = some (.int .u32 1) ∧ W.cell? ⟨gh, 0, none⟩ = some (.int .u8 1) ∧ W.cell? ⟨gh, 1, none⟩ = some (.int .u32 3) ∧ W.cell? ⟨gh, 2, none⟩ = some (.int .u32 1) ∧ W.cell? ⟨gt, 0, none⟩ = some (.int .u8 2) ∧ W.cell? ⟨gt, 11, none⟩ = some (.int .u32 3) ∧ W.cell? ⟨gt, 12, none⟩ = some (.int .u32 1))) (by kernel_rfl) ((unhide HK) (fun _ => False) _ (fun _ h => h.elim) (Fr.refl _ _).drew) (fun hHeld => ?_)
  refine wtk2S (i := 0) rfl hHeld ?_
  (try simp only [Act.put, nrmS])
  refine wtk2S (i := 1) rfl hHeld ?_
  (try simp only [Act.put, nrmS])
  refine wtk2S (i := 2) rfl hHeld ?_
  (try simp only [Act.put, nrmS])
  refine wtk2S (i := 3) rfl hHeld ?_
  (try simp only [Act.put, nrmS])
  refine wtk2S (i := 4) rfl hHeld ?_
  (try simp only [Act.put, nrmS])
  refine wtk2S (i := 5) rfl hHeld ?_
  (try simp only [Act.put, nrmS])
  refine wtk2S (i := 6) rfl hHeld ?_
  (try simp only [Act.put, nrmS])
  refine wtk2S (i := 7) rfl hHeld ?_
  (try simp only [Act.put, nrmS])
  refine wtk2S (i := 8) rfl hHeld ?_
  (try simp only [Act.put, nrmS])
  refine wtk2S (i := 9) rfl hHeld ?_
  (try simp only [Act.put, nrmS])
  refine wtk2S (i := 10) rfl hHeld ?_
  (try simp only [Act.put, nrmS])
  refine wtk2S (i := 11) rfl hHeld ?_
  (try simp only [Act.put, nrmS])
  refine wtk2S (i := 12) rfl hHeld ?_
  (try simp only [Act.put, nrmS])
  refine wtk2S (i := 13) rfl hHeld ?_
  (try simp only [Act.put, nrmS])
  refine wtk2S (i := 14) rfl hHeld ?_
  (try simp only [Act.put, nrmS])
  refine wtk2S (i := 15) rfl hHeld ?_
  (try simp only [Act.put, nrmS])
  refine wtk2S (i := 16) rfl hHeld ?_
  (try simp only [Act.put, nrmS])
  refine wtk2S (i := 17) rfl hHeld ?_
  (try simp only [Act.put, nrmS])
  refine wtk2S (i := 18) rfl hHeld ?_
  (try simp only [Act.put, nrmS])
  refine wtk2S (i := 19) rfl hHeld ?_
  (try simp only [Act.put, nrmS])
  refine wtk2S (i := 20) rfl hHeld ?_
  (try simp only [Act.put, nrmS])
  refine wtk2S (i := 21) rfl hHeld ?_
  (try simp only [Act.put, nrmS])
  refine wtk2S (i := 22) rfl hHeld ?_
  (try simp only [Act.put, nrmS])
  refine wtk2S (i := 23) rfl hHeld ?_
  (try simp only [Act.put, nrmS])
  refine wtk2S (i := 24) rfl hHeld ?_
  (try simp only [Act.put, nrmS])
  refine wtk2S (i := 25) rfl hHeld ?_
  (try simp only [Act.put, nrmS])
  refine wtk2S (i := 26) rfl hHeld ?_
  (try simp only [Act.put, nrmS])
  refine wtk2S (i := 27) rfl hHeld ?_
  (try simp only [Act.put, nrmS])
  refine wtk2S (i := 28) rfl hHeld ?_
  (try simp only [Act.put, nrmS])
  refine wtk2S (i := 29) rfl hHeld ?_
  (try simp only [Act.put, nrmS])
  refine wtk2S (i := 30) rfl hHeld ?_
  (try simp only [Act.put, nrmS])
  refine wtk2S (i := 31) rfl hHeld ?_
  (try simp only [Act.put, nrmS])
  refine wtk2S (i := 32) rfl hHeld ?_
  (try simp only [Act.put, nrmS])
  refine wtk2S (i := 33) rfl hHeld ?_
  (try simp only [Act.put, nrmS])
  refine wtk2S (i := 34) rfl hHeld ?_
  (try simp only [Act.put, nrmS])
  refine wtk2S (i := 35) rfl hHeld ?_
  (try simp only [Act.put, nrmS])
  refine wtk2S (i := 36) rfl hHeld ?_
  (try simp only [Act.put, nrmS])
  refine wtk2S (i := 37) rfl hHeld ?_
  (try simp only [Act.put, nrmS])
  refine wtk2S (i := 38) rfl hHeld ?_
  (try simp only [Act.put, nrmS])
  refine wtk2S (i := 39) rfl hHeld ?_
  (try simp only [Act.put, nrmS])
  refine wtk2S (i := 40) rfl hHeld ?_
  (try simp only [Act.put, nrmS])
  refine wtk2S (i := 41) rfl hHeld ?_
  (try simp only [Act.put, nrmS])
  refine wtk2S (i := 42) rfl hHeld ?_
  (try simp only [Act.put, nrmS])
  refine wtk2S (i := 43) rfl hHeld ?_
  (try simp only [Act.put, nrmS])
  refine wtk2S (i := 44) rfl hHeld ?_
  (try simp only [Act.put, nrmS])
  refine wtk2S (i := 45) rfl hHeld ?_
  (try simp only [Act.put, nrmS])
  refine wtk2S (i := 46) rfl hHeld ?_
  (try simp only [Act.put, nrmS])
  refine wtk2S (i := 47) rfl hHeld ?_
  (try simp only [Act.put, nrmS])
  refine wtk2S (i := 48) rfl hHeld ?_
  (try simp only [Act.put, nrmS])
  refine wtk2S (i := 49) rfl hHeld ?_
  (try simp only [Act.put, nrmS])
  refine wpAnyH_ready (rs := [50]) (by kernel_rfl) (by simp) (AllReadyH.cons rfl (fun K hK => ?_) AllReadyH.nil)
  go_simp
  refine (answered_any 3 1 1 _).mono ?_
  rintro e w6 ⟨rfl, hf6⟩
  have hf56 : Fr (fun _ => False) w5 w6 := (Fr.refl _ _).drew.trans0 hf6
  clear hf6
  try dsimp only
  refine hK.out _ _ ((unhide HK) (fun _ => False) _ (fun _ h => h.elim) hf56) (fun hHeld => ?_)
  clear hK K
  (try simp only [Act.put, nrmS])
  refine wpAnyH_ready (rs := [51]) (by kernel_rfl) (by simp) (AllReadyH.cons rfl (fun K hK => ?_) AllReadyH.nil)
  have HT := hide (((unhide HS55).fr0 hf56).answer (ansM 3 1 1) 0 0 0 (ansA 3 1 1) (ansM_x 3 1 1) 0 (⟨⟨3, 1, 1, 1, 0, 0, 7, 6, v, ⟨#[]⟩⟩, [], 0, 0, none⟩ : SC) rfl rfl rfl rfl [] [] (Rd.nil w6 5) (Rd.nil w6 4) (by simp) (by simp) (by simp))
  go_simp
  refine (unhide HT).mono ?_
  rintro e w7 ⟨r7, rfl, rfl, ⟨v7, u7, hs7⟩, hf7⟩
  clear HT
  have hf57 : Fr (Tn (Nb w w1) w2 w3) w5 w7 := (hf56.mono (fun _ _ e => e.elim)).trans hf7 (fun _ _ e => e)
  have hlt3 : ∀ g, Tn (Nb w w1) w2 w3 g → g < w3.heap.size := (unhide HS3).1.lt
  have HS7 := hide (And.intro hs7 hf57)
  clear hs7 hf7
  try dsimp only
  refine hK.out _ _ ((unhide HK) _ _ hlt3 hf57) (fun hHeld => ?_)
  clear hK K
  (try simp only [Act.put, nrmS])
  clear hf56 hf57
  refine wtk2S (i := 52) rfl hHeld ?_
  (try simp only [Act.put, nrmS])
  refine wtk2S (i := 53) rfl hHeld ?_
  (try simp only [Act.put, nrmS])
  refine wtk2S (i := 54) rfl hHeld ?_
  (try simp only [Act.put, nrmS])
  refine wtk2S (i := 55) rfl hHeld ?_
  (try simp only [Act.put, nrmS])
  refine wpAnyH_ready (rs := [56]) (by kernel_rfl) (by simp) (AllReadyH.cons rfl (fun K hK => ?_) AllReadyH.nil)
  have HD := hide (unhide HS7).1.done
  go_simp
  refine (unhide HD).mono ?_
  rintro e w8 ⟨v8, rfl, ho8, hf8⟩
  clear HD
  have hl8 : ([1].map fun k => ((3 : Nat), k)).length = 1 := rfl
  obtain ⟨ao8, cap8, rfl⟩ := own_formX ho8
  have hf58 : Fr (Tn (Nb w w1) w2 w3) w5 w8 := (unhide HS7).2.trans hf8 (fun _ _ e => e.elim)
  have HF8 := hide hf58
  clear ho8 hf8 hl8
  try dsimp only
  refine hK.out _ _ ((unhide HK) _ _ hlt3 hf58) (fun hHeld => ?_)
  clear hK K
  (try simp only [Act.put, nrmS])
  clear hf58
  refine wtk2S (i := 57) rfl hHeld ?_
  (try simp only [Act.put, nrmS])
  refine wtk2S (i := 58) rfl hHeld ?_
  (try simp only [Act.put, nrmS])
  refine wtk2S (i := 59) rfl hHeld ?_
  (try simp only [Act.put, nrmS])
  refine wtk2S (i := 60) rfl hHeld ?_
  (try simp only [Act.put, nrmS])
  refine wpAnyH_done (by kernel_rfl) ?_ _
  clear hHeld HK HS5 HSZ heq
  go_wp2_with fail
  go_ret
  refine ⟨rfl, ?_⟩
  have h1 := (unhide HS1).2
  have h2 := unhide HF2
  have h3 := (unhide HS3).2
  have h13 : Fr (fun _ => False) w w3 := (h1.trans0 h2).trans h3 (fun g hg e => by have := e.1; omega)
  have h15 : Fr (fun _ => False) w w5 := h13.trans0 (unhide HF5)
  refine h15.trans (unhide HF8) (fun g hg e => ?_)
  rcases e with e | e
  · have := e.1; omega
  · have := e.1; have := h1.size; have := h2.size; omega
end Go.Proofs.YtjkkonhhnmjcaaaGreatDoor

namespace Go.Proofs.YtjkkonhhnmjcaaaGreatDoor
open Go.RowKit Go.Maps

theorem eqO (k m : Int) (w : World) : (binOp .eql 30 (.int .i64 k) (.int .i64 m)).run Tryz.prog w = .ok (.bool (k == m)) w := by kernel_rfl
set_option maxRecDepth 100000 in
set_option maxHeartbeats 4000000 in
/-- SessionFormed. -/
theorem sformed_any (r : RQ) (F : List F5) (E : Nat → Addr) (w : World) (hg : G6 w E) (hw : 6 ≤ w.heap.size) (hR : Rd w r.fv F.length 5 (fcells F)) (hI : FdI w r.fv (F.map F5.fld)) (hl : F.length ≤ 1048576) (hv : ∀ f ∈ F, f.v < 4294967296 ∧ f.u < 256)
    (hok : (⟨r.cl, r.nu, r.ac, r.op, r.rc, r.ve, r.wa, r.ow, F.map F5.fld, r.rs⟩ : RqM).ok) : Calls Tryz.prog 3 #[r.v] w fun e w' => e = .returned (.bool true) ∧ Fr (fun _ => False) w w' := by
  obtain ⟨hiff, hfk⟩ := wRequest r.cl r.nu r.ac r.op r.rc r.ve r.wa r.ow F r.rs ⟨hok.re, hok.ve, hok.wa, hok.ow⟩
  rw [← frm_eq r F] at hiff
  have hrv : r.v = .agg ((⟨r.cl, r.nu, r.ac, r.op, r.rc, r.ve, r.wa, r.ow, F.map F5.fld, r.rs⟩ : RqM).vals r.fv) := rfl
  obtain ⟨xs, hln, hV⟩ : ∃ xs : List Value, xs.length = 10 ∧ r.v = .agg xs.toArray := ⟨[.int .u32 (r.cl : Nat), .int .u32 (r.nu : Nat), .int .u32 (r.ac : Nat), .int .u8 (r.op : Nat), .int .u32 (r.rc : Nat), .int .u32 (r.ve : Nat), .int .u32 (r.wa : Nat), .int .u32 (r.ow : Nat), r.fv, .string r.rs], rfl, rfl⟩
  have HP := hide (fun (w1 : World) (hf : Fr (fun _ => False) w w1) => putRequest ⟨r.cl, r.nu, r.ac, r.op, r.rc, r.ve, r.wa, r.ow, F.map F5.fld, r.rs⟩ r.fv E w1 (hg.fr hf (fun _ h => h.elim)) (Nat.le_trans hw hf.size) (hI.fr0 hf) hok)
  rw [← hrv, hV] at HP
  have HC := hide (fun (w2 : World) (d : Nat) (T : Nat → Prop) (h : SS w2 d 0 [] [] T) (hf : Fr (fun _ => False) w w2) (hfm : r.frm F = true) => h.call r F (hR.fr0 hf) hl hv hfm (by simp))
  have HB := hide (fun (w2 : World) (d : Nat) (T : Nat → Prop) (h : SS w2 d 0 [] [] T) (hf : Fr (fun _ => False) w w2) (hfm : r.frm F = false) => h.bad r F (hR.fr0 hf) hl hv hfm)
  have HF := hide (fun (w1 : World) (hf : Fr (fun _ => False) w w1) => formed_any r F w1 (rd_fds (hR.fr0 hf)) (by omega) hv)
  rw [hV] at HC HB HF ⊢
  have HW := hide (And.intro hiff hfk)
  clear hrv hV hg hw hR hI hl hv hok hiff hfk
  go_enter Tryz.func3, Tryz.ntmps3
  obtain ⟨W1, hW1⟩ : ∃ W1, w.alloc (.cells xs.toArray 27) = W1 := ⟨_, rfl⟩
  have hf01 : Fr (fun _ => False) w W1 := by rw [← hW1]; exact box1 w _
  have hb1 : W1.heap[w.heap.size]? = some (.cells xs.toArray 27) := by rw [← hW1]; exact heap_alloc_new w _
  have HZ : Hid ((Tryz.prog.info? 27).map (·.size) = some xs.length) := hide (by rw [hln]; kernel_rfl)
  go_wp2_with fail
  clear hW1
  refine (awake17 W1).mono ?_
  rintro e w0 ⟨rfl, hf0⟩
  have HF0 := hide (And.intro (hf01.trans0 hf0) ((hf0.block _ (lt_of_block hb1) (fun h => h)).trans hb1))
  clear hf01 hb1 hf0
  go_wp2_with fail
  refine (SS.new 0 w0 (by omega)).mono ?_
  rintro e w1 ⟨d, rfl, hs1, hf1⟩
  have hb2 := (hf1.block _ (lt_of_block (unhide HF0).2) (fun h => h)).trans (unhide HF0).2
  have HR := hide (range_of_block hb2)
  have HF1 := hide (And.intro ((unhide HF0).1.trans0 hf1) (And.intro (lt_of_block (unhide HF0).2) hb2))
  have HS := hide hs1
  clear hs1 hf1 HF0 hb2
  go_wp2_with (refine wpList_load_mid rfl 27 (.tmp 1) rfl w.heap.size 0 rfl _ _ (unhide HR) Tryz.underlying27 rfl (unhide HZ) ?_)
  by_cases hfm : r.frm F = true
  · skip
    refine (unhide HC w1 d _ (unhide HS) (unhide HF1).1 hfm).mono ?_
    rintro e w2 ⟨rfl, _, hf2⟩
    have hf12 : Fr (fun _ => False) w w2 := Fr.absorb (unhide HF1).1 hf2 (fun i hi => by have := (unhide HF1).2.1; have := hi.1; omega)
    have hb2 := (hf2.block _ (lt_of_block (unhide HF1).2.2) (fun hi => by have := (unhide HF1).2.1; have := hi.1; omega)).trans (unhide HF1).2.2
    clear HR
    have HR := hide (range_of_block hb2)
    have HF2 := hide (And.intro hf12 hb2)
    clear hf2 hf12 hb2 HS HF1 HC HB
    go_wp2_with (refine wpList_load_mid rfl 27 (.tmp 1) rfl w.heap.size 0 rfl _ _ (unhide HR) Tryz.underlying27 rfl (unhide HZ) ?_)
    refine (unhide HP w2 (unhide HF2).1).mono ?_
    rintro e w3 ⟨b, err, rfl, hrow, hE, hf3⟩
    have hn := (unhide HW).1.2 hfm
    obtain rfl : err = .nilIface := by
      rcases hE with ⟨_, e⟩ | ⟨h1, _⟩
      · exact e
      · rw [hn] at h1
        exact absurd h1 (by decide)
    clear hn hE
    have hb3 := (hf3.block _ (lt_of_block (unhide HF2).2) (fun h => h)).trans (unhide HF2).2
    have HS2 : Hid (∀ W', Fr (fun _ => False) w3 W' → W'.rangeAt w.heap.size 0 xs) := hide (fun W' hf => range_of_block ((hf.block _ (lt_of_block hb3) (fun h => h)).trans hb3))
    clear HR
    have HF3 := hide ((unhide HF2).1.trans0 hf3)
    clear hf3 hb3 HF2 HP hrow
    go_wp2_with fail
    refine wp_region_held_drew (S := (fun W : World => W.rangeAt w.heap.size 0 xs)) (by kernel_rfl) ((unhide HS2) _ (Fr.refl _ _).drew) (fun hHeld => ?_)
    refine wtk2 (i := 0) rfl hHeld ?_
    (try simp only [Act.put, nrm])
    refine wtk2 (i := 1) rfl hHeld ?_
    (try simp only [Act.put, nrm])
    refine wtk2 (i := 2) rfl hHeld ?_
    (try simp only [Act.put, nrm])
    refine wtk2 (i := 3) rfl hHeld ?_
    (try simp only [Act.put, nrm])
    refine wtk2 (i := 4) rfl hHeld ?_
    (try simp only [Act.put, nrm])
    refine wtk2 (i := 5) rfl hHeld ?_
    (try simp only [Act.put, nrm])
    refine wtk2 (i := 6) rfl hHeld ?_
    (try simp only [Act.put, nrm])
    refine wtk2 (i := 7) rfl hHeld ?_
    (try simp only [Act.put, nrm])
    refine wtk2 (i := 8) rfl hHeld ?_
    (try simp only [Act.put, nrm])
    refine wtk (i := 9) rfl (Or.inr ⟨rfl, rfl⟩) hHeld ?_
    (try simp only [Act.put, nrm])
    refine wtk (i := 10) rfl (Or.inr ⟨rfl, rfl⟩) hHeld ?_
    (try simp only [Act.put, nrm])
    refine wtk2 (i := 11) rfl hHeld ?_
    (try simp only [Act.put, nrm])
    refine wtk2 (i := 12) rfl hHeld ?_
    (try simp only [Act.put, nrm])
    refine wtk2 (i := 13) rfl hHeld ?_
    (try simp only [Act.put, nrm])
    refine wtk2 (i := 14) rfl hHeld ?_
    (try simp only [Act.put, nrm])
    refine wtk2 (i := 15) rfl hHeld ?_
    (try simp only [Act.put, nrm])
    refine wtk (i := 16) rfl (yieldsIf_load_mid rfl 27 (.tmp 1) rfl w.heap.size 0 rfl _ _ (fun w h => h) Tryz.underlying27 rfl (unhide HZ)) hHeld ?_
    (try simp only [Act.put, nrm])
    refine wpAnyH_ready (rs := [17]) (by kernel_rfl) (by simp) (AllReadyH.cons rfl (fun K hK => ?_) AllReadyH.nil)
    go_simp
    refine (unhide HF w3.drew ((unhide HF3).drew)).mono ?_
    rintro e w4 ⟨rfl, hf4⟩
    have hf34 : Fr (fun _ => False) w3 w4 := (Fr.refl _ _).drew.trans0 hf4
    clear hf4
    try dsimp only
    refine hK.out _ _ ((unhide HS2) _ hf34) (fun hHeld => ?_)
    clear hK K
    (try simp only [Act.put, nrm])
    rw [hfm]
    refine wtk2 (i := 18) rfl hHeld ?_
    (try simp only [Act.put, nrm])
    refine wtk2 (i := 19) rfl hHeld ?_
    (try simp only [Act.put, nrm])
    refine wtk2 (i := 20) rfl hHeld ?_
    (try simp only [Act.put, nrm])
    refine wpAnyH_done (by kernel_rfl) ?_ _
    clear hHeld HS2
    have HF4 := hide ((unhide HF3).trans0 hf34)
    clear hf34 HF3
    go_wp2_with fail
    go_ret
    exact ⟨rfl, unhide HF4⟩
  · skip
    refine (unhide HB w1 d _ (unhide HS) (unhide HF1).1 (by simpa using hfm)).mono ?_
    rintro e w2 ⟨rfl, hf2⟩
    have hf12 : Fr (fun _ => False) w w2 := (unhide HF1).1.trans0 hf2
    have hb2 := (hf2.block _ (lt_of_block (unhide HF1).2.2) (fun h => h)).trans (unhide HF1).2.2
    clear HR
    have HR := hide (range_of_block hb2)
    have HF2 := hide (And.intro hf12 hb2)
    clear hf2 hf12 hb2 HS HF1 HC HB
    go_wp2_with (refine wpList_load_mid rfl 27 (.tmp 1) rfl w.heap.size 0 rfl _ _ (unhide HR) Tryz.underlying27 rfl (unhide HZ) ?_)
    refine (unhide HP w2 (unhide HF2).1).mono ?_
    rintro e w3 ⟨b, err, rfl, hrow, hE, hf3⟩
    have hn : ¬ (requestW ⟨r.cl, r.nu, r.ac, r.op, r.rc, r.ve, r.wa, r.ow, F.map F5.fld, r.rs⟩).f = none := fun h => hfm ((unhide HW).1.1 h)
    obtain ⟨fb, rfl⟩ : ∃ fb, err = .iface 90 (.pointer (some ⟨fb, 0, none⟩)) := by
      rcases hE with ⟨h0, _⟩ | ⟨_, _, fb, e, _⟩
      · obtain ⟨x, hx⟩ := Option.ne_none_iff_exists'.1 hn
        rw [hx] at h0
        exact absurd h0 ((unhide HW).2 x hx)
      · exact ⟨fb, e⟩
    clear hn hE
    have hb3 := (hf3.block _ (lt_of_block (unhide HF2).2) (fun h => h)).trans (unhide HF2).2
    have HS2 : Hid (∀ W', Fr (fun _ => False) w3 W' → W'.rangeAt w.heap.size 0 xs) := hide (fun W' hf => range_of_block ((hf.block _ (lt_of_block hb3) (fun h => h)).trans hb3))
    clear HR
    have HF3 := hide ((unhide HF2).1.trans0 hf3)
    clear hf3 hb3 HF2 HP hrow
    go_wp2_with fail
    refine wp_region_held_drew (S := (fun W : World => W.rangeAt w.heap.size 0 xs)) (by kernel_rfl) ((unhide HS2) _ (Fr.refl _ _).drew) (fun hHeld => ?_)
    refine wtk2 (i := 0) rfl hHeld ?_
    (try simp only [Act.put, nrm])
    refine wtk2 (i := 1) rfl hHeld ?_
    (try simp only [Act.put, nrm])
    refine wtk2 (i := 2) rfl hHeld ?_
    (try simp only [Act.put, nrm])
    refine wtk2 (i := 3) rfl hHeld ?_
    (try simp only [Act.put, nrm])
    refine wtk2 (i := 4) rfl hHeld ?_
    (try simp only [Act.put, nrm])
    refine wtk2 (i := 5) rfl hHeld ?_
    (try simp only [Act.put, nrm])
    refine wtk2 (i := 6) rfl hHeld ?_
    (try simp only [Act.put, nrm])
    refine wtk2 (i := 7) rfl hHeld ?_
    (try simp only [Act.put, nrm])
    refine wtk2 (i := 8) rfl hHeld ?_
    (try simp only [Act.put, nrm])
    refine wtk2 (i := 9) rfl hHeld ?_
    (try simp only [Act.put, nrm])
    refine wtk2 (i := 10) rfl hHeld ?_
    (try simp only [Act.put, nrm])
    refine wtk2 (i := 11) rfl hHeld ?_
    (try simp only [Act.put, nrm])
    refine wtk2 (i := 12) rfl hHeld ?_
    (try simp only [Act.put, nrm])
    refine wtk2 (i := 13) rfl hHeld ?_
    (try simp only [Act.put, nrm])
    refine wtk2 (i := 14) rfl hHeld ?_
    (try simp only [Act.put, nrm])
    refine wtk2 (i := 15) rfl hHeld ?_
    (try simp only [Act.put, nrm])
    refine wtk (i := 16) rfl (yieldsIf_load_mid rfl 27 (.tmp 1) rfl w.heap.size 0 rfl _ _ (fun w h => h) Tryz.underlying27 rfl (unhide HZ)) hHeld ?_
    (try simp only [Act.put, nrm])
    refine wpAnyH_ready (rs := [17]) (by kernel_rfl) (by simp) (AllReadyH.cons rfl (fun K hK => ?_) AllReadyH.nil)
    go_simp
    refine (unhide HF w3.drew ((unhide HF3).drew)).mono ?_
    rintro e w4 ⟨rfl, hf4⟩
    have hf34 : Fr (fun _ => False) w3 w4 := (Fr.refl _ _).drew.trans0 hf4
    clear hf4
    try dsimp only
    refine hK.out _ _ ((unhide HS2) _ hf34) (fun hHeld => ?_)
    clear hK K
    (try simp only [Act.put, nrm])
    rw [show r.frm F = false by simpa using hfm]
    refine wtk2 (i := 18) rfl hHeld ?_
    (try simp only [Act.put, nrm])
    refine wtk2 (i := 19) rfl hHeld ?_
    (try simp only [Act.put, nrm])
    refine wtk2 (i := 20) rfl hHeld ?_
    (try simp only [Act.put, nrm])
    refine wpAnyH_done (by kernel_rfl) ?_ _
    clear hHeld HS2
    have HF4 := hide ((unhide HF3).trans0 hf34)
    clear hf34 HF3
    go_wp2_with fail
    go_ret
    exact ⟨rfl, unhide HF4⟩
end Go.Proofs.YtjkkonhhnmjcaaaGreatDoor

namespace Go.Proofs.YtjkkonhhnmjcaaaGreatDoor
open Go.ChangeShapes Go.WideShapes Go.ChangeAt Go.RowKit Go.Deep
set_option maxRecDepth 100000

set_option maxRecDepth 100000

theorem Tryz.ownKnob : ownKnob Tryz.prog.godebug = none := by kernel_rfl
theorem Tryz.nameES : Tryz.prog.typeName? 3 265 = some "*errors.errorString" := by kernel_rfl
theorem Tryz.cellsES : Tryz.prog.cellsOf 281 = 1 := by kernel_rfl
theorem Tryz.cellsS : Tryz.prog.cellsOf 9 = 1 := by kernel_rfl
theorem Tryz.star : "*" ++ "errors.errorString" = "*errors.errorString" := by decide
theorem Tryz.rowES (u : TypeId) (h : Tryz.prog.typeName? 3 u = some "*errors.errorString") : u = 265 :=
  typeName_ptr_named (nm := "errors.errorString") (by rw [Tryz.star]; kernel_rfl) (by kernel_rfl) (by decide) u (by rw [Tryz.star]; exact h)
theorem laid_in {W : World} : ∀ {l : List (String × DataW Unit)} {ps : List MemPlace}, DataW.LaidVars Tryz.prog W l ps → ∀ {nm : String} {d : DataW Unit}, (nm, d) ∈ l →
    ∃ g t cs fuel p, Tryz.prog.globalNamed nm = some g ∧ (Tryz.prog.globals[g]?).map (·.type) = some t ∧ W.var? Tryz.prog nm = some cs ∧ DataW.trod (H := Unit) (fun _ => ()) Tryz.prog W 0 (fun _ => true) false fuel t cs.toList = some (d, p) ∧ ∀ x ∈ MemPlace.row ⟨g, 0, none⟩ cs.size, x ∈ ps := by
  intro l
  induction l with
  | nil => intro ps _ nm d hm; cases hm
  | cons y r ih =>
    intro ps h nm d hm
    obtain ⟨n, dd⟩ := y
    obtain ⟨g, t, cs, fuel, p, q, hg, ht, hv, hd, hr, rfl⟩ := h
    rcases List.mem_cons.1 hm with e | hm
    · cases e
      exact ⟨g, t, cs, fuel, p, hg, ht, hv, hd, fun x hx => by simp [hx]⟩
    · obtain ⟨g', t', cs', fuel', p', a1, a2, a3, a4, a5⟩ := ih hr hm
      exact ⟨g', t', cs', fuel', p', a1, a2, a3, a4, fun x hx => by simp [a5 x hx]⟩
/-- What a listed sentinel gives a walk: its variable's cell. -/
theorem sentinel_cell {W : World} {laid : List (String × DataW Unit)} (hL : laidMet Tryz.prog laid W) {nm : String} {text : List UInt8} (hm : (nm, DataW.iface "*errors.errorString" (.ptr (.agg [.lit (.string text)]))) ∈ laid) {g : Nat} (hg : Tryz.prog.globalNamed nm = some g) (hty : (Tryz.prog.globals[g]?).map (·.type) = some 37) :
    ∃ ea, W.cell? ⟨g, 0, none⟩ = some (.iface 265 (.pointer (some ea))) := by
  obtain ⟨ps, hv, hnd, hrows⟩ := hL
  obtain ⟨g', t, cs, fuel, p, a1, a2, a3, a4, a5⟩ := laid_in hv hm
  obtain rfl := Option.some.inj (hg.symm.trans a1)
  obtain rfl := Option.some.inj (hty.symm.trans a2)
  obtain ⟨l0⟩ := cs
  have hok0 : ∀ u v, l0 = [.iface u v] → Value.okWide Tryz.prog W .any 0 u v := fun u v e => by
    subst e
    exact (hrows g 0 (a5 _ (by simp [MemPlace.row]))).2 u v (by simpa using World.var?_cell hg a3 0)
  obtain ⟨a0, s0, rfl, hc0, hs0, hz0, rfl⟩ := errorString_of_trod Tryz.underlying37 Tryz.rowES Tryz.underlying265 Tryz.underlying281 rfl rfl Tryz.underlying9 Tryz.cellsES Tryz.cellsS a4 hok0
  exact ⟨a0, by simpa using World.var?_cell hg a3 0⟩
set_option maxRecDepth 100000

theorem heap_ok {W : World} (h : W.ShapedOpen Tryz.prog) : 6 ≤ W.heap.size := by
  obtain ⟨cs, hc, _⟩ := h.1 5 #[.nilIface] 37 (by decide +kernel) (by kernel_rfl)
  rcases Nat.lt_or_ge 5 W.heap.size with hx | hx
  · exact hx
  · rw [Array.getElem?_eq_none hx] at hc; cases hc
theorem Fr.low {w w' : World} (h : Fr (fun _ => False) w w') : Below w.heap.size w w' := ⟨h.os, h.tape, h.output, h.size, fun k hk => h.block k hk (fun x => x)⟩
set_option maxRecDepth 100000

theorem nat_u32 {a : Int} (h : (Lit.int .u32 a).wf = true) : ∃ n : Nat, a = n ∧ n < 4294967296 := ⟨a.toNat, by have := bounds_u32 h; omega, by have := bounds_u32 h; omega⟩
theorem nat_u8 {a : Int} (h : (Lit.int .u8 a).wf = true) : ∃ n : Nat, a = n ∧ n < 256 := ⟨a.toNat, by have := bounds_u8 h; omega, by have := bounds_u8 h; omega⟩
theorem bulk_pos {H : Type} (d : DataW H) : 1 ≤ Rows.uptoBulk d := by
  unfold Rows.uptoBulk
  split <;> omega
theorem bulk_len {H : Type} : ∀ l : List (DataW H), l.length ≤ Rows.uptoBulkAll l
  | [] => Nat.zero_le _
  | d :: r => by
    have h1 := bulk_pos d
    have h2 := bulk_len r
    simp only [Rows.uptoBulkAll, List.length_cons]
    omega
theorem bulk_in {H : Type} : ∀ (l : List (DataW H)) (d : DataW H), d ∈ l → Rows.uptoBulk d ≤ Rows.uptoBulkAll l
  | [], d, h => by cases h
  | x :: r, d, h => by
    simp only [Rows.uptoBulkAll]
    rcases List.mem_cons.1 h with rfl | h
    · omega
    · have := bulk_in r d h
      omega
theorem Tryz.zclU32 : Tryz.prog.cellsOf 22 = 1 := by kernel_rfl
theorem Tryz.zclU8 : Tryz.prog.cellsOf 5 = 1 := by kernel_rfl
theorem Tryz.zclF32 : Tryz.prog.cellsOf 68 = 1 := by kernel_rfl
theorem Tryz.zclStr : Tryz.prog.cellsOf 9 = 1 := by kernel_rfl
theorem Tryz.zclFd : Tryz.prog.cellsOf 70 = 5 := by kernel_rfl
theorem Tryz.zclId : Tryz.prog.cellsOf 24 = 2 := by kernel_rfl
theorem Tryz.zclSlf : Tryz.prog.cellsOf 25 = 1 := by kernel_rfl
theorem Tryz.zclRq : Tryz.prog.cellsOf 27 = 10 := by kernel_rfl
theorem trod_floatw {H : Type} {enc : TypeId × Value → H} {P : Program} {w : World} {base : Nat} {spare : Nat → Bool} {held : Bool} {fuel : Nat} {t : TypeId} {cs : List Value} {x : DataW H × List MemPlace} (ht : P.underlying t = some (.float .f32)) (h : DataW.trod enc P w base spare held fuel t cs = some x) : ∃ b, cs = [.float .f32 b] ∧ b < 4294967296 := by
  cases fuel with
  | zero => simp [DataW.trod] at h
  | succ n =>
    unfold DataW.trod at h
    rw [ht] at h
    split at h <;> simp_all [Lit.wf]
    rename_i k' b hk
    subst hk
    by_cases hh : k' = FloatKind.f32 ∧ decide (b < 4294967296) = true
    · exact ⟨_, ⟨hh.1, rfl⟩, of_decide_eq_true hh.2⟩
    · exact absurd ((if_neg hh).symm.trans h) (by simp)
/-- A row's cells, one element behind the other. -/
theorem rows_at {W : World} {a : Addr} {z : Nat} (f : Nat → List Value) : ∀ len, (∀ i, i < len → (f i).length = z) → (∀ i, i < len → ∀ j, j < z → W.cell? ((a.add (i * z)).add j) = (f i)[j]?) → ((List.range len).flatMap f).length = len * z ∧ ∀ k u, ((List.range len).flatMap f)[k]? = some u → W.cell? (a.add k) = some u
  | 0, _, _ => by simp
  | n + 1, hl, hc => by
    obtain ⟨ih1, ih2⟩ := rows_at f n (fun i hi => hl i (by omega)) (fun i hi => hc i (by omega))
    rw [List.range_succ, List.flatMap_append]
    have e : [n].flatMap f = f n := by simp
    rw [e]
    refine ⟨by rw [List.length_append, ih1, hl n (by omega), Nat.succ_mul], fun k u hk => ?_⟩
    by_cases h : k < n * z
    · rw [List.getElem?_append_left (by omega)] at hk
      exact ih2 k u hk
    · rw [List.getElem?_append_right (by omega), ih1] at hk
      have hj : k - n * z < z := by have := (List.getElem?_eq_some_iff.1 hk).1; rw [hl n (by omega)] at this; exact this
      have := hc n (by omega) (k - n * z) hj
      rw [hk] at this
      rw [← this]
      congr 1
      have e2 : n * z + (k - n * z) = k := by omega
      rw [Addr.add_add, e2]
theorem id_of_trod {H : Type} {enc : TypeId × Value → H} {W : World} {fuel : Nat} {cs : List Value} {x : DataW H × List MemPlace} (h : DataW.trod enc Tryz.prog W 0 (fun _ => true) true fuel 24 cs = some x) :
    ∃ c k : Nat, cs = [.int .u32 (c : Nat), .int .u32 (k : Nat)] ∧ c < 4294967296 ∧ k < 4294967296 := by
  obtain ⟨xs, n, _, rfl, hl, hlen, hf⟩ := DataW.trod_struct Tryz.underlying24 h
  rw [Tryz.zclId] at hl
  have h0 := hf 0 _ rfl
  have h1 := hf 1 _ rfl
  match cs, hl with
  | [c0, c1], _ =>
    match xs, hlen with
    | [y0, y1], _ =>
      simp [Tryz.zclU32] at h0 h1
      obtain ⟨a, e0, _, wa⟩ := DataW.trod_int Tryz.underlying22 h0
      obtain ⟨b, e1, _, wb⟩ := DataW.trod_int Tryz.underlying22 h1
      simp only [List.cons.injEq, and_true] at e0 e1
      subst e0 e1
      obtain ⟨a, rfl, ha⟩ := nat_u32 wa
      obtain ⟨b, rfl, hb⟩ := nat_u32 wb
      exact ⟨a, b, rfl, ha, hb⟩
/-- The five errors out of what the row lays. -/
theorem g6_of_five {W : World} {n1 n2 n4 n5 n6 : String} (hL : laidMet Tryz.prog [(n1, Rows.laid_almoner_api_ErrShort), (n2, Rows.laid_almoner_api_ErrLong), (n4, Rows.laid_almoner_api_ErrRange), (n5, Rows.laid_almoner_api_ErrKind), (n6, Rows.laid_almoner_api_ErrOrder)] W)
    (k1 : Tryz.prog.globalNamed n1 = some 5) (k2 : Tryz.prog.globalNamed n2 = some 2) (k4 : Tryz.prog.globalNamed n4 = some 1) (k5 : Tryz.prog.globalNamed n5 = some 0) (k6 : Tryz.prog.globalNamed n6 = some 4) : ∃ E, G6 W E := by
  obtain ⟨a1, h1⟩ := sentinel_cell hL (.head _) k1 (by kernel_rfl)
  obtain ⟨a2, h2⟩ := sentinel_cell hL (.tail _ (.head _)) k2 (by kernel_rfl)
  obtain ⟨a4, h4⟩ := sentinel_cell hL (.tail _ (.tail _ (.head _))) k4 (by kernel_rfl)
  obtain ⟨a5, h5⟩ := sentinel_cell hL (.tail _ (.tail _ (.tail _ (.head _)))) k5 (by kernel_rfl)
  obtain ⟨a6, h6⟩ := sentinel_cell hL (.tail _ (.tail _ (.tail _ (.tail _ (.head _))))) k6 (by kernel_rfl)
  exact ⟨fun n => if n = 1 then a1 else if n = 2 then a2 else if n = 3 then a1 else if n = 4 then a4 else if n = 5 then a5 else a6, ⟨h1, h2, h1⟩, h4, h5, h6⟩
/-- A world for a witness: five errors. -/
noncomputable def errLow5 : Nat := (World.holding Tryz.prog default ⟨#[], #[], []⟩).heap.size
noncomputable def errWorld5 (os : Os) : World :=
  let w0 := World.holding Tryz.prog os ⟨#[.cells #[.string ⟨#[116, 111, 111, 32, 102, 101, 119, 32, 98, 121, 116, 101, 115]⟩] 281, .cells #[.string ⟨#[116, 111, 111, 32, 108, 111, 110, 103]⟩] 281, .cells #[.string ⟨#[97, 32, 110, 117, 109, 98, 101, 114, 32, 116, 104, 97, 116, 32, 109, 97, 121, 32, 110, 111, 116, 32, 98, 101]⟩] 281, .cells #[.string ⟨#[110, 111, 32, 115, 117, 99, 104, 32, 107, 105, 110, 100]⟩] 281, .cells #[.string ⟨#[110, 111, 116, 32, 105, 110, 32, 111, 114, 100, 101, 114]⟩] 281], #[], []⟩
  { w0 with heap := (((((w0.heap.modify 5 fun
      | .cells _ t frozen => .cells #[.iface 265 (.pointer (some ⟨errLow5 + 0, 0, none⟩))] t frozen
      | o => o).modify 2 fun
      | .cells _ t frozen => .cells #[.iface 265 (.pointer (some ⟨errLow5 + 1, 0, none⟩))] t frozen
      | o => o).modify 1 fun
      | .cells _ t frozen => .cells #[.iface 265 (.pointer (some ⟨errLow5 + 2, 0, none⟩))] t frozen
      | o => o).modify 0 fun
      | .cells _ t frozen => .cells #[.iface 265 (.pointer (some ⟨errLow5 + 3, 0, none⟩))] t frozen
      | o => o).modify 4 fun
      | .cells _ t frozen => .cells #[.iface 265 (.pointer (some ⟨errLow5 + 4, 0, none⟩))] t frozen
      | o => o) }
theorem max63 {n : Nat} (h : n ≤ maxLen) : n < 9223372036854775808 := Nat.lt_of_le_of_lt h (by decide)
/-- A field's bounds. -/
def F5.fit (s : F5) : Prop := s.n.size < 9223372036854775808 ∧ s.k < 256 ∧ s.t.size < 9223372036854775808 ∧ s.v < 4294967296 ∧ s.u < 256
set_option maxRecDepth 100000

theorem f5f_of_trod {H : Type} {enc : TypeId × Value → H} {W : World} {fuel : Nat} {cs : List Value} {x : DataW H × List MemPlace} (h : DataW.trod enc Tryz.prog W 0 (fun _ => true) true fuel 70 cs = some x) :
    ∃ s : F5, s.fit ∧ cs = [.string s.n, .int .u8 (s.k : Nat), .string s.t, .float .f32 s.v, .int .u8 (s.u : Nat)] := by
  obtain ⟨xs, n, _, rfl, hl, hlen, hf⟩ := DataW.trod_struct Tryz.underlying70 h
  rw [Tryz.zclFd] at hl
  have h0 := hf 0 _ rfl
  have h1 := hf 1 _ rfl
  have h2 := hf 2 _ rfl
  have h3 := hf 3 _ rfl
  have h4 := hf 4 _ rfl
  match cs, hl with
  | [c0, c1, c2, c3, c4], _ =>
    match xs, hlen with
    | [y0, y1, y2, y3, y4], _ =>
      simp [Tryz.zclU8, Tryz.zclStr, Tryz.zclF32] at h0 h1 h2 h3 h4
      obtain ⟨a, e0, _, wa⟩ := DataW.trod_string Tryz.underlying9 h0
      obtain ⟨b, e1, _, wb⟩ := DataW.trod_int Tryz.underlying5 h1
      obtain ⟨c, e2, _, wc⟩ := DataW.trod_string Tryz.underlying9 h2
      obtain ⟨d, e3, wd⟩ := trod_floatw Tryz.underlying68 h3
      obtain ⟨e, e4, _, we⟩ := DataW.trod_int Tryz.underlying5 h4
      simp only [List.cons.injEq, and_true] at e0 e1 e2 e3 e4
      subst e0 e1 e2 e3 e4
      obtain ⟨b, rfl, hb⟩ := nat_u8 wb
      obtain ⟨e, rfl, he⟩ := nat_u8 we
      exact ⟨⟨a, b, c, d, e⟩, ⟨max63 wa, hb, max63 wc, wd, he⟩, rfl⟩
/-- Fields that came in. -/
theorem rdF_of_trod {H : Type} {enc : TypeId × Value → H} {W : World} {fuel : Nat} {v : Value} {x : DataW H × List MemPlace} (hf : DataW.trod enc Tryz.prog W 0 (fun _ => true) true fuel 25 [v] = some x) :
    ∃ A : List F5, Rd W v A.length 5 (fcells A) ∧ (∀ f ∈ A, f.fit) ∧ A.length + 1 ≤ Rows.uptoBulk x.1 := by
  rcases open_slice Tryz.underlying25 hf with ⟨hcs, hx⟩ | ⟨a, len', cap', m, n, D, Pl, hcs, _, hl, hm, hmm, hx, hel⟩
  · simp only [List.cons.injEq, and_true] at hcs
    subst hcs
    exact ⟨[], Rd.nil W 5, fun f hf => (by cases hf), bulk_pos _⟩
  · simp only [List.cons.injEq, and_true] at hcs
    subst hcs
    subst hx
    simp only [if_true] at hmm
    subst hmm
    have hp : ∀ i, ∃ s : F5, s.fit ∧ (i < m → ∀ j, j < 5 → W.cell? ((a.add (i * 5)).add j) = [Value.string (s).n, .int .u8 ((s).k : Nat), .string (s).t, .float .f32 (s).v, .int .u8 ((s).u : Nat)][j]?) := fun i => by
      by_cases hi : i < m
      · obtain ⟨cs', h1, h2⟩ := hel i hi
        rw [Tryz.zclFd] at h1
        obtain ⟨_, hlen, hcell⟩ := World.cells?_some h1
        obtain ⟨s, hs, rfl⟩ := f5f_of_trod h2
        exact ⟨s, hs, fun _ => hcell⟩
      · exact ⟨⟨ByteArray.empty, 0, ByteArray.empty, 0, 0⟩, ⟨by decide, by decide, by decide, by decide, by decide⟩, fun h => absurd h hi⟩
    obtain ⟨Q, hQb, hQ⟩ : ∃ Q : Nat → F5, (∀ i, (Q i).fit) ∧ ∀ i, i < m → ∀ j, j < 5 → W.cell? ((a.add (i * 5)).add j) = ((fun s : F5 => [Value.string (s).n, .int .u8 ((s).k : Nat), .string (s).t, .float .f32 (s).v, .int .u8 ((s).u : Nat)]) (Q i))[j]? := ⟨fun i => Classical.choose (hp i), fun i => (Classical.choose_spec (hp i)).1, fun i => (Classical.choose_spec (hp i)).2⟩
    have hbulk := bulk_len ((List.range len').map D)
    have hd : Rows.uptoBulkAll ((List.range len').map D) + 1 ≤ Rows.uptoBulk (DataW.slice ((List.range len').map D) ((List.range (m - len')).map fun j => D (len' + j)) : DataW H) := by
      simp only [Rows.uptoBulk]; omega
    obtain ⟨hr1, hr2⟩ := rows_at (W := W) (a := a) (z := 5) (fun i => (fun s : F5 => [Value.string (s).n, .int .u8 ((s).k : Nat), .string (s).t, .float .f32 (s).v, .int .u8 ((s).u : Nat)]) (Q i)) len' (fun i _ => rfl) (fun i hi => hQ i (by omega))
    have hce : fcells ((List.range len').map Q) = (List.range len').flatMap (fun i => (fun s : F5 => [Value.string (s).n, .int .u8 ((s).k : Nat), .string (s).t, .float .f32 (s).v, .int .u8 ((s).u : Nat)]) (Q i)) := by
      unfold fcells
      rw [List.flatMap_map]
    have hll : ((List.range len').map Q).length = len' := by simp
    refine ⟨(List.range len').map Q, ⟨⟨some a, m, by rw [hll], by rw [hll]; exact hl, fun e => (by cases e), fun j u hu => ?_⟩, by rw [hll, hce, hr1], fcells_one _⟩, fun f hf => ?_, by simp at hbulk ⊢; omega⟩
    · rw [hce] at hu
      have h1 := hr2 j u hu
      have h0 := hr2 0 _ (List.getElem?_eq_getElem (by have := (List.getElem?_eq_some_iff.1 hu).1; omega))
      obtain ⟨g, o, sp⟩ := a
      have hsp : sp = none := by simpa [Addr.add] using World.cell?_spot h0
      subst hsp
      exact ⟨g, o, rfl, by rw [Addr.add_mid] at h1; exact h1⟩
    · obtain ⟨i, _, rfl⟩ := List.mem_map.1 hf
      exact hQb i
theorem rqf_of_trod {H : Type} {enc : TypeId × Value → H} {W : World} {fuel : Nat} {cs : List Value} {x : DataW H × List MemPlace} (h : DataW.trod enc Tryz.prog W 0 (fun _ => true) true fuel 27 cs = some x) : 
    ∃ (r : RQ) (F : List F5), cs = [.int .u32 (r.cl : Nat), .int .u32 (r.nu : Nat), .int .u32 (r.ac : Nat), .int .u8 (r.op : Nat), .int .u32 (r.rc : Nat), .int .u32 (r.ve : Nat), .int .u32 (r.wa : Nat), .int .u32 (r.ow : Nat), r.fv, .string r.rs] ∧ Rd W r.fv F.length 5 (fcells F) ∧ (∀ f ∈ F, f.fit) ∧ (⟨r.cl, r.nu, r.ac, r.op, r.rc, r.ve, r.wa, r.ow, F.map F5.fld, r.rs⟩ : RqM).ok ∧ F.length + 1 ≤ Rows.uptoBulk x.1 := by
  obtain ⟨xs, n, _, rfl, hl, hlen, hf⟩ := DataW.trod_struct Tryz.underlying27 h
  rw [Tryz.zclRq] at hl
  have h0 := hf 0 _ rfl
  have h1 := hf 1 _ rfl
  have h2 := hf 2 _ rfl
  have h3 := hf 3 _ rfl
  have h4 := hf 4 _ rfl
  have h5 := hf 5 _ rfl
  have h6 := hf 6 _ rfl
  have h7 := hf 7 _ rfl
  have h8 := hf 8 _ rfl
  match cs, hl with
  | [c0, c1, c2, c3, c4, c5, c6, c7, c8, c9], _ =>
    match xs, hlen with
    | [y0, y1, y2, y3, y4, y5, y6, y7, y8], _ =>
      simp [Tryz.zclU32, Tryz.zclU8, Tryz.zclId, Tryz.zclSlf, Tryz.zclStr] at h0 h1 h2 h3 h4 h5 h6 h7 h8
      obtain ⟨cl, nu, e0, b0, b1⟩ := id_of_trod h0
      obtain ⟨ac, e1, q1, w1⟩ := DataW.trod_int Tryz.underlying22 h1
      obtain ⟨op, e2, q2, w2⟩ := DataW.trod_int Tryz.underlying5 h2
      obtain ⟨rc, e3, q3, w3⟩ := DataW.trod_int Tryz.underlying22 h3
      obtain ⟨ve, e4, q4, w4⟩ := DataW.trod_int Tryz.underlying22 h4
      obtain ⟨wa, e5, q5, w5⟩ := DataW.trod_int Tryz.underlying22 h5
      obtain ⟨ow, e6, q6, w6⟩ := DataW.trod_int Tryz.underlying22 h6
      obtain ⟨F, hF, hFb, bF⟩ := rdF_of_trod h7
      obtain ⟨rs, e8, q8, b8⟩ := DataW.trod_string Tryz.underlying9 h8
      simp only [List.cons.injEq, and_true] at e0 e1 e2 e3 e4 e5 e6 e8
      obtain ⟨rfl, rfl⟩ := e0
      subst e1 e2 e3 e4 e5 e6 e8
      obtain ⟨ac, rfl, c2⟩ := nat_u32 w1
      obtain ⟨op, rfl, c3⟩ := nat_u8 w2
      obtain ⟨rc, rfl, c4⟩ := nat_u32 w3
      obtain ⟨ve, rfl, c5⟩ := nat_u32 w4
      obtain ⟨wa, rfl, c6⟩ := nat_u32 w5
      obtain ⟨ow, rfl, c7⟩ := nat_u32 w6
      have k7 := bulk_in ([y0, y1, y2, y3, y4, y5, y6, y7, y8].map (·.1)) y7.1 (by simp)
      exact ⟨⟨cl, nu, ac, op, rc, ve, wa, ow, c8, rs⟩, F, rfl, hF, hFb, ⟨b0, b1, c2, c3, c4, c5, c6, c7, max63 b8⟩, by simp only [Rows.uptoBulk]; omega⟩
theorem rqf_of_reading {H : Type} {enc : TypeId × Value → H} {W : World} {base : Nat} {v : Value} {d : DataW H} {p : List MemPlace} (hval : Value.okWide Tryz.prog W .any base 27 v) (h : DataW.Trod enc Tryz.prog W 0 (fun _ => true) true 27 v d p) :
    ∃ (s : RQ) (F : List F5), v = s.v ∧ Rd W s.fv F.length 5 (fcells F) ∧ (∀ f ∈ F, f.fit) ∧ (⟨s.cl, s.nu, s.ac, s.op, s.rc, s.ve, s.wa, s.ow, F.map F5.fld, s.rs⟩ : RqM).ok ∧ F.length + 1 ≤ Rows.uptoBulk d := by
  obtain ⟨cs, rfl, hsz⟩ := okWide_struct Tryz.underlying27 hval
  obtain ⟨fuel, hf0⟩ := h
  obtain ⟨s, F, e, hF, h1, h2, h3⟩ := rqf_of_trod hf0
  refine ⟨s, F, ?_, hF, h1, h2, h3⟩
  obtain ⟨l⟩ := cs
  have hc : (Value.agg ⟨l⟩).cells.toList = l := rfl
  rw [hc] at e
  rw [e]
  rfl
theorem fdI_of_rd {w : World} {x : Value} {A : List F5} (h : Rd w x A.length 5 (fcells A)) (hA : ∀ f ∈ A, f.fit) (hl : A.length < 9223372036854775808) : FdI w x (A.map F5.fld) := by
  obtain ⟨xo, c, e, h1, _, h3⟩ := h.f
  have hN : ∀ g : Nat, ¬ (fun _ : Nat => False) g := fun _ h => h
  refine ⟨⟨xo, c, by rw [List.length_map]; exact e, ⟨by rw [List.length_map]; exact h1, fun j f hj => ?_⟩⟩, by rw [List.length_map]; exact hl⟩
  rw [List.getElem?_map] at hj
  obtain ⟨a, ha, rfl⟩ := Option.map_eq_some_iff.1 hj
  obtain ⟨hlt, ea⟩ := List.getElem?_eq_some_iff.1 ha
  obtain ⟨f1, f2, f3, f4, f5⟩ := hA a (List.mem_of_getElem? ha)
  obtain ⟨d0, d1, d2, d3, d4⟩ := fcells_at A j hlt
  rw [ea] at d0 d1 d2 d3 d4
  obtain ⟨g, o, hg, k0⟩ := h3 _ _ d0
  have hc : ∀ i u, (fcells A)[i]? = some u → w.cell? ⟨g, o + i, none⟩ = some u := fun i u hu => by
    obtain ⟨g', o', hg', k⟩ := h3 i u hu
    rw [hg] at hg'
    cases hg'
    exact k
  exact ⟨⟨f1, f2, f3, f4, f5⟩, g, o, hg, hN g, hc _ _ d0, hc _ _ d1, hc _ _ d2, hc _ _ d3, hc _ _ d4⟩
end Go.Proofs.YtjkkonhhnmjcaaaGreatDoor

namespace Go.Proofs.YtjkkonhhnmjcaaaGreatDoor
open Go.ChangeShapes Go.WideShapes Go.ChangeAt Go.RowKit
set_option maxRecDepth 100000

theorem sform_contract (H : Type) (enc : TypeId × Value → H) (W : World) (base : Nat) (args : Array Value) (ds gs : List (DataW H)) (before : List MemPlace)
    (hval : ∀ (j : Nat) t v, Tryz.f3.params[j]? = some t → args[j]? = some v → Value.okWide Tryz.prog W .any base t v)
    (hW : DataW.Whole enc Tryz.prog Tryz.f3.params.toList Rows.sessionFormedSpec.vars false W args.toList ds gs before) (hk : Rows.uptoSmall H (ds ++ gs) = true) (hL : laidMetH Tryz.prog Rows.sessionFormedUptoRow.laid W) (hsh : W.ShapedOpen Tryz.prog) :
    Calls Tryz.prog 3 args W fun e W' => ∃ v, e = .returned v ∧ Rows.sessionFormedSpec.post enc Tryz.prog Tryz.f3 false true false false W args v W' := by
  have hW' := hW
  obtain ⟨p, q, hA0, hV, rfl, hfz, hnd⟩ := hW
  have hA : DataW.TrodAll enc Tryz.prog W 0 (fun _ => true) true Tryz.f3.params.toList args.toList ds p := hA0
  rw [Tryz.params3] at hA hval
  obtain ⟨v0, vs0, d0, ds0, p0, q0, hargs, rfl, rfl, h0, r0⟩ := trodAll_cons hA
  obtain ⟨rfl, rfl, rfl⟩ := trodAll_nil r0
  obtain rfl : args = #[v0] := by cases args; simp_all
  obtain ⟨rfl, rfl⟩ := trodVars_none hV
  have hbulk : Rows.uptoBulk d0 + 0 ≤ 1048576 := by
    have h := of_decide_eq_true hk
    simpa only [List.append_nil, Rows.uptoBulkAll] using h
  obtain ⟨E, hg⟩ := g6_of_five (show laidMet Tryz.prog [("almoner/api.ErrShort", Rows.laid_almoner_api_ErrShort), ("almoner/api.ErrLong", Rows.laid_almoner_api_ErrLong), ("almoner/api.ErrRange", Rows.laid_almoner_api_ErrRange), ("almoner/api.ErrKind", Rows.laid_almoner_api_ErrKind), ("almoner/api.ErrOrder", Rows.laid_almoner_api_ErrOrder)] W from hL) (by kernel_rfl) (by kernel_rfl) (by kernel_rfl) (by kernel_rfl) (by kernel_rfl)
  obtain ⟨s, F, rfl, hF, hfit, hok, bF⟩ := rqf_of_reading (hval 0 27 v0 rfl rfl) h0
  refine (sformed_any s F E W hg (heap_ok hsh) hF (fdI_of_rd hF hfit (by omega)) (by omega) (fun f hf => ⟨(hfit f hf).2.2.2.1, (hfit f hf).2.2.2.2⟩) hok).mono fun e W' ⟨he, hf⟩ => ?_
  subst he
  have hlt : ∀ x ∈ p0 ++ [], x.block < W.heap.size := fun x hx => hW'.lt x (by simpa using hx)
  have hb := hf.low
  refine ⟨_, rfl, _, _, _, [], p0 ++ [], [], hW', ?_, ?_, ?_, hb.frame _, fun h => by cases h⟩
  · exact trodAll_cons_mk (shut_bool Tryz.underlying4 true) trodAll_mk0
  · exact trodAll_cons_mk (Below.trod (by kernel_rfl) (by kernel_rfl) (by decide +kernel) h0 hb (fun x hx => hlt x (by simp [hx]))) trodAll_mk0
  · rfl
theorem sform_laid_met (os : Os) : laidMet Tryz.prog Rows.sessionFormedUptoRow.laid ((errWorld5 os).forCall (fun _ _ => 0) ⟨#[], #[.agg #[.int .u32 0, .int .u32 0, .int .u32 0, .int .u8 0, .int .u32 0, .int .u32 0, .int .u32 0, .int .u32 0, .slice none 0 0, .string ⟨#[]⟩]], []⟩).memory :=
  laidMet_of_run' 8 (by kernel_rfl) (by kernel_rfl)
theorem sform_reads (os : Os) {H : Type} (enc : TypeId × Value → H) : ∃ places, DataW.whole enc Tryz.prog ((errWorld5 os).forCall (fun _ _ => 0) ⟨#[], #[.agg #[.int .u32 0, .int .u32 0, .int .u32 0, .int .u8 0, .int .u32 0, .int .u32 0, .int .u32 0, .int .u32 0, .slice none 0 0, .string ⟨#[]⟩]], []⟩).memory Tryz.f3.params.toList Rows.sessionFormedSpec.vars false #[Value.agg #[.int .u32 0, .int .u32 0, .int .u32 0, .int .u8 0, .int .u32 0, .int .u32 0, .int .u32 0, .int .u32 0, .slice none 0 0, .string ⟨#[]⟩]].toList 8 = some ([.agg [.agg [.lit (.int .u32 0), .lit (.int .u32 0)], .lit (.int .u32 0), .lit (.int .u8 0), .lit (.int .u32 0), .lit (.int .u32 0), .lit (.int .u32 0), .lit (.int .u32 0), .nil, .lit (.string [])]], [], places) :=
  ⟨[], by kernel_rfl⟩
theorem sform_lifted (os : Os) (started : os.Started) (H : Type) (enc : TypeId × Value → H) (F : Stop.Interp) :
    ReturnsInHanded {} Tryz.checked os 3 .any ((Rows.OpenSpec.upto Rows.sessionFormedSpec).preRow enc Tryz.prog Tryz.f3 Rows.sessionFormedUptoRow.domain false Rows.sessionFormedUptoRow.laid) (((Rows.OpenSpec.upto Rows.sessionFormedSpec).at F).post enc Tryz.prog Tryz.f3 false true false false) := by
  obtain ⟨places, hx⟩ := sform_reads os enc
  refine returnsInHanded_of_row (C := Tryz.checked) (s := Rows.OpenSpec.upto Rows.sessionFormedSpec) Tryz.ownKnob started (by kernel_rfl) Tryz.func3
    (witness_row_atRef (enc := enc) (C := Tryz.checked) false (errWorld5 os) #[.agg #[.int .u32 0, .int .u32 0, .int .u32 0, .int .u8 0, .int .u32 0, .int .u32 0, .int .u32 0, .int .u32 0, .slice none 0 0, .string ⟨#[]⟩]] rfl (by kernel_rfl) (by kernel_rfl) (by kernel_rfl)
      (OpenSpec.preRow_of_cond 8 hx (by kernel_rfl) (fun k hk => by cases hk; kernel_rfl) (by kernel_rfl) (sform_laid_met os))) ?_
  intro W base args ds gs before hval hW _ hcond _ hL hsh _
  exact sform_contract H enc W base args ds gs before hval hW (hcond _ rfl) hL hsh
theorem sform_said : Rows.SessionFormedUptoSaid :=
  OpenClaim.holds_of_cond 3 Tryz.f3 rfl rfl rfl rfl rfl rfl rfl ⟨rfl, rfl, rfl, rfl, rfl⟩ rfl rfl rfl rfl rfl (by kernel_rfl) Tryz.func3 (by kernel_rfl)
    (of_decide_eq_true (by kernel_rfl)) (by unfold Func.isWrapper; first | (rw [if_pos (by decide +kernel)]; kernel_rfl) | (rw [if_neg (by decide +kernel)]; exact ⟨rfl, rfl⟩))
    (fun os started H enc _ F => by rw [OpenClaim.pre_eq_preRow]; exact sform_lifted os started H enc F)
theorem sform_plain (f : FuncId) (fn : Func) (hf : Tryz.pinned.checked.prog.funcNamed Rows.sessionFormedUptoRow.func = some f) (hfn : Tryz.pinned.checked.prog.funcs[f]? = some fn) :
    true = Tryz.pinned.checked.prog.looks [] ∧ ∀ (j : Nat) t, fn.params[j]? = some t → Tryz.pinned.checked.prog.wantsStandIn t = false := by
  obtain rfl : f = 3 := Option.some.inj ((show Tryz.prog.funcNamed Rows.sessionFormedUptoRow.func = some 3 by kernel_rfl).symm.trans hf) |>.symm
  obtain rfl : fn = Tryz.f3 := (Option.some.inj (Tryz.func3.symm.trans hfn)).symm
  refine ⟨by kernel_rfl, fun j t ht => ?_⟩
  rw [Tryz.params3] at ht
  have ht' : t = 27 := by
    have h := Array.mem_of_getElem? ht
    simpa using h
  subst ht'
  exact (show Tryz.prog.wantsStandIn 27 = false by kernel_rfl)
/-- THE SECOND FORM's CARD. -/
theorem sform_card : Rows.SessionFormedUptoCardSaid :=
  Claim7.holds_tied_plain_at .later [] _ _ _ _ sform_said (fun _ h => by cases h) (by kernel_rfl) (fun _ h => by cases h) sessionFormedUpto_row_tie rfl ⟨rfl, rfl⟩ (by kernel_rfl) rfl sform_plain (by kernel_rfl)
#print axioms sform_card
end Go.Proofs.YtjkkonhhnmjcaaaGreatDoor

