import Derived.Test.YtoflkfnmbighaaaDkh
namespace Go.Proofs.Ytoflkfnmbighaaa
open Go.RowKit Go.ChangeShapes Go.WideShapes Go.Maps Go.Sort

theorem put_nil (k : Lit) (v : DataW Unit) : (DataW.map [] : DataW Unit).put k v = .map [(k, v)] := rfl
def sA : ByteArray := ⟨#[97]⟩
theorem nmA : nm sA = [97] := rfl
/-- A disk of one file. -/
theorem one_D (limit fb : Nat) (x : List UInt8) : ((DM.new limit).made x fb).D = .map [(.string x, .lit (.int .i64 (fb : Nat)))] := put_nil _ _
theorem one_has (v : DataW Unit) (x : List UInt8) : Maps.has (DataW.map [(.string x, v)] : DataW Unit) (.string x) = true := by
  simp [Maps.has, Lit.sameKey]
theorem one_size (v : DataW Unit) (x : List UInt8) : Maps.size (DataW.map [(.string x, v)] : DataW Unit) = 1 := rfl
theorem new_has (limit : Nat) (x : List UInt8) : Maps.has (DM.new limit).D (.string x) = false := rfl
theorem lit_srcW (w : World) (l : List Nat) (vs : Array Value) (c : Nat) (hv : vs.toList = cellsOf l) : Src (w.alloc (.cells vs 5)) (.slice (some ⟨w.heap.size, 0, none⟩) l.length c) l := by
  refine .inr (.inl ⟨w.heap.size, 0, c, rfl, fun j v hj => ?_⟩)
  rw [World.cell?_alloc_at _ _ _ _ rfl, Nat.zero_add, ← Array.getElem?_toList, hv]
  exact hj
/-- A disk of one file, written once. -/
def DM.one (L : Nat) (x : List UInt8) (fb : Nat) (l : List Nat) : DM := ⟨L, l.length, 1, false, false, 0, 0, .map [(.string x, .lit (.int .i64 (fb : Nat)))], fun k => if k = x then (FM.mk [] 0 []).put 1 l else ⟨[], 0, []⟩⟩
theorem put_b (n : Nat) (l : List Nat) : ((FM.mk [] 0 []).put n l).b = l ∧ ((FM.mk [] 0 []).put n l).safe = 0 := by
  unfold FM.put
  split
  · rename_i h
    have : l = [] := List.eq_nil_of_length_eq_zero h
    subst this
    exact ⟨rfl, rfl⟩
  · exact ⟨rfl, rfl⟩
theorem one_app (L fb : Nat) (x : List UInt8) (l : List Nat) : ((DM.new L).made x fb).app x l = DM.one L x fb l := by
  have hc : ((DM.new L).made x fb).count l.length = ({ (DM.new L).made x fb with writes := 1 }, l.length) := by simp [DM.count, DM.made, DM.new]
  unfold DM.app
  rw [hc]
  simp only [DM.one, DM.made, DM.new, put_nil, if_true, List.take_length, Nat.zero_add]
  congr 1
  funext k
  split <;> rfl
set_option maxRecDepth 100000 in
/-- The first Append onto a disk's only file. -/
theorem append_first (d m L fb : Nat) (q : DW) (O : Nat → Prop) (name : ByteArray) (x : Value) (l : List Nat) (w : World) (h : DkAt w d m ((DM.new L).made (nm name) fb) q O) (hn : name.size ≤ 64) (hx : Src w x l) (hxO : ∀ g o k c, x = .slice (some ⟨g, o, none⟩) k c → ¬ O g) (hxc : ∀ xo k c, x = .slice xo k c → k ≤ c) (hl : l.length ≤ L) (hL : L ≤ 1048576) :
    Calls Try.prog 10 #[.pointer (some ⟨d, 0, none⟩), .string name, x] w fun e w' => e = .returned (.int .i64 0) ∧ ∃ q' O', DkAt w' d m (DM.one L (nm name) fb l) q' O' ∧ Fr O w w' ∧ ∀ k, O' k → O k ∨ w.heap.size ≤ k := by
  refine (append_ok d m _ q O name x l w h rfl (by simp only [maxLen]; omega) (by rw [one_D]; exact one_has _ _) rfl hx hxO hxc (by simp [DM.made, DM.new]; exact hl) hL (by simp [DM.made, DM.new]) (by simp [DM.made, DM.new]) (by simp [DM.made, DM.new]) (by simp [DM.made, DM.new]) (by simp [DM.made, DM.new]) (by simp [DM.made]) (by simp [DM.made])).mono ?_
  rintro e w' ⟨rfl, h2⟩
  rw [one_app] at h2
  refine ⟨?_, h2⟩
  simp [DM.count, DM.made, DM.new, DM.code]
theorem one_pend (L fb : Nat) (x : List UInt8) (l : List Nat) : (DM.one L x fb l).pend = (l.length : Nat) := by
  simp [DM.pend, DM.one, ents, sumA, DM.pd, put_b]
theorem one_len (L fb : Nat) (x : List UInt8) (l : List Nat) (hl : l.length ≤ 1048576) (k : List UInt8) : ((DM.one L x fb l).F k).b.length ≤ 1048576 ∧ ((DM.one L x fb l).F k).safe ≤ 1048576 := by
  simp only [DM.one]
  split
  · rw [(put_b 1 l).1, (put_b 1 l).2]; omega
  · simp
theorem one_pd (L fb : Nat) (x : List UInt8) (l : List Nat) (hl : l.length ≤ 1048576) (k : List UInt8) : 0 ≤ (DM.one L x fb l).pd (.string k) ∧ (DM.one L x fb l).pd (.string k) ≤ 1048576 := by
  simp only [DM.pd, DM.one]
  split
  · rw [(put_b 1 l).1, (put_b 1 l).2]; omega
  · simp
theorem one_b (L fb : Nat) (x : List UInt8) (l : List Nat) : ((DM.one L x fb l).F x).b = l := by
  simp [DM.one, put_b]
set_option maxHeartbeats 1000000 in
set_option maxRecDepth 100000 in
theorem awake8 (w : World) : Calls Try.prog 4 #[] w fun e w' => e = .returned (.bool true) ∧ Fr (fun _ => False) w w' := by
  go_enter Try.func4, Try.ntmps4
  go_wp2_with fail
  refine (new_any 20 w (by decide) (by decide)).mono ?_
  rintro e w1 ⟨d, m, q, O, rfl, hD, hf, hO⟩
  have H1 := hide (And.intro hD (And.intro hf hO))
  clear hD hf hO
  go_wp2_with fail
  refine (create_ok d m _ q O sA w1 (unhide H1).1 rfl (by decide) (by decide) (new_has _ _) (by decide)).mono ?_
  rintro e w2 ⟨rfl, fb, q2, O2, hD2, hf2, hO2⟩
  have hF2 : Fr (fun _ => False) w w2 := (unhide H1).2.1.absorb hf2 (unhide H1).2.2
  have hN2 : ∀ k, O2 k → w.heap.size ≤ k := fun k hk => (hO2 k hk).elim ((unhide H1).2.2 k) (Nat.le_trans (unhide H1).2.1.size)
  have H2 := hide (And.intro hD2 (And.intro hF2 hN2))
  clear hD2 hf2 hO2 hF2 hN2 H1
  go_wp2_with fail
  have hbx := box1 w2 (.cells #[.int .u8 1, .int .u8 2] 5)
  refine (append_first d m 20 fb q2 O2 sA (.slice (some ⟨w2.heap.size, 0, none⟩) 2 2) [1, 2] _ ((unhide H2).1.fr hbx (fun _ _ h => h)) (by decide) (lit_srcW w2 [1, 2] #[.int .u8 1, .int .u8 2] 2 rfl) (fun g o k c e hO => by cases e; have := (unhide H2).1.lt _ hO; omega) (fun xo k c e => by cases e; decide) (by decide) (by decide)).mono ?_
  rintro e w3 ⟨rfl, q3, O3, hD3, hf3, hO3⟩
  have hF3 : Fr (fun _ => False) w w3 := ((unhide H2).2.1.trans hbx (fun _ _ h => h)).absorb hf3 (unhide H2).2.2
  have H3 := hide (And.intro hD3 hF3)
  clear hD3 hf3 hO3 hF3 H2 hbx
  go_wp2_with fail
  refine (pending_any d m _ q3 O3 w3 (unhide H3).1 (one_pd _ _ _ _ (by decide)) (show (1 : Nat) ≤ 256 by decide) (one_len _ _ _ _ (by decide))).mono ?_
  rintro e w4 ⟨rfl, hf4⟩
  rw [one_pend]
  have H4 := hide (And.intro ((unhide H3).1.fr hf4 (fun _ _ h => h)) ((unhide H3).2.trans hf4 (fun _ _ h => h)))
  clear hf4 H3
  go_wp2_with fail
  refine (size_at d m _ q3 O3 sA w4 (unhide H4).1 rfl (by simp [maxLen]; decide) (one_has _ _)).mono ?_
  rintro e w5 ⟨rfl, rfl⟩
  rw [one_b]
  go_wp2_with fail
  refine (writes_any d m _ q3 O3 _ (unhide H4).1).mono ?_
  rintro e w6 ⟨rfl, rfl⟩
  rw [show ((DM.one 20 (nm sA) fb [1, 2]).writes : Int) = 1 from rfl]
  go_wp2_with fail
  refine (off_any d m _ q3 O3 _ (unhide H4).1).mono ?_
  rintro e w7 ⟨rfl, rfl⟩
  rw [show (DM.one 20 (nm sA) fb [1, 2]).off = false from rfl]
  go_wp2_with fail
  go_ret
  exact ⟨rfl, (unhide H4).2⟩
end Go.Proofs.Ytoflkfnmbighaaa
