import Derived.Test.YtjkkonhhnmjcaaaGreatDoorPsr
namespace Go.Proofs.YtjkkonhhnmjcaaaGreatDoor
open Go.RowKit

theorem Fr.soak {S : Nat → Prop} {w a b : World} (h : Fr (fun _ => False) w a) (k : Fr S a b) (hS : ∀ i, S i → w.heap.size ≤ i) : Fr (fun _ => False) w b :=
  h.trans k (fun i hi hs => by have := hS i hs; omega)
theorem fk_mem (k : Int) : fk k ∈ kinds := by
  unfold fk
  split
  · assumption
  · decide
/-- A call in a box of its own. -/
def Box (w : World) (b : Nat) (p : Pt) : Prop := w.cell? ⟨b, 0, none⟩ = some (.int .i64 p.k) ∧ w.cell? ⟨b, 1, none⟩ = some (.int .u64 p.u) ∧ w.cell? ⟨b, 2, none⟩ = some (.string p.s) ∧ w.cell? ⟨b, 3, none⟩ = some (.int .i64 p.n) ∧ w.cell? ⟨b, 4, none⟩ = some (.int .i64 p.m)
theorem Box.fr {w w' : World} {b : Nat} {p : Pt} {S : Nat → Prop} (h : Box w b p) (hf : Fr S w w') (hS : ¬ S b) : Box w' b p := by
  obtain ⟨h0, h1, h2, h3, h4⟩ := h
  have hb : b < w.heap.size := lt_of_cell h0
  exact ⟨(hf.cell hb hS).trans h0, (hf.cell hb hS).trans h1, (hf.cell hb hS).trans h2, (hf.cell hb hS).trans h3, (hf.cell hb hS).trans h4⟩
/-- Two writers beside one another, k calls done. -/
def Inv2 (w wr : World) (b1 b2 : Nat) (A B : List Pt) (k : Nat) (ea er : Addr) : Prop :=
  ∃ F1 F2, W wr b1 F1 (run (A.take k) ea er) ∧ W wr b2 F2 (run (B.take k) ea er) ∧ Fr (fun _ => False) w wr ∧ (∀ i, F1 i → ¬ F2 i) ∧ (∀ i, F1 i → w.heap.size ≤ i) ∧ (∀ i, F2 i → w.heap.size ≤ i) ∧ ∀ x ∈ (A.zip B).take k, x.1.fit.k = x.2.fit.k ∧ x.1.fit.k ≠ 5 ∧ x.1.fit.k ≤ 8

theorem run_snoc (l : List Pt) (k : Nat) (h : k < l.length) (ea er : Addr) : run (l.take (k + 1)) ea er = (run (l.take k) ea er).lay l[k].fit ea er := by
  rw [List.take_add_one, List.getElem?_eq_getElem h, Option.toList_some]
  unfold run
  rw [List.foldl_append]
  rfl
theorem inv_step {w wr wC w6 w7 : World} {b1 b2 k : Nat} {A B : List Pt} {ea er : Addr} {F1 F2 F1' F2' : Nat → Prop} {p q : Pt} (ha : k < A.length) (hb : k < B.length) (hp : A[k].fit = p) (hq : B[k].fit = q) (hk : p.k = q.k) (h5 : p.k ≠ 5) (h8 : p.k ≤ 8)
    (hkd : ∀ x ∈ (A.zip B).take k, x.1.fit.k = x.2.fit.k ∧ x.1.fit.k ≠ 5 ∧ x.1.fit.k ≤ 8)
    (hW1 : W w6 b1 F1' ((run (A.take k) ea er).lay p ea er)) (hW2 : W w7 b2 F2' ((run (B.take k) ea er).lay q ea er)) (hA6 : Fr (fun _ => False) w w6) (hC : Fr (fun _ => False) wr wC) (hc1 : Ch wC w6 F1 F1') (hc2 : Ch w6 w7 F2 F2')
    (hdj : ∀ i, F1 i → ¬ F2 i) (hn1 : ∀ i, F1 i → w.heap.size ≤ i) (hn2 : ∀ i, F2 i → w.heap.size ≤ i) (lt2 : ∀ i, F2 i → i < wr.heap.size) (hwr : w.heap.size ≤ wr.heap.size) : Inv2 w w7 b1 b2 A B (k + 1) ea er := by
  have hd1 : ∀ i, F1' i → ¬ F2 i := fun i h1 h2 => by
    rcases hc1.new i h1 with hx | hx
    · exact hdj i hx h2
    · have := lt2 i h2; have := hC.size; omega
  have hs := hc1.fr.size
  refine ⟨F1', F2', ?_, ?_, hA6.soak hc2.fr hn2, ?_, ?_, ?_, ?_⟩
  · rw [run_snoc A k ha, hp]; exact hW1.frame hc2.fr hd1
  · rw [run_snoc B k hb, hq]; exact hW2
  · intro i h1 h2
    rcases hc2.new i h2 with hx | hx
    · exact hd1 i h1 hx
    · have := hW1.lt i h1; omega
  · intro i h1
    rcases hc1.new i h1 with hx | hx
    · exact hn1 i hx
    · have := hC.size; omega
  · intro i h2
    rcases hc2.new i h2 with hx | hx
    · exact hn2 i hx
    · have := hC.size; omega
  · intro x hx
    have hz : (A.zip B)[k]? = some (A[k], B[k]) := by rw [List.getElem?_zip_eq_some]; exact ⟨List.getElem?_eq_getElem ha, List.getElem?_eq_getElem hb⟩
    rw [List.take_add_one, hz, List.mem_append] at hx
    rcases hx with hx | hx
    · exact hkd x hx
    · simp at hx
      subst hx
      simp only [hp, hq]
      exact ⟨hk, h5, h8⟩
theorem and_mask (u k M : Nat) (hM : M = 2 ^ k - 1) (hk : k ≤ 64) (h : u < 18446744073709551616) : bits .and .u64 (u : Int) (M : Int) = ((u % 2 ^ k : Nat) : Int) := by
  have hp : 2 ^ k ≤ 2 ^ 64 := Nat.pow_le_pow_right (by decide) hk
  have h1 : 0 < 2 ^ k := Nat.two_pow_pos k
  have h64 : (2 : Nat) ^ 64 = 18446744073709551616 := by decide
  rw [u64_and_nat u M h (by omega), hM, Nat.and_two_pow_sub_one_eq_mod]
theorem cast_beq (a b : Nat) : (((a : Nat) : Int) == (b : Int)) = (a == b) := by
  rw [Bool.eq_iff_iff]; simp; omega
theorem ev1 {u v : Nat} {s s' : ByteArray} {n n' m m' : Int} (hu : u < 18446744073709551616) (hv : v < 18446744073709551616) : (bits .and .u64 (u : Int) 255 == bits .and .u64 (v : Int) 255) = eqv ⟨1, u, s, n, m⟩ ⟨1, v, s', n', m'⟩ := by
  rw [show (255 : Int) = ((255 : Nat) : Int) from rfl, and_mask u 8 255 (by decide) (by decide) hu, and_mask v 8 255 (by decide) (by decide) hv, cast_beq]; rfl
theorem ev2 {u v : Nat} {s s' : ByteArray} {n n' m m' : Int} (hu : u < 18446744073709551616) (hv : v < 18446744073709551616) : (bits .and .u64 (u : Int) 65535 == bits .and .u64 (v : Int) 65535) = eqv ⟨2, u, s, n, m⟩ ⟨2, v, s', n', m'⟩ := by
  rw [show (65535 : Int) = ((65535 : Nat) : Int) from rfl, and_mask u 16 65535 (by decide) (by decide) hu, and_mask v 16 65535 (by decide) (by decide) hv, cast_beq]; rfl
theorem ev4 {u v : Nat} {s s' : ByteArray} {n n' m m' : Int} (hu : u < 18446744073709551616) (hv : v < 18446744073709551616) : (bits .and .u64 (u : Int) 4294967295 == bits .and .u64 (v : Int) 4294967295) = eqv ⟨4, u, s, n, m⟩ ⟨4, v, s', n', m'⟩ := by
  rw [show (4294967295 : Int) = ((4294967295 : Nat) : Int) from rfl, and_mask u 32 4294967295 (by decide) (by decide) hu, and_mask v 32 4294967295 (by decide) (by decide) hv, cast_beq]; rfl
theorem ev8 {u v : Nat} {s s' : ByteArray} {n n' m m' : Int} : ((u : Int) == (v : Int)) = eqv ⟨8, u, s, n, m⟩ ⟨8, v, s', n', m'⟩ := by rw [cast_beq]; rfl
theorem ev6 {u v : Nat} {s s' : ByteArray} {n n' m m' : Int} : (s.toList == s'.toList) = eqv ⟨6, u, s, n, m⟩ ⟨6, v, s', n', m'⟩ := rfl
theorem ev7 {u v : Nat} {s s' : ByteArray} {n n' m m' : Int} : (n == n') = eqv ⟨7, u, s, n, m⟩ ⟨7, v, s', n', m'⟩ := rfl
theorem weight_mem {l : List Pt} {p : Pt} (h : p ∈ l) : 12 + p.s.size ≤ weight l := by
  induction l with
  | nil => cases h
  | cons q r ih =>
    simp only [weight, List.map_cons, List.sum_cons] at ih ⊢
    rcases List.mem_cons.1 h with rfl | h
    · omega
    · have := ih h
      omega
theorem weight_take (l : List Pt) (k : Nat) : weight (l.take k) ≤ weight l := by
  induction l generalizing k with
  | nil => simp [weight]
  | cons q r ih =>
    cases k with
    | zero => simp [weight]
    | succ k =>
      have := ih k
      simp only [weight, List.take_succ_cons, List.map_cons, List.sum_cons] at this ⊢
      omega
theorem putB_len (st : Wst) (x : List Nat) : (st.putB x).l.length ≤ st.l.length + x.length := by
  unfold Wst.putB; split <;> simp
theorem fail_len (st : Wst) (ea : Addr) : (st.fail ea).l.length = st.l.length := by
  unfold Wst.fail; split <;> rfl
theorem lay_len (st : Wst) (p : Pt) (ea er : Addr) : (st.lay p ea er).l.length ≤ st.l.length + (12 + p.s.size) := by
  unfold Wst.lay Wst.txt Wst.cnt
  have h1 := putB_len st (be 1 (p.u % 256))
  have h2 := putB_len st (be 2 (p.u % 65536))
  have h4 := putB_len st (be 4 (p.u % 4294967296))
  have h8 := putB_len st (be 8 p.u)
  have h6 := putB_len st (be 4 p.s.size ++ bytesOf p.s)
  have h7 := putB_len st (be 4 p.n.toNat)
  have f1 := fail_len st ea
  have f2 := fail_len st er
  simp only [be_length, List.length_append, bytesOf_length] at h1 h2 h4 h8 h6 h7
  repeat' split
  all_goals omega
theorem run_len_from (l : List Pt) (ea er : Addr) : ∀ st : Wst, (l.foldl (fun st p => st.lay p.fit ea er) st).l.length ≤ st.l.length + weight l := by
  induction l with
  | nil => intro st; simp [weight]
  | cons p r ih =>
    intro st
    have h1 := ih (st.lay p.fit ea er)
    have h2 := lay_len st p.fit ea er
    have h3 : p.fit.s = p.s := rfl
    rw [h3] at h2
    simp only [List.foldl_cons, weight, List.map_cons, List.sum_cons] at h1 ⊢
    omega
theorem run_len (l : List Pt) (ea er : Addr) : (run l ea er).l.length ≤ weight l := by
  have := run_len_from l ea er start
  simpa [run, start] using this
theorem fn_lt {k n : Int} (h : n < 9223372036854775808) : fn k n < 9223372036854775808 := by
  unfold fn; split <;> omega
theorem eqvs_snoc (A B : List Pt) (k : Nat) (ha : k < A.length) (hb : k < B.length) : eqvs A B (k + 1) = (eqvs A B k && eqv A[k].fit B[k].fit) := by
  have hz : (A.zip B)[k]? = some (A[k], B[k]) := by rw [List.getElem?_zip_eq_some]; exact ⟨List.getElem?_eq_getElem ha, List.getElem?_eq_getElem hb⟩
  unfold eqvs
  rw [List.take_add_one, hz, List.all_append]
  simp
end Go.Proofs.YtjkkonhhnmjcaaaGreatDoor
