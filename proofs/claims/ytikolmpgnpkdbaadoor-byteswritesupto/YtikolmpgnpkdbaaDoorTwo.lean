import Derived.Test.YtikolmpgnpkdbaaDoorPsr
namespace Go.Proofs.YtikolmpgnpkdbaaDoor
open Go.RowKit

theorem Fr.soak {S : Nat → Prop} {w a b : World} (h : Fr (fun _ => False) w a) (k : Fr S a b) (hS : ∀ i, S i → w.heap.size ≤ i) : Fr (fun _ => False) w b :=
  h.trans k (fun i hi hs => by have := hS i hs; omega)
theorem fk_mem (k : Int) : fk k ∈ kinds := by
  unfold fk
  split
  · assumption
  · decide
/-- A call in a box of its own. -/
def Box (w : World) (b : Nat) (p : Pt) : Prop := w.cell? ⟨b, 0, none⟩ = some (.int .i64 p.k) ∧ w.cell? ⟨b, 1, none⟩ = some (.int .u64 p.u) ∧ w.cell? ⟨b, 2, none⟩ = some (.string p.s) ∧ w.cell? ⟨b, 3, none⟩ = some (.int .i64 p.n) ∧ w.cell? ⟨b, 4, none⟩ = some (.int .i64 p.m)
theorem box_new (w : World) (p : Pt) : Box (w.alloc (.cells #[.int .i64 p.k, .int .u64 p.u, .string p.s, .int .i64 p.n, .int .i64 p.m] 31)) w.heap.size p := by simp [Box]
theorem Box.fr {w w' : World} {b : Nat} {p : Pt} {S : Nat → Prop} (h : Box w b p) (hf : Fr S w w') (hS : ¬ S b) : Box w' b p := by
  obtain ⟨h0, h1, h2, h3, h4⟩ := h
  have hb : b < w.heap.size := lt_of_cell h0
  exact ⟨(hf.cell hb hS).trans h0, (hf.cell hb hS).trans h1, (hf.cell hb hS).trans h2, (hf.cell hb hS).trans h3, (hf.cell hb hS).trans h4⟩
/-- Two writers beside one another, k calls done. -/
def Inv2 (w wr : World) (b1 b2 : Nat) (A B : List Pt) (k : Nat) (ea er : Addr) : Prop :=
  ∃ F1 F2, W wr b1 F1 (run (A.take k) ea er) ∧ W wr b2 F2 (run (B.take k) ea er) ∧ Fr (fun _ => False) w wr ∧ (∀ i, F1 i → ¬ F2 i) ∧ (∀ i, F1 i → w.heap.size ≤ i) ∧ (∀ i, F2 i → w.heap.size ≤ i) ∧ ∀ x ∈ (A.zip B).take k, x.1.fit.k = x.2.fit.k ∧ x.1.fit.k ≠ 5 ∧ x.1.fit.k ≤ 8

theorem run_snoc (l : List Pt) (k : Nat) (h : k < l.length) (ea er : Addr) : run (l.take (k + 1)) ea er = (run (l.take k) ea er).lay l[k].fit ea er := by
  rw [List.take_add_one, List.getElem?_eq_getElem h, Option.toList_some]
  unfold run
  rw [List.foldl_append]
  rfl
theorem inv_step {w wr wC w6 w7 : World} {b1 b2 k : Nat} {A B : List Pt} {ea er : Addr} {F1 F2 F1' F2' : Nat → Prop} {p q : Pt} (ha : k < A.length) (hb : k < B.length) (hp : A[k].fit = p) (hq : B[k].fit = q) (hk : p.k = q.k) (h5 : p.k ≠ 5) (h8 : p.k ≤ 8)
    (hkd : ∀ x ∈ (A.zip B).take k, x.1.fit.k = x.2.fit.k ∧ x.1.fit.k ≠ 5 ∧ x.1.fit.k ≤ 8)
    (hW1 : W w6 b1 F1' ((run (A.take k) ea er).lay p ea er)) (hW2 : W w7 b2 F2' ((run (B.take k) ea er).lay q ea er)) (hA6 : Fr (fun _ => False) w w6) (hC : Fr (fun _ => False) wr wC) (hc1 : Ch wC w6 F1 F1') (hc2 : Ch w6 w7 F2 F2')
    (hdj : ∀ i, F1 i → ¬ F2 i) (hn1 : ∀ i, F1 i → w.heap.size ≤ i) (hn2 : ∀ i, F2 i → w.heap.size ≤ i) (lt2 : ∀ i, F2 i → i < wr.heap.size) (hwr : w.heap.size ≤ wr.heap.size) : Inv2 w w7 b1 b2 A B (k + 1) ea er := by
  have hd1 : ∀ i, F1' i → ¬ F2 i := fun i h1 h2 => by
    rcases hc1.new i h1 with hx | hx
    · exact hdj i hx h2
    · have := lt2 i h2; have := hC.size; omega
  have hs := hc1.fr.size
  refine ⟨F1', F2', ?_, ?_, hA6.soak hc2.fr hn2, ?_, ?_, ?_, ?_⟩
  · rw [run_snoc A k ha, hp]; exact hW1.frame hc2.fr hd1
  · rw [run_snoc B k hb, hq]; exact hW2
  · intro i h1 h2
    rcases hc2.new i h2 with hx | hx
    · exact hd1 i h1 hx
    · have := hW1.lt i h1; omega
  · intro i h1
    rcases hc1.new i h1 with hx | hx
    · exact hn1 i hx
    · have := hC.size; omega
  · intro i h2
    rcases hc2.new i h2 with hx | hx
    · exact hn2 i hx
    · have := hC.size; omega
  · intro x hx
    have hz : (A.zip B)[k]? = some (A[k], B[k]) := by rw [List.getElem?_zip_eq_some]; exact ⟨List.getElem?_eq_getElem ha, List.getElem?_eq_getElem hb⟩
    rw [List.take_add_one, hz, List.mem_append] at hx
    rcases hx with hx | hx
    · exact hkd x hx
    · simp at hx
      subst hx
      simp only [hp, hq]
      exact ⟨hk, h5, h8⟩
theorem and_mask (u k M : Nat) (hM : M = 2 ^ k - 1) (hk : k ≤ 64) (h : u < 18446744073709551616) : bits .and .u64 (u : Int) (M : Int) = ((u % 2 ^ k : Nat) : Int) := by
  have hp : 2 ^ k ≤ 2 ^ 64 := Nat.pow_le_pow_right (by decide) hk
  have h1 : 0 < 2 ^ k := Nat.two_pow_pos k
  have h64 : (2 : Nat) ^ 64 = 18446744073709551616 := by decide
  rw [u64_and_nat u M h (by omega), hM, Nat.and_two_pow_sub_one_eq_mod]
theorem cast_beq (a b : Nat) : (((a : Nat) : Int) == (b : Int)) = (a == b) := by
  rw [Bool.eq_iff_iff]; simp; omega
theorem ev1 {u v : Nat} {s s' : ByteArray} {n n' m m' : Int} (hu : u < 18446744073709551616) (hv : v < 18446744073709551616) : (bits .and .u64 (u : Int) 255 == bits .and .u64 (v : Int) 255) = eqv ⟨1, u, s, n, m⟩ ⟨1, v, s', n', m'⟩ := by
  rw [show (255 : Int) = ((255 : Nat) : Int) from rfl, and_mask u 8 255 (by decide) (by decide) hu, and_mask v 8 255 (by decide) (by decide) hv, cast_beq]; rfl
theorem ev2 {u v : Nat} {s s' : ByteArray} {n n' m m' : Int} (hu : u < 18446744073709551616) (hv : v < 18446744073709551616) : (bits .and .u64 (u : Int) 65535 == bits .and .u64 (v : Int) 65535) = eqv ⟨2, u, s, n, m⟩ ⟨2, v, s', n', m'⟩ := by
  rw [show (65535 : Int) = ((65535 : Nat) : Int) from rfl, and_mask u 16 65535 (by decide) (by decide) hu, and_mask v 16 65535 (by decide) (by decide) hv, cast_beq]; rfl
theorem ev4 {u v : Nat} {s s' : ByteArray} {n n' m m' : Int} (hu : u < 18446744073709551616) (hv : v < 18446744073709551616) : (bits .and .u64 (u : Int) 4294967295 == bits .and .u64 (v : Int) 4294967295) = eqv ⟨4, u, s, n, m⟩ ⟨4, v, s', n', m'⟩ := by
  rw [show (4294967295 : Int) = ((4294967295 : Nat) : Int) from rfl, and_mask u 32 4294967295 (by decide) (by decide) hu, and_mask v 32 4294967295 (by decide) (by decide) hv, cast_beq]; rfl
theorem ev8 {u v : Nat} {s s' : ByteArray} {n n' m m' : Int} : ((u : Int) == (v : Int)) = eqv ⟨8, u, s, n, m⟩ ⟨8, v, s', n', m'⟩ := by rw [cast_beq]; rfl
theorem ev6 {u v : Nat} {s s' : ByteArray} {n n' m m' : Int} : (s.toList == s'.toList) = eqv ⟨6, u, s, n, m⟩ ⟨6, v, s', n', m'⟩ := rfl
theorem ev7 {u v : Nat} {s s' : ByteArray} {n n' m m' : Int} : (n == n') = eqv ⟨7, u, s, n, m⟩ ⟨7, v, s', n', m'⟩ := rfl
theorem weight_mem {l : List Pt} {p : Pt} (h : p ∈ l) : 12 + p.s.size ≤ weight l := by
  induction l with
  | nil => cases h
  | cons q r ih =>
    simp only [weight, List.map_cons, List.sum_cons] at ih ⊢
    rcases List.mem_cons.1 h with rfl | h
    · omega
    · have := ih h
      omega
theorem weight_take (l : List Pt) (k : Nat) : weight (l.take k) ≤ weight l := by
  induction l generalizing k with
  | nil => simp [weight]
  | cons q r ih =>
    cases k with
    | zero => simp [weight]
    | succ k =>
      have := ih k
      simp only [weight, List.take_succ_cons, List.map_cons, List.sum_cons] at this ⊢
      omega
theorem putB_len (st : Wst) (x : List Nat) : (st.putB x).l.length ≤ st.l.length + x.length := by
  unfold Wst.putB; split <;> simp
theorem fail_len (st : Wst) (ea : Addr) : (st.fail ea).l.length = st.l.length := by
  unfold Wst.fail; split <;> rfl
theorem lay_len (st : Wst) (p : Pt) (ea er : Addr) : (st.lay p ea er).l.length ≤ st.l.length + (12 + p.s.size) := by
  unfold Wst.lay Wst.txt Wst.cnt
  have h1 := putB_len st (be 1 (p.u % 256))
  have h2 := putB_len st (be 2 (p.u % 65536))
  have h4 := putB_len st (be 4 (p.u % 4294967296))
  have h8 := putB_len st (be 8 p.u)
  have h6 := putB_len st (be 4 p.s.size ++ bytesOf p.s)
  have h7 := putB_len st (be 4 p.n.toNat)
  have f1 := fail_len st ea
  have f2 := fail_len st er
  simp only [be_length, List.length_append, bytesOf_length] at h1 h2 h4 h8 h6 h7
  repeat' split
  all_goals omega
theorem run_len_from (l : List Pt) (ea er : Addr) : ∀ st : Wst, (l.foldl (fun st p => st.lay p.fit ea er) st).l.length ≤ st.l.length + weight l := by
  induction l with
  | nil => intro st; simp [weight]
  | cons p r ih =>
    intro st
    have h1 := ih (st.lay p.fit ea er)
    have h2 := lay_len st p.fit ea er
    have h3 : p.fit.s = p.s := rfl
    rw [h3] at h2
    simp only [List.foldl_cons, weight, List.map_cons, List.sum_cons] at h1 ⊢
    omega
theorem run_len (l : List Pt) (ea er : Addr) : (run l ea er).l.length ≤ weight l := by
  have := run_len_from l ea er start
  simpa [run, start] using this
theorem fn_lt {k n : Int} (h : n < 9223372036854775808) : fn k n < 9223372036854775808 := by
  unfold fn; split <;> omega
theorem eqvs_snoc (A B : List Pt) (k : Nat) (ha : k < A.length) (hb : k < B.length) : eqvs A B (k + 1) = (eqvs A B k && eqv A[k].fit B[k].fit) := by
  have hz : (A.zip B)[k]? = some (A[k], B[k]) := by rw [List.getElem?_zip_eq_some]; exact ⟨List.getElem?_eq_getElem ha, List.getElem?_eq_getElem hb⟩
  unfold eqvs
  rw [List.take_add_one, hz, List.all_append]
  simp

set_option maxRecDepth 1000000 in
set_option maxHeartbeats 4000000 in
theorem two_any (x0 x1 : Value) (A B : List Pt) (E : Nat → Addr) (er : Addr) (w : World) (hg : Gl w E) (hr : Rg w er) (hw : 9 ≤ w.heap.size) (h0 : PSrc w x0 A) (h1 : PSrc w x1 B) (hA : weight A ≤ 16777216) (hB : weight B ≤ 16777216) (oA : ∀ p ∈ A, p.ok) (oB : ∀ p ∈ B, p.ok) (hAl : A.length ≤ 16777216) :
    Calls Tryd.prog 6 #[x0, x1] w fun e w' => e = .returned (.bool true) ∧ Fr (fun _ => False) w w' := by
  obtain ⟨ao0, ac0, rfl⟩ := h0.form
  obtain ⟨ao1, ac1, rfl⟩ := h1.form
  have HG := hide (And.intro hg (And.intro hr (And.intro h0 h1)))
  have HO := hide (And.intro oA oB)
  clear hg hr h0 h1 oA oB
  go_enter Tryd.func6, Tryd.ntmps6
  go_wp2_with fail
  refine (awake_any E w (unhide HG).1 hw).mono ?_
  rintro e w1 ⟨rfl, hf1⟩
  have A1 := hide hf1
  clear hf1
  go_wp2_with fail
  refine (newWriter_any w1 (Nat.le_trans hw (unhide A1).size)).mono ?_
  rintro e w2 ⟨rfl, hW2, hf2⟩
  have H2 := hide (And.intro hW2 hf2)
  clear hW2 hf2
  go_wp2_with fail
  have s2 := (unhide H2).1.lt _ (unhide H2).1.fb
  have s1 := (unhide A1).size
  refine (newWriter_any w2 (by omega)).mono ?_
  rintro e w3 ⟨rfl, hW3, hf3⟩
  have V3 := (unhide H2).1.frame hf3 (fun _ _ h => h)
  have A3 := ((unhide A1).trans (unhide H2).2 (fun _ _ h => h)).trans hf3 (fun _ _ h => h)
  have H3 := hide (And.intro V3 (And.intro hW3 A3))
  clear V3 hW3 A3 hf3 H2 A1
  by_cases hlen : A.length = B.length
  · have hl2 : ((A.length : Int) == (B.length : Int)) = true := by simp [hlen]
    have HLEN := hide hlen
    clear hlen
    go_wp2_with fail
    go_loopw [7, 8, 9] (fun lk sm i wr => ∃ k : Nat, k ≤ A.length ∧ i = .int .i64 k ∧ lk = .bool true ∧ sm = .bool (eqvs A B k) ∧ Inv2 w wr w1.heap.size w2.heap.size A B k (E 2) er) (fun _ _ i _ => A.length - (intOf i).toNat)
    case atStart => exact ⟨0, Nat.zero_le _, rfl, rfl, rfl, _, _, (unhide H3).1, (unhide H3).2.1, (unhide H3).2.2, fun i h1 h2 => by have e1 : i = w1.heap.size := h1; have e2 : i = w2.heap.size := h2; omega, fun i h1 => by have e1 : i = w1.heap.size := h1; omega, fun i h2 => by have e2 : i = w2.heap.size := h2; omega, fun x hx => by simp at hx⟩
    case round =>
      obtain ⟨k, hk, rfl, rfl, rfl, hinv⟩ := hrel
      have HI := hide hinv
      clear hinv
      rename World => wr
      by_cases hlt : k < A.length
      · have hltb : k < B.length := by have := unhide HLEN; omega
        have A4 : Fr (fun _ => False) w wr := by obtain ⟨_, _, _, _, h, _⟩ := unhide HI; exact h
        obtain ⟨g, o, rfl, c0, c1, c2, c3, c4⟩ := (unhide HG).2.2.1.at_ A4 k hlt
        obtain ⟨g', o', rfl, d0, d1, d2, d3, d4⟩ := (unhide HG).2.2.2.at_ A4 k hltb
        have HP := hide (And.intro (Eq.refl A[k]) (Eq.refl B[k]))
        generalize hP : A[k] = P at *
        generalize hQ : B[k] = Q at *
        have HPQ := hide (And.intro hP hQ)
        clear hP hQ HP
        have gl := lt_of_cell d0
        have A4' := hide A4
        clear A4
        go_wp2_with fail
        refine (fit_any P wr).mono ?_
        rintro e w4 ⟨rfl, hf4⟩
        have e0 := (hf4.cell gl (fun h => h)).trans d0
        have e1 := (hf4.cell (lt_of_cell d1) (fun h => h)).trans d1
        have e2 := (hf4.cell (lt_of_cell d2) (fun h => h)).trans d2
        have e3 := (hf4.cell (lt_of_cell d3) (fun h => h)).trans d3
        have e4 := (hf4.cell (lt_of_cell d4) (fun h => h)).trans d4
        have gl4 : g' < w4.heap.size := lt_of_cell e0
        have HF4 := hide hf4
        clear c0 c1 c2 c3 c4 d0 d1 d2 d3 d4 hf4 gl
        have rkp := fk_mem P.k
        have rkq := fk_mem Q.k
        generalize hkp : fk P.k = kp at *
        generalize hnp : fn P.k P.n = np at *
        have HKP := hide (And.intro hkp hnp)
        clear hkp hnp
        go_wp2_with fail
        refine (fit_any Q _).mono ?_
        rintro e w5 ⟨rfl, hf5⟩
        generalize hkq : fk Q.k = kq at *
        generalize hnq : fn Q.k Q.n = nq at *
        have HKQ := hide (And.intro hkq hnq)
        clear hkq hnq e0 e1 e2 e3 e4 gl4
        have bp : Box w5 w4.heap.size ⟨kp, P.u, P.s, np, P.m⟩ := Box.fr (box_new w4 ⟨kp, P.u, P.s, np, P.m⟩) hf5 (fun h => h)
        have HB := hide bp
        obtain ⟨p0, p1, p2, p3, p4⟩ := bp
        have s45 := hf5.size
        have HF5 := hide hf5
        clear hf5
        have s45' : w4.heap.size < w5.heap.size := by simp at s45; omega
        by_cases hne : kp = kq
        · subst hne
          by_cases h8 : 8 < kp
          · have b1 : (kp != kp) = false := by simp
            go_wp2_with fail
            go_ret
            exact ⟨rfl, ((((unhide A4').trans (unhide HF4) (fun _ _ h => h)).trans (box1 w4 _) (fun _ _ h => h)).trans (unhide HF5) (fun _ _ h => h)).alloc _⟩
          by_cases h5 : kp = 5
          · subst h5
            go_wp2_with fail
            go_ret
            exact ⟨rfl, ((((unhide A4').trans (unhide HF4) (fun _ _ h => h)).trans (box1 w4 _) (fun _ _ h => h)).trans (unhide HF5) (fun _ _ h => h)).alloc _⟩
          have hkk : kp = 1 ∨ kp = 2 ∨ kp = 4 ∨ kp = 8 ∨ kp = 6 ∨ kp = 7 := by
            simp only [kinds, List.mem_cons, List.not_mem_nil, or_false] at rkp
            omega
          have hmA : P ∈ A := by rw [← (unhide HPQ).1]; exact List.getElem_mem _
          have hmB : Q ∈ B := by rw [← (unhide HPQ).2]; exact List.getElem_mem _
          have okP := (unhide HO).1 P hmA
          have okQ := (unhide HO).2 Q hmB
          have wtP := weight_mem hmA
          have wtQ := weight_mem hmB
          have lA := run_len (A.take k) (E 2) er
          have lB := run_len (B.take k) (E 2) er
          have tA := weight_take A k
          have tB := weight_take B k
          have npl : np < 9223372036854775808 := by rw [← (unhide HKP).2]; exact fn_lt okP.2.1
          have nql : nq < 9223372036854775808 := by rw [← (unhide HKQ).2]; exact fn_lt okQ.2.1
          have HHH := hide (And.intro hkk (And.intro okP (And.intro okQ (And.intro npl nql))))
          have HFC : Hid (Fr (fun _ => False) wr (w5.alloc (.cells #[.int .i64 kp, .int .u64 Q.u, .string Q.s, .int .i64 nq, .int .i64 Q.m] 31))) := hide (((((unhide HF4)).trans (box1 w4 _) (fun _ _ h => h)).trans (unhide HF5) (fun _ _ h => h)).alloc _)
          have HLL := hide (And.intro hmA (And.intro hmB (And.intro wtP (And.intro wtQ (And.intro lA (And.intro lB (And.intro tA tB)))))))
          clear okP okQ npl nql hmA hmB wtP wtQ lA lB tA tB rkp rkq
          rcases hkk with rfl | rfl | rfl | rfl | rfl | rfl
          · go_wp2_with fail
            obtain ⟨F1, F2, hV, hU, hA4, hdj, hn1, hn2, hkd⟩ := unhide HI
            obtain ⟨-, okP, okQ, npl, nql⟩ := unhide HHH
            obtain ⟨-, -, wtP, wtQ, lA, lB, tA, tB⟩ := unhide HLL
            have hAC := hA4.trans (unhide HFC) (fun _ _ h => h)
            have lt1 : ∀ i, F1 i → i < wr.heap.size := hV.lt
            have lt2 : ∀ i, F2 i → i < wr.heap.size := hU.lt
            have s4 := (unhide HF4).size
            have HINV := hide (And.intro hV (And.intro hU (And.intro hdj (And.intro hn1 (And.intro hn2 (And.intro hkd (And.intro hAC (And.intro lt1 (And.intro lt2 (And.intro okQ nql))))))))))
            refine (lay_any ⟨1, P.u, P.s, np, P.m⟩ w1.heap.size F1 _ E er _ (by simp) okP.1 npl ((unhide HG).1.fr0 hAC) ((unhide HG).2.1.fr0 hAC) (hV.frame (unhide HFC) (fun _ _ h => h)) (by show P.s.size < _; omega) (by show _ + 8 + P.s.size ≤ _; omega)).mono ?_
            rintro e w6 ⟨rfl, F1', hW1, hc1⟩
            have b6 : Box w6 w4.heap.size ⟨1, P.u, P.s, np, P.m⟩ := Box.fr (Box.fr (unhide HB) (box1 w5 _) (fun h => h)) hc1.fr (fun h => by have := lt1 _ h; omega)
            have q6 : Box w6 w5.heap.size ⟨1, Q.u, Q.s, nq, Q.m⟩ := Box.fr (box_new w5 ⟨1, Q.u, Q.s, nq, Q.m⟩) hc1.fr (fun h => by have := lt1 _ h; omega)
            have hA6 := hAC.soak hc1.fr hn1
            have hU6 := (hU.frame (unhide HFC) (fun _ _ h => h)).frame hc1.fr (fun i hi h => hdj i h hi)
            have H6 := hide (And.intro b6 (And.intro q6 (And.intro hA6 (And.intro hU6 (And.intro hW1 hc1)))))
            obtain ⟨q0, q1, q2, q3, q4⟩ := q6
            clear p0 p1 p2 p3 p4 b6 hA6 hU6 hW1 hc1 hV hU hdj hn1 hn2 hkd hAC lt1 lt2 okP okQ npl nql hA4 HI HB lA tA wtP
            go_wp2_with fail
            refine (lay_any ⟨1, Q.u, Q.s, nq, Q.m⟩ w2.heap.size F2 _ E er w6 (by simp) (unhide HINV).2.2.2.2.2.2.2.2.2.1.1 (unhide HINV).2.2.2.2.2.2.2.2.2.2 ((unhide HG).1.fr0 (unhide H6).2.2.1) ((unhide HG).2.1.fr0 (unhide H6).2.2.1) (unhide H6).2.2.2.1 (by show Q.s.size < _; omega) (by show _ + 8 + Q.s.size ≤ _; omega)).mono ?_
            rintro e w7 ⟨rfl, F2', hW2, hc2⟩
            have lt2 := (unhide HINV).2.2.2.2.2.2.2.2.1
            have s6 : wr.heap.size ≤ w6.heap.size := Nat.le_trans (unhide HFC).size (unhide H6).2.2.2.2.2.fr.size
            have b7 : Box w7 w4.heap.size ⟨1, P.u, P.s, np, P.m⟩ := Box.fr (unhide H6).1 hc2.fr (fun h => by have := lt2 _ h; omega)
            have q7 : Box w7 w5.heap.size ⟨1, Q.u, Q.s, nq, Q.m⟩ := Box.fr (unhide H6).2.1 hc2.fr (fun h => by have := lt2 _ h; omega)
            have HI7 : Hid (Inv2 w w7 w1.heap.size w2.heap.size A B (k + 1) (E 2) er) := hide (inv_step (p := ⟨1, P.u, P.s, np, P.m⟩) (q := ⟨1, Q.u, Q.s, nq, Q.m⟩) hlt hltb (by show _ = _; rw [Pt.fit, (unhide HPQ).1, (unhide HKP).1, (unhide HKP).2]) (by show _ = _; rw [Pt.fit, (unhide HPQ).2, (unhide HKQ).1, (unhide HKQ).2]) rfl (by show (1 : Int) ≠ 5; decide) (by show (1 : Int) ≤ 8; decide) (unhide HINV).2.2.2.2.2.1 (unhide H6).2.2.2.2.1 hW2 (unhide H6).2.2.1 (unhide HFC) (unhide H6).2.2.2.2.2 hc2 (unhide HINV).2.2.1 (unhide HINV).2.2.2.1 (unhide HINV).2.2.2.2.1 lt2 (unhide A4').size)
            have HEQ : Hid (eqvs A B (k + 1) = (eqvs A B k && eqv ⟨1, P.u, P.s, np, P.m⟩ ⟨1, Q.u, Q.s, nq, Q.m⟩)) := hide (by rw [eqvs_snoc A B k hlt hltb, Pt.fit, Pt.fit, (unhide HPQ).1, (unhide HPQ).2, (unhide HKP).1, (unhide HKP).2, (unhide HKQ).1, (unhide HKQ).2])
            obtain ⟨p0, p1, p2, p3, p4⟩ := b7
            obtain ⟨r0, r1, r2, r3, r4⟩ := q7
            clear q0 q1 q2 q3 q4 hW2 hc2 H6 HINV lt2 s6
            generalize eqvs A B k = sm at *
            cases sm
            · go_wp2_with fail
              refine ⟨⟨k + 1, by omega, by go_num, rfl, by rw [unhide HEQ]; rfl, unhide HI7⟩, by simp [intOf]; omega⟩
            · go_wp2_with fail
              refine ⟨⟨k + 1, by omega, by go_num, rfl, by rw [unhide HEQ, Bool.true_and]; exact congrArg Value.bool (ev1 (unhide HHH).2.1.1 (unhide HHH).2.2.1.1), unhide HI7⟩, by simp [intOf]; omega⟩
          · go_wp2_with fail
            obtain ⟨F1, F2, hV, hU, hA4, hdj, hn1, hn2, hkd⟩ := unhide HI
            obtain ⟨-, okP, okQ, npl, nql⟩ := unhide HHH
            obtain ⟨-, -, wtP, wtQ, lA, lB, tA, tB⟩ := unhide HLL
            have hAC := hA4.trans (unhide HFC) (fun _ _ h => h)
            have lt1 : ∀ i, F1 i → i < wr.heap.size := hV.lt
            have lt2 : ∀ i, F2 i → i < wr.heap.size := hU.lt
            have s4 := (unhide HF4).size
            have HINV := hide (And.intro hV (And.intro hU (And.intro hdj (And.intro hn1 (And.intro hn2 (And.intro hkd (And.intro hAC (And.intro lt1 (And.intro lt2 (And.intro okQ nql))))))))))
            refine (lay_any ⟨2, P.u, P.s, np, P.m⟩ w1.heap.size F1 _ E er _ (by simp) okP.1 npl ((unhide HG).1.fr0 hAC) ((unhide HG).2.1.fr0 hAC) (hV.frame (unhide HFC) (fun _ _ h => h)) (by show P.s.size < _; omega) (by show _ + 8 + P.s.size ≤ _; omega)).mono ?_
            rintro e w6 ⟨rfl, F1', hW1, hc1⟩
            have b6 : Box w6 w4.heap.size ⟨2, P.u, P.s, np, P.m⟩ := Box.fr (Box.fr (unhide HB) (box1 w5 _) (fun h => h)) hc1.fr (fun h => by have := lt1 _ h; omega)
            have q6 : Box w6 w5.heap.size ⟨2, Q.u, Q.s, nq, Q.m⟩ := Box.fr (box_new w5 ⟨2, Q.u, Q.s, nq, Q.m⟩) hc1.fr (fun h => by have := lt1 _ h; omega)
            have hA6 := hAC.soak hc1.fr hn1
            have hU6 := (hU.frame (unhide HFC) (fun _ _ h => h)).frame hc1.fr (fun i hi h => hdj i h hi)
            have H6 := hide (And.intro b6 (And.intro q6 (And.intro hA6 (And.intro hU6 (And.intro hW1 hc1)))))
            obtain ⟨q0, q1, q2, q3, q4⟩ := q6
            clear p0 p1 p2 p3 p4 b6 hA6 hU6 hW1 hc1 hV hU hdj hn1 hn2 hkd hAC lt1 lt2 okP okQ npl nql hA4 HI HB lA tA wtP
            go_wp2_with fail
            refine (lay_any ⟨2, Q.u, Q.s, nq, Q.m⟩ w2.heap.size F2 _ E er w6 (by simp) (unhide HINV).2.2.2.2.2.2.2.2.2.1.1 (unhide HINV).2.2.2.2.2.2.2.2.2.2 ((unhide HG).1.fr0 (unhide H6).2.2.1) ((unhide HG).2.1.fr0 (unhide H6).2.2.1) (unhide H6).2.2.2.1 (by show Q.s.size < _; omega) (by show _ + 8 + Q.s.size ≤ _; omega)).mono ?_
            rintro e w7 ⟨rfl, F2', hW2, hc2⟩
            have lt2 := (unhide HINV).2.2.2.2.2.2.2.2.1
            have s6 : wr.heap.size ≤ w6.heap.size := Nat.le_trans (unhide HFC).size (unhide H6).2.2.2.2.2.fr.size
            have b7 : Box w7 w4.heap.size ⟨2, P.u, P.s, np, P.m⟩ := Box.fr (unhide H6).1 hc2.fr (fun h => by have := lt2 _ h; omega)
            have q7 : Box w7 w5.heap.size ⟨2, Q.u, Q.s, nq, Q.m⟩ := Box.fr (unhide H6).2.1 hc2.fr (fun h => by have := lt2 _ h; omega)
            have HI7 : Hid (Inv2 w w7 w1.heap.size w2.heap.size A B (k + 1) (E 2) er) := hide (inv_step (p := ⟨2, P.u, P.s, np, P.m⟩) (q := ⟨2, Q.u, Q.s, nq, Q.m⟩) hlt hltb (by show _ = _; rw [Pt.fit, (unhide HPQ).1, (unhide HKP).1, (unhide HKP).2]) (by show _ = _; rw [Pt.fit, (unhide HPQ).2, (unhide HKQ).1, (unhide HKQ).2]) rfl (by show (2 : Int) ≠ 5; decide) (by show (2 : Int) ≤ 8; decide) (unhide HINV).2.2.2.2.2.1 (unhide H6).2.2.2.2.1 hW2 (unhide H6).2.2.1 (unhide HFC) (unhide H6).2.2.2.2.2 hc2 (unhide HINV).2.2.1 (unhide HINV).2.2.2.1 (unhide HINV).2.2.2.2.1 lt2 (unhide A4').size)
            have HEQ : Hid (eqvs A B (k + 1) = (eqvs A B k && eqv ⟨2, P.u, P.s, np, P.m⟩ ⟨2, Q.u, Q.s, nq, Q.m⟩)) := hide (by rw [eqvs_snoc A B k hlt hltb, Pt.fit, Pt.fit, (unhide HPQ).1, (unhide HPQ).2, (unhide HKP).1, (unhide HKP).2, (unhide HKQ).1, (unhide HKQ).2])
            obtain ⟨p0, p1, p2, p3, p4⟩ := b7
            obtain ⟨r0, r1, r2, r3, r4⟩ := q7
            clear q0 q1 q2 q3 q4 hW2 hc2 H6 HINV lt2 s6
            generalize eqvs A B k = sm at *
            cases sm
            · go_wp2_with fail
              refine ⟨⟨k + 1, by omega, by go_num, rfl, by rw [unhide HEQ]; rfl, unhide HI7⟩, by simp [intOf]; omega⟩
            · go_wp2_with fail
              refine ⟨⟨k + 1, by omega, by go_num, rfl, by rw [unhide HEQ, Bool.true_and]; exact congrArg Value.bool (ev2 (unhide HHH).2.1.1 (unhide HHH).2.2.1.1), unhide HI7⟩, by simp [intOf]; omega⟩
          · go_wp2_with fail
            obtain ⟨F1, F2, hV, hU, hA4, hdj, hn1, hn2, hkd⟩ := unhide HI
            obtain ⟨-, okP, okQ, npl, nql⟩ := unhide HHH
            obtain ⟨-, -, wtP, wtQ, lA, lB, tA, tB⟩ := unhide HLL
            have hAC := hA4.trans (unhide HFC) (fun _ _ h => h)
            have lt1 : ∀ i, F1 i → i < wr.heap.size := hV.lt
            have lt2 : ∀ i, F2 i → i < wr.heap.size := hU.lt
            have s4 := (unhide HF4).size
            have HINV := hide (And.intro hV (And.intro hU (And.intro hdj (And.intro hn1 (And.intro hn2 (And.intro hkd (And.intro hAC (And.intro lt1 (And.intro lt2 (And.intro okQ nql))))))))))
            refine (lay_any ⟨4, P.u, P.s, np, P.m⟩ w1.heap.size F1 _ E er _ (by simp) okP.1 npl ((unhide HG).1.fr0 hAC) ((unhide HG).2.1.fr0 hAC) (hV.frame (unhide HFC) (fun _ _ h => h)) (by show P.s.size < _; omega) (by show _ + 8 + P.s.size ≤ _; omega)).mono ?_
            rintro e w6 ⟨rfl, F1', hW1, hc1⟩
            have b6 : Box w6 w4.heap.size ⟨4, P.u, P.s, np, P.m⟩ := Box.fr (Box.fr (unhide HB) (box1 w5 _) (fun h => h)) hc1.fr (fun h => by have := lt1 _ h; omega)
            have q6 : Box w6 w5.heap.size ⟨4, Q.u, Q.s, nq, Q.m⟩ := Box.fr (box_new w5 ⟨4, Q.u, Q.s, nq, Q.m⟩) hc1.fr (fun h => by have := lt1 _ h; omega)
            have hA6 := hAC.soak hc1.fr hn1
            have hU6 := (hU.frame (unhide HFC) (fun _ _ h => h)).frame hc1.fr (fun i hi h => hdj i h hi)
            have H6 := hide (And.intro b6 (And.intro q6 (And.intro hA6 (And.intro hU6 (And.intro hW1 hc1)))))
            obtain ⟨q0, q1, q2, q3, q4⟩ := q6
            clear p0 p1 p2 p3 p4 b6 hA6 hU6 hW1 hc1 hV hU hdj hn1 hn2 hkd hAC lt1 lt2 okP okQ npl nql hA4 HI HB lA tA wtP
            go_wp2_with fail
            refine (lay_any ⟨4, Q.u, Q.s, nq, Q.m⟩ w2.heap.size F2 _ E er w6 (by simp) (unhide HINV).2.2.2.2.2.2.2.2.2.1.1 (unhide HINV).2.2.2.2.2.2.2.2.2.2 ((unhide HG).1.fr0 (unhide H6).2.2.1) ((unhide HG).2.1.fr0 (unhide H6).2.2.1) (unhide H6).2.2.2.1 (by show Q.s.size < _; omega) (by show _ + 8 + Q.s.size ≤ _; omega)).mono ?_
            rintro e w7 ⟨rfl, F2', hW2, hc2⟩
            have lt2 := (unhide HINV).2.2.2.2.2.2.2.2.1
            have s6 : wr.heap.size ≤ w6.heap.size := Nat.le_trans (unhide HFC).size (unhide H6).2.2.2.2.2.fr.size
            have b7 : Box w7 w4.heap.size ⟨4, P.u, P.s, np, P.m⟩ := Box.fr (unhide H6).1 hc2.fr (fun h => by have := lt2 _ h; omega)
            have q7 : Box w7 w5.heap.size ⟨4, Q.u, Q.s, nq, Q.m⟩ := Box.fr (unhide H6).2.1 hc2.fr (fun h => by have := lt2 _ h; omega)
            have HI7 : Hid (Inv2 w w7 w1.heap.size w2.heap.size A B (k + 1) (E 2) er) := hide (inv_step (p := ⟨4, P.u, P.s, np, P.m⟩) (q := ⟨4, Q.u, Q.s, nq, Q.m⟩) hlt hltb (by show _ = _; rw [Pt.fit, (unhide HPQ).1, (unhide HKP).1, (unhide HKP).2]) (by show _ = _; rw [Pt.fit, (unhide HPQ).2, (unhide HKQ).1, (unhide HKQ).2]) rfl (by show (4 : Int) ≠ 5; decide) (by show (4 : Int) ≤ 8; decide) (unhide HINV).2.2.2.2.2.1 (unhide H6).2.2.2.2.1 hW2 (unhide H6).2.2.1 (unhide HFC) (unhide H6).2.2.2.2.2 hc2 (unhide HINV).2.2.1 (unhide HINV).2.2.2.1 (unhide HINV).2.2.2.2.1 lt2 (unhide A4').size)
            have HEQ : Hid (eqvs A B (k + 1) = (eqvs A B k && eqv ⟨4, P.u, P.s, np, P.m⟩ ⟨4, Q.u, Q.s, nq, Q.m⟩)) := hide (by rw [eqvs_snoc A B k hlt hltb, Pt.fit, Pt.fit, (unhide HPQ).1, (unhide HPQ).2, (unhide HKP).1, (unhide HKP).2, (unhide HKQ).1, (unhide HKQ).2])
            obtain ⟨p0, p1, p2, p3, p4⟩ := b7
            obtain ⟨r0, r1, r2, r3, r4⟩ := q7
            clear q0 q1 q2 q3 q4 hW2 hc2 H6 HINV lt2 s6
            generalize eqvs A B k = sm at *
            cases sm
            · go_wp2_with fail
              refine ⟨⟨k + 1, by omega, by go_num, rfl, by rw [unhide HEQ]; rfl, unhide HI7⟩, by simp [intOf]; omega⟩
            · go_wp2_with fail
              refine ⟨⟨k + 1, by omega, by go_num, rfl, by rw [unhide HEQ, Bool.true_and]; exact congrArg Value.bool (ev4 (unhide HHH).2.1.1 (unhide HHH).2.2.1.1), unhide HI7⟩, by simp [intOf]; omega⟩
          · go_wp2_with fail
            obtain ⟨F1, F2, hV, hU, hA4, hdj, hn1, hn2, hkd⟩ := unhide HI
            obtain ⟨-, okP, okQ, npl, nql⟩ := unhide HHH
            obtain ⟨-, -, wtP, wtQ, lA, lB, tA, tB⟩ := unhide HLL
            have hAC := hA4.trans (unhide HFC) (fun _ _ h => h)
            have lt1 : ∀ i, F1 i → i < wr.heap.size := hV.lt
            have lt2 : ∀ i, F2 i → i < wr.heap.size := hU.lt
            have s4 := (unhide HF4).size
            have HINV := hide (And.intro hV (And.intro hU (And.intro hdj (And.intro hn1 (And.intro hn2 (And.intro hkd (And.intro hAC (And.intro lt1 (And.intro lt2 (And.intro okQ nql))))))))))
            refine (lay_any ⟨8, P.u, P.s, np, P.m⟩ w1.heap.size F1 _ E er _ (by simp) okP.1 npl ((unhide HG).1.fr0 hAC) ((unhide HG).2.1.fr0 hAC) (hV.frame (unhide HFC) (fun _ _ h => h)) (by show P.s.size < _; omega) (by show _ + 8 + P.s.size ≤ _; omega)).mono ?_
            rintro e w6 ⟨rfl, F1', hW1, hc1⟩
            have b6 : Box w6 w4.heap.size ⟨8, P.u, P.s, np, P.m⟩ := Box.fr (Box.fr (unhide HB) (box1 w5 _) (fun h => h)) hc1.fr (fun h => by have := lt1 _ h; omega)
            have q6 : Box w6 w5.heap.size ⟨8, Q.u, Q.s, nq, Q.m⟩ := Box.fr (box_new w5 ⟨8, Q.u, Q.s, nq, Q.m⟩) hc1.fr (fun h => by have := lt1 _ h; omega)
            have hA6 := hAC.soak hc1.fr hn1
            have hU6 := (hU.frame (unhide HFC) (fun _ _ h => h)).frame hc1.fr (fun i hi h => hdj i h hi)
            have H6 := hide (And.intro b6 (And.intro q6 (And.intro hA6 (And.intro hU6 (And.intro hW1 hc1)))))
            obtain ⟨q0, q1, q2, q3, q4⟩ := q6
            clear p0 p1 p2 p3 p4 b6 hA6 hU6 hW1 hc1 hV hU hdj hn1 hn2 hkd hAC lt1 lt2 okP okQ npl nql hA4 HI HB lA tA wtP
            go_wp2_with fail
            refine (lay_any ⟨8, Q.u, Q.s, nq, Q.m⟩ w2.heap.size F2 _ E er w6 (by simp) (unhide HINV).2.2.2.2.2.2.2.2.2.1.1 (unhide HINV).2.2.2.2.2.2.2.2.2.2 ((unhide HG).1.fr0 (unhide H6).2.2.1) ((unhide HG).2.1.fr0 (unhide H6).2.2.1) (unhide H6).2.2.2.1 (by show Q.s.size < _; omega) (by show _ + 8 + Q.s.size ≤ _; omega)).mono ?_
            rintro e w7 ⟨rfl, F2', hW2, hc2⟩
            have lt2 := (unhide HINV).2.2.2.2.2.2.2.2.1
            have s6 : wr.heap.size ≤ w6.heap.size := Nat.le_trans (unhide HFC).size (unhide H6).2.2.2.2.2.fr.size
            have b7 : Box w7 w4.heap.size ⟨8, P.u, P.s, np, P.m⟩ := Box.fr (unhide H6).1 hc2.fr (fun h => by have := lt2 _ h; omega)
            have q7 : Box w7 w5.heap.size ⟨8, Q.u, Q.s, nq, Q.m⟩ := Box.fr (unhide H6).2.1 hc2.fr (fun h => by have := lt2 _ h; omega)
            have HI7 : Hid (Inv2 w w7 w1.heap.size w2.heap.size A B (k + 1) (E 2) er) := hide (inv_step (p := ⟨8, P.u, P.s, np, P.m⟩) (q := ⟨8, Q.u, Q.s, nq, Q.m⟩) hlt hltb (by show _ = _; rw [Pt.fit, (unhide HPQ).1, (unhide HKP).1, (unhide HKP).2]) (by show _ = _; rw [Pt.fit, (unhide HPQ).2, (unhide HKQ).1, (unhide HKQ).2]) rfl (by show (8 : Int) ≠ 5; decide) (by show (8 : Int) ≤ 8; decide) (unhide HINV).2.2.2.2.2.1 (unhide H6).2.2.2.2.1 hW2 (unhide H6).2.2.1 (unhide HFC) (unhide H6).2.2.2.2.2 hc2 (unhide HINV).2.2.1 (unhide HINV).2.2.2.1 (unhide HINV).2.2.2.2.1 lt2 (unhide A4').size)
            have HEQ : Hid (eqvs A B (k + 1) = (eqvs A B k && eqv ⟨8, P.u, P.s, np, P.m⟩ ⟨8, Q.u, Q.s, nq, Q.m⟩)) := hide (by rw [eqvs_snoc A B k hlt hltb, Pt.fit, Pt.fit, (unhide HPQ).1, (unhide HPQ).2, (unhide HKP).1, (unhide HKP).2, (unhide HKQ).1, (unhide HKQ).2])
            obtain ⟨p0, p1, p2, p3, p4⟩ := b7
            obtain ⟨r0, r1, r2, r3, r4⟩ := q7
            clear q0 q1 q2 q3 q4 hW2 hc2 H6 HINV lt2 s6
            generalize eqvs A B k = sm at *
            cases sm
            · go_wp2_with fail
              refine ⟨⟨k + 1, by omega, by go_num, rfl, by rw [unhide HEQ]; rfl, unhide HI7⟩, by simp [intOf]; omega⟩
            · go_wp2_with fail
              refine ⟨⟨k + 1, by omega, by go_num, rfl, by rw [unhide HEQ, Bool.true_and]; exact congrArg Value.bool ev8, unhide HI7⟩, by simp [intOf]; omega⟩
          · go_wp2_with fail
            obtain ⟨F1, F2, hV, hU, hA4, hdj, hn1, hn2, hkd⟩ := unhide HI
            obtain ⟨-, okP, okQ, npl, nql⟩ := unhide HHH
            obtain ⟨-, -, wtP, wtQ, lA, lB, tA, tB⟩ := unhide HLL
            have hAC := hA4.trans (unhide HFC) (fun _ _ h => h)
            have lt1 : ∀ i, F1 i → i < wr.heap.size := hV.lt
            have lt2 : ∀ i, F2 i → i < wr.heap.size := hU.lt
            have s4 := (unhide HF4).size
            have HINV := hide (And.intro hV (And.intro hU (And.intro hdj (And.intro hn1 (And.intro hn2 (And.intro hkd (And.intro hAC (And.intro lt1 (And.intro lt2 (And.intro okQ nql))))))))))
            refine (lay_any ⟨6, P.u, P.s, np, P.m⟩ w1.heap.size F1 _ E er _ (by simp) okP.1 npl ((unhide HG).1.fr0 hAC) ((unhide HG).2.1.fr0 hAC) (hV.frame (unhide HFC) (fun _ _ h => h)) (by show P.s.size < _; omega) (by show _ + 8 + P.s.size ≤ _; omega)).mono ?_
            rintro e w6 ⟨rfl, F1', hW1, hc1⟩
            have b6 : Box w6 w4.heap.size ⟨6, P.u, P.s, np, P.m⟩ := Box.fr (Box.fr (unhide HB) (box1 w5 _) (fun h => h)) hc1.fr (fun h => by have := lt1 _ h; omega)
            have q6 : Box w6 w5.heap.size ⟨6, Q.u, Q.s, nq, Q.m⟩ := Box.fr (box_new w5 ⟨6, Q.u, Q.s, nq, Q.m⟩) hc1.fr (fun h => by have := lt1 _ h; omega)
            have hA6 := hAC.soak hc1.fr hn1
            have hU6 := (hU.frame (unhide HFC) (fun _ _ h => h)).frame hc1.fr (fun i hi h => hdj i h hi)
            have H6 := hide (And.intro b6 (And.intro q6 (And.intro hA6 (And.intro hU6 (And.intro hW1 hc1)))))
            obtain ⟨q0, q1, q2, q3, q4⟩ := q6
            clear p0 p1 p2 p3 p4 b6 hA6 hU6 hW1 hc1 hV hU hdj hn1 hn2 hkd hAC lt1 lt2 okP okQ npl nql hA4 HI HB lA tA wtP
            go_wp2_with fail
            refine (lay_any ⟨6, Q.u, Q.s, nq, Q.m⟩ w2.heap.size F2 _ E er w6 (by simp) (unhide HINV).2.2.2.2.2.2.2.2.2.1.1 (unhide HINV).2.2.2.2.2.2.2.2.2.2 ((unhide HG).1.fr0 (unhide H6).2.2.1) ((unhide HG).2.1.fr0 (unhide H6).2.2.1) (unhide H6).2.2.2.1 (by show Q.s.size < _; omega) (by show _ + 8 + Q.s.size ≤ _; omega)).mono ?_
            rintro e w7 ⟨rfl, F2', hW2, hc2⟩
            have lt2 := (unhide HINV).2.2.2.2.2.2.2.2.1
            have s6 : wr.heap.size ≤ w6.heap.size := Nat.le_trans (unhide HFC).size (unhide H6).2.2.2.2.2.fr.size
            have b7 : Box w7 w4.heap.size ⟨6, P.u, P.s, np, P.m⟩ := Box.fr (unhide H6).1 hc2.fr (fun h => by have := lt2 _ h; omega)
            have q7 : Box w7 w5.heap.size ⟨6, Q.u, Q.s, nq, Q.m⟩ := Box.fr (unhide H6).2.1 hc2.fr (fun h => by have := lt2 _ h; omega)
            have HI7 : Hid (Inv2 w w7 w1.heap.size w2.heap.size A B (k + 1) (E 2) er) := hide (inv_step (p := ⟨6, P.u, P.s, np, P.m⟩) (q := ⟨6, Q.u, Q.s, nq, Q.m⟩) hlt hltb (by show _ = _; rw [Pt.fit, (unhide HPQ).1, (unhide HKP).1, (unhide HKP).2]) (by show _ = _; rw [Pt.fit, (unhide HPQ).2, (unhide HKQ).1, (unhide HKQ).2]) rfl (by show (6 : Int) ≠ 5; decide) (by show (6 : Int) ≤ 8; decide) (unhide HINV).2.2.2.2.2.1 (unhide H6).2.2.2.2.1 hW2 (unhide H6).2.2.1 (unhide HFC) (unhide H6).2.2.2.2.2 hc2 (unhide HINV).2.2.1 (unhide HINV).2.2.2.1 (unhide HINV).2.2.2.2.1 lt2 (unhide A4').size)
            have HEQ : Hid (eqvs A B (k + 1) = (eqvs A B k && eqv ⟨6, P.u, P.s, np, P.m⟩ ⟨6, Q.u, Q.s, nq, Q.m⟩)) := hide (by rw [eqvs_snoc A B k hlt hltb, Pt.fit, Pt.fit, (unhide HPQ).1, (unhide HPQ).2, (unhide HKP).1, (unhide HKP).2, (unhide HKQ).1, (unhide HKQ).2])
            obtain ⟨p0, p1, p2, p3, p4⟩ := b7
            obtain ⟨r0, r1, r2, r3, r4⟩ := q7
            clear q0 q1 q2 q3 q4 hW2 hc2 H6 HINV lt2 s6
            generalize eqvs A B k = sm at *
            cases sm
            · go_wp2_with fail
              refine ⟨⟨k + 1, by omega, by go_num, rfl, by rw [unhide HEQ]; rfl, unhide HI7⟩, by simp [intOf]; omega⟩
            · go_wp2_with fail
              refine ⟨⟨k + 1, by omega, by go_num, rfl, by rw [unhide HEQ, Bool.true_and]; exact congrArg Value.bool ev6, unhide HI7⟩, by simp [intOf]; omega⟩
          · go_wp2_with fail
            obtain ⟨F1, F2, hV, hU, hA4, hdj, hn1, hn2, hkd⟩ := unhide HI
            obtain ⟨-, okP, okQ, npl, nql⟩ := unhide HHH
            obtain ⟨-, -, wtP, wtQ, lA, lB, tA, tB⟩ := unhide HLL
            have hAC := hA4.trans (unhide HFC) (fun _ _ h => h)
            have lt1 : ∀ i, F1 i → i < wr.heap.size := hV.lt
            have lt2 : ∀ i, F2 i → i < wr.heap.size := hU.lt
            have s4 := (unhide HF4).size
            have HINV := hide (And.intro hV (And.intro hU (And.intro hdj (And.intro hn1 (And.intro hn2 (And.intro hkd (And.intro hAC (And.intro lt1 (And.intro lt2 (And.intro okQ nql))))))))))
            refine (lay_any ⟨7, P.u, P.s, np, P.m⟩ w1.heap.size F1 _ E er _ (by simp) okP.1 npl ((unhide HG).1.fr0 hAC) ((unhide HG).2.1.fr0 hAC) (hV.frame (unhide HFC) (fun _ _ h => h)) (by show P.s.size < _; omega) (by show _ + 8 + P.s.size ≤ _; omega)).mono ?_
            rintro e w6 ⟨rfl, F1', hW1, hc1⟩
            have b6 : Box w6 w4.heap.size ⟨7, P.u, P.s, np, P.m⟩ := Box.fr (Box.fr (unhide HB) (box1 w5 _) (fun h => h)) hc1.fr (fun h => by have := lt1 _ h; omega)
            have q6 : Box w6 w5.heap.size ⟨7, Q.u, Q.s, nq, Q.m⟩ := Box.fr (box_new w5 ⟨7, Q.u, Q.s, nq, Q.m⟩) hc1.fr (fun h => by have := lt1 _ h; omega)
            have hA6 := hAC.soak hc1.fr hn1
            have hU6 := (hU.frame (unhide HFC) (fun _ _ h => h)).frame hc1.fr (fun i hi h => hdj i h hi)
            have H6 := hide (And.intro b6 (And.intro q6 (And.intro hA6 (And.intro hU6 (And.intro hW1 hc1)))))
            obtain ⟨q0, q1, q2, q3, q4⟩ := q6
            clear p0 p1 p2 p3 p4 b6 hA6 hU6 hW1 hc1 hV hU hdj hn1 hn2 hkd hAC lt1 lt2 okP okQ npl nql hA4 HI HB lA tA wtP
            go_wp2_with fail
            refine (lay_any ⟨7, Q.u, Q.s, nq, Q.m⟩ w2.heap.size F2 _ E er w6 (by simp) (unhide HINV).2.2.2.2.2.2.2.2.2.1.1 (unhide HINV).2.2.2.2.2.2.2.2.2.2 ((unhide HG).1.fr0 (unhide H6).2.2.1) ((unhide HG).2.1.fr0 (unhide H6).2.2.1) (unhide H6).2.2.2.1 (by show Q.s.size < _; omega) (by show _ + 8 + Q.s.size ≤ _; omega)).mono ?_
            rintro e w7 ⟨rfl, F2', hW2, hc2⟩
            have lt2 := (unhide HINV).2.2.2.2.2.2.2.2.1
            have s6 : wr.heap.size ≤ w6.heap.size := Nat.le_trans (unhide HFC).size (unhide H6).2.2.2.2.2.fr.size
            have b7 : Box w7 w4.heap.size ⟨7, P.u, P.s, np, P.m⟩ := Box.fr (unhide H6).1 hc2.fr (fun h => by have := lt2 _ h; omega)
            have q7 : Box w7 w5.heap.size ⟨7, Q.u, Q.s, nq, Q.m⟩ := Box.fr (unhide H6).2.1 hc2.fr (fun h => by have := lt2 _ h; omega)
            have HI7 : Hid (Inv2 w w7 w1.heap.size w2.heap.size A B (k + 1) (E 2) er) := hide (inv_step (p := ⟨7, P.u, P.s, np, P.m⟩) (q := ⟨7, Q.u, Q.s, nq, Q.m⟩) hlt hltb (by show _ = _; rw [Pt.fit, (unhide HPQ).1, (unhide HKP).1, (unhide HKP).2]) (by show _ = _; rw [Pt.fit, (unhide HPQ).2, (unhide HKQ).1, (unhide HKQ).2]) rfl (by show (7 : Int) ≠ 5; decide) (by show (7 : Int) ≤ 8; decide) (unhide HINV).2.2.2.2.2.1 (unhide H6).2.2.2.2.1 hW2 (unhide H6).2.2.1 (unhide HFC) (unhide H6).2.2.2.2.2 hc2 (unhide HINV).2.2.1 (unhide HINV).2.2.2.1 (unhide HINV).2.2.2.2.1 lt2 (unhide A4').size)
            have HEQ : Hid (eqvs A B (k + 1) = (eqvs A B k && eqv ⟨7, P.u, P.s, np, P.m⟩ ⟨7, Q.u, Q.s, nq, Q.m⟩)) := hide (by rw [eqvs_snoc A B k hlt hltb, Pt.fit, Pt.fit, (unhide HPQ).1, (unhide HPQ).2, (unhide HKP).1, (unhide HKP).2, (unhide HKQ).1, (unhide HKQ).2])
            obtain ⟨p0, p1, p2, p3, p4⟩ := b7
            obtain ⟨r0, r1, r2, r3, r4⟩ := q7
            clear q0 q1 q2 q3 q4 hW2 hc2 H6 HINV lt2 s6
            generalize eqvs A B k = sm at *
            cases sm
            · go_wp2_with fail
              refine ⟨⟨k + 1, by omega, by go_num, rfl, by rw [unhide HEQ]; rfl, unhide HI7⟩, by simp [intOf]; omega⟩
            · go_wp2_with fail
              refine ⟨⟨k + 1, by omega, by go_num, rfl, by rw [unhide HEQ, Bool.true_and]; exact congrArg Value.bool ev7, unhide HI7⟩, by simp [intOf]; omega⟩
        · have bne : (kp != kq) = true := by rw [bne_iff_ne]; exact hne
          go_wp2_with fail
          go_ret
          exact ⟨rfl, ((((unhide A4').trans (unhide HF4) (fun _ _ h => h)).trans (box1 w4 _) (fun _ _ h => h)).trans (unhide HF5) (fun _ _ h => h)).alloc _⟩
      · obtain ⟨F1, F2, hV, hU, hA4, hdj, hn1, hn2, hkd⟩ := unhide HI
        have hkA : k = A.length := by omega
        have hkB : k = B.length := by rw [hkA]; exact unhide HLEN
        have hzip : (A.zip B).length ≤ k := by rw [List.length_zip]; omega
        have eA : A.take k = A := List.take_of_length_le (by omega)
        have eB : B.take k = B := List.take_of_length_le (by omega)
        have eE : eqvs A B k = ((A.zip B).all fun x => eqv x.1.fit x.2.fit) := by rw [eqvs, List.take_of_length_le hzip]
        rw [eA] at hV
        rw [eB] at hU
        rw [List.take_of_length_le hzip] at hkd
        have lA := run_len A (E 2) er
        have lB := run_len B (E 2) er
        have HV := hide (And.intro hV (And.intro hU (And.intro hA4 (And.intro hdj hkd))))
        have HE := hide eE
        clear hV hU hA4 hdj hn1 hn2 hkd eA eB eE hkA hkB hzip HI
        generalize eqvs A B k = sm at *
        go_wp2_with fail
        cases hfA : (run A (E 2) er).f with
        | some y =>
          obtain ⟨what, place, ea⟩ := y
          refine (wDone_bad _ _ _ what place ea wr (unhide HV).1 hfA).mono ?_
          rintro e w4 ⟨rfl, rfl⟩
          have U5 := (unhide HV).2.1.frame (box1 wr (faultObj what place ea)) (fun _ _ h => h)
          have A5 := (unhide HV).2.2.1.alloc (faultObj what place ea)
          have H5 := hide (And.intro U5 A5)
          clear U5 A5 hfA
          go_wp2_with fail
          cases hfB : (run B (E 2) er).f with
          | some z =>
            obtain ⟨what2, place2, ea2⟩ := z
            refine (wDone_bad _ _ _ what2 place2 ea2 _ (unhide H5).1 hfB).mono ?_
            rintro e w5 ⟨rfl, rfl⟩
            clear hfB
            go_wp2_with fail
            go_ret
            exact ⟨rfl, (unhide H5).2.alloc _⟩
          | none =>
            refine (wDone_ok _ _ _ _ (unhide H5).1 hfB (by omega)).mono ?_
            rintro e w5 ⟨y, rfl, hy, hf5⟩
            obtain ⟨yo, yc, rfl⟩ := own_form hy
            have HF5 := hide hf5
            clear hfB hy hf5
            go_wp2_with fail
            go_ret
            exact ⟨rfl, (unhide H5).2.trans (unhide HF5) (fun _ _ h => h)⟩
        | none =>
          refine (wDone_ok _ _ _ wr (unhide HV).1 hfA (by omega)).mono ?_
          rintro e w4 ⟨x, rfl, hx, hf4⟩
          obtain ⟨xo, xc, rfl⟩ := own_form hx
          have U4 := (unhide HV).2.1.frame hf4 (fun _ _ h => h)
          have A4 := (unhide HV).2.2.1.trans hf4 (fun _ _ h => h)
          have H4 := hide (And.intro (own_src hx) (And.intro U4 (And.intro A4 hfA)))
          clear hx U4 A4 hf4 hfA
          go_wp2_with fail
          cases hfB : (run B (E 2) er).f with
          | some z =>
            obtain ⟨what2, place2, ea2⟩ := z
            refine (wDone_bad _ _ _ what2 place2 ea2 _ (unhide H4).2.1 hfB).mono ?_
            rintro e w5 ⟨rfl, rfl⟩
            clear hfB
            go_wp2_with fail
            go_ret
            exact ⟨rfl, (unhide H4).2.2.1.alloc _⟩
          | none =>
            refine (wDone_ok _ _ _ _ (unhide H4).2.1 hfB (by omega)).mono ?_
            rintro e w5 ⟨y, rfl, hy, hf5⟩
            obtain ⟨yo, yc, rfl⟩ := own_form hy
            have sx := (unhide H4).1.fr hf5 (fun _ _ _ _ _ h => h)
            have A5 := (unhide H4).2.2.1.trans hf5 (fun _ _ h => h)
            have hinj := two_inj (ea := E 2) (er := er) (unhide HLEN) (unhide HV).2.2.2.2 (fun p hp => ((unhide HO).1 p hp).1) (fun p hp => ((unhide HO).2 p hp).1) (unhide H4).2.2.2 hfB
            have H5 := hide (And.intro sx (And.intro (own_src hy) (And.intro A5 hinj)))
            clear sx hy A5 hinj hf5 hfB
            go_wp2_with fail
            refine (same_any _ _ _ _ w5 (unhide H5).1 (unhide H5).2.1 (by omega)).mono ?_
            rintro e w6 ⟨rfl, q, rfl⟩
            rw [(unhide H5).2.2.2, ← unhide HE]
            go_wp2_with fail
            go_ret
            exact ⟨rfl, (unhide H5).2.2.1.drewN _⟩
  · have hl2 : ((A.length : Int) == (B.length : Int)) = false := by simp; omega
    clear hlen
    go_wp2_with fail
    go_loopw [7, 8, 9] (fun lk _ _ wr => lk = .bool false ∧ wr = w3) (fun _ _ _ _ => 0)
    case atStart => exact ⟨rfl, rfl⟩
    case round =>
      obtain ⟨rfl, rfl⟩ := hrel
      go_wp2_with fail
      go_ret
      exact ⟨rfl, (unhide H3).2.2⟩
end Go.Proofs.YtikolmpgnpkdbaaDoor
