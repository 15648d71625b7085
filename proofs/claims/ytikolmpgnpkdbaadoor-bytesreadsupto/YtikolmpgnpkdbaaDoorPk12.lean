import Derived.Test.YtikolmpgnpkdbaaDoorPk11
import Derived.Deep.RegionHeld3
namespace Go.Proofs.YtikolmpgnpkdbaaDoor
open Go.RowKit

/-- The cells of calls. -/
def pcells (L : List Pt) : List Value := (L.map fun p => [.int .i64 p.k, .int .u64 p.u, .string p.s, .int .i64 p.n, .int .i64 p.m]).flatten
theorem Tryd.infoPart : (Tryd.prog.info? 31).map (fun i => (i.zero, i.size, i.bytes)) = some (some (.agg #[.int .i64 0, .int .u64 0, .string ⟨#[]⟩, .int .i64 0, .int .i64 0]), 5, 48) := by kernel_rfl

theorem app_part (w : World) (base : Nat) (v : Value) (L : List Pt) (p : Pt) (hown : w.ownsRow base 31 5 v L.length (pcells L)) (hb : L.length + 1 ≤ 16777216) (hbase : base ≤ w.heap.size) :
    ∃ v' w', (Builtin.append_ #[22, 22] 22 #[v, .slice (some ⟨w.heap.size, 0, none⟩) 1 1]).run Tryd.prog (w.alloc (.cells #[.int .i64 p.k, .int .u64 p.u, .string p.s, .int .i64 p.n, .int .i64 p.m] 31)) = .ok v' w' ∧
      w'.ownsRow base 31 5 v' (L.length + 1) (pcells (L ++ [p])) ∧ (w.alloc (.cells #[.int .i64 p.k, .int .u64 p.u, .string p.s, .int .i64 p.n, .int .i64 p.m] 31)).grownBy w' v.ownBlock ∧ (v'.ownBlock = v.ownBlock ∨ v'.ownBlock = some (w.heap.size + 1)) := by
  obtain ⟨i0, hi, hz⟩ := Option.map_eq_some_iff.1 Tryd.infoPart
  simp only [Prod.mk.injEq] at hz
  obtain ⟨hz0, hz1, hz2⟩ := hz
  have h1 : (w.alloc (.cells #[.int .i64 p.k, .int .u64 p.u, .string p.s, .int .i64 p.n, .int .i64 p.m] 31)).ownsRow base 31 5 v L.length (pcells L) := ownsRow_of_block hown (fun g hg => Below.heap_alloc _ _ _ (hown.lt g hg).2)
  obtain ⟨v', w', hr, h2, h3, _, h5⟩ := run_append_own_at (P := Tryd.prog) (w.alloc (.cells #[.int .i64 p.k, .int .u64 p.u, .string p.s, .int .i64 p.n, .int .i64 p.m] 31)) base 22 22 31 i0 (.agg #[.int .i64 0, .int .u64 0, .string ⟨#[]⟩, .int .i64 0, .int .i64 0]) 5 48 Tryd.underlying22 hi hz0 hz1 hz2 rfl (by decide) v L.length _ h1 ⟨w.heap.size, 0, none⟩ 1 1 [.int .i64 p.k, .int .u64 p.u, .string p.s, .int .i64 p.n, .int .i64 p.m] rfl (fun j u hu => by
      match j, hu with
      | 0, hu => simp at hu; subst hu; simp [Addr.add]
      | 1, hu => simp at hu; subst hu; simp [Addr.add]
      | 2, hu => simp at hu; subst hu; simp [Addr.add]
      | 3, hu => simp at hu; subst hu; simp [Addr.add]
      | 4, hu => simp at hu; subst hu; simp [Addr.add]) (fun u hu => by simp at hu; rcases hu with rfl | rfl | rfl | rfl | rfl <;> rfl) (by simp only [maxLen]; omega) (by omega) (by simp; omega)
  refine ⟨v', w', hr, ?_, h3, by simpa using h5⟩
  have e : pcells (L ++ [p]) = pcells L ++ [.int .i64 p.k, .int .u64 p.u, .string p.s, .int .i64 p.n, .int .i64 p.m] := by simp [pcells]
  rw [e]
  exact h2
end Go.Proofs.YtikolmpgnpkdbaaDoor

namespace Go.Proofs.YtikolmpgnpkdbaaDoor
open Go.RowKit

theorem pcells_at (L : List Pt) : ∀ (j : Nat) (h : j < L.length), (pcells L)[j * 5]? = some (.int .i64 L[j].k) ∧ (pcells L)[j * 5 + 1]? = some (.int .u64 L[j].u) ∧ (pcells L)[j * 5 + 2]? = some (.string L[j].s) ∧ (pcells L)[j * 5 + 3]? = some (.int .i64 L[j].n) ∧ (pcells L)[j * 5 + 4]? = some (.int .i64 L[j].m) := by
  induction L with
  | nil => intro j h; simp at h
  | cons p r ih =>
    intro j h
    have e : pcells (p :: r) = .int .i64 p.k :: .int .u64 p.u :: .string p.s :: .int .i64 p.n :: .int .i64 p.m :: pcells r := by simp [pcells]
    cases j with
    | zero => simp [e]
    | succ j =>
      have hj : j < r.length := by simpa using h
      obtain ⟨h0, h1, h2, h3, h4⟩ := ih j hj
      have e5 : (j + 1) * 5 = j * 5 + 5 := by omega
      rw [e, e5]
      simp only [List.getElem_cons_succ]
      exact ⟨by simpa using h0, by simpa using h1, by simpa using h2, by simpa using h3, by simpa using h4⟩
theorem own_psrc {w : World} {base : Nat} {v : Value} {L : List Pt} (h : w.ownsRow base 31 5 v L.length (pcells L)) : PSrc w v L := by
  rcases h.2 with ⟨rfl, e⟩ | ⟨g, cap, cur, rfl, _⟩
  · exact .inl ⟨none, 0, rfl, List.eq_nil_of_length_eq_zero e⟩
  · refine .inr ⟨g, 0, cap, rfl, fun j hj => ?_⟩
    have key : ∀ i u, (pcells L)[i]? = some u → w.cell? ⟨g, 0 + i, none⟩ = some u := fun i u hu => by
      have := h.cells (g := g) rfl i u hu
      have e : (⟨g, 0, none⟩ : Addr).add i = ⟨g, 0 + i, none⟩ := by unfold Addr.add; split <;> simp_all
      rw [e] at this; exact this
    obtain ⟨h0, h1, h2, h3, h4⟩ := pcells_at L j hj
    exact ⟨key _ _ h0, by simpa [Nat.add_assoc] using key _ _ h1, by simpa [Nat.add_assoc] using key _ _ h2, by simpa [Nat.add_assoc] using key _ _ h3, by simpa [Nat.add_assoc] using key _ _ h4⟩

theorem layW_any (p : Pt) (b : Nat) (F : Nat → Prop) (st : Wst) (E : Nat → Addr) (w : World) (hp : p.fitted) (hu : p.u < 18446744073709551616) (hn : p.n < 9223372036854775808) (hg : G7 w E) (h : W w b F st) (hl : st.l.length + 8 + p.s.size ≤ 140737488355328) :
    Calls Tryd.prog 13 #[.pointer (some ⟨b, 0, none⟩), .agg #[.int .i64 p.k, .int .u64 p.u, .string p.s, .int .i64 p.n, .int .i64 p.m]] w fun e w' => e = .returned (.tuple #[]) ∧ ∃ F', W w' b F' (st.layW p E) ∧ Ch w w' F F' := by
  by_cases h9 : p.k = 9
  · obtain ⟨a, c⟩ := hp.2.1 h9
    obtain ⟨q, hq⟩ := Int.eq_ofNat_of_zero_le a
    rw [Wst.layW, if_pos h9, h9, hq, Int.toNat_natCast]
    exact lay9_any b p.u q p.s p.m F st E w (by omega) hg h
  · rw [Wst.layW, if_neg h9]
    exact layA_any p b F st E (E 4) w hp.1 h9 hu hn hg.gl hg.e4 h (by have := hp.2.2; omega) hl
theorem fit_fitted (p : Pt) (h : p.s.size < 4294967296) : p.fit.fitted := by
  refine ⟨fk_mem p.k, fun h9 => ?_, h⟩
  have h9' : fk p.k = 9 := h9
  show 0 ≤ fn p.k p.n ∧ fn p.k p.n ≤ 7
  unfold fn
  split <;> omega
end Go.Proofs.YtikolmpgnpkdbaaDoor

namespace Go.Proofs.YtikolmpgnpkdbaaDoor
open Go.RowKit

def runW (L : List Pt) (E : Nat → Addr) : Wst := L.foldl (fun st p => st.layW p E) start
def fits (A : List Pt) (k : Nat) : List Pt := (A.take k).map Pt.fit
theorem fits_snoc (A : List Pt) (k : Nat) (h : k < A.length) : fits A (k + 1) = fits A k ++ [A[k].fit] := by
  unfold fits
  rw [List.take_add_one, List.getElem?_eq_getElem h, Option.toList_some, List.map_append]
  rfl
theorem runW_snoc (L : List Pt) (p : Pt) (E : Nat → Addr) : runW (L ++ [p]) E = (runW L E).layW p E := by
  unfold runW; rw [List.foldl_append]; rfl
theorem layW_len (st : Wst) (p : Pt) (E : Nat → Addr) : (st.layW p E).l.length ≤ st.l.length + (12 + p.s.size) := by
  unfold Wst.layW
  split
  · unfold Wst.failN
    split
    · omega
    · rw [fail_len]; omega
  · have := lay9_len st p (E 2) (E 4)
    rename_i h
    rwa [Wst.lay9, if_neg h] at this
theorem runW_len (A : List Pt) (E : Nat → Addr) : ∀ k, k ≤ A.length → (runW (fits A k) E).l.length ≤ weight (A.take k) := by
  intro k
  induction k with
  | zero => intro _; simp [fits, runW, start, weight]
  | succ k ih =>
    intro hk
    have h1 := ih (by omega)
    have h2 := layW_len (runW (fits A k) E) (A[k]'(by omega)).fit E
    have h3 : (A[k]'(by omega)).fit.s = (A[k]'(by omega)).s := rfl
    rw [h3] at h2
    rw [fits_snoc A k (by omega), runW_snoc, weight_snoc A k (by omega)]
    omega
/-- The writer and the list of calls, k done. -/
def InvW (w wr : World) (av : Value) (A : List Pt) (k : Nat) (E : Nat → Addr) : Prop :=
  ∃ F1, W wr w.heap.size F1 (runW (fits A k) E) ∧ wr.ownsRow (w.heap.size + 1) 31 5 av (fits A k).length (pcells (fits A k)) ∧ Fr (fun _ => False) w wr ∧ (∀ i, F1 i → w.heap.size ≤ i) ∧ ∀ g, av.ownBlock = some g → ¬ F1 g


theorem weight_fits (A : List Pt) (k : Nat) : weight (fits A k) = weight (A.take k) := by
  unfold fits weight
  rw [List.map_map]
  rfl
theorem fits_len (A : List Pt) (k : Nat) (h : k ≤ A.length) : (fits A k).length = k := by
  simp [fits]; omega
theorem invw_step {w wr w4 w6 w7 : World} {av v' : Value} {A : List Pt} {k : Nat} {E : Nat → Addr} {p : Pt} {F1 F1' : Nat → Prop} (hlt : k < A.length) (hp : A[k].fit = p) (hc : Fr (fun _ => False) wr w4)
    (hV : W wr w.heap.size F1 (runW (fits A k) E)) (hn1 : ∀ i, F1 i → w.heap.size ≤ i) (hdj : ∀ g, av.ownBlock = some g → ¬ F1 g)
    (hown6 : w6.ownsRow (w.heap.size + 1) 31 5 v' ((fits A k).length + 1) (pcells (fits A k ++ [p]))) (hat : v'.ownBlock = av.ownBlock ∨ v'.ownBlock = some (w4.heap.size + 1)) (hA6 : Fr (fun _ => False) w w6)
    (hW7 : W w7 w.heap.size F1' ((runW (fits A k) E).layW p E)) (hc7 : Ch w6 w7 F1 F1') : InvW w w7 v' A (k + 1) E := by
  have hs := hc.size
  have hnF : ∀ g, v'.ownBlock = some g → ¬ F1 g := fun g hg h1 => by
    rcases hat with e | e
    · exact hdj g (e ▸ hg) h1
    · rw [e] at hg
      have := hV.lt g h1
      have := Option.some.inj hg
      omega
  refine ⟨F1', ?_, ?_, hA6.soak hc7.fr hn1, fun i hi => ?_, fun g hg h1 => ?_⟩
  · rw [fits_snoc A k hlt, runW_snoc, hp]; exact hW7
  · rw [fits_snoc A k hlt, hp, List.length_append]
    exact ownsRow_of_block hown6 (fun g hg => hc7.fr.block g (hown6.lt g hg).2 (hnF g hg))
  · rcases hc7.new i hi with hx | hx
    · exact hn1 i hx
    · have := hA6.size; omega
  · rcases hc7.new g h1 with hx | hx
    · exact hnF g hg hx
    · have := (hown6.lt g hg).2; omega
theorem own_form5 {w : World} {base e size n : Nat} {v : Value} {xs : List Value} (h : w.ownsRow base e size v n xs) : ∃ ao cap, v = .slice ao n cap := by
  rcases h.2 with ⟨rfl, e⟩ | ⟨g, cap, cur, rfl, _⟩
  · rw [e]; exact ⟨none, 0, rfl⟩
  · exact ⟨_, cap, rfl⟩
theorem lt_of_heap {w : World} {k : Nat} {o : Obj} (h : w.heap[k]? = some o) : k < w.heap.size := by
  rcases Nat.lt_or_ge k w.heap.size with hx | hx
  · exact hx
  · rw [Array.getElem?_eq_none hx] at h; cases h
theorem told_box (w : World) (o f : Obj) : (∀ i, (((w.alloc o).alloc f).alloc f).cell? ⟨w.heap.size, i, none⟩ = (w.alloc o).cell? ⟨w.heap.size, i, none⟩) ∧ (((w.alloc o).alloc f).alloc f).heap[w.heap.size + 1]? = some f ∧ (((w.alloc o).alloc f).alloc f).heap[w.heap.size + 1 + 1]? = some f := by
  have h1 : (w.alloc o).heap.size = w.heap.size + 1 := by simp
  have h2 : ((w.alloc o).alloc f).heap.size = w.heap.size + 1 + 1 := by simp
  refine ⟨fun i => (box2 (w.alloc o) f f).cell (by show w.heap.size < (w.alloc o).heap.size; omega) (fun h => h), ?_, ?_⟩
  · rw [Below.heap_alloc _ _ _ (by omega), ← h1]; exact heap_alloc_new _ _
  · rw [← h2]; exact heap_alloc_new _ _
theorem fits_mem {A : List Pt} {k : Nat} {p : Pt} (h : p ∈ fits A k) : ∃ q ∈ A, p = q.fit := by
  unfold fits at h
  obtain ⟨q, hq, rfl⟩ := List.mem_map.1 h
  exact ⟨q, List.mem_of_mem_take hq, rfl⟩

set_option maxRecDepth 1000000 in
set_option maxHeartbeats 2000000 in
theorem writes_any (x0 : Value) (A : List Pt) (E : Nat → Addr) (w : World) (hg : G7 w E) (hw : 9 ≤ w.heap.size) (h0 : PSrc w x0 A) (hA : weight A ≤ 16777216) (oA : ∀ p ∈ A, p.ok) (hAl : A.length < 16777216) :
    Calls Tryd.prog 9 #[x0] w fun e w' => e = .returned (.bool true) ∧ Fr (fun _ => False) w w' := by
  obtain ⟨ao0, ac0, rfl⟩ := h0.form
  have HG := hide (And.intro hg h0)
  have HO := hide oA
  clear hg h0 oA
  go_enter Tryd.func9, Tryd.ntmps9
  go_wp2_with fail
  refine (newWriter_any w hw).mono ?_
  rintro e w2 ⟨rfl, hW2, hf2⟩
  have H2 := hide (And.intro hW2 hf2)
  clear hW2 hf2
  go_wp2_with fail
  go_loopw [4, 5] (fun av i wr => ∃ k : Nat, k ≤ A.length ∧ i = .int .i64 k ∧ InvW w wr av A k E) (fun _ i _ => A.length - (intOf i).toNat)
  case atStart => exact ⟨0, Nat.zero_le _, rfl, _, (unhide H2).1, ⟨rfl, .inl ⟨rfl, rfl⟩⟩, (unhide H2).2, fun i h1 => by have e1 : i = w.heap.size := h1; omega, fun g hg => by cases hg⟩
  case round =>
    obtain ⟨k, hk, rfl, F1, hV, hown, hA4, hn1, hdj⟩ := hrel
    rename World => wr
    obtain ⟨vo, vc, rfl⟩ := own_form5 hown
    by_cases hlt : k < A.length
    · obtain ⟨g, o, rfl, c0, c1, c2, c3, c4⟩ := (unhide HG).2.at_ hA4 k hlt
      generalize hP : A[k] = P at *
      have HP := hide hP
      clear hP
      have HV := hide (And.intro hV (And.intro hown (And.intro hA4 (And.intro hn1 hdj))))
      clear hV hown hA4 hn1 hdj
      go_wp2_with fail
      refine (fit_any P wr).mono ?_
      rintro e w4 ⟨rfl, hf4⟩
      have hfit : A[k].fit = ⟨fk P.k, P.u, P.s, fn P.k P.n, P.m⟩ := by rw [Pt.fit, unhide HP]
      have hm : P ∈ A := by rw [← unhide HP]; exact List.getElem_mem _
      have ok := (unhide HO) P hm
      have wt := weight_mem hm
      have hfd := fit_fitted P (by omega)
      rw [Pt.fit] at hfd
      have npl := fn_lt (k := P.k) ok.2.1
      generalize hkp : fk P.k = kp at *
      generalize hnp : fn P.k P.n = np at *
      clear c0 c1 c2 c3 c4 hkp hnp
      obtain ⟨hV, hown, hA4, hn1, hdj⟩ := unhide HV
      have hfC : Fr (fun _ => False) wr (w4.alloc (.cells #[.int .i64 kp, .int .u64 P.u, .string P.s, .int .i64 np, .int .i64 P.m] 31)) := hf4.alloc _
      have hAC := hA4.trans hfC (fun _ _ h => h)
      have flen := fits_len A k (by omega)
      have hlw := runW_len A E k (by omega)
      have tA := weight_take A k
      have hownC : (w4.alloc (.cells #[.int .i64 kp, .int .u64 P.u, .string P.s, .int .i64 np, .int .i64 P.m] 31)).ownsRow (w.heap.size + 1) 31 5 (.slice vo (fits A k).length vc) (fits A k).length (pcells (fits A k)) := ownsRow_of_block hown (fun g hg => hfC.block g (hown.lt g hg).2 (fun h => h))
      have s4 := hf4.size
      have sA := hA4.size
      have hVlt := hV.lt _ hV.fb
      obtain ⟨v', w6, hr, hown6, hgrow, hat⟩ := app_part _ _ _ _ ⟨kp, P.u, P.s, np, P.m⟩ hownC (by omega) (by simp; omega)
      have hF6 : Fr (fun j => (Value.slice vo (fits A k).length vc).ownBlock = some j) (w4.alloc (.cells #[.int .i64 kp, .int .u64 P.u, .string P.s, .int .i64 np, .int .i64 P.m] 31)) w6 := ((Fr.refl _ _).alloc _).grown hgrow (fun g hg => .inl hg)
      have hA6 := hAC.soak hF6 (fun i hi => by have := (hown.lt i hi).1; omega)
      have hW6 := (hV.frame hfC (fun _ _ h => h)).frame hF6 (fun i hi h => hdj i h hi)
      have b6 : Box w6 w4.heap.size ⟨kp, P.u, P.s, np, P.m⟩ := Box.fr (box_new w4 ⟨kp, P.u, P.s, np, P.m⟩) hF6 (fun h => by have := (hown.lt _ h).2; omega)
      have HL := hide (layW_any ⟨kp, P.u, P.s, np, P.m⟩ w.heap.size F1 _ E w6 hfd ok.1 npl ((unhide HG).1.fr hA6 (fun _ h => h.elim)) hW6 (by show _ + 8 + P.s.size ≤ _; omega))
      have HX := hide (fun (w7 : World) (F1' : Nat → Prop) (hW7 : W w7 w.heap.size F1' ((runW (fits A k) E).layW ⟨kp, P.u, P.s, np, P.m⟩ E)) (hc7 : Ch w6 w7 F1 F1') => invw_step hlt hfit hfC hV hn1 hdj hown6 (by simpa using hat) hA6 hW7 hc7)
      have hsz : (w4.alloc (.cells #[.int .i64 kp, .int .u64 P.u, .string P.s, .int .i64 np, .int .i64 P.m] 31)).heap.size = w4.heap.size + 1 := by simp
      dsimp only at hr
      rw [hsz] at hr
      have HR := hide hr
      clear hsz
      clear hfit hm ok wt hfd npl hV hown hA4 hn1 hdj hfC hAC flen hlw tA hownC s4 sA hVlt hown6 hgrow hat hF6 hA6 hW6 hr hf4
      obtain ⟨p0, p1, p2, p3, p4⟩ := b6
      generalize (fits A k).length = fl at *
      go_wp2_with (at_builtin; refine wpList_app rfl (.tmp 25) (.tmp 27) 22 22 rfl _ _ _ rfl rfl (unhide HR) ?_)
      refine (unhide HL).mono ?_
      rintro e w7 ⟨rfl, F1', hW7, hc7⟩
      have HI := hide (unhide HX w7 F1' hW7 hc7)
      clear hW7 hc7 HX HL HR p0 p1 p2 p3 p4
      go_wp2_with fail
      exact ⟨⟨k + 1, by omega, by go_num, unhide HI⟩, by simp [intOf]; omega⟩
    · have hkA : k = A.length := by omega
      have flen := fits_len A k (by omega)
      have hwt := weight_fits A k
      have hlw := runW_len A E k (by omega)
      have tA := weight_take A k
      have hmem : ∀ p ∈ fits A k, (p.k ∈ kinds ∧ p.ok) ∧ p.fitted := fun p hp => by
        obtain ⟨q, hq, rfl⟩ := fits_mem hp
        have ok := (unhide HO) q hq
        have wt := weight_mem hq
        exact ⟨⟨fk_mem q.k, ok.1, fn_lt (k := q.k) ok.2.1, ok.2.2⟩, fit_fitted q (by omega)⟩
      have hag := write_agrees (fits A k) E start [] rfl rfl (fun p hp => (hmem p hp).2)
      have hst : start.nm = ⟨#[]⟩ := rfl
      rw [hst] at hag
      have hru : (fits A k).foldl (fun st p => st.layW p E) start = runW (fits A k) E := rfl
      rw [hru] at hag
      clear hst hru
      generalize hL : fits A k = L at *
      clear hL
      generalize runW L E = st at *
      have HGW := hide (gwrite_any _ L wr (own_psrc hown) (by omega) (fun p hp => (hmem p hp).1) (by omega))
      obtain ⟨bs, what, place, why, hM⟩ : ∃ bs what place why, writeM L ⟨#[]⟩ [] = (bs, what, place, why) := ⟨_, _, _, _, rfl⟩
      rw [hM] at HGW hag
      dsimp only at HGW hag
      have HV := hide (And.intro hV hA4)
      have HAG := hide hag
      have hln : L.length ≤ 16777216 := by omega
      clear hV hA4 hown hn1 hdj hmem hwt hag hM flen hkA
      generalize L.length = ln at *
      go_wp2_with fail
      refine (unhide HGW).mono ?_
      rintro e w4 ⟨v, rfl, hsrc, hf4⟩
      obtain ⟨bo, bc, rfl⟩ := hsrc.form
      have HV4 := hide (And.intro hsrc (And.intro ((unhide HV).1.frame hf4 (fun _ _ h => h)) ((unhide HV).2.trans hf4 (fun _ _ h => h))))
      clear hsrc hf4 HGW
      rcases (unhide HAG) with ⟨rfl, hfn, hnorm⟩ | ⟨h1, h7, rfl, hfs⟩
      · have hs : sameB st.l bs = true := by simp [sameB, hnorm]
        have hFB : Fr (fun _ => False) w4 (w4.alloc (.cells #[.string what, .int .i64 place, .int .i64 0] 55)) := box1 w4 _
        have HFN := hide (And.intro hfn hFB)
        clear hnorm hfn HAG hFB
        go_wp2_with fail
        have hW5 := (unhide HV4).2.1.frame (unhide HFN).2 (fun _ _ h => h)
        refine (wDone_ok _ _ _ _ hW5 (unhide HFN).1 (by omega)).mono ?_
        rintro e w5 ⟨g1, rfl, ho1, hf5⟩
        obtain ⟨o1, q1, rfl⟩ := own_form ho1
        have H5 := hide (And.intro ho1 (And.intro hf5 (hW5.frame hf5 (fun _ _ h => h))))
        clear ho1 hf5 hW5
        go_wp2_with fail
        refine (wDone_ok _ _ _ w5 (unhide H5).2.2 (unhide HFN).1 (by omega)).mono ?_
        rintro e w6 ⟨g2, rfl, ho2, hf6⟩
        obtain ⟨o2, q2, rfl⟩ := own_form ho2
        have hf46 := (unhide H5).2.1.trans hf6 (fun _ _ h => h)
        have k0 := (hf46.cell (p := ⟨w4.heap.size, 0, none⟩) (by simp) (fun h => h)).trans (show _ = some (.string what) by simp)
        have k1 := (hf46.cell (p := ⟨w4.heap.size, 1, none⟩) (by simp) (fun h => h)).trans (show _ = some (.int .i64 place) by simp)
        have k2 := (hf46.cell (p := ⟨w4.heap.size, 2, none⟩) (by simp) (fun h => h)).trans (show _ = some (.int .i64 0) by simp)
        have hS1 := (own_src (unhide H5).1).fr hf6 (fun _ _ _ _ _ h => h)
        have hSb := ((unhide HV4).1.fr (unhide HFN).2 (fun _ _ _ _ _ h => h)).fr hf46 (fun _ _ _ _ _ h => h)
        have hA6 := ((unhide HV4).2.2.trans (unhide HFN).2 (fun _ _ h => h)).trans hf46 (fun _ _ h => h)
        have H6 := hide (And.intro hS1 (And.intro (own_src ho2) (And.intro hSb hA6)))
        clear ho2 hf6 hf46 hS1 hSb hA6 H5 HFN HV4 HV
        go_wp2_with fail
        refine (same_any _ _ st.l bs w6 (unhide H6).1 (unhide H6).2.2.1 (by omega)).mono ?_
        rintro e w7 ⟨rfl, n7, rfl⟩
        rw [hs]
        go_wp2_with fail
        refine (told_nil what place _).mono ?_
        rintro e w8 ⟨rfl, hf8⟩
        have hf68 := ((Fr.refl (fun _ => False) w6).drewN n7).trans hf8 (fun _ _ h => h)
        have l0 := (hf68.cell (lt_of_cell k0) (fun h => h)).trans k0
        have l1 := (hf68.cell (lt_of_cell k1) (fun h => h)).trans k1
        have l2 := (hf68.cell (lt_of_cell k2) (fun h => h)).trans k2
        have H8 := hide (And.intro ((unhide H6).2.1.fr hf68 (fun _ _ _ _ _ h => h)) (And.intro ((unhide H6).2.2.1.fr hf68 (fun _ _ _ _ _ h => h)) ((unhide H6).2.2.2.trans hf68 (fun _ _ h => h))))
        clear hf8 hf68 k0 k1 k2
        go_wp2_with fail
        refine (same_any _ _ st.l bs w8 (unhide H8).1 (unhide H8).2.1 (by omega)).mono ?_
        rintro e w9 ⟨rfl, n9, rfl⟩
        rw [hs]
        go_wp2_with fail
        refine (told_nil what place _).mono ?_
        rintro e w10 ⟨rfl, hf10⟩
        have H10 := hide ((unhide H8).2.2.trans (((Fr.refl (fun _ => False) w8).drewN n9).trans hf10 (fun _ _ h => h)) (fun _ _ h => h))
        clear hf10
        go_wp2_with fail
        go_ret
        exact ⟨rfl, unhide H10⟩
      · obtain ⟨n, rfl⟩ := Int.eq_ofNat_of_zero_le (show 0 ≤ why by omega)
        have hs : sameB [] [] = true := by simp [sameB]
        rw [Int.toNat_natCast] at hfs
        have hFB : Fr (fun _ => False) w4 (w4.alloc (.cells #[.string what, .int .i64 place, .int .i64 n] 55)) := box1 w4 _
        have HFN := hide (And.intro hfs hFB)
        have HNN : Hid (1 ≤ n ∧ n ≤ 7) := hide ⟨by omega, by omega⟩
        clear hfs HAG hFB h1 h7
        go_wp2_with fail
        refine (wDone_bad _ _ _ what place (E n) _ ((unhide HV4).2.1.frame (unhide HFN).2 (fun _ _ h => h)) (unhide HFN).1).mono ?_
        rintro e w5 ⟨rfl, rfl⟩
        have hF5 := (unhide HFN).2.alloc (faultObj what place (E n))
        have H5 := hide hF5
        clear hF5
        go_wp2_with fail
        refine (wDone_bad _ _ _ what place (E n) _ ((unhide HV4).2.1.frame (unhide H5) (fun _ _ h => h)) (unhide HFN).1).mono ?_
        rintro e w6 ⟨rfl, rfl⟩
        have hf46 := (unhide H5).alloc (faultObj what place (E n))
        generalize hw6 : ((w4.alloc (.cells #[.string what, .int .i64 place, .int .i64 n] 55)).alloc (faultObj what place (E n))).alloc (faultObj what place (E n)) = w6 at *
        have hz6 : ((w4.alloc (.cells #[.string what, .int .i64 place, .int .i64 n] 55)).alloc (faultObj what place (E n))).heap.size = w4.heap.size + 1 + 1 := by simp
        have hbb := told_box w4 (.cells #[.string what, .int .i64 place, .int .i64 n] 55) (faultObj what place (E n))
        rw [hw6] at hbb
        obtain ⟨hbc, hb1, hb2⟩ := hbb
        have k0 : w6.cell? ⟨w4.heap.size, 0, none⟩ = some (.string what) := (hbc 0).trans (by simp)
        have k1 : w6.cell? ⟨w4.heap.size, 1, none⟩ = some (.int .i64 place) := (hbc 1).trans (by simp)
        have k2 : w6.cell? ⟨w4.heap.size, 2, none⟩ = some (.int .i64 n) := (hbc 2).trans (by simp)
        rw [hz6]
        have hSb := (unhide HV4).1.fr hf46 (fun _ _ _ _ _ h => h)
        have hA6 := (unhide HV4).2.2.trans hf46 (fun _ _ h => h)
        have H6 := hide (And.intro hSb (And.intro hA6 (And.intro hb1 hb2)))
        clear hw6 hz6 hbc hb1 hb2 hSb hA6 hf46 H5 HFN HV4 HV
        have hs0 : ∀ u, Src u (.slice none 0 0) [] := fun _ => .inl ⟨rfl, rfl⟩
        go_wp2_with fail
        refine (same_any _ _ [] [] w6 (hs0 _) (unhide H6).1 (by simp)).mono ?_
        rintro e w7 ⟨rfl, n7, rfl⟩
        rw [hs]
        go_wp2_with fail
        refine (told_fault n (w4.heap.size + 1) place what E _ ((unhide HG).1.fr ((unhide H6).2.1.drewN n7) (fun _ h => h.elim)) (unhide HNN).1 (unhide HNN).2 (unhide H6).2.2.1).mono ?_
        rintro e w8 ⟨rfl, hf8⟩
        have hf68 := ((Fr.refl (fun _ => False) w6).drewN n7).trans hf8 (fun _ _ h => h)
        have l0 := (hf68.cell (lt_of_cell k0) (fun h => h)).trans k0
        have l1 := (hf68.cell (lt_of_cell k1) (fun h => h)).trans k1
        have l2 := (hf68.cell (lt_of_cell k2) (fun h => h)).trans k2
        have hb8 := (hf68.block _ (lt_of_heap (unhide H6).2.2.2) (fun h => h)).trans (unhide H6).2.2.2
        have H8 := hide (And.intro ((unhide H6).1.fr hf68 (fun _ _ _ _ _ h => h)) (And.intro ((unhide H6).2.1.trans hf68 (fun _ _ h => h)) hb8))
        clear hf8 hf68 k0 k1 k2 hb8
        go_wp2_with fail
        refine (same_any _ _ [] [] w8 (hs0 _) (unhide H8).1 (by simp)).mono ?_
        rintro e w9 ⟨rfl, n9, rfl⟩
        rw [hs]
        go_wp2_with fail
        refine (told_fault n (w4.heap.size + 1 + 1) place what E _ ((unhide HG).1.fr ((unhide H8).2.1.drewN n9) (fun _ h => h.elim)) (unhide HNN).1 (unhide HNN).2 (unhide H8).2.2).mono ?_
        rintro e w10 ⟨rfl, hf10⟩
        have H10 := hide ((unhide H8).2.1.trans (((Fr.refl (fun _ => False) w8).drewN n9).trans hf10 (fun _ _ h => h)) (fun _ _ h => h))
        clear hf10
        go_wp2_with fail
        go_ret
        exact ⟨rfl, unhide H10⟩
end Go.Proofs.YtikolmpgnpkdbaaDoor

namespace Go.Proofs.YtikolmpgnpkdbaaDoor
open Go.RowKit

/-- The reader and the ref's reader, beside one another. -/
def InvQ (w wr : World) (b g : Nat) (xo : Option Addr) (xc : Nat) (l : List Nat) (E : Nat → Addr) : Prop :=
  ∃ (q : Q) (F : Nat → Prop) (last : Nat), R wr b F (q.rst E) ∧ C7 wr g (.slice xo l.length xc) (.int .i64 q.at_) (.int .i64 last) (.string q.nm) (.string (ftV q.f).1) (.int .i64 ((ftV q.f).2.1 : Nat)) (.int .i64 ((ftV q.f).2.2 : Nat)) ∧
    (q.f = none → last = q.part) ∧ q.ok ∧ q.all = l ∧ Fr (fun _ => False) w wr ∧ (∀ i, F i → w.heap.size ≤ i) ∧ ¬ F g

theorem Q.step_len (q : Q) (p : Pt) : (q.step p).2.2.length ≤ q.all.length := by
  unfold Q.step Q.fail
  repeat' split
  all_goals simp
  all_goals omega
theorem set7_other {w : World} {g : Nat} {a0 a1 a2 a3 a4 a5 a6 : Value} {p : Addr} (h : p.block ≠ g ∨ 7 ≤ p.off) :
    (((((((w.setCell ⟨g, 0, none⟩ a0).setCell ⟨g, 1, none⟩ a1).setCell ⟨g, 2, none⟩ a2).setCell ⟨g, 3, none⟩ a3).setCell ⟨g, 4, none⟩ a4).setCell ⟨g, 5, none⟩ a5).setCell ⟨g, 6, none⟩ a6).cell? p = w.cell? p := by
  have ne : ∀ i, i < 7 → (⟨g, i, none⟩ : Addr) ≠ p := fun i hi e => by
    rw [← e] at h
    rcases h with h | h
    · exact h rfl
    · have h' : 7 ≤ i := h
      omega
  rw [World.cell?_setCell_other _ _ _ _ (ne 6 (by decide)), World.cell?_setCell_other _ _ _ _ (ne 5 (by decide)), World.cell?_setCell_other _ _ _ _ (ne 4 (by decide)), World.cell?_setCell_other _ _ _ _ (ne 3 (by decide)), World.cell?_setCell_other _ _ _ _ (ne 2 (by decide)), World.cell?_setCell_other _ _ _ _ (ne 1 (by decide)), World.cell?_setCell_other _ _ _ _ (ne 0 (by decide))]
/-- Bytes do not lie where a reader lies. -/
theorem Src.set7 {w : World} {g m c : Nat} {xo : Option Addr} {n1 n2 n5 n6 : Int} {s3 s4 : ByteArray} {a0 a1 a2 a3 a4 a5 a6 x : Value} {l : List Nat} (h : Src w x l) (hC : C7 w g (.slice xo m c) (.int .i64 n1) (.int .i64 n2) (.string s3) (.string s4) (.int .i64 n5) (.int .i64 n6)) :
    Src (((((((w.setCell ⟨g, 0, none⟩ a0).setCell ⟨g, 1, none⟩ a1).setCell ⟨g, 2, none⟩ a2).setCell ⟨g, 3, none⟩ a3).setCell ⟨g, 4, none⟩ a4).setCell ⟨g, 5, none⟩ a5).setCell ⟨g, 6, none⟩ a6) x l := by
  rcases h with h | ⟨gb, o, cp, hx, hc⟩ | h
  · exact .inl h
  · refine .inr (.inl ⟨gb, o, cp, hx, fun j v hv => ?_⟩)
    have h1 := hc j v hv
    rw [set7_other, h1]
    by_cases e : gb = g
    · refine .inr ?_
      subst e
      obtain ⟨u, hu⟩ : ∃ u, v = .int .u8 u := by
        have := List.mem_of_getElem? hv
        simp only [cellsOf, List.mem_map] at this
        obtain ⟨y, _, rfl⟩ := this
        exact ⟨_, rfl⟩
      subst hu
      obtain ⟨q0, q1, q2, q3, q4, q5, q6, _⟩ := hC
      rcases Nat.lt_or_ge (o + j) 7 with hlt | hge
      · exfalso
        have : o + j = 0 ∨ o + j = 1 ∨ o + j = 2 ∨ o + j = 3 ∨ o + j = 4 ∨ o + j = 5 ∨ o + j = 6 := by omega
        rcases this with e | e | e | e | e | e | e <;> rw [e] at h1
        · rw [q0] at h1; cases h1
        · rw [q1] at h1; cases h1
        · rw [q2] at h1; cases h1
        · rw [q3] at h1; cases h1
        · rw [q4] at h1; cases h1
        · rw [q5] at h1; cases h1
        · rw [q6] at h1; cases h1
      · exact hge
    · exact .inl e
  · exact .inr (.inr h)

set_option maxRecDepth 1000000 in
set_option maxHeartbeats 2000000 in
theorem reads_any (x0 x1 : Value) (l : List Nat) (A : List Pt) (E : Nat → Addr) (w : World) (hg : G7 w E) (hw : 9 ≤ w.heap.size) (hx0 : Src w x0 l) (hcap : ∀ xo n xc, x0 = .slice xo n xc → n ≤ xc) (hl : l.length ≤ 16777216) (h1 : PSrc w x1 A) (hA : weight A ≤ 16777216) (oA : ∀ p ∈ A, p.ok) (hAl : A.length < 16777216) :
    Calls Tryd.prog 10 #[x0, x1] w fun e w' => e = .returned (.bool true) ∧ Fr (fun _ => False) w w' := by
  obtain ⟨xo, xc, rfl⟩ := hx0.form
  obtain ⟨ao, ac, rfl⟩ := h1.form
  have hlc := hcap xo _ xc rfl
  have HG := hide (And.intro hg (And.intro hx0 h1))
  have HO := hide oA
  clear hg hx0 h1 oA hcap
  go_enter Tryd.func10, Tryd.ntmps10
  go_wp2_with fail
  refine (newReader_any _ l w hw (unhide HG).2.1 (by omega)).mono ?_
  rintro e w1 ⟨b, F0, rfl, hR, hf1, hF0⟩
  have hb1 := hR.lt b hR.fb
  have s1 := hf1.size
  have H1 := hide (And.intro hR (And.intro hf1 hF0))
  clear hR hf1 hF0
  go_wp2_with fail
  go_loopw [7] (fun i wr => ∃ k : Nat, k ≤ A.length ∧ i = .int .i64 k ∧ InvQ w wr b w1.heap.size xo xc l E) (fun i _ => A.length - (intOf i).toNat)
  case atStart =>
    refine ⟨0, Nat.zero_le _, rfl, ⟨ByteArray.empty, l, 0, 0, none⟩, F0, 0, (unhide H1).1.frame (box1 w1 _) (fun _ _ h => h), c7_new w1 _ _ _ _ _ _ _ _, fun _ => rfl, ⟨Nat.zero_le _, Nat.zero_le _, fun _ h => by cases h⟩, rfl, (unhide H1).2.1.trans (box1 w1 _) (fun _ _ h => h), (unhide H1).2.2, fun h => by have := (unhide H1).1.lt _ h; omega⟩
  case round =>
    obtain ⟨k, hk, rfl, q, F, last, hR, hC, hla, hq, hqa, hAr, hn1, hnF⟩ := hrel
    rename World => wr
    have HI := hide (And.intro hR (And.intro hC (And.intro hla (And.intro hq (And.intro hqa (And.intro hAr (And.intro hn1 hnF)))))))
    obtain ⟨t0, t1, t2, t3, t4, t5, t6, tz⟩ := hC
    by_cases hlt : k < A.length
    · obtain ⟨g, o, rfl, c0, c1, c2, c3, c4⟩ := (unhide HG).2.2.at_ hAr k hlt
      generalize hP : A[k] = P at *
      have HP := hide hP
      clear hP hR hla hq hqa hAr hn1 hnF
      go_wp2_with fail
      refine (fit_any P wr).mono ?_
      rintro e w4 ⟨rfl, hf4⟩
      have hm : P ∈ A := by rw [← unhide HP]; exact List.getElem_mem _
      have ok := (unhide HO) P hm
      have wt := weight_mem hm
      have hfd := fit_fitted P (by omega)
      rw [Pt.fit] at hfd
      have npl := fn_lt (k := P.k) ok.2.1
      generalize hkp : fk P.k = kp at *
      generalize hnp : fn P.k P.n = np at *
      clear c0 c1 c2 c3 c4 hkp hnp t0 t1 t2 t3 t4 t5 t6 tz
      obtain ⟨hR, hC, hla, hq, hqa, hAr, hn1, hnF⟩ := unhide HI
      have hfC : Fr (fun _ => False) wr (w4.alloc (.cells #[.int .i64 kp, .int .u64 P.u, .string P.s, .int .i64 np, .int .i64 P.m] 31)) := hf4.alloc _
      have hC4 := hC.fr hfC (fun h => h)
      have hR4 := hR.frame hfC (fun _ _ h => h)
      have hA4 := hAr.trans hfC (fun _ _ h => h)
      have hg1 : w1.heap.size < wr.heap.size := lt_of_cell hC.1
      have hgr := gread_any q ⟨kp, P.u, P.s, np, P.m⟩ xo xc last _ hq (by rw [hqa]; exact (unhide HG).2.1.fr hA4 (fun _ _ _ _ _ h => h)) (by rw [hqa]; exact hlc) (by rw [hqa]; exact hl) hfd.1 hfd.2.1 ok.2.2 hla
      rw [Q.ref, rdV, hqa] at hgr
      dsimp only at hgr
      have HGR := hide hgr
      have H4 := hide (And.intro hR4 (And.intro hA4 (And.intro hfd (And.intro ok (And.intro hn1 (And.intro hnF (And.intro hC4 (And.intro hq hqa))))))))
      obtain ⟨t0, t1, t2, t3, t4, t5, t6, tz⟩ := hC4
      have s4 := hf4.size
      clear hgr hm wt hfd npl hR hC hla hq hqa hAr hn1 hnF hfC hR4 hA4 ok hf4 HI tz
      go_wp2_with fail
      refine (unhide HGR).mono ?_
      rintro e w5 ⟨last', c, rfl, hsc, hcl, hla', hf5⟩
      clear HGR t0 t1 t2 t3 t4 t5 t6
      obtain ⟨hR4, hA4, hfd, ok, hn1, hnF, hC4, hq, hqa⟩ := unhide H4
      have hq' := Q.step_ok hq ⟨kp, P.u, P.s, np, P.m⟩ hfd.2.1
      have hqa' := (Q.step_all q ⟨kp, P.u, P.s, np, P.m⟩).trans hqa
      have hgs : w1.heap.size < w4.heap.size := by omega
      have hrd := fun (wk : World) (hf : Fr (fun _ => False) (w4.alloc (.cells #[.int .i64 kp, .int .u64 P.u, .string P.s, .int .i64 np, .int .i64 P.m] 31)) wk) => read_any q ⟨kp, P.u, P.s, np, P.m⟩ b F E wk ((unhide HG).1.fr (hA4.trans hf (fun _ _ h => h)) (fun _ h => h.elim)) (hR4.frame hf (fun _ _ h => h)) hfd.1 hfd.2.1 ok.2.2 (by rw [hqa]; omega)
      obtain ⟨q', v, cb, hstep⟩ : ∃ q' v cb, q.step ⟨kp, P.u, P.s, np, P.m⟩ = (q', v, cb) := ⟨_, _, _, rfl⟩
      rw [hstep] at hq' hqa' hsc hla' ⊢
      have HCL := hide hcl
      clear hcl
      simp only [hstep] at hrd
      dsimp only at hq' hqa' hsc hla' hrd ⊢
      have HCB : Hid (cb.length ≤ 140737488355328) := hide (by
        have h := Q.step_len q ⟨kp, P.u, P.s, np, P.m⟩
        rw [hstep, hqa] at h
        exact Nat.le_trans h (by omega))
      clear hstep
      rw [Q.ref, rdV, hqa']
      have b5 : Box w5 w4.heap.size ⟨kp, P.u, P.s, np, P.m⟩ := Box.fr (box_new w4 ⟨kp, P.u, P.s, np, P.m⟩) hf5 (fun h => h)
      have hb5 := lt_of_cell b5.1
      have H5 := hide (And.intro hR4 (And.intro hA4 (And.intro hn1 (And.intro hnF (And.intro hC4 (And.intro hq' (And.intro hqa' (And.intro hsc (And.intro hla' (And.intro hf5 hrd))))))))))
      have s5 := hf5.size
      clear hR4 hA4 hfd ok hn1 hnF hC4 hq hqa hq' hqa' hsc hla' hf5 hrd H4
      obtain ⟨p0, p1, p2, p3, p4⟩ := b5
      go_wp2_with fail
      obtain ⟨hR4, hA4, hn1, hnF, hC4, hq', hqa', hsc, hla', hf5, hrd⟩ := unhide H5
      have hfu : Fr (fun _ => False) w5 (w5.alloc (.cells #[.slice xo l.length xc, .int .i64 q'.at_, .int .i64 last', .string q'.nm, .string (ftV q'.f).1, .int .i64 ((ftV q'.f).2.1 : Nat), .int .i64 ((ftV q'.f).2.2 : Nat)] 60)) := box1 w5 _
      refine (hrd _ (hf5.trans hfu (fun _ _ h => h))).mono ?_
      rintro e w6 ⟨d, l', rfl, hsd, hnorm, F', hR6, hc6⟩
      have hU := (c7_new w5 (.slice xo l.length xc) (.int .i64 q'.at_) (.int .i64 last') (.string q'.nm) (.string (ftV q'.f).1) (.int .i64 ((ftV q'.f).2.1 : Nat)) (.int .i64 ((ftV q'.f).2.2 : Nat)) 60).fr hc6.fr (fun h => by have := hR4.lt _ h; simp at this; omega)
      have hT := ((hC4.fr hf5 (fun h => h)).fr hfu (fun h => h)).fr hc6.fr hnF
      have hnF' : ¬ F' w1.heap.size := fun h => by
        rcases hc6.new _ h with hx | hx
        · exact hnF hx
        · simp at hx; omega
      have hA6 := ((hA4.trans hf5 (fun _ _ h => h)).trans hfu (fun _ _ h => h)).soak hc6.fr hn1
      have hn1' : ∀ i, F' i → w.heap.size ≤ i := fun i hi => by
        rcases hc6.new i hi with hx | hx
        · exact hn1 i hx
        · have := hA4.size; simp at hx this; omega
      have hsc6 := (hsc.fr hfu (fun _ _ _ _ _ h => h)).fr hc6.fr (fun g o m cc e h => by have h1 := unhide HCL g o m cc e; have h2 := hR4.lt g h; omega)
      have H6 := hide (And.intro hR6 (And.intro hA6 (And.intro hn1' (And.intro hnF' (And.intro hT (And.intro hq' (And.intro hqa' (And.intro hsd (And.intro hla' (And.intro hnorm hsc6))))))))))
      obtain ⟨u0, u1, u2, u3, u4', u5, u6, uz⟩ := hU
      obtain ⟨t0, t1, t2, t3, t4, t5, t6, tz⟩ := hT
      have z0 := tz 0
      have z1 := tz 1
      have z2 := tz 2
      have z3 := tz 3
      have z4 := tz 4
      have z5 := tz 5
      have z6 := tz 6
      clear hR4 hA4 hn1 hnF hC4 hq' hqa' hsc hla' hf5 hrd hfu hsd hnorm hR6 hc6 hnF' hA6 hn1' hsc6 uz tz H5 p0 p1 p2 p3 p4
      go_wp2_with fail
      clear u0 u1 u2 u3 u4' u5 u6 t0 t1 t2 t3 t4 t5 t6 z0 z1 z2 z3 z4 z5 z6
      obtain ⟨hR6, hA6, hn1', hnF', hT, hq', hqa', hsd, hla', hnorm, hsc6⟩ := unhide H6
      obtain ⟨hC7, hF7⟩ := set7 (.slice xo l.length xc) (.int .i64 q'.at_) (.int .i64 last') (.string q'.nm) (.string (ftV q'.f).1) (.int .i64 ((ftV q'.f).2.1 : Nat)) (.int .i64 ((ftV q'.f).2.2 : Nat)) hT
      have hR7 := hR6.frame hF7 (fun i hi e => by have e' : i = w1.heap.size := e; rw [e'] at hi; exact hnF' hi)
      have hA7 := hA6.soak hF7 (fun i e => by have e' : i = w1.heap.size := e; omega)
      have hd7 := Src.set7 (a0 := .slice xo l.length xc) (a1 := .int .i64 q'.at_) (a2 := .int .i64 last') (a3 := .string q'.nm) (a4 := .string (ftV q'.f).1) (a5 := .int .i64 ((ftV q'.f).2.1 : Nat)) (a6 := .int .i64 ((ftV q'.f).2.2 : Nat)) hsd hT
      have hc7 := Src.set7 (a0 := .slice xo l.length xc) (a1 := .int .i64 q'.at_) (a2 := .int .i64 last') (a3 := .string q'.nm) (a4 := .string (ftV q'.f).1) (a5 := .int .i64 ((ftV q'.f).2.1 : Nat)) (a6 := .int .i64 ((ftV q'.f).2.2 : Nat)) hsc6 hT
      generalize hw7 : ((((((w6.setCell ⟨w1.heap.size, 0, none⟩ (.slice xo l.length xc)).setCell ⟨w1.heap.size, 1, none⟩ (.int .i64 q'.at_)).setCell ⟨w1.heap.size, 2, none⟩ (.int .i64 last')).setCell ⟨w1.heap.size, 3, none⟩ (.string q'.nm)).setCell ⟨w1.heap.size, 4, none⟩ (.string (ftV q'.f).1)).setCell ⟨w1.heap.size, 5, none⟩ (.int .i64 ((ftV q'.f).2.1 : Nat))).setCell ⟨w1.heap.size, 6, none⟩ (.int .i64 ((ftV q'.f).2.2 : Nat)) = w7 at *
      have hg7 := (unhide HG).1.fr hA7 (fun _ h => h.elim)
      obtain ⟨co, cc, rfl⟩ := hc7.form
      obtain ⟨do', dc, rfl⟩ := hd7.form
      have hcl := unhide HCB
      have H7 := hide (And.intro hR7 (And.intro hA7 (And.intro hn1' (And.intro hnF' (And.intro hC7 (And.intro hq' (And.intro hqa' (And.intro hla' (And.intro hc7 (And.intro hd7 (And.intro hnorm.symm (And.intro hg7 hcl))))))))))))
      have hS : TS w7 w1.heap.size (.slice xo l.length xc) (.int .i64 q'.at_) (.int .i64 last') (.string q'.nm) (.string (ftV q'.f).1) (.int .i64 ((ftV q'.f).2.1 : Nat)) (.int .i64 ((ftV q'.f).2.2 : Nat)) w7.drew := TS.next (w := w7) ⟨hC7.1, hC7.2.1, hC7.2.2.1, hC7.2.2.2.1, hC7.2.2.2.2.1, hC7.2.2.2.2.2.1, hC7.2.2.2.2.2.2.1, Fr.refl _ _⟩ ((Fr.refl _ _).drew)
      clear hR6 hA6 hn1' hnF' hT hq' hqa' hsd hla' hnorm hsc6 hC7 hF7 hR7 hA7 hd7 hc7 hw7 hg7 hcl H6 HCL HCB
      have hbn : (((q'.at_ : Nat) : Int) != ((q'.at_ : Nat) : Int)) = false := by simp
      go_region_held3 (fun w' => w'.cell? ⟨w1.heap.size, 0, none⟩ = some (.slice xo l.length xc) ∧ w'.cell? ⟨w1.heap.size, 1, none⟩ = some (.int .i64 q'.at_) ∧ w'.cell? ⟨w1.heap.size, 2, none⟩ = some (.int .i64 last') ∧ w'.cell? ⟨w1.heap.size, 3, none⟩ = some (.string q'.nm) ∧ w'.cell? ⟨w1.heap.size, 4, none⟩ = some (.string (ftV q'.f).1) ∧ w'.cell? ⟨w1.heap.size, 5, none⟩ = some (.int .i64 ((ftV q'.f).2.1 : Nat)) ∧ w'.cell? ⟨w1.heap.size, 6, none⟩ = some (.int .i64 ((ftV q'.f).2.2 : Nat)) ∧ Fr (fun _ => False) w7 w') (assumption)
        (first
          | (go_at_call 20; refine (same_S (by assumption) (unhide H7).2.2.2.2.2.2.2.2.1 (unhide H7).2.2.2.2.2.2.2.2.2.1 (unhide H7).2.2.2.2.2.2.2.2.2.2.1 (unhide H7).2.2.2.2.2.2.2.2.2.2.2.2).mono ?_; rintro e w' ⟨rfl, hS⟩)
          | (go_at_call 19; refine (at_S (q := q') (by assumption) (unhide H7).1).mono ?_; rintro e w' ⟨rfl, hS⟩)
          | (go_at_call 17; refine (err_S (q := q') (by assumption) (unhide H7).1 (unhide H7).2.2.2.2.2.1).mono ?_; rintro e w' ⟨v1, rfl, hE, hf, hS⟩)
          | (go_at_call 18; refine (done_S (q := q') (by assumption) (unhide H7).1 (unhide H7).2.2.2.2.2.1 (unhide H7).2.2.2.2.2.2.2.2.2.2.2.1).mono ?_; rintro e w' ⟨v2, rfl, hD, hf, hS⟩)
          | (go_at_call 30; rw [← (unhide H7).2.2.2.2.2.2.1]; refine (ended_S (q := q') (by assumption) (unhide H7).2.2.2.2.2.1).mono ?_; rintro e w' ⟨rfl, hf, hS⟩; replace hD := hD.fr hf)
          | (go_at_call 28; refine (told_S (by assumption) hE (unhide H7).2.2.2.2.2.2.2.2.2.2.2.1).mono ?_; rintro e w' ⟨rfl, hf, hS⟩; clear hE)
          | (go_at_call 28; refine (told_S (by assumption) hD (unhide H7).2.2.2.2.2.2.2.2.2.2.2.1).mono ?_; rintro e w' ⟨rfl, hf, hS⟩))
      rw [(unhide H7).2.2.2.2.2.2.1]
      have hfin := hS.2.2.2.2.2.2.2
      obtain ⟨hR7, hA7, hn1', hnF', hC7, hq', hqa', hla', -⟩ := unhide H7
      have HI := hide (show InvQ w _ b w1.heap.size xo xc l E from ⟨q', F', last', hR7.frame hfin (fun _ _ h => h), hC7.fr hfin (fun h => h), hla', hq', hqa', hA7.trans hfin (fun _ _ h => h), hn1', hnF'⟩)
      clear hfin hR7 hA7 hn1' hnF' hC7 hq' hqa' hla' hS H7
      go_wp2_with fail
      exact ⟨⟨k + 1, by omega, by go_num, unhide HI⟩, by simp [intOf]; omega⟩
    · clear tz
      have hS : TS wr w1.heap.size (.slice xo l.length xc) (.int .i64 q.at_) (.int .i64 last) (.string q.nm) (.string (ftV q.f).1) (.int .i64 ((ftV q.f).2.1 : Nat)) (.int .i64 ((ftV q.f).2.2 : Nat)) wr.drew := TS.next (w := wr) ⟨t0, t1, t2, t3, t4, t5, t6, Fr.refl _ _⟩ ((Fr.refl _ _).drew)
      have hgr := (unhide HG).1.fr hAr (fun _ h => h.elim)
      have H7 := hide (And.intro hR (And.intro hq (And.intro hgr (And.intro hqa hAr))))
      clear hR hla hq hqa hAr hn1 hnF hgr HI
      go_wp2_with fail
      go_region_held3 (fun w' => w'.cell? ⟨w1.heap.size, 0, none⟩ = some (.slice xo l.length xc) ∧ w'.cell? ⟨w1.heap.size, 1, none⟩ = some (.int .i64 q.at_) ∧ w'.cell? ⟨w1.heap.size, 2, none⟩ = some (.int .i64 last) ∧ w'.cell? ⟨w1.heap.size, 3, none⟩ = some (.string q.nm) ∧ w'.cell? ⟨w1.heap.size, 4, none⟩ = some (.string (ftV q.f).1) ∧ w'.cell? ⟨w1.heap.size, 5, none⟩ = some (.int .i64 ((ftV q.f).2.1 : Nat)) ∧ w'.cell? ⟨w1.heap.size, 6, none⟩ = some (.int .i64 ((ftV q.f).2.2 : Nat)) ∧ Fr (fun _ => False) wr w') (assumption)
        (first
          | (go_at_call 17; refine (err_S (q := q) (by assumption) (unhide H7).1 (unhide H7).2.1).mono ?_; rintro e w' ⟨v1, rfl, hE, hf, hS⟩)
          | (go_at_call 18; refine (done_S (q := q) (by assumption) (unhide H7).1 (unhide H7).2.1 (unhide H7).2.2.1).mono ?_; rintro e w' ⟨v2, rfl, hD, hf, hS⟩)
          | (go_at_call 30; rw [← (unhide H7).2.2.2.1]; refine (ended_S (q := q) (by assumption) (unhide H7).2.1).mono ?_; rintro e w' ⟨rfl, hf, hS⟩; replace hD := hD.fr hf)
          | (go_at_call 28; refine (told_S (by assumption) hD (unhide H7).2.2.1).mono ?_; rintro e w' ⟨rfl, hf, hS⟩; clear hD)
          | (go_at_call 28; refine (told_S (by assumption) hE (unhide H7).2.2.1).mono ?_; rintro e w' ⟨rfl, hf, hS⟩; clear hE))
      have hfin := hS.2.2.2.2.2.2.2
      have HF := hide ((unhide H7).2.2.2.2.trans hfin (fun _ _ h => h))
      clear hfin hS H7
      go_wp2_with fail
      go_ret
      exact ⟨rfl, unhide HF⟩
end Go.Proofs.YtikolmpgnpkdbaaDoor

namespace Go.Proofs.YtikolmpgnpkdbaaDoor
open Go.RowKit

theorem PSrc.fr {w w' : World} {x : Value} {A : List Pt} (h : PSrc w x A) (hf : Fr (fun _ => False) w w') : PSrc w' x A := by
  rcases h with h | ⟨g, o, c, rfl, hc⟩
  · exact .inl h
  · have key : ∀ {p : Addr} {v : Value}, w.cell? p = some v → w'.cell? p = some v := fun h => (hf.cell (lt_of_cell h) (fun h => h)).trans h
    exact .inr ⟨g, o, c, rfl, fun j hj => ⟨key (hc j hj).1, key (hc j hj).2.1, key (hc j hj).2.2.1, key (hc j hj).2.2.2.1, key (hc j hj).2.2.2.2⟩⟩

set_option maxRecDepth 100000 in
theorem bwrites_any (x0 : Value) (A : List Pt) (E : Nat → Addr) (w : World) (hg : G7 w E) (hw : 9 ≤ w.heap.size) (h0 : PSrc w x0 A) (hA : weight A ≤ 16777216) (oA : ∀ p ∈ A, p.ok) (hAl : A.length < 16777216) :
    Calls Tryd.prog 3 #[x0] w fun e w' => e = .returned (.bool true) ∧ Fr (fun _ => False) w w' := by
  have HG := hide (And.intro hg (And.intro h0 oA))
  clear hg h0 oA
  go_enter Tryd.func3, Tryd.ntmps3
  go_wp2_with fail
  refine (awake_any E w (unhide HG).1.gl hw).mono ?_
  rintro e w1 ⟨rfl, hf1⟩
  have A1 := hide hf1
  clear hf1
  go_wp2_with fail
  refine (writes_any x0 A E w1 ((unhide HG).1.fr (unhide A1) (fun _ h => h.elim)) (Nat.le_trans hw (unhide A1).size) ((unhide HG).2.1.fr (unhide A1)) hA (unhide HG).2.2 hAl).mono ?_
  rintro e w2 ⟨rfl, hf2⟩
  have A2 := hide ((unhide A1).trans hf2 (fun _ _ h => h))
  clear hf2
  go_wp2_with fail
  go_ret
  exact ⟨rfl, unhide A2⟩
end Go.Proofs.YtikolmpgnpkdbaaDoor

namespace Go.Proofs.YtikolmpgnpkdbaaDoor
open Go.RowKit

set_option maxRecDepth 100000 in
theorem breads_any (x0 x1 : Value) (l : List Nat) (A : List Pt) (E : Nat → Addr) (w : World) (hg : G7 w E) (hw : 9 ≤ w.heap.size) (hx0 : Src w x0 l) (hcap : ∀ xo n xc, x0 = .slice xo n xc → n ≤ xc) (hl : l.length ≤ 16777216) (h1 : PSrc w x1 A) (hA : weight A ≤ 16777216) (oA : ∀ p ∈ A, p.ok) (hAl : A.length < 16777216) :
    Calls Tryd.prog 4 #[x0, x1] w fun e w' => e = .returned (.bool true) ∧ Fr (fun _ => False) w w' := by
  have HG := hide (And.intro hg (And.intro hx0 (And.intro h1 (And.intro oA hcap))))
  clear hg hx0 h1 oA hcap
  go_enter Tryd.func4, Tryd.ntmps4
  go_wp2_with fail
  refine (awake_any E w (unhide HG).1.gl hw).mono ?_
  rintro e w1 ⟨rfl, hf1⟩
  have A1 := hide hf1
  clear hf1
  go_wp2_with fail
  refine (reads_any x0 x1 l A E w1 ((unhide HG).1.fr (unhide A1) (fun _ h => h.elim)) (Nat.le_trans hw (unhide A1).size) ((unhide HG).2.1.fr (unhide A1) (fun _ _ _ _ _ h => h)) (unhide HG).2.2.2.2 hl ((unhide HG).2.2.1.fr (unhide A1)) hA (unhide HG).2.2.2.1 hAl).mono ?_
  rintro e w2 ⟨rfl, hf2⟩
  have A2 := hide ((unhide A1).trans hf2 (fun _ _ h => h))
  clear hf2
  go_wp2_with fail
  go_ret
  exact ⟨rfl, unhide A2⟩
end Go.Proofs.YtikolmpgnpkdbaaDoor

namespace Go.Proofs.YtikolmpgnpkdbaaDoor
open Go.ChangeShapes Go.WideShapes Go.ChangeAt Go.RowKit
set_option maxRecDepth 100000

/-- A slice's capacity is no less than its length. -/
theorem cap_of_reading {H : Type} {enc : TypeId × Value → H} {W : World} {base : Nat} {v : Value} {d : DataW H} {p : List MemPlace} (hval : Value.okWide Tryd.prog W .any base 25 v) (h : DataW.Trod enc Tryd.prog W 0 (fun _ => true) true 25 v d p) :
    ∀ xo n xc, v = .slice xo n xc → n ≤ xc := by
  obtain ⟨a0, len, cap, rfl⟩ := okWide_slice Tryd.underlying25 hval
  obtain ⟨fuel, hf⟩ := h
  intro xo n xc e
  simp only [Value.slice.injEq] at e
  obtain ⟨rfl, rfl, rfl⟩ := e
  rcases open_ints Tryd.underlying25 Tryd.underlying5 Tryd.cellsU8 hf with ⟨hcs, hx⟩ | ⟨a, len', cap', zs, hcs, _, hl, _⟩
  · simp [Value.cells] at hcs
    obtain ⟨rfl, rfl, rfl⟩ := hcs
    exact Nat.le_refl _
  · simp [Value.cells] at hcs
    obtain ⟨rfl, rfl, rfl⟩ := hcs
    exact hl

theorem reads_contract (H : Type) (enc : TypeId × Value → H) (W : World) (base : Nat) (args : Array Value) (ds gs : List (DataW H)) (before : List MemPlace)
    (hval : ∀ (j : Nat) t v, Tryd.f4.params[j]? = some t → args[j]? = some v → Value.okWide Tryd.prog W .any base t v)
    (hW : DataW.Whole enc Tryd.prog Tryd.f4.params.toList Rows.bytesReadsSpec.vars false W args.toList ds gs before) (hk : Rows.uptoSmall H (ds ++ gs) = true) (hL : laidMetH Tryd.prog Rows.bytesReadsUptoRow.laid W) (hsh : W.ShapedOpen Tryd.prog) :
    Calls Tryd.prog 4 args W fun e W' => ∃ v, e = .returned v ∧ Rows.bytesReadsSpec.post enc Tryd.prog Tryd.f4 false true false false W args v W' := by
  have hW' := hW
  obtain ⟨p, q, hA0, hV, rfl, hfz, hnd⟩ := hW
  have hA : DataW.TrodAll enc Tryd.prog W 0 (fun _ => true) true Tryd.f4.params.toList args.toList ds p := hA0
  rw [Tryd.params4] at hA hval
  obtain ⟨v0, vs0, d0, ds0, p0, q0, hargs, rfl, rfl, h0, r0⟩ := trodAll_cons hA
  obtain ⟨v1, vs1, d1, ds1, p1, q1, rfl, rfl, rfl, h1, r1⟩ := trodAll_cons r0
  obtain ⟨rfl, rfl, rfl⟩ := trodAll_nil r1
  obtain rfl : args = #[v0, v1] := by cases args; simp_all
  obtain ⟨rfl, rfl⟩ := trodVars_none hV
  obtain ⟨l0, s0, c0⟩ := src_of_reading (hval 0 25 v0 rfl rfl) h0
  have hcap := cap_of_reading (hval 0 25 v0 rfl rfl) h0
  obtain ⟨l1, s1, o1, b1, c1⟩ := psrc_of_reading (hval 1 22 v1 rfl rfl) h1
  have hbulk : Rows.uptoBulk d0 + (Rows.uptoBulk d1 + 0) ≤ 1048576 := by
    have h := of_decide_eq_true hk
    simpa only [List.append_nil, Rows.uptoBulkAll] using h
  obtain ⟨E, hg⟩ := g7_of_laid hL
  refine (breads_any v0 v1 l0 l1 E W hg (heap_ok hsh) s0 hcap (by omega) s1 (by omega) o1 (by omega)).mono fun e W' ⟨he, hf⟩ => ?_
  subst he
  have hlt : ∀ x ∈ p0 ++ (p1 ++ []), x.block < W.heap.size := fun x hx => hW'.lt x (by simpa using hx)
  have hb := hf.low
  refine ⟨_, rfl, _, _, _, [], p0 ++ (p1 ++ []), [], hW', ?_, ?_, ?_, hb.frame _, fun h => by cases h⟩
  · exact trodAll_cons_mk (shut_bool Tryd.underlying4 true) trodAll_mk0
  · exact trodAll_cons_mk (Below.trod (by kernel_rfl) (by kernel_rfl) (by decide +kernel) h0 hb (fun x hx => hlt x (by simp [hx]))) (trodAll_cons_mk (Below.trod (by kernel_rfl) (by kernel_rfl) (by decide +kernel) h1 hb (fun x hx => hlt x (by simp [hx]))) trodAll_mk0)
  · rfl

theorem reads_laid_met (os : Os) : laidMetH Tryd.prog Rows.bytesReadsUptoRow.laid ((errWorld8 os).forCall (fun _ _ => 0) ⟨#[], #[.slice none 0 0, .slice none 0 0], []⟩).memory :=
  laidMetH_of_parts (laidMet_of_run' 8 (by kernel_rfl) (by kernel_rfl)) (by kernel_rfl)
theorem reads_reads (os : Os) {H : Type} (enc : TypeId × Value → H) : ∃ places, DataW.whole enc Tryd.prog ((errWorld8 os).forCall (fun _ _ => 0) ⟨#[], #[.slice none 0 0, .slice none 0 0], []⟩).memory Tryd.f4.params.toList Rows.bytesReadsSpec.vars false #[Value.slice none 0 0, .slice none 0 0].toList 8 = some ([.nil, .nil], [], places) :=
  ⟨[], by kernel_rfl⟩

theorem reads_lifted (os : Os) (started : os.Started) (H : Type) (enc : TypeId × Value → H) (F : Stop.Interp) :
    ReturnsInHanded {} Tryd.checked os 4 .any ((Rows.OpenSpec.upto Rows.bytesReadsSpec).preRow enc Tryd.prog Tryd.f4 Rows.bytesReadsUptoRow.domain false Rows.bytesReadsUptoRow.laid) (((Rows.OpenSpec.upto Rows.bytesReadsSpec).at F).post enc Tryd.prog Tryd.f4 false true false false) := by
  obtain ⟨places, hx⟩ := reads_reads os enc
  refine returnsInHanded_of_row (C := Tryd.checked) (s := Rows.OpenSpec.upto Rows.bytesReadsSpec) Tryd.ownKnob started (by kernel_rfl) Tryd.func4
    (witness_row_atRef (enc := enc) (C := Tryd.checked) false (errWorld8 os) #[.slice none 0 0, .slice none 0 0] rfl (by kernel_rfl) (by kernel_rfl) (by kernel_rfl)
      (OpenSpec.preRow_of_cond 8 hx (by kernel_rfl) (fun k hk => by cases hk; kernel_rfl) (by kernel_rfl) (reads_laid_met os))) ?_
  intro W base args ds gs before hval hW _ hcond _ hL hsh _
  exact reads_contract H enc W base args ds gs before hval hW (hcond _ rfl) hL hsh

theorem reads_said : Rows.BytesReadsUptoSaid :=
  OpenClaim.holds_of_cond 4 Tryd.f4 rfl rfl rfl rfl rfl rfl rfl ⟨rfl, rfl, rfl, rfl, rfl⟩ rfl rfl rfl rfl rfl (by kernel_rfl) Tryd.func4 (by kernel_rfl)
    (of_decide_eq_true (by kernel_rfl)) (by unfold Func.isWrapper; first | (rw [if_pos (by decide +kernel)]; kernel_rfl) | (rw [if_neg (by decide +kernel)]; exact ⟨rfl, rfl⟩))
    (fun os started H enc _ F => by rw [OpenClaim.pre_eq_preRow]; exact reads_lifted os started H enc F)

theorem reads_plain (f : FuncId) (fn : Func) (hf : Tryd.pinned.checked.prog.funcNamed Rows.bytesReadsUptoRow.func = some f) (hfn : Tryd.pinned.checked.prog.funcs[f]? = some fn) :
    true = Tryd.pinned.checked.prog.looks [] ∧ ∀ (j : Nat) t, fn.params[j]? = some t → Tryd.pinned.checked.prog.wantsStandIn t = false := by
  obtain rfl : f = 4 := Option.some.inj ((show Tryd.prog.funcNamed Rows.bytesReadsUptoRow.func = some 4 by kernel_rfl).symm.trans hf) |>.symm
  obtain rfl : fn = Tryd.f4 := (Option.some.inj (Tryd.func4.symm.trans hfn)).symm
  refine ⟨by kernel_rfl, fun j t ht => ?_⟩
  rw [Tryd.params4] at ht
  have ht' : t = 25 ∨ t = 22 := by simpa using Array.mem_of_getElem? ht
  rcases ht' with rfl | rfl
  · exact (show Tryd.prog.wantsStandIn 25 = false by kernel_rfl)
  · exact (show Tryd.prog.wantsStandIn 22 = false by kernel_rfl)

/-- THE SECOND FORM's CARD. -/
theorem reads_card : Rows.BytesReadsUptoCardSaid :=
  Claim7.holds_tied_plain_at .later [] _ _ _ _ reads_said (fun _ h => by cases h) (by kernel_rfl) (fun _ h => by cases h) bytesReadsUpto_row_tie rfl ⟨rfl, rfl⟩ (by kernel_rfl) rfl reads_plain (by kernel_rfl)
#print axioms reads_card
end Go.Proofs.YtikolmpgnpkdbaaDoor

