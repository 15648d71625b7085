import Derived.Test.YtheehhplopbceaaDoorSfa
namespace Go.Proofs.YtheehhplopbceaaDoor
open Go.RowKit

/-- Bytes of one's own in a block from base on. -/
def Ow (wr : World) (base : Nat) (xo : Option Addr) (cp : Nat) (l : List Nat) : Prop := wr.ownsRow base 5 1 (.slice xo l.length cp) l.length (cellsOf l)
theorem OB.ow {w wr : World} {xo : Option Addr} {cp : Nat} {l : List Nat} (h : OB w wr xo cp l) : Ow wr w.heap.size xo cp l := h.own
theorem Ow.ob {w wr : World} {xo : Option Addr} {cp : Nat} {l : List Nat} (h : Ow wr w.heap.size xo cp l) (hf : Fr (fun _ => False) w wr) : OB w wr xo cp l := ⟨h, hf⟩
theorem Ow.src {wr : World} {base : Nat} {xo : Option Addr} {cp : Nat} {l : List Nat} (h : Ow wr base xo cp l) : Src wr (.slice xo l.length cp) l := own_src h
theorem Ow.fr {wr wq : World} {base : Nat} {xo : Option Addr} {cp : Nat} {l : List Nat} {S : Nat → Prop} (h : Ow wr base xo cp l) (hf : Fr S wr wq) (hS : ∀ k, base ≤ k → ¬ S k) : Ow wq base xo cp l :=
  ownsRow_of_block h (fun g hg => hf.block g (h.lt g hg).2 (hS g (h.lt g hg).1))
theorem Ow.fr0 {wr wq : World} {base : Nat} {xo : Option Addr} {cp : Nat} {l : List Nat} (h : Ow wr base xo cp l) (hf : Fr (fun _ => False) wr wq) : Ow wq base xo cp l := h.fr hf (fun _ _ h => h)
theorem cellsOf_set (l : List Nat) (j v : Nat) (hv : v < 256) : cellsOf (l.set j v) = (cellsOf l).set j (.int .u8 (v : Int)) := by
  simp [cellsOf, List.map_set, B, Nat.mod_eq_of_lt hv]
theorem Ow.set {wr : World} {base g cp : Nat} {l : List Nat} (h : Ow wr base (some ⟨g, 0, none⟩) cp l) (j v : Nat) (hv : v < 256) : Ow (wr.setCell ⟨g, j, none⟩ (.int .u8 (v : Int))) base (some ⟨g, 0, none⟩) cp (l.set j v) := by
  have := (World.ownsRow.stored h j (.int .u8 (v : Int))).1
  unfold Ow
  rw [cellsOf_set l j v hv, List.length_set]
  exact this
theorem Ow.lt {wr : World} {base g cp : Nat} {l : List Nat} (h : Ow wr base (some ⟨g, 0, none⟩) cp l) : base ≤ g ∧ g < wr.heap.size := World.ownsRow.lt h g rfl
theorem Ow.cell {wr : World} {base g cp : Nat} {l : List Nat} (h : Ow wr base (some ⟨g, 0, none⟩) cp l) (j : Nat) (hj : j < l.length) (hb : ∀ v ∈ l, v < 256) : wr.cell? ⟨g, j, none⟩ = some (.int .u8 ((l.getD j 0 : Nat) : Int)) := by
  rw [World.ownsRow.cellAt h j (by omega), cellsOf, List.getElem?_map, List.getElem?_eq_getElem hj, Option.map_some, List.getD, List.getElem?_eq_getElem hj, Option.getD_some, B, Nat.mod_eq_of_lt (hb _ (List.getElem_mem hj))]
theorem Ow.fz {wr : World} {base g cp : Nat} {l : List Nat} (h : Ow wr base (some ⟨g, 0, none⟩) cp l) (j : Nat) : wr.frozen? ⟨g, j, none⟩ = false := World.ownsRow.frozenAt h j
theorem Ow.frB {wr wq : World} {base : Nat} {xo : Option Addr} {cp : Nat} {l : List Nat} {S : Nat → Prop} (h : Ow wr base xo cp l) (hf : Fr S wr wq) (hS : ∀ g o, xo = some ⟨g, o, none⟩ → ¬ S g) : Ow wq base xo cp l :=
  ownsRow_of_block h (fun g hg => hf.block g (World.ownsRow.lt h g hg).2 (by
    rcases h.2 with ⟨e, _⟩ | ⟨g', cap, cur, e, _⟩
    · rw [e] at hg; cases hg
    · rw [e] at hg
      simp only [Value.ownBlock, Option.some.injEq] at hg
      subst hg
      simp only [Value.slice.injEq] at e
      exact hS g' 0 e.1))
theorem Ow.base {wr : World} {base base' : Nat} {xo : Option Addr} {cp : Nat} {l : List Nat} (h : Ow wr base xo cp l) (hb : base' ≤ base) : Ow wr base' xo cp l := by
  refine ⟨h.1, ?_⟩
  rcases h.2 with h0 | ⟨g, cap, cur, e1, e2, e3⟩
  · exact .inl h0
  · exact .inr ⟨g, cap, cur, e1, Nat.le_trans hb e2, e3⟩
theorem Ow.cap {wr : World} {base g cp : Nat} {l : List Nat} (h : Ow wr base (some ⟨g, 0, none⟩) cp l) : l.length ≤ cp := by
  rcases h.2 with ⟨e, _⟩ | ⟨g', cap, cur, e, _, _, h3, _⟩
  · simp at e
  · simp only [Value.slice.injEq, true_and] at e
    rw [e.2]; exact h3
/-- The beginning of what guarded made. -/
theorem gd_src {wr : World} {base g cp : Nat} {m : List Nat} {k : Nat} (h : Ow wr base (some ⟨g, 0, none⟩) cp (gd m k)) : Src wr (.slice (some ⟨g, 0, none⟩) m.length cp) m := by
  refine .inr (.inl ⟨g, 0, cp, rfl, fun j v hv => ?_⟩)
  have hj : j < m.length := by
    have := (List.getElem?_eq_some_iff.1 hv).1
    rwa [cellsOf_length] at this
  rw [Nat.zero_add, World.ownsRow.cellAt h j (by rw [gd_len]; omega), ← hv, gd, cellsOf_append, List.getElem?_append_left (by rw [cellsOf_length]; exact hj)]
theorem gd_set (m : List Nat) (k j v : Nat) (hj : j < m.length) : (gd m k).set j v = gd (m.set j v) k := by
  rw [gd, gd, List.set_append_left j v hj]
theorem gd_lt (m : List Nat) (k : Nat) (hm : ∀ v ∈ m, v < 256) : ∀ v ∈ gd m k, v < 256 := fun v hv => by
  simp only [gd, List.mem_append, List.mem_replicate] at hv
  rcases hv with h | h
  · exact hm v h
  · omega
theorem set_lt (m : List Nat) (j v : Nat) (hv : v < 256) (hm : ∀ v ∈ m, v < 256) : ∀ u ∈ m.set j v, u < 256 := fun u hu => by
  rcases List.mem_or_eq_of_mem_set hu with h | h
  · exact hm u h
  · omega
def lit16 : Array Value := #[.int .u8 98, .int .u8 98, .int .u8 98, .int .u8 98, .int .u8 98, .int .u8 98, .int .u8 98, .int .u8 98, .int .u8 98, .int .u8 98, .int .u8 98, .int .u8 98, .int .u8 98, .int .u8 98, .int .u8 98, .int .u8 98]
theorem lit16_eq : lit16.toList = cellsOf (List.replicate 16 98) := rfl
set_option maxRecDepth 100000 in
set_option maxHeartbeats 1000000 in
theorem sums_any (i : Int) (x : Value) (m : List Nat) (w : World) (hg : GS w) (hr : GR w) (hx : Src w x m) (hb : ∀ v ∈ m, v < 256) (hm : m.length ≤ 15000000) :
    Calls Tryd.prog 5 #[.int .i64 i, x] w fun e w' => e = .returned (.bool true) ∧ Fr (fun _ => False) w w' := by
  obtain ⟨xo, xc, rfl⟩ := hx.form
  have HG := hide (And.intro hg (And.intro hr (And.intro hx (And.intro hb hm))))
  clear hg hr hx hb hm
  generalize hN : m.length = N at *
  have hm16 : m.length ≤ 16000000 := by rw [hN]; have := (unhide HG).2.2.2.2; omega
  have hm63 : m.length < 9223372036854775808 := by omega
  have HM := hide (And.intro hm16 hm63)
  clear hm16 hm63
  generalize hS : sm i m = Sm at *
  have h32 : Sm.length ≤ 32 := by
    rw [← hS, sm]
    split
    · rw [List.length_take, sby_len]; omega
    · exact Nat.zero_le _
  have hSle : Sm.length ≤ 140737488355328 := by omega
  have HS := hide (And.intro hS hSle)
  have H32 := hide h32
  clear hS hSle h32
  go_enter Tryd.func5, Tryd.ntmps5
  go_wp2_with fail
  refine (guarded_any _ m w (unhide HG).2.2.1 (unhide HM).1).mono ?_
  rintro e w1 ⟨g, cp, rfl, hO⟩
  rw [hN]
  have H1 := hide (And.intro hO.fr hO.ow)
  clear hO
  go_wp2_with fail
  refine (gsum_T i _ m w1 ((unhide HG).2.1.fr0 (unhide H1).1) ((unhide HG).2.2.1.fr0 (unhide H1).1) (unhide HG).2.2.2.1 (unhide HM).1).mono ?_
  rintro e w2 ⟨yo, yc, rfl, hO⟩
  rw [(unhide HS).1] at hO ⊢
  have H2 := hide (And.intro ((unhide H1).1.trans hO.fr (fun _ _ h => h)) (And.intro ((unhide H1).2.fr0 hO.fr) (And.intro hO.ow hO.fr)))
  clear hO
  have sumOf : ∀ wr : World, Fr (fun _ => False) w wr → Ow wr w.heap.size (some ⟨g, 0, none⟩) cp (gd m 40) → Calls Tryd.prog 10 #[.int .i64 i, .slice (some ⟨g, 0, none⟩) N cp] wr fun e w' => ∃ po, e = .returned (.slice po Sm.length Sm.length) ∧ OB wr w' po Sm.length Sm := fun wr hf ho => by
    have h := sum_O i m (.slice (some ⟨g, 0, none⟩) N cp) wr ((unhide HG).1.fr0 hf) (hN ▸ gd_src ho) (unhide HG).2.2.2.1 (unhide HM).2 (fun _ _ _ e => by cases e; have := ho.cap; rw [gd_len] at this; omega) (fun _ _ _ _ e => by cases e; exact ho.lt.2)
    rw [(unhide HS).1] at h
    exact h
  have HF := hide sumOf
  clear sumOf
  go_wp2_with fail
  refine ((unhide HF) w2 (unhide H2).1 (unhide H2).2.1).mono ?_
  rintro e w3 ⟨po, rfl, hO⟩
  have H3 := hide (And.intro ((unhide H2).1.trans hO.fr (fun _ _ h => h)) (And.intro ((unhide H2).2.1.fr0 hO.fr) (And.intro ((unhide H2).2.2.1.fr0 hO.fr) (And.intro hO.ow ((unhide H2).2.2.2.trans hO.fr (fun _ _ h => h))))))
  clear hO
  go_wp2_with fail
  refine ((unhide HF) w3 (unhide H3).1 (unhide H3).2.1).mono ?_
  rintro e w4 ⟨qo, rfl, hO⟩
  have H4 := hide (And.intro ((unhide H3).1.trans hO.fr (fun _ _ h => h)) (And.intro ((unhide H3).2.1.fr0 hO.fr) (And.intro ((unhide H3).2.2.1.fr0 hO.fr) (And.intro ((unhide H3).2.2.2.1.fr0 hO.fr) (And.intro hO.ow ((unhide H3).2.2.2.2.trans hO.fr (fun _ _ h => h)))))))
  clear hO
  go_wp2_with fail
  refine (same_T (unhide H4).2.2.2.1.src (unhide H4).2.2.1.src (unhide HS).2 (sameB_refl _)).mono ?_
  rintro e w5 ⟨rfl, hF⟩
  have H5 := hide (And.intro ((unhide H4).1.trans hF (fun _ _ h => h)) (And.intro ((unhide H4).2.1.fr0 hF) (And.intro ((unhide H4).2.2.1.fr0 hF) (And.intro ((unhide H4).2.2.2.1.fr0 hF) (And.intro ((unhide H4).2.2.2.2.1.fr0 hF) ((unhide H4).2.2.2.2.2.trans hF (fun _ _ h => h)))))))
  clear hF
  go_wp2_with fail
  refine (same_T (unhide H5).2.2.2.2.1.src (unhide H5).2.2.1.src (unhide HS).2 (sameB_refl _)).mono ?_
  rintro e w6 ⟨rfl, hF⟩
  have H6 := hide (And.intro ((unhide H5).1.trans hF (fun _ _ h => h)) (And.intro ((unhide H5).2.1.fr0 hF) (And.intro ((unhide H5).2.2.1.fr0 hF) (And.intro ((unhide H5).2.2.2.1.fr0 hF) (And.intro ((unhide H5).2.2.2.2.1.fr0 hF) ((unhide H5).2.2.2.2.2.trans hF (fun _ _ h => h)))))))
  clear hF
  have leftOf : ∀ wr : World, Fr (fun _ => False) w wr → Ow wr w.heap.size (some ⟨g, 0, none⟩) cp (gd m 40) → Calls Tryd.prog 21 #[.slice xo N xc, .slice (some ⟨g, 0, none⟩) (N + 40) cp] wr fun e w' => e = .returned (.bool true) ∧ Fr (fun _ => False) wr w' := fun wr hf ho => by
    have h := ho.src
    rw [gd_len, hN] at h
    exact left_T _ _ m wr ((unhide HG).2.2.1.fr0 hf) h (unhide HG).2.2.2.1 (unhide HM).1
  have HLf := hide leftOf
  clear leftOf
  go_wp2_with fail
  refine ((unhide HLf) w6 (unhide H6).1 (unhide H6).2.1).mono ?_
  rintro e w7 ⟨rfl, hF⟩
  have H7 := hide (And.intro ((unhide H6).1.trans hF (fun _ _ h => h)) (And.intro ((unhide H6).2.1.fr0 hF) (And.intro ((unhide H6).2.2.1.fr0 hF) (And.intro ((unhide H6).2.2.2.1.fr0 hF) (And.intro ((unhide H6).2.2.2.2.1.fr0 hF) ((unhide H6).2.2.2.2.2.trans hF (fun _ _ h => h)))))))
  clear hF
  by_cases h0 : 0 < N
  · have h0' : (0 : Int) < (N : Int) := by omega
    have hkN : N / 2 < N := by omega
    have hv : m.getD (N / 2) 0 < 256 := by
      rw [List.getD, List.getElem?_eq_getElem (by omega), Option.getD_some]
      exact (unhide HG).2.2.2.1 _ (List.getElem_mem _)
    have c7 : w7.cell? ⟨g, N / 2, none⟩ = some (.int .u8 ((m.getD (N / 2) 0 : Nat) : Int)) := by
      have := (unhide H7).2.1.cell (N / 2) (by rw [gd_len]; omega) (gd_lt m 40 (unhide HG).2.2.2.1)
      rw [gd_at m 40 _ (by omega), if_pos (by omega)] at this
      exact this
    have z7 := (unhide H7).2.1.fz (N / 2)
    have hset : (m.set (N / 2) (m.getD (N / 2) 0 ^^^ 1)).set (N / 2) (m.getD (N / 2) 0) = m := by
      rw [List.set_set]
      apply List.ext_getElem?
      intro j
      rw [List.getElem?_set]
      by_cases hj : N / 2 = j
      · subst hj
        rw [if_pos rfl, if_pos (by omega), List.getD, List.getElem?_eq_getElem (by omega), Option.getD_some]
      · rw [if_neg hj]
    have hgetn : (m.set (N / 2) (m.getD (N / 2) 0 ^^^ 1)).getD (N / 2) 0 = m.getD (N / 2) 0 ^^^ 1 := by
      rw [List.getD, List.getElem?_set, if_pos rfl, if_pos (by omega), Option.getD_some]
    generalize m.getD (N / 2) 0 = v at *
    have hv' : v ^^^ 1 < 256 := Nat.xor_lt_two_pow (n := 8) hv (by decide)
    have x1 : bits .xor .u8 (v : Int) 1 = ((v ^^^ 1 : Nat) : Int) := u8_xor_nat v 1 hv (by decide)
    have x2 : bits .xor .u8 ((v ^^^ 1 : Nat) : Int) 1 = (v : Int) := by
      have := u8_xor_nat (v ^^^ 1) 1 hv' (by decide)
      rw [Nat.xor_assoc, Nat.xor_self, Nat.xor_zero] at this
      exact this
    have hO8 := (unhide H7).2.1.set (N / 2) (v ^^^ 1) hv'
    rw [gd_set m 40 _ _ (by omega)] at hO8
    have hb' := set_lt m (N / 2) (v ^^^ 1) hv' (unhide HG).2.2.2.1
    have hl' : (m.set (N / 2) (v ^^^ 1)).length = N := by rw [List.length_set, hN]
    generalize m.set (N / 2) (v ^^^ 1) = m' at *
    generalize v ^^^ 1 = v' at *
    obtain ⟨W8, hW8⟩ : ∃ W8, w7.setCell ⟨g, N / 2, none⟩ (.int .u8 (v' : Int)) = W8 := ⟨_, rfl⟩
    rw [hW8] at hO8
    have hF8 : Fr (fun k => k = g) w7 W8 := by rw [← hW8]; exact Fr.setCell (S := fun k => k = g) (Fr.refl _ _) (p := ⟨g, N / 2, none⟩) (.inl rfl) _
    have hgl := (unhide H1).2.lt
    have hgb : ∀ B k, w1.heap.size ≤ B → B ≤ k → ¬ k = g := fun B k h1 h2 => by omega
    have hFw8 : Fr (fun _ => False) w W8 := fr_new hF8 (unhide H7).1 hgl.1
    have hwl2 : w1.heap.size ≤ w2.heap.size := (unhide H2).2.2.2.size
    have hwl3 : w1.heap.size ≤ w3.heap.size := (unhide H3).2.2.2.2.size
    have H8 := hide (And.intro hFw8 (And.intro hO8 (And.intro ((unhide H7).2.2.1.fr hF8 (fun k h => hgb _ k (Nat.le_refl _) h)) (And.intro ((unhide H7).2.2.2.1.fr hF8 (fun k h => hgb _ k hwl2 h)) ((unhide H7).2.2.2.2.1.fr hF8 (fun k h => hgb _ k hwl3 h))))))
    have HV := hide (And.intro hb' (And.intro hl' (And.intro hset (And.intro hgetn (And.intro hv (And.intro hv' (And.intro hgl (And.intro hgb (And.intro hwl2 hwl3)))))))))
    clear hFw8 hO8 hF8 hb' hl' hset hgetn hv hv' hgl hgb hwl2 hwl3
    have d1 : (0 : Int) ≤ (N : Int) / 2 := by omega
    have d2 : (N : Int) / 2 < (N : Int) := by omega
    have d3 : ((N : Int) / 2).toNat = N / 2 := by omega
    have d4 : IntKind.i64.wrap ((N : Int) / 2) = (N : Int) / 2 := by rw [IntKind.wrap_i64]; have := (unhide HG).2.2.2.2; omega
    go_wp2_with fail
    refine (guarded_any _ m' W8 (by have := gd_src (unhide H8).2.1; rw [(unhide HV).2.1] at this; exact this) (by rw [(unhide HV).2.1]; have := (unhide HG).2.2.2.2; omega)).mono ?_
    rintro e wa ⟨tg, tcp, rfl, hO⟩
    rw [(unhide HV).2.1]
    have Ha := hide (And.intro ((unhide H8).1.trans hO.fr (fun _ _ h => h)) (And.intro ((unhide H8).2.1.fr0 hO.fr) (And.intro ((unhide H8).2.2.1.fr0 hO.fr) (And.intro ((unhide H8).2.2.2.1.fr0 hO.fr) (And.intro ((unhide H8).2.2.2.2.fr0 hO.fr) hO.ow)))))
    clear hO
    have hS2 : ∃ S2, sm i m' = S2 ∧ S2.length ≤ 140737488355328 := ⟨_, rfl, sm_le i m'⟩
    obtain ⟨S2, HS2⟩ := hS2
    have HS2 := hide HS2
    go_wp2_with fail
    have hsum := sum_O i m' (.slice (some ⟨g, 0, none⟩) N cp) wa ((unhide HG).1.fr0 (unhide Ha).1) (by have := gd_src (unhide Ha).2.1; rw [(unhide HV).2.1] at this; exact this) (unhide HV).1 (by rw [(unhide HV).2.1]; have := (unhide HG).2.2.2.2; omega) (fun _ _ _ e => by cases e; have := (unhide Ha).2.1.cap; rw [gd_len, (unhide HV).2.1] at this; omega) (fun _ _ _ _ e => by cases e; exact (unhide Ha).2.1.lt.2)
    rw [(unhide HS2).1] at hsum
    refine hsum.mono ?_
    clear hsum
    rintro e wb ⟨ro, rfl, hO⟩
    have Hb := hide (And.intro ((unhide Ha).1.trans hO.fr (fun _ _ h => h)) (And.intro ((unhide Ha).2.1.fr0 hO.fr) (And.intro ((unhide Ha).2.2.1.fr0 hO.fr) (And.intro ((unhide Ha).2.2.2.1.fr0 hO.fr) (And.intro ((unhide Ha).2.2.2.2.1.fr0 hO.fr) (And.intro ((unhide Ha).2.2.2.2.2.fr0 hO.fr) hO.ow))))))
    clear hO
    go_wp2_with fail
    have hgs := gsum_T i (.slice (some ⟨tg, 0, none⟩) N tcp) m' wb ((unhide HG).2.1.fr0 (unhide Hb).1) (by have := gd_src (unhide Hb).2.2.2.2.2.1; rw [(unhide HV).2.1] at this; exact this) (unhide HV).1 (by rw [(unhide HV).2.1]; have := (unhide HG).2.2.2.2; omega)
    rw [(unhide HS2).1] at hgs
    refine hgs.mono ?_
    clear hgs
    rintro e wc ⟨zo, zc, rfl, hO⟩
    have Hc := hide (And.intro ((unhide Hb).1.trans hO.fr (fun _ _ h => h)) (And.intro ((unhide Hb).2.1.fr0 hO.fr) (And.intro ((unhide Hb).2.2.1.fr0 hO.fr) (And.intro ((unhide Hb).2.2.2.1.fr0 hO.fr) (And.intro ((unhide Hb).2.2.2.2.1.fr0 hO.fr) (And.intro ((unhide Hb).2.2.2.2.2.2.fr0 hO.fr) hO.ow))))))
    clear hO
    go_wp2_with fail
    refine (same_T (unhide Hc).2.2.2.2.2.1.src (unhide Hc).2.2.2.2.2.2.src (unhide HS2).2 (sameB_refl _)).mono ?_
    rintro e wd ⟨rfl, hF⟩
    have Hd := hide (And.intro ((unhide Hc).1.trans hF (fun _ _ h => h)) (And.intro ((unhide Hc).2.1.fr0 hF) (And.intro ((unhide Hc).2.2.1.fr0 hF) (And.intro ((unhide Hc).2.2.2.1.fr0 hF) ((unhide Hc).2.2.2.2.1.fr0 hF)))))
    clear hF
    have cd : wd.cell? ⟨g, N / 2, none⟩ = some (.int .u8 (v' : Int)) := by
      have := (unhide Hd).2.1.cell (N / 2) (by rw [gd_len, (unhide HV).2.1]; omega) (gd_lt m' 40 (unhide HV).1)
      rw [gd_at m' 40 _ (by rw [(unhide HV).2.1]; omega), if_pos (by rw [(unhide HV).2.1]; omega), (unhide HV).2.2.2.1] at this
      exact this
    have zd := (unhide Hd).2.1.fz (N / 2)
    obtain ⟨wA, hwA⟩ : ∃ wA, wd.setCell ⟨g, N / 2, none⟩ (.int .u8 (v : Int)) = wA := ⟨_, rfl⟩
    have hOA := (unhide Hd).2.1.set (N / 2) v (unhide HV).2.2.2.2.1
    rw [gd_set m' 40 _ _ (by rw [(unhide HV).2.1]; omega), (unhide HV).2.2.1, hwA] at hOA
    have hFA : Fr (fun k => k = g) wd wA := by rw [← hwA]; exact Fr.setCell (S := fun k => k = g) (Fr.refl _ _) (p := ⟨g, N / 2, none⟩) (.inl rfl) _
    have hgb := (unhide HV).2.2.2.2.2.2.2.1
    have HA := hide (And.intro (fr_new hFA (unhide Hd).1 (unhide HV).2.2.2.2.2.2.1.1) (And.intro hOA (And.intro ((unhide Hd).2.2.1.fr hFA (fun k h => hgb _ k (Nat.le_refl _) h)) (And.intro ((unhide Hd).2.2.2.1.fr hFA (fun k h => hgb _ k (unhide HV).2.2.2.2.2.2.2.2.1 h)) ((unhide Hd).2.2.2.2.fr hFA (fun k h => hgb _ k (unhide HV).2.2.2.2.2.2.2.2.2 h))))))
    clear hOA hFA hgb c7 z7 x1 hW8
    go_wp2_with fail
    refine ((unhide HF) wA (unhide HA).1 (unhide HA).2.1).mono ?_
    rintro e wB ⟨ro, rfl, hO⟩
    have HB := hide (And.intro ((unhide HA).1.trans hO.fr (fun _ _ h => h)) (And.intro ((unhide HA).2.1.fr0 hO.fr) (And.intro ((unhide HA).2.2.1.fr0 hO.fr) (And.intro ((unhide HA).2.2.2.1.fr0 hO.fr) (And.intro ((unhide HA).2.2.2.2.fr0 hO.fr) hO.ow)))))
    clear hO
    go_wp2_with fail
    refine (same_T (unhide HB).2.2.2.2.2.src (unhide HB).2.2.1.src (unhide HS).2 (sameB_refl _)).mono ?_
    rintro e wC ⟨rfl, hF⟩
    have HC := hide (And.intro ((unhide HB).1.trans hF (fun _ _ h => h)) (And.intro ((unhide HB).2.1.fr0 hF) (And.intro ((unhide HB).2.2.1.fr0 hF) (And.intro ((unhide HB).2.2.2.1.fr0 hF) ((unhide HB).2.2.2.2.1.fr0 hF)))))
    clear hF
    go_wp2_with fail
    refine ((unhide HLf) wC (unhide HC).1 (unhide HC).2.1).mono ?_
    rintro e wD ⟨rfl, hF⟩
    have HD := hide (And.intro ((unhide HC).1.trans hF (fun _ _ h => h)) (And.intro ((unhide HC).2.1.fr0 hF) (And.intro ((unhide HC).2.2.1.fr0 hF) (And.intro ((unhide HC).2.2.2.1.fr0 hF) ((unhide HC).2.2.2.2.fr0 hF)))))
    clear hF
    go_wp2_with fail
    go_loopw [13] (fun iv wr => ∃ (k : Nat) (L : List Nat), k ≤ Sm.length ∧ iv = .int .i64 (k : Nat) ∧ L.length = Sm.length ∧ Ow wr w2.heap.size po Sm.length L ∧ Fr (fun j => ∃ o, po = some ⟨j, o, none⟩) wD wr) (fun iv _ => Sm.length - (intOf iv).toNat)
    case atStart => exact ⟨0, Sm, Nat.zero_le _, rfl, rfl, (unhide HD).2.2.2.1, Fr.refl _ _⟩
    case round =>
      obtain ⟨k, L, hk, rfl, hL, hI, hFL⟩ := hrel
      rename World => wr
      have h32 := unhide H32
      by_cases hlt : k < Sm.length
      · have hlt' : (k : Int) < (Sm.length : Int) := by omega
        obtain ⟨pg, rfl⟩ : ∃ pg, po = some ⟨pg, 0, none⟩ := by
          rcases hI.2 with ⟨_, e⟩ | ⟨pg, cap, cur, e, _⟩
          · omega
          · simp only [Value.slice.injEq] at e
            exact ⟨pg, e.1⟩
        have hc : ∃ u, wr.cell? ⟨pg, k, none⟩ = some u := by
          rw [World.ownsRow.cellAt hI k (by omega), List.getElem?_eq_getElem (by rw [cellsOf_length]; omega)]
          exact ⟨_, rfl⟩
        obtain ⟨u, hu⟩ := hc
        have hz := hI.fz k
        have hP := hI.set k 99 (by decide)
        have hF2 : Fr (fun j => ∃ o, some (⟨pg, 0, none⟩ : Addr) = some ⟨j, o, none⟩) wD (wr.setCell ⟨pg, k, none⟩ (.int .u8 99)) := Fr.setCell hFL (p := ⟨pg, k, none⟩) (.inl ⟨0, rfl⟩) _
        have HP := hide (And.intro hP (And.intro hF2 hL))
        clear hP hF2 hL hI hFL
        go_wp2_with fail
        exact ⟨⟨k + 1, _, by omega, by go_num, by rw [List.length_set]; exact (unhide HP).2.2, (unhide HP).1, (unhide HP).2.1⟩, by simp [intOf]; omega⟩
      · have hlt' : ¬ (k : Int) < (Sm.length : Int) := by omega
        have hFl : Fr (fun _ => False) w wr := (unhide HD).1.trans (hFL.mono (T := fun j => w.heap.size ≤ j) (fun j _ h => by
          obtain ⟨o, rfl⟩ := h
          have h1 := (World.ownsRow.lt (unhide HD).2.2.2.1 j rfl).1
          have h2 := (unhide H2).1.size
          omega)) (fun _ h1 h2 => by omega)
        have hI2 := (hI.base (base' := w.heap.size) (unhide H2).1.size).fr (S := fun _ => False) ((Fr.refl _ wr).alloc (.cells lit16 5)) (fun _ _ h => h)
        obtain ⟨ao, c', w9, hr9, hown, hgrow, _⟩ := run_app_sl _ 24 w.heap.size L.length _ (.slice (some ⟨wr.heap.size, 0, none⟩) 16 16) (cellsOf L) (List.replicate 16 98) hI2 (lit_src wr (List.replicate 16 98) lit16 16 16 (by decide) lit16_eq) (by rw [List.length_replicate]; omega) (by have := hFl.size; simp; omega)
        rw [hL, List.length_replicate] at hr9
        have hF9 : Fr (fun j => ∃ o, po = some ⟨j, o, none⟩) wD w9 := (hFL.alloc _).grown hgrow (fun j hj => .inl (by
          rcases po with _ | ⟨pg, o, sp⟩
          · cases hj
          · rcases hI.2 with ⟨e, _⟩ | ⟨pg', cap, cur, e, _⟩
            · simp at e
            · simp only [Value.slice.injEq, Option.some.injEq, Addr.mk.injEq] at e
              obtain ⟨⟨_, _, rfl⟩, _⟩ := e
              simp only [Value.ownBlock, Option.some.injEq] at hj
              subst hj
              exact ⟨o, rfl⟩))
        have hpl : ∀ j, (∃ o, po = some ⟨j, o, none⟩) → w2.heap.size ≤ j ∧ j < w3.heap.size := fun j h => by
          obtain ⟨o, rfl⟩ := h
          exact World.ownsRow.lt (unhide H3).2.2.2.1 j rfl
        have hyl : ∀ j o, yo = some ⟨j, o, none⟩ → j < w2.heap.size := fun j o h => by
          subst h
          exact (World.ownsRow.lt (unhide H2).2.2.1 j rfl).2
        have hql : ∀ j o, qo = some ⟨j, o, none⟩ → w3.heap.size ≤ j := fun j o h => by
          subst h
          exact (World.ownsRow.lt (unhide H4).2.2.2.2.1 j rfl).1
        have hA9 : Ow w9 w.heap.size (some ⟨g, 0, none⟩) cp (gd m 40) := (unhide HD).2.1.frB hF9 (fun j o e h => by
          cases e
          have h1 := (hpl _ h).1
          have h2 := (unhide H1).2.lt.2
          have h3 := (unhide H2).2.2.2.size
          omega)
        have hY9 : Ow w9 w1.heap.size yo yc Sm := (unhide HD).2.2.1.frB hF9 (fun j o e h => by
          have h1 := (hpl _ h).1
          have h2 := hyl j o e
          omega)
        have hQ9 : Ow w9 w3.heap.size qo Sm.length Sm := (unhide HD).2.2.2.2.frB hF9 (fun j o e h => by
          have h1 := (hpl _ h).2
          have h2 := hql j o e
          omega)
        have hFw9 : Fr (fun _ => False) w w9 := (unhide HD).1.trans (hF9.mono (T := fun j => w.heap.size ≤ j) (fun j _ h => by
          have h1 := (hpl _ h).1
          have h2 := (unhide H2).1.size
          omega)) (fun _ h1 h2 => by omega)
        have HE := hide (And.intro hFw9 (And.intro hA9 (And.intro hY9 hQ9)))
        have HR9 := hide hr9
        clear hpl hyl hql hA9 hY9 hQ9 hFw9 hr9 hF9 hFl hI2 hI hFL hown hgrow hL
        have wS : IntKind.i64.wrap ((Sm.length : Int) + 16) = (Sm.length : Int) + 16 := by rw [IntKind.wrap_i64]; omega
        go_wp2_with (at_builtin; refine wpList_app rfl _ _ 24 24 rfl _ _ _ rfl rfl (unhide HR9) ?_)
        refine (same_T (unhide HE).2.2.2.src (unhide HE).2.2.1.src (unhide HS).2 (sameB_refl _)).mono ?_
        rintro e wF ⟨rfl, hF⟩
        have HZ := hide (And.intro ((unhide HE).1.trans hF (fun _ _ h => h)) ((unhide HE).2.1.fr0 hF))
        clear hF
        go_wp2_with fail
        refine ((unhide HLf) wF (unhide HZ).1 (unhide HZ).2).mono ?_
        rintro e wG ⟨rfl, hF⟩
        have HY := hide ((unhide HZ).1.trans hF (fun _ _ h => h))
        clear hF
        go_wp2_with fail
        refine (lives_any wG ((unhide HG).1.fr0 (unhide HY))).mono ?_
        rintro e wH ⟨rfl, hF⟩
        have HX := hide ((unhide HY).trans hF (fun _ _ h => h))
        clear hF
        go_wp2_with fail
        go_ret
        exact ⟨rfl, unhide HX⟩
  · have h0' : ¬ (0 : Int) < (N : Int) := by omega
    obtain ⟨wA, HA⟩ : ∃ wA, w7 = wA ∧ Hid (Fr (fun _ => False) w wA ∧ Ow wA w.heap.size (some ⟨g, 0, none⟩) cp (gd m 40) ∧ Ow wA w1.heap.size yo yc Sm ∧ Ow wA w2.heap.size po Sm.length Sm ∧ Ow wA w3.heap.size qo Sm.length Sm) :=
      ⟨w7, rfl, hide (And.intro (unhide H7).1 (And.intro (unhide H7).2.1 (And.intro (unhide H7).2.2.1 (And.intro (unhide H7).2.2.2.1 (unhide H7).2.2.2.2.1))))⟩
    obtain ⟨rfl, HA⟩ := HA
    go_wp2_with fail
    refine ((unhide HF) w7 (unhide HA).1 (unhide HA).2.1).mono ?_
    rintro e wB ⟨ro, rfl, hO⟩
    have HB := hide (And.intro ((unhide HA).1.trans hO.fr (fun _ _ h => h)) (And.intro ((unhide HA).2.1.fr0 hO.fr) (And.intro ((unhide HA).2.2.1.fr0 hO.fr) (And.intro ((unhide HA).2.2.2.1.fr0 hO.fr) (And.intro ((unhide HA).2.2.2.2.fr0 hO.fr) hO.ow)))))
    clear hO
    go_wp2_with fail
    refine (same_T (unhide HB).2.2.2.2.2.src (unhide HB).2.2.1.src (unhide HS).2 (sameB_refl _)).mono ?_
    rintro e wC ⟨rfl, hF⟩
    have HC := hide (And.intro ((unhide HB).1.trans hF (fun _ _ h => h)) (And.intro ((unhide HB).2.1.fr0 hF) (And.intro ((unhide HB).2.2.1.fr0 hF) (And.intro ((unhide HB).2.2.2.1.fr0 hF) ((unhide HB).2.2.2.2.1.fr0 hF)))))
    clear hF
    go_wp2_with fail
    refine ((unhide HLf) wC (unhide HC).1 (unhide HC).2.1).mono ?_
    rintro e wD ⟨rfl, hF⟩
    have HD := hide (And.intro ((unhide HC).1.trans hF (fun _ _ h => h)) (And.intro ((unhide HC).2.1.fr0 hF) (And.intro ((unhide HC).2.2.1.fr0 hF) (And.intro ((unhide HC).2.2.2.1.fr0 hF) ((unhide HC).2.2.2.2.fr0 hF)))))
    clear hF
    go_wp2_with fail
    go_loopw [13] (fun iv wr => ∃ (k : Nat) (L : List Nat), k ≤ Sm.length ∧ iv = .int .i64 (k : Nat) ∧ L.length = Sm.length ∧ Ow wr w2.heap.size po Sm.length L ∧ Fr (fun j => ∃ o, po = some ⟨j, o, none⟩) wD wr) (fun iv _ => Sm.length - (intOf iv).toNat)
    case atStart => exact ⟨0, Sm, Nat.zero_le _, rfl, rfl, (unhide HD).2.2.2.1, Fr.refl _ _⟩
    case round =>
      obtain ⟨k, L, hk, rfl, hL, hI, hFL⟩ := hrel
      rename World => wr
      have h32 := unhide H32
      by_cases hlt : k < Sm.length
      · have hlt' : (k : Int) < (Sm.length : Int) := by omega
        obtain ⟨pg, rfl⟩ : ∃ pg, po = some ⟨pg, 0, none⟩ := by
          rcases hI.2 with ⟨_, e⟩ | ⟨pg, cap, cur, e, _⟩
          · omega
          · simp only [Value.slice.injEq] at e
            exact ⟨pg, e.1⟩
        have hc : ∃ u, wr.cell? ⟨pg, k, none⟩ = some u := by
          rw [World.ownsRow.cellAt hI k (by omega), List.getElem?_eq_getElem (by rw [cellsOf_length]; omega)]
          exact ⟨_, rfl⟩
        obtain ⟨u, hu⟩ := hc
        have hz := hI.fz k
        have hP := hI.set k 99 (by decide)
        have hF2 : Fr (fun j => ∃ o, some (⟨pg, 0, none⟩ : Addr) = some ⟨j, o, none⟩) wD (wr.setCell ⟨pg, k, none⟩ (.int .u8 99)) := Fr.setCell hFL (p := ⟨pg, k, none⟩) (.inl ⟨0, rfl⟩) _
        have HP := hide (And.intro hP (And.intro hF2 hL))
        clear hP hF2 hL hI hFL
        go_wp2_with fail
        exact ⟨⟨k + 1, _, by omega, by go_num, by rw [List.length_set]; exact (unhide HP).2.2, (unhide HP).1, (unhide HP).2.1⟩, by simp [intOf]; omega⟩
      · have hlt' : ¬ (k : Int) < (Sm.length : Int) := by omega
        have hFl : Fr (fun _ => False) w wr := (unhide HD).1.trans (hFL.mono (T := fun j => w.heap.size ≤ j) (fun j _ h => by
          obtain ⟨o, rfl⟩ := h
          have h1 := (World.ownsRow.lt (unhide HD).2.2.2.1 j rfl).1
          have h2 := (unhide H2).1.size
          omega)) (fun _ h1 h2 => by omega)
        have hI2 := (hI.base (base' := w.heap.size) (unhide H2).1.size).fr (S := fun _ => False) ((Fr.refl _ wr).alloc (.cells lit16 5)) (fun _ _ h => h)
        obtain ⟨ao, c', w9, hr9, hown, hgrow, _⟩ := run_app_sl _ 24 w.heap.size L.length _ (.slice (some ⟨wr.heap.size, 0, none⟩) 16 16) (cellsOf L) (List.replicate 16 98) hI2 (lit_src wr (List.replicate 16 98) lit16 16 16 (by decide) lit16_eq) (by rw [List.length_replicate]; omega) (by have := hFl.size; simp; omega)
        rw [hL, List.length_replicate] at hr9
        have hF9 : Fr (fun j => ∃ o, po = some ⟨j, o, none⟩) wD w9 := (hFL.alloc _).grown hgrow (fun j hj => .inl (by
          rcases po with _ | ⟨pg, o, sp⟩
          · cases hj
          · rcases hI.2 with ⟨e, _⟩ | ⟨pg', cap, cur, e, _⟩
            · simp at e
            · simp only [Value.slice.injEq, Option.some.injEq, Addr.mk.injEq] at e
              obtain ⟨⟨_, _, rfl⟩, _⟩ := e
              simp only [Value.ownBlock, Option.some.injEq] at hj
              subst hj
              exact ⟨o, rfl⟩))
        have hpl : ∀ j, (∃ o, po = some ⟨j, o, none⟩) → w2.heap.size ≤ j ∧ j < w3.heap.size := fun j h => by
          obtain ⟨o, rfl⟩ := h
          exact World.ownsRow.lt (unhide H3).2.2.2.1 j rfl
        have hyl : ∀ j o, yo = some ⟨j, o, none⟩ → j < w2.heap.size := fun j o h => by
          subst h
          exact (World.ownsRow.lt (unhide H2).2.2.1 j rfl).2
        have hql : ∀ j o, qo = some ⟨j, o, none⟩ → w3.heap.size ≤ j := fun j o h => by
          subst h
          exact (World.ownsRow.lt (unhide H4).2.2.2.2.1 j rfl).1
        have hA9 : Ow w9 w.heap.size (some ⟨g, 0, none⟩) cp (gd m 40) := (unhide HD).2.1.frB hF9 (fun j o e h => by
          cases e
          have h1 := (hpl _ h).1
          have h2 := (unhide H1).2.lt.2
          have h3 := (unhide H2).2.2.2.size
          omega)
        have hY9 : Ow w9 w1.heap.size yo yc Sm := (unhide HD).2.2.1.frB hF9 (fun j o e h => by
          have h1 := (hpl _ h).1
          have h2 := hyl j o e
          omega)
        have hQ9 : Ow w9 w3.heap.size qo Sm.length Sm := (unhide HD).2.2.2.2.frB hF9 (fun j o e h => by
          have h1 := (hpl _ h).2
          have h2 := hql j o e
          omega)
        have hFw9 : Fr (fun _ => False) w w9 := (unhide HD).1.trans (hF9.mono (T := fun j => w.heap.size ≤ j) (fun j _ h => by
          have h1 := (hpl _ h).1
          have h2 := (unhide H2).1.size
          omega)) (fun _ h1 h2 => by omega)
        have HE := hide (And.intro hFw9 (And.intro hA9 (And.intro hY9 hQ9)))
        have HR9 := hide hr9
        clear hpl hyl hql hA9 hY9 hQ9 hFw9 hr9 hF9 hFl hI2 hI hFL hown hgrow hL
        have wS : IntKind.i64.wrap ((Sm.length : Int) + 16) = (Sm.length : Int) + 16 := by rw [IntKind.wrap_i64]; omega
        go_wp2_with (at_builtin; refine wpList_app rfl _ _ 24 24 rfl _ _ _ rfl rfl (unhide HR9) ?_)
        refine (same_T (unhide HE).2.2.2.src (unhide HE).2.2.1.src (unhide HS).2 (sameB_refl _)).mono ?_
        rintro e wF ⟨rfl, hF⟩
        have HZ := hide (And.intro ((unhide HE).1.trans hF (fun _ _ h => h)) ((unhide HE).2.1.fr0 hF))
        clear hF
        go_wp2_with fail
        refine ((unhide HLf) wF (unhide HZ).1 (unhide HZ).2).mono ?_
        rintro e wG ⟨rfl, hF⟩
        have HY := hide ((unhide HZ).1.trans hF (fun _ _ h => h))
        clear hF
        go_wp2_with fail
        refine (lives_any wG ((unhide HG).1.fr0 (unhide HY))).mono ?_
        rintro e wH ⟨rfl, hF⟩
        have HX := hide ((unhide HY).trans hF (fun _ _ h => h))
        clear hF
        go_wp2_with fail
        go_ret
        exact ⟨rfl, unhide HX⟩
end Go.Proofs.YtheehhplopbceaaDoor
