import Derived.Test.YtheehhplopbceaaDoorSfb
import Derived.Test.YtheehhplopbceaaDoorSci
namespace Go.Proofs.YtheehhplopbceaaDoor
open Go.RowKit

theorem i64_and1 (n : Int) : bits .and .i64 n 1 = n % 2 := by
  have h1 : (BitVec.ofInt 64 1).toNat = 2 ^ 1 - 1 := by decide
  have key : (BitVec.ofInt 64 n &&& BitVec.ofInt 64 1).toNat = (n % ((2 ^ 64 : Nat) : Int)).toNat % 2 ^ 1 := by
    rw [BitVec.toNat_and, BitVec.toNat_ofInt, h1, Nat.and_two_pow_sub_one_eq_mod]
  show IntKind.i64.wrap ((BitVec.ofInt 64 n &&& BitVec.ofInt 64 1).toNat : Nat) = n % 2
  rw [key, IntKind.wrap_i64]
  omega
theorem zero_mine (w : World) : (zeroValue 49).run Tryd.prog w = .ok (.agg (hz ++ hz).toArray) w := by kernel_rfl
theorem zero_docs (w : World) : (zeroValue 50).run Tryd.prog w = .ok (.agg #[.slice none 0 0, .slice none 0 0]) w := by kernel_rfl
/-- A Hash beside one whose cells change. -/
theorem HM.out {w w' : World} {b o o' : Nat} {m : List Nat} (h : HM w b o' m) (hf : FrH w w' b o) (ho : o' + 73 ≤ o ∨ o + 73 ≤ o') : HM w' b o' m := by
  refine HsAt.of (fun j v hv => ?_) (fun j hj => ?_)
  · have hj : j < 73 := by
      have := (List.getElem?_eq_some_iff.1 hv).1
      rwa [hv_len] at this
    rw [(hf.out (o' + j) (by omega)).1]
    exact HsAt.all h j v hv
  · rw [(hf.out (o' + j) (by omega)).2]
    exact HsAt.fz h j hj
/-- Two hashes and two texts. -/
structure PLI (w2 wr : World) (gm gd : Nat) (D : Nat → List Nat) (dv : Nat → Value) : Prop where
  H : ∀ k, k < 2 → HM wr gm (k * 73) (D k)
  c : ∀ k, k < 2 → wr.cell? ⟨gd, k, none⟩ = some (dv k)
  fz : ∀ k, k < 2 → wr.frozen? ⟨gd, k, none⟩ = false
  s : ∀ k, k < 2 → Src wr (dv k) (D k)
  nb : ∀ k, k < 2 → ∀ g o n c, dv k = .slice (some ⟨g, o, none⟩) n c → ¬ g = gm ∧ ¬ g = gd
  len : ∀ k, k < 2 → (D k).length ≤ 120000
  byt : ∀ k, k < 2 → ∀ u ∈ D k, u < 256
  fr : Fr (fun j => j = gm ∨ j = gd) w2 wr
theorem PLI.fr0 {w2 wr wq : World} {gm gd : Nat} {D : Nat → List Nat} {dv : Nat → Value} (h : PLI w2 wr gm gd D dv) (hf : Fr (fun _ => False) wr wq) : PLI w2 wq gm gd D dv :=
  ⟨fun k hk => (h.H k hk).fr hf (fun h => h), fun k hk => (hf.cell (p := ⟨gd, k, none⟩) (lt_of_cell (h.c k hk)) (fun h => h)).trans (h.c k hk), fun k hk => (hf.frozen (p := ⟨gd, k, none⟩) (lt_of_cell (h.c k hk)) (fun h => h)).trans (h.fz k hk), fun k hk => (h.s k hk).fr0 hf, h.nb, h.len, h.byt, h.fr.trans (hf.mono (T := fun j => j = gm ∨ j = gd) (fun _ _ h => h.elim)) (fun _ _ h => h)⟩
/-- Of a new block: nothing is known of it. -/
theorem PLI.frN {w2 wr wq : World} {gm gd : Nat} {D : Nat → List Nat} {dv : Nat → Value} {w0 : World} (h : PLI w2 w0 gm gd D dv) (h0 : Fr (fun _ => False) w0 wr) {S : Nat → Prop} (hf : Fr S wr wq) (hS : ∀ j, S j → w0.heap.size ≤ j) : PLI w2 wq gm gd D dv :=
  h.fr0 (h0.trans (hf.mono (T := fun j => w0.heap.size ≤ j) (fun j _ h => hS j h)) (fun _ h1 h2 => by omega))
/-- A step of a play. -/
structure Stp where
  (op wd : Int) (bs : List Nat)
/-- A slice of steps. -/
structure SSrc (w : World) (x : Value) (A : List Stp) : Prop where
  at_ : (∃ xo c, x = .slice xo 0 c ∧ A = []) ∨ ∃ g o c, x = .slice (some ⟨g, o, none⟩) A.length c ∧ ∀ j (hj : j < A.length), ∃ v, w.cell? ⟨g, o + j * 3, none⟩ = some (.int .i64 A[j].op) ∧ w.cell? ⟨g, o + j * 3 + 1, none⟩ = some (.int .i64 A[j].wd) ∧ w.cell? ⟨g, o + j * 3 + 2, none⟩ = some v ∧ Src w v A[j].bs
  byt : ∀ s ∈ A, ∀ u ∈ s.bs, u < 256
theorem SSrc.form {w : World} {x : Value} {A : List Stp} (h : SSrc w x A) : ∃ xo c, x = .slice xo A.length c := by
  rcases h.at_ with ⟨xo, c, rfl, rfl⟩ | ⟨g, o, c, rfl, _⟩
  · exact ⟨xo, c, rfl⟩
  · exact ⟨_, c, rfl⟩
theorem SSrc.step {w w' : World} {xo : Option Addr} {n c : Nat} {A : List Stp} (h : SSrc w (.slice xo n c) A) (hf : Fr (fun _ => False) w w') (j : Nat) (hj : j < A.length) : ∃ g o v, xo = some ⟨g, o, none⟩ ∧ w'.cell? ⟨g, o + j * 3, none⟩ = some (.int .i64 A[j].op) ∧ w'.cell? ⟨g, o + j * 3 + 1, none⟩ = some (.int .i64 A[j].wd) ∧ w'.cell? ⟨g, o + j * 3 + 2, none⟩ = some v ∧ Src w v A[j].bs := by
  rcases h.at_ with ⟨xo', c', _, e⟩ | ⟨g, o, c', hx, hc⟩
  · subst e; simp at hj
  · simp only [Value.slice.injEq] at hx
    obtain ⟨v, h0, h1, h2, h3⟩ := hc j hj
    exact ⟨g, o, v, hx.1, (hf.cell (lt_of_cell h0) (fun h => h)).trans h0, (hf.cell (lt_of_cell h1) (fun h => h)).trans h1, (hf.cell (lt_of_cell h2) (fun h => h)).trans h2, h3⟩
theorem src_lt {w : World} {x : Value} {l : List Nat} (h : Src w x l) : l = [] ∨ ∀ g o n c, x = .slice (some ⟨g, o, none⟩) n c → g < w.heap.size := by
  rcases h with ⟨_, e⟩ | ⟨g, o, c, e, hc⟩ | ⟨_, _, _, e⟩
  · exact .inl e
  · by_cases h0 : l = []
    · exact .inl h0
    · have hl : 0 < l.length := List.length_pos_iff.2 h0
      refine .inr fun g' o' n c' e2 => ?_
      rw [e] at e2
      simp only [Value.slice.injEq, Option.some.injEq, Addr.mk.injEq] at e2
      rw [← e2.1.1]
      exact lt_of_cell (hc 0 _ (List.getElem?_eq_getElem (by rw [cellsOf_length]; exact hl)))
  · exact .inl e
def upd {α : Type} (f : Nat → α) (k : Nat) (v : α) (j : Nat) : α := if j = k then v else f j
/-- One hash has taken another text. -/
theorem PLI.upd {w2 wX wA wC : World} {gm gd kk : Nat} {D : Nat → List Nat} {dv : Nat → Value} (h : PLI w2 wX gm gd D dv) (hk : kk < 2) (hne : ¬ gd = gm) (hA : FrH wX wA gm (kk * 73)) {l : List Nat} (hM : HM wA gm (kk * 73) l) {S : Nat → Prop} (hC : Fr S wA wC) (hS : ∀ j, S j → wX.heap.size ≤ j) (v : Value) (hv : Src wC v l) (hnb : ∀ g o n c, v = .slice (some ⟨g, o, none⟩) n c → ¬ g = gm ∧ ¬ g = gd) (hl : l.length ≤ 120000) (hb : ∀ u ∈ l, u < 256) :
    PLI w2 (wC.setCell ⟨gd, kk, none⟩ v) gm gd (upd D kk l) (upd dv kk v) := by
  have hgm : gm < wX.heap.size := HM.lt (h.H 0 (by decide))
  have hgd : gd < wX.heap.size := lt_of_cell (h.c 0 (by decide))
  have hSm : ¬ S gm := fun hh => by have := hS _ hh; omega
  have hSd : ¬ S gd := fun hh => by have := hS _ hh; omega
  have hszA : wX.heap.size ≤ wA.heap.size := hA.fr.size
  have hD : Fr (fun j => j = gd) wC (wC.setCell ⟨gd, kk, none⟩ v) := Fr.setCell (S := fun j => j = gd) (Fr.refl _ _) (p := ⟨gd, kk, none⟩) (.inl rfl) _
  have hcC : ∀ j, j < 2 → wC.cell? ⟨gd, j, none⟩ = some (dv j) ∧ wC.frozen? ⟨gd, j, none⟩ = false := fun j hj => by
    rw [hC.cell (p := ⟨gd, j, none⟩) (Nat.lt_of_lt_of_le hgd hszA) hSd, hC.frozen (p := ⟨gd, j, none⟩) (Nat.lt_of_lt_of_le hgd hszA) hSd, hA.fr.cell (p := ⟨gd, j, none⟩) hgd hne, hA.fr.frozen (p := ⟨gd, j, none⟩) hgd hne]
    exact ⟨h.c j hj, h.fz j hj⟩
  refine ⟨fun j hj => ?_, fun j hj => ?_, fun j hj => ?_, fun j hj => ?_, fun j hj g o n c e => ?_, fun j hj => ?_, fun j hj => ?_, ?_⟩
  · rw [Proofs.YtheehhplopbceaaDoor.upd]
    by_cases e : j = kk
    · rw [if_pos e, e]
      exact (hM.fr hC hSm).fr hD (fun e => hne e.symm)
    · rw [if_neg e]
      exact (((h.H j hj).out hA (by omega)).fr hC hSm).fr hD (fun e => hne e.symm)
  · rw [Proofs.YtheehhplopbceaaDoor.upd]
    by_cases e : j = kk
    · rw [if_pos e, e, World.cell?_setCell_same _ _ _ (hcC kk hk).1]
    · rw [if_neg e, World.cell?_setCell_other _ _ _ _ (by intro h; injection h with _ h2 _; exact e h2.symm)]
      exact (hcC j hj).1
  · rw [World.frozen?_setCell]; exact (hcC j hj).2
  · rw [Proofs.YtheehhplopbceaaDoor.upd, Proofs.YtheehhplopbceaaDoor.upd]
    by_cases e : j = kk
    · rw [if_pos e, if_pos e]
      exact hv.fr hD (fun g o m c e => (hnb g o m c e).2)
    · rw [if_neg e, if_neg e]
      have h1 := (h.s j hj).fr hA.fr (fun g o m c e => (h.nb j hj g o m c e).1)
      have h2 := h1.frD hC ((src_lt (h.s j hj)).imp id (fun hh g o m c e hs => by have := hh g o m c e; have := hS g hs; omega))
      exact h2.fr hD (fun g o m c e => (h.nb j hj g o m c e).2)
  · rw [Proofs.YtheehhplopbceaaDoor.upd] at e
    by_cases ej : j = kk
    · rw [if_pos ej] at e
      exact hnb g o n c e
    · rw [if_neg ej] at e
      exact h.nb j hj g o n c e
  · rw [Proofs.YtheehhplopbceaaDoor.upd]
    by_cases ej : j = kk
    · rw [if_pos ej]; exact hl
    · rw [if_neg ej]; exact h.len j hj
  · rw [Proofs.YtheehhplopbceaaDoor.upd]
    by_cases ej : j = kk
    · rw [if_pos ej]; exact hb
    · rw [if_neg ej]; exact h.byt j hj
  · have h1 : Fr (fun j => j = gm ∨ j = gd) w2 wA := h.fr.trans (hA.fr.mono (T := fun j => j = gm ∨ j = gd) (fun _ _ h => .inl h)) (fun _ _ h => h)
    have h2 : Fr (fun j => j = gm ∨ j = gd) w2 wC := h1.trans (hC.mono (T := fun j => wX.heap.size ≤ j) (fun j _ hj => hS j hj)) (fun j hj hh => by have := h.fr.size; omega)
    exact h2.trans (hD.mono (T := fun j => j = gm ∨ j = gd) (fun _ _ h => .inr h)) (fun _ _ h => h)
set_option maxRecDepth 100000 in
theorem reset_X (b o t : Nat) (s : S8) (f : Nat → Nat) (w : World) (hg : GS w) (hh : HsAt w b o s f t) : Calls Tryd.prog 16 #[.pointer (some ⟨b, o, none⟩)] w fun e w' => e = .returned (.tuple #[]) ∧ HM w' b o [] ∧ FrH w w' b o := by
  have HG := hide (And.intro hg hh)
  clear hg hh
  go_enter Tryd.func16, Tryd.ntmps16
  go_wp2_with fail
  refine (nothing_any w (unhide HG).1).mono ?_
  rintro e w1 ⟨rfl, hF1⟩
  have hh1 := (unhide HG).2.fr hF1 (fun h => h)
  have hth : w1.there b o h0.toArray.size := by rw [h0_sz]; exact hh1.thereAll
  have hst := HsAt.stored hh1.thereAll st0 (fun _ => 0) 0
  have hi := info_h0
  have ho := one_h0
  obtain ⟨W2, hW2⟩ : ∃ W2, w1.setCells b o h0.toArray.toList = W2 := ⟨_, rfl⟩
  have hst2 : HM W2 b o [] := by rw [← hW2]; exact HM.newo hst
  have hF2 : FrH w W2 b o := by
    rw [← hW2]
    exact (FrH.of0 hF1 (unhide HG).2.lt o).setCells o _ (Nat.le_refl _) (by show o + h0.length ≤ o + 73; rw [h0_len]; omega)
  clear hst
  generalize h0 = H at *
  have HB := hide (And.intro hth (And.intro hW2 (And.intro hst2 (And.intro hF2 (And.intro hi ho)))))
  clear hth hW2 hst2 hF1 hF2 hi ho hh1
  go_wp2_with (refine wpList_store_to rfl 48 (.tmp 4) (.tmp 3) rfl b o H.toArray rfl rfl (unhide HB).1 (unhide HB).2.2.2.2.1 (unhide HB).2.2.2.2.2 W2 (unhide HB).2.1 ?_)
  go_end0
  exact ⟨rfl, (unhide HB).2.2.1, (unhide HB).2.2.2.1⟩
/-- The first loop. -/
structure PL1 (w2 wr : World) (gm gd k : Nat) : Prop where
  th : wr.there gm 0 146
  H : ∀ j, j < k → HM wr gm (j * 73) []
  fr : Fr (fun j => j = gm) w2 wr
theorem info_hash : (Tryd.prog.info? 48).map (·.size) = some 73 := by kernel_rfl
theorem PL1.next {w2 wr wa : World} {gm gd k : Nat} (h : PL1 w2 wr gm gd k) (hk : k < 2) (hf : Fr (fun _ => False) wr wa) (cs : List Value) (hcs : cs = hv st0 (fun _ => 0) 0) : PL1 w2 (wa.setCells gm (k * 73) cs) gm gd (k + 1) ∧ wa.there gm (k * 73) 73 := by
  have hgl : gm < wr.heap.size := by
    have := (h.th 0 (by decide)).1
    rcases e : wr.cell? ⟨gm, 0 + 0, none⟩ with _ | u
    · rw [e] at this; cases this
    · exact lt_of_cell e
  have hth : wa.there gm 0 146 := fun j hj => by
    rw [hf.cell (p := ⟨gm, 0 + j, none⟩) hgl (fun h => h), hf.frozen (p := ⟨gm, 0 + j, none⟩) hgl (fun h => h)]
    exact h.th j hj
  have ht2 : wa.there gm (k * 73) 73 := fun j hj => by
    have := hth (k * 73 + j) (by omega)
    rwa [Nat.zero_add] at this
  have hX : FrH wa (wa.setCells gm (k * 73) cs) gm (k * 73) := (FrH.refl _ _ _).setCells _ _ (Nat.le_refl _) (by rw [hcs, hv_len]; omega)
  refine ⟨⟨World.there_setCells hth _ _ _, fun j hj => ?_, (h.fr.trans (hf.mono (T := fun j => j = gm) (fun _ _ h => h.elim)) (fun _ _ h => h)).trans hX.fr (fun _ _ h => h)⟩, ht2⟩
  by_cases e : j = k
  · subst e hcs
    exact HM.newo (HsAt.stored ht2 st0 (fun _ => 0) 0)
  · exact ((h.H j (by omega)).fr hf (fun h => h)).out hX (by omega)
set_option maxRecDepth 100000 in
set_option maxHeartbeats 1000000 in
theorem plays_any (x : Value) (A : List Stp) (w : World) (hg : GS w) (hr : GR w) (hx : SSrc w x A) (hlen : A.length ≤ 16000000) :
    Calls Tryd.prog 6 #[x] w fun e w' => e = .returned (.bool true) ∧ Fr (fun _ => False) w w' := by
  obtain ⟨xo, xc, rfl⟩ := hx.form
  have hz1 := zero_mine
  have hz2 := zero_docs
  have HG := hide (And.intro hg (And.intro hr (And.intro hx hlen)))
  clear hg hr hx hlen
  generalize hN : A.length = N at *
  go_enter Tryd.func6, Tryd.ntmps6
  go_wp2_with fail
  refine (lives_any w (unhide HG).1).mono ?_
  rintro e w1 ⟨rfl, hF1⟩
  obtain ⟨w2, hw2⟩ : ∃ w2, (w1.alloc (.cells (hz ++ hz).toArray 49)).alloc (.cells #[.slice none 0 0, .slice none 0 0] 50) = w2 := ⟨_, rfl⟩
  have hF2 : Fr (fun _ => False) w1 w2 := by rw [← hw2]; exact ((Fr.refl _ _).alloc _).alloc _
  have hsz : w2.heap.size = w1.heap.size + 1 + 1 := by rw [← hw2]; simp
  have hth : w2.there w1.heap.size 0 146 := fun j hj => by
    have h1 := alloc_there w1 (hz ++ hz) 49 j (by rw [List.length_append, hz_len]; exact hj)
    have hf : Fr (fun _ => False) (w1.alloc (.cells (hz ++ hz).toArray 49)) w2 := by rw [← hw2]; exact (Fr.refl _ _).alloc _
    rw [hf.cell (p := ⟨w1.heap.size, 0 + j, none⟩) (by simp) (fun h => h), hf.frozen (p := ⟨w1.heap.size, 0 + j, none⟩) (by simp) (fun h => h)]
    exact h1
  have hdc : ∀ k, k < 2 → w2.cell? ⟨w1.heap.size + 1, k, none⟩ = some (.slice none 0 0) ∧ w2.frozen? ⟨w1.heap.size + 1, k, none⟩ = false := fun k hk => by
    have hs1 : (w1.alloc (.cells (hz ++ hz).toArray 49)).heap.size = w1.heap.size + 1 := by simp
    rw [← hw2, ← hs1, World.cell?_alloc_at _ _ _ _ rfl, World.frozen?_alloc_at _ _ _ _ rfl]
    refine ⟨?_, rfl⟩
    match k, hk with
    | 0, _ | 1, _ => rfl
  have H2 := hide (And.intro (hF1.trans hF2 (fun _ _ h => h)) (And.intro hsz (And.intro hth (And.intro hdc (And.intro hF1.size (hF1.trans hF2 (fun _ _ h => h)))))))
  clear hF1 hF2 hsz hth hdc
  generalize hz ++ hz = ZZ at *
  go_wp2_with fail
  clear hw2
  go_loopw [5] (fun kv wr => ∃ k : Nat, k ≤ 2 ∧ kv = .int .i64 (k : Nat) ∧ PL1 w2 wr w1.heap.size (w1.heap.size + 1) k) (fun kv _ => 2 - (intOf kv).toNat)
  case atStart => exact ⟨0, Nat.zero_le _, rfl, (unhide H2).2.2.1, fun j h => by omega, Fr.refl _ _⟩
  case round =>
    obtain ⟨k, hk, rfl, hI⟩ := hrel
    rename World => wr
    have hszw : w.heap.size ≤ w1.heap.size := (unhide H2).2.2.2.2.1
    have hFw : Fr (fun _ => False) w wr := fr_new hI.fr (unhide H2).1 hszw
    by_cases hlt : k < 2
    · have hlt' : (k : Int) < 2 := by omega
      have HI := hide (And.intro hI hFw)
      clear hI hFw
      go_wp2_with fail
      refine (new_any wr ((unhide HG).1.fr0 (unhide HI).2)).mono ?_
      rintro e wa ⟨b, rfl, hH, hFa, hb⟩
      obtain ⟨cs, hcs⟩ : ∃ cs, cs = hv st0 (fun _ => 0) 0 := ⟨_, rfl⟩
      have hrg : wa.rangeAt b 0 cs := by rw [hcs]; exact hH.all
      have hcl : cs.length = 73 := by rw [hcs, hv_len]
      have hon : cs.toArray.all (·.oneCell') = true := by rw [hcs]; exact all_oneCell_toArray (hv_one _ _ _)
      have hcl2 : cs.toArray.size = 73 := hcl
      have hnx := (unhide HI).1.next hlt hFa cs hcs
      have HN := hide (And.intro hnx.1 (And.intro (show wa.there w1.heap.size (k * 73) cs.toArray.size by rw [hcl2]; exact hnx.2) (And.intro hrg (And.intro (show (Tryd.prog.info? 48).map (·.size) = some cs.length by rw [hcl]; exact info_hash) (And.intro (show (Tryd.prog.info? 48).map (·.size) = some cs.toArray.size by rw [hcl2]; exact info_hash) hon)))))
      clear hnx hrg hcl hon hcl2 hH hFa hb hcs
      go_wp2_with (first
        | (refine wpList_load_mid rfl 48 _ rfl b 0 rfl cs _ (unhide HN).2.2.1 Tryd.underlying48 rfl (unhide HN).2.2.2.1 ?_)
        | (refine wpList_store_mid rfl 48 _ _ rfl w1.heap.size (k * 73) cs.toArray rfl rfl (unhide HN).2.1 (unhide HN).2.2.2.2.1 (unhide HN).2.2.2.2.2 ?_))
      exact ⟨⟨k + 1, by omega, by go_num, (unhide HN).1⟩, by simp [intOf]; omega⟩
    · have hk2 : k = 2 := by omega
      have hlt' : ¬ (k : Int) < 2 := by omega
      have hP : PLI w2 wr w1.heap.size (w1.heap.size + 1) (fun _ => []) (fun _ => .slice none 0 0) := by
        have hw2 : w1.heap.size + 1 < w2.heap.size := by rw [(unhide H2).2.1]; omega
        refine ⟨fun j hj => hI.H j (by omega), fun j hj => ?_, fun j hj => ?_, fun _ _ => .inl ⟨rfl, rfl⟩, (fun _ _ _ _ _ _ e => by cases e), fun _ _ => Nat.zero_le _, (fun _ _ _ h => by cases h), hI.fr.mono (T := fun j => j = w1.heap.size ∨ j = w1.heap.size + 1) (fun _ _ h => .inl h)⟩
        · rw [hI.fr.cell (p := ⟨w1.heap.size + 1, j, none⟩) hw2 (by show ¬ w1.heap.size + 1 = w1.heap.size; omega)]
          exact ((unhide H2).2.2.2.1 j hj).1
        · rw [hI.fr.frozen (p := ⟨w1.heap.size + 1, j, none⟩) hw2 (by show ¬ w1.heap.size + 1 = w1.heap.size; omega)]
          exact ((unhide H2).2.2.2.1 j hj).2
      have HP := hide hP
      clear hP hI hk2 hk hlt hFw
      have hgm : w.heap.size ≤ w1.heap.size := hszw
      clear hszw
      go_wp2_with fail
      clear hlt'
      generalize hgmE : w1.heap.size = gm at *
      go_loopw [7] (fun iv wq => ∃ (i : Nat) (D : Nat → List Nat) (dv : Nat → Value), i ≤ N ∧ iv = .int .i64 (i : Nat) ∧ PLI w2 wq gm (gm + 1) D dv) (fun iv _ => N - (intOf iv).toNat)
      case atStart => exact ⟨0, _, _, Nat.zero_le _, rfl, unhide HP⟩
      case round =>
        obtain ⟨i, D, dv, hi, rfl, hI⟩ := hrel
        rename World => wq
        have hFw : Fr (fun _ => False) w wq := (unhide H2).1.trans (hI.fr.mono (T := fun j => w.heap.size ≤ j) (fun j _ h => by rcases h with h | h <;> omega)) (fun _ h1 h2 => by omega)
        by_cases hiN : i < N
        · have hiN' : (i : Int) < (N : Int) := by omega
          by_cases hi2 : i < 200
          · have hi2' : (i : Int) < 200 := by omega
            obtain ⟨gs, os, bv, rfl, c0, c1, c2, hbs⟩ := (unhide HG).2.2.1.step hFw i (by rw [hN]; exact hiN)
            have hbb := (unhide HG).2.2.1.byt A[i] (List.getElem_mem _)
            generalize A[i] = st at *
            obtain ⟨op, wd, bs⟩ := st
            simp only at c0 c1 c2 hbs hbb
            obtain ⟨bo, bc, rfl⟩ := hbs.form
            have ha1 := i64_and1 wd
            obtain ⟨kk, hkk, hk2⟩ : ∃ kk : Nat, wd % 2 = (kk : Int) ∧ kk < 2 := ⟨(wd % 2).toNat, by omega, by omega⟩
            rw [hkk] at ha1
            obtain ⟨doo, dc, hdv⟩ := (hI.s kk hk2).form
            obtain ⟨wX, hwX⟩ : ∃ wX, wq.alloc (.cells #[.int .i64 op, .int .i64 wd, .slice bo bs.length bc] 52) = wX := ⟨_, rfl⟩
            have hFX : Fr (fun _ => False) wq wX := by rw [← hwX]; exact (Fr.refl _ _).alloc _
            have hIX := hI.fr0 hFX
            have dX := hIX.c kk hk2
            rw [hdv] at dX
            have zX := hIX.fz kk hk2
            have x0 : wX.cell? ⟨wq.heap.size, 0, none⟩ = some (.int .i64 op) := by rw [← hwX, World.cell?_alloc_at _ _ _ _ rfl]; rfl
            have x1 : wX.cell? ⟨wq.heap.size, 1, none⟩ = some (.int .i64 wd) := by rw [← hwX, World.cell?_alloc_at _ _ _ _ rfl]; rfl
            have x2 : wX.cell? ⟨wq.heap.size, 2, none⟩ = some (.slice bo bs.length bc) := by rw [← hwX, World.cell?_alloc_at _ _ _ _ rfl]; rfl
            have hgq : gm + 1 < wq.heap.size := lt_of_cell (hI.c 0 (by decide))
            have hgX : wq.heap.size < wX.heap.size := lt_of_cell x0
            have HI := hide (And.intro hIX (And.intro (hFw.trans hFX (fun _ _ h => h)) (And.intro hbs (And.intro hbb (And.intro hk2 (And.intro hdv (And.intro hgq hgX)))))))
            clear hI hFw hbs hbb hkk hIX hFX hgq hgX hdv
            generalize hLE : (D kk).length = L at *
            generalize hBE : bs.length = B at *
            generalize hgE : wq.heap.size = gx at *
            have k0 : (0 : Int) ≤ (kk : Int) := by omega
            have k2 : (kk : Int) < 2 := by omega
            by_cases o0 : op = 0
            · subst o0
              by_cases hL6 : 60000 < L
              · have hL6' : (60000 : Int) < (L : Int) := by omega
                go_wp2_with fail
                exact ⟨⟨i + 1, D, dv, by omega, by go_num, (unhide HI).1⟩, by simp [intOf]; omega⟩
              · have hL6' : ¬ (60000 : Int) < (L : Int) := by omega
                by_cases hB6 : 60000 < B
                · have hB6' : (60000 : Int) < (B : Int) := by omega
                  go_wp2_with fail
                  exact ⟨⟨i + 1, D, dv, by omega, by go_num, (unhide HI).1⟩, by simp [intOf]; omega⟩
                · have hB6' : ¬ (60000 : Int) < (B : Int) := by omega
                  have hbX : Src wX (.slice bo B bc) bs := (unhide HI).2.2.1.fr0 (unhide HI).2.1
                  have hgmw : gm < wX.heap.size := by have := (unhide HI).2.2.2.2.2.2; omega
                  have hngm : 4 ≤ gm := Nat.le_trans (unhide HG).1.1.2 hgm
                  have HX := hide (And.intro hbX (And.intro hgmw hngm))
                  clear hbX hgmw hngm
                  go_wp2_with fail
                  refine (guarded_any _ bs wX (unhide HX).1 (by omega)).mono ?_
                  rintro e wG ⟨gb, cp, rfl, hOG⟩
                  rw [hBE]
                  have hgb := hOG.ow.lt
                  have HG2 := hide (And.intro hOG.ow (And.intro hOG.fr hgb))
                  clear hOG hgb
                  go_wp2_with fail
                  refine (write_anyX gm (kk * 73) (D kk) bs (.slice (some ⟨gb, 0, none⟩) B cp) wG ((unhide HG).1.fr0 ((unhide HI).2.1.trans (unhide HG2).2.1 (fun _ _ h => h))) (unhide HX).2.2 (((unhide HI).1.H kk (unhide HI).2.2.2.2.1).fr (unhide HG2).2.1 (fun h => h)) (by have := gd_src (unhide HG2).1; rw [hBE] at this; exact this) (.inr (fun g' o' n' c' e => by cases e; have h1 := (unhide HG2).2.2.1; have h2 := (unhide HX).2.1; omega)) (fun v hv => by
                    rcases List.mem_append.1 hv with h | h
                    · exact (unhide HI).1.byt kk (unhide HI).2.2.2.2.1 v h
                    · exact (unhide HI).2.2.2.1 v h) (by omega) (fun _ _ _ e => by cases e; have := (unhide HG2).1.cap; rw [gd_len] at this; omega)).mono ?_
                  rintro e wA ⟨rfl, hMA, hFA⟩
                  have hgbm : ∀ k, wX.heap.size ≤ k → ¬ k = gm := fun k h => by have := (unhide HX).2.1; omega
                  have hFwA : Fr (fun _ => False) w wA := fr_new hFA.fr ((unhide HI).2.1.trans (unhide HG2).2.1 (fun _ _ h => h)) hgm
                  have hXA : FrH wX wA gm (kk * 73) := (FrH.of0 (unhide HG2).2.1 (unhide HX).2.1 _).trans hFA
                  have hOA : Ow wA wX.heap.size (some ⟨gb, 0, none⟩) cp (gd bs 40) := (unhide HG2).1.fr hFA.fr hgbm
                  have xa2 : wA.cell? ⟨gx, 2, none⟩ = some (.slice bo B bc) := (hXA.fr.cell (p := ⟨gx, 2, none⟩) (lt_of_cell x2) (by have := (unhide HI).2.2.2.2.2.2.1; show ¬ gx = gm; omega)).trans x2
                  have xad : wA.cell? ⟨gm + 1, kk, none⟩ = some (.slice doo L dc) := (hXA.fr.cell (p := ⟨gm + 1, kk, none⟩) (lt_of_cell dX) (by show ¬ gm + 1 = gm; omega)).trans dX
                  have xaz : wA.frozen? ⟨gm + 1, kk, none⟩ = false := (hXA.fr.frozen (p := ⟨gm + 1, kk, none⟩) (lt_of_cell dX) (by show ¬ gm + 1 = gm; omega)).trans zX
                  have HA := hide (And.intro hMA (And.intro hXA (And.intro hOA (And.intro hFwA (And.intro xad xaz)))))
                  clear hMA hFA hgbm hFwA hXA hOA xad xaz
                  go_wp2_with fail
                  have hlf := left_T (.slice bo B bc) (.slice (some ⟨gb, 0, none⟩) (gd bs 40).length cp) bs wA ((unhide HI).2.2.1.fr0 (unhide HA).2.2.2.1) (unhide HA).2.2.1.src (unhide HI).2.2.2.1 (by omega)
                  rw [gd_len, hBE] at hlf
                  refine hlf.mono ?_
                  clear hlf
                  rintro e wL ⟨rfl, hFL⟩
                  have HL := hide (And.intro ((unhide HA).2.2.1.fr0 hFL) hFL)
                  clear hFL xa2
                  go_wp2_with fail
                  go_loopw [12] (fun jv wr => ∃ (j : Nat) (L' : List Nat), j ≤ B ∧ jv = .int .i64 (j : Nat) ∧ L'.length = B + 40 ∧ Ow wr wX.heap.size (some ⟨gb, 0, none⟩) cp L' ∧ Fr (fun x => x = gb) wL wr) (fun jv _ => B - (intOf jv).toNat)
                  case atStart => exact ⟨0, gd bs 40, Nat.zero_le _, rfl, by rw [gd_len, hBE], (unhide HL).1, Fr.refl _ _⟩
                  case round =>
                    obtain ⟨j, L', hj, rfl, hL', hO', hF'⟩ := hrel
                    rename World => wr
                    by_cases hjl : j < B
                    · have hjl' : (j : Int) < (B : Int) := by omega
                      have hc : ∃ u, wr.cell? ⟨gb, j, none⟩ = some u := by
                        rw [World.ownsRow.cellAt hO' j (by omega), List.getElem?_eq_getElem (by rw [cellsOf_length]; omega)]
                        exact ⟨_, rfl⟩
                      obtain ⟨u, hu⟩ := hc
                      have hz := hO'.fz j
                      have hP := hO'.set j 99 (by decide)
                      have hF2 : Fr (fun x => x = gb) wL (wr.setCell ⟨gb, j, none⟩ (.int .u8 99)) := Fr.setCell hF' (p := ⟨gb, j, none⟩) (.inl rfl) _
                      have HP := hide (And.intro hP (And.intro hF2 hL'))
                      clear hP hF2 hL' hO' hF'
                      go_wp2_with fail
                      exact ⟨⟨j + 1, _, by omega, by go_num, by rw [List.length_set]; exact (unhide HP).2.2, (unhide HP).1, (unhide HP).2.1⟩, by simp [intOf]; omega⟩
                    · have hjl' : ¬ (j : Int) < (B : Int) := by omega
                      have hk2 := (unhide HI).2.2.2.2.1
                      have hgxb : ¬ gx = gb := by have h1 := (unhide HG2).2.2.1; have h2 := (unhide HI).2.2.2.2.2.2.2; omega
                      have hgmb : ¬ gm = gb := by have h1 := (unhide HG2).2.2.1; have h2 := (unhide HX).2.1; omega
                      have hgdb : ¬ gm + 1 = gb := by have h1 := (unhide HG2).2.2.1; have h2 := (unhide HI).2.2.2.2.2.2; omega
                      have hAr : Fr (fun x => x = gb) wA wr := ((unhide HL).2.mono (T := fun x => x = gb) (fun _ _ h => h.elim)).trans hF' (fun _ _ h => h)
                      have xr2 : wr.cell? ⟨gx, 2, none⟩ = some (.slice bo B bc) := by
                        have h1 := ((unhide HA).2.1.fr.cell (p := ⟨gx, 2, none⟩) (lt_of_cell x2) (by have := (unhide HI).2.2.2.2.2.2.1; show ¬ gx = gm; omega)).trans x2
                        exact (hAr.cell (p := ⟨gx, 2, none⟩) (lt_of_cell h1) hgxb).trans h1
                      have xrd : wr.cell? ⟨gm + 1, kk, none⟩ = some (.slice doo L dc) := (hAr.cell (p := ⟨gm + 1, kk, none⟩) (lt_of_cell (unhide HA).2.2.2.2.1) hgdb).trans (unhide HA).2.2.2.2.1
                      have xrz : wr.frozen? ⟨gm + 1, kk, none⟩ = false := (hAr.frozen (p := ⟨gm + 1, kk, none⟩) (lt_of_cell (unhide HA).2.2.2.2.1) hgdb).trans (unhide HA).2.2.2.2.2
                      have hFwr : Fr (fun _ => False) w wr := (unhide HA).2.2.2.1.trans (hAr.mono (T := fun x => w.heap.size ≤ x) (fun x _ h => by have h1 := (unhide HG2).2.2.1; have h2 := (unhide HI).2.1.size; omega)) (fun _ h1 h2 => by omega)
                      have hds : Src wr (.slice doo L dc) (D kk) := by
                        have h1 := ((unhide HI).1.s kk hk2).fr (unhide HA).2.1.fr (fun g o m c e => ((unhide HI).1.nb kk hk2 g o m c e).1)
                        have h2 := h1.frD hAr ((src_lt ((unhide HI).1.s kk hk2)).imp id (fun hh g o m c e hs => by have h3 := hh g o m c e; have h4 := (unhide HG2).2.2.1; omega))
                        rw [(unhide HI).2.2.2.2.2.1] at h2
                        exact h2
                      have hO0 : OB wr wr none 0 [] := ⟨own_nil _ _, Fr.refl _ _⟩
                      obtain ⟨a1, c1, wN, hr1, hO1⟩ := hO0.app (.slice doo L dc) (D kk) hds (by rw [List.length_nil, hLE]; omega)
                      obtain ⟨a2, c2, wM, hr2, hO2⟩ := hO1.app (.slice bo B bc) bs (((unhide HI).2.2.1.fr0 hFwr).fr0 hO1.fr) (by rw [List.length_append, List.length_nil, hLE, hBE]; omega)
                      rw [List.nil_append] at hr1 hr2 hO1 hO2
                      rw [hLE] at hr1 hr2
                      rw [List.length_append, hLE, hBE] at hr2
                      have xn2 : wN.cell? ⟨gx, 2, none⟩ = some (.slice bo B bc) := (hO1.fr.cell (p := ⟨gx, 2, none⟩) (lt_of_cell xr2) (fun h => h)).trans xr2
                      have xmd : wM.cell? ⟨gm + 1, kk, none⟩ = some (.slice doo L dc) := (hO2.fr.cell (p := ⟨gm + 1, kk, none⟩) (lt_of_cell xrd) (fun h => h)).trans xrd
                      have xmz : wM.frozen? ⟨gm + 1, kk, none⟩ = false := (hO2.fr.frozen (p := ⟨gm + 1, kk, none⟩) (lt_of_cell xrd) (fun h => h)).trans xrz
                      have hCM : Fr (fun x => x = gb) wA wM := hAr.trans (hO2.fr.mono (T := fun x => x = gb) (fun _ _ h => h.elim)) (fun _ _ h => h)
                      have hsM : Src wM (.slice a2 (L + B) c2) (D kk ++ bs) := by
                        have := hO2.src
                        rw [List.length_append, hLE, hBE] at this
                        exact this
                      have hU := (unhide HI).1.upd hk2 (by omega) (unhide HA).2.1 (unhide HA).1 hCM (fun x h => by rw [h]; exact (unhide HG2).2.2.1) (.slice a2 (L + B) c2) hsM (fun g o n c e => by
                        cases e
                        have h1 := World.ownsRow.lt hO2.own g rfl
                        have h2 := lt_of_cell xrd
                        have h3 : gm + 1 < wr.heap.size := h2
                        omega) (by rw [List.length_append, hLE, hBE]; omega) (fun v hv => by
                        rcases List.mem_append.1 hv with h | h
                        · exact (unhide HI).1.byt kk hk2 v h
                        · exact (unhide HI).2.2.2.1 v h)
                      have HU := hide (And.intro hU (And.intro hr1 hr2))
                      clear hU hr1 hr2 hsM hCM hO1 hO2 hO0 hds hFwr hAr xrz hF' hO' hgxb hgmb hgdb
                      go_wp2_with (first | (at_builtin; refine wpList_app rfl (.tmp 86) (.tmp 89) 24 24 rfl _ _ _ rfl rfl (unhide HU).2.1 ?_) | (at_builtin; refine wpList_app rfl (.tmp 91) (.tmp 93) 24 24 rfl _ _ _ rfl rfl (unhide HU).2.2 ?_))
                      exact ⟨⟨i + 1, _, _, by omega, by go_num, (unhide HU).1⟩, by simp [intOf]; omega⟩
            · have e0 : (op == 0) = false := beq_false_of_ne o0
              by_cases o1 : op = 1
              · subst o1
                obtain ⟨SM, hSM⟩ : ∃ SM, SM = sm wd (D kk) := ⟨_, rfl⟩
                have h32 : SM.length ≤ 32 := by
                  rw [hSM, sm]
                  split
                  · rw [List.length_take, sby_len]; omega
                  · exact Nat.zero_le _
                have hDl := (unhide HI).1.len kk (unhide HI).2.2.2.2.1
                have hDb := (unhide HI).1.byt kk (unhide HI).2.2.2.2.1
                have hcS : ∀ w', Fr (fun _ => False) wX w' → Calls Tryd.prog 14 #[.pointer (some ⟨gm, kk * 73, none⟩), .int .i64 wd] w' fun e w'' => ∃ yo, e = .returned (.slice yo SM.length SM.length) ∧ OB w' w'' yo SM.length SM := fun w' hf => by
                  rw [hSM]
                  exact hsum_O wd gm (kk * 73) (D kk) w' (((unhide HG).1.fr0 (unhide HI).2.1).fr0 hf) (((unhide HI).1.H kk (unhide HI).2.2.2.2.1).fr hf (fun h => h)) hDb (by omega)
                have hcG : ∀ w', Fr (fun _ => False) wX w' → Calls Tryd.prog 20 #[.int .i64 wd, .slice doo L dc] w' fun e w'' => ∃ zo zc, e = .returned (.slice zo SM.length zc) ∧ OB w' w'' zo zc SM := fun w' hf => by
                  rw [hSM]
                  have hs := ((unhide HI).1.s kk (unhide HI).2.2.2.2.1).fr0 hf
                  rw [(unhide HI).2.2.2.2.2.1] at hs
                  exact gsum_T wd _ (D kk) w' (((unhide HG).2.1.fr0 (unhide HI).2.1).fr0 hf) hs hDb (by omega)
                have HC := hide (And.intro hcS (And.intro hcG h32))
                clear hcS hcG hSM hDl hDb h32
                go_wp2_with fail
                go_region_held3 (fun w' => w'.cell? ⟨gx, 1, none⟩ = some (.int .i64 wd)) (first | assumption | (simp only [World.cell?_drew]; assumption) | (exact (hOA.fr.cell (p := ⟨gx, 1, none⟩) (lt_of_cell x1) (fun h => h)).trans x1))
                  ((go_at_call 14; refine ((unhide HC).1 _ ((Fr.refl _ _).drew)).mono ?_; rintro e wA ⟨yo, rfl, hOA⟩))
                have hFA : Fr (fun _ => False) wX wA := ((Fr.refl (fun _ => False) wX).drew).trans hOA.fr (fun _ _ h => h)
                have y1 : wA.cell? ⟨gx, 1, none⟩ = some (.int .i64 wd) := (hFA.cell (p := ⟨gx, 1, none⟩) (lt_of_cell x1) (fun h => h)).trans x1
                have yd : wA.cell? ⟨gm + 1, kk, none⟩ = some (.slice doo L dc) := (hFA.cell (p := ⟨gm + 1, kk, none⟩) (lt_of_cell dX) (fun h => h)).trans dX
                have HA := hide (And.intro hOA.ow hFA)
                clear hOA
                go_wp2_with fail
                go_region_held3 (fun w' => w'.cell? ⟨gx, 1, none⟩ = some (.int .i64 wd) ∧ w'.cell? ⟨gm + 1, kk, none⟩ = some (.slice doo L dc)) (first | assumption | (exact ⟨y1, yd⟩) | (exact ⟨(hOB.fr.cell (p := ⟨gx, 1, none⟩) (lt_of_cell y1) (fun h => h)).trans y1, (hOB.fr.cell (p := ⟨gm + 1, kk, none⟩) (lt_of_cell yd) (fun h => h)).trans yd⟩) | (exact ⟨(hFE.cell (p := ⟨gx, 1, none⟩) (lt_of_cell y1) (fun h => h)).trans y1, (hFE.cell (p := ⟨gm + 1, kk, none⟩) (lt_of_cell yd) (fun h => h)).trans yd⟩))
                  (first
                    | (go_at_call 20; refine ((unhide HC).2.1 _ (hFA.drew)).mono ?_; rintro e wB ⟨zo, zc, rfl, hOB⟩)
                    | (go_at_call 9; refine (same_T ((unhide HA).1.fr0 (((Fr.refl (fun _ => False) wA).drew).trans hOB.fr (fun _ _ h => h))).src hOB.src (by have := (unhide HC).2.2; omega) (sameB_refl _)).mono ?_; rintro e wE ⟨rfl, hFSame⟩; have hFE : Fr (fun _ => False) wA wE := (((Fr.refl (fun _ => False) wA).drew).trans hOB.fr (fun _ _ h => h)).trans hFSame (fun _ _ h => h)))
                have HE := hide (And.intro ((unhide HA).1.fr0 hFE) (hFA.trans hFE (fun _ _ h => h)))
                clear hFE hOB hFSame
                have h32 := (unhide HC).2.2
                go_wp2_with fail
                clear y1 yd
                go_loopw [15] (fun jv wr => ∃ (j : Nat) (L' : List Nat), j ≤ SM.length ∧ jv = .int .i64 (j : Nat) ∧ L'.length = SM.length ∧ Ow wr wX.drew.heap.size yo SM.length L' ∧ Fr (fun x => ∃ o, yo = some ⟨x, o, none⟩) wE wr) (fun jv _ => SM.length - (intOf jv).toNat)
                case atStart => exact ⟨0, SM, Nat.zero_le _, rfl, rfl, (unhide HE).1, Fr.refl _ _⟩
                case round =>
                  obtain ⟨j, L', hj, rfl, hL', hO', hF'⟩ := hrel
                  rename World => wr
                  by_cases hjl : j < SM.length
                  · have hjl' : (j : Int) < (SM.length : Int) := by omega
                    obtain ⟨pg, rfl⟩ : ∃ pg, yo = some ⟨pg, 0, none⟩ := by
                      rcases hO'.2 with ⟨_, e⟩ | ⟨pg, cap, cur, e, _⟩
                      · omega
                      · simp only [Value.slice.injEq] at e
                        exact ⟨pg, e.1⟩
                    have hc : ∃ u, wr.cell? ⟨pg, j, none⟩ = some u := by
                      rw [World.ownsRow.cellAt hO' j (by omega), List.getElem?_eq_getElem (by rw [cellsOf_length]; omega)]
                      exact ⟨_, rfl⟩
                    obtain ⟨u, hu⟩ := hc
                    have hz := hO'.fz j
                    have hP := hO'.set j 99 (by decide)
                    have hF2 : Fr (fun x => ∃ o, some (⟨pg, 0, none⟩ : Addr) = some ⟨x, o, none⟩) wE (wr.setCell ⟨pg, j, none⟩ (.int .u8 99)) := Fr.setCell hF' (p := ⟨pg, j, none⟩) (.inl ⟨0, rfl⟩) _
                    have HP := hide (And.intro hP (And.intro hF2 hL'))
                    clear hP hF2 hL' hO' hF'
                    go_wp2_with fail
                    exact ⟨⟨j + 1, _, by omega, by go_num, by rw [List.length_set]; exact (unhide HP).2.2, (unhide HP).1, (unhide HP).2.1⟩, by simp [intOf]; omega⟩
                  · have hjl' : ¬ (j : Int) < (SM.length : Int) := by omega
                    have hU := (unhide HI).1.frN (unhide HE).2 hF' (fun x h => by
                      obtain ⟨o, rfl⟩ := h
                      exact (World.ownsRow.lt (unhide HE).1 x rfl).1)
                    have HU := hide hU
                    clear hU hO' hF'
                    go_wp2_with fail
                    exact ⟨⟨i + 1, D, dv, by omega, by go_num, unhide HU⟩, by simp [intOf]; omega⟩
              · have e1 : (op == 1) = false := beq_false_of_ne o1
                by_cases o2 : op = 2
                · subst o2
                  have hln : ∀ w', HM w' gm (kk * 73) (D kk) → Calls Tryd.prog 15 #[.pointer (some ⟨gm, kk * 73, none⟩)] w' fun e w'' => e = .returned (.int .u64 (L : Nat)) ∧ w'' = w' := fun w' h => by
                    have := len_any gm (kk * 73) (D kk).length _ _ w' h
                    rw [hLE] at this
                    exact this
                  have HL := hide hln
                  clear hln
                  have hL12 : L ≤ 120000 := by rw [← hLE]; exact (unhide HI).1.len kk (unhide HI).2.2.2.2.1
                  have u1 : IntKind.u64.wrap (L : Int) = (L : Int) := by rw [IntKind.wrap_u64]; omega
                  go_wp2_with fail
                  go_quiet ((go_at_call 15; refine ((unhide HL) _ ((((unhide HI).1.fr0 ((Fr.refl _ _).drewN _)).H kk (unhide HI).2.2.2.2.1))).mono ?_; rintro e w' ⟨rfl, rfl⟩; exact ⟨rfl, _, rfl⟩))
                  go_wp2_with fail
                  exact ⟨⟨i + 1, D, dv, by omega, by go_num, (unhide HI).1.fr0 ((Fr.refl _ _).drewN _)⟩, by simp [intOf]; omega⟩
                · have e2 : (op == 2) = false := beq_false_of_ne o2
                  by_cases o3 : op = 3
                  · subst o3
                    go_wp2_with fail
                    refine (reset_X gm (kk * 73) _ _ _ wX ((unhide HG).1.fr0 (unhide HI).2.1) ((unhide HI).1.H kk (unhide HI).2.2.2.2.1)).mono ?_
                    rintro e wA ⟨rfl, hMA, hFA⟩
                    have hdA : wA.cell? ⟨gm + 1, kk, none⟩ = some (.slice doo L dc) := (hFA.fr.cell (p := ⟨gm + 1, kk, none⟩) (lt_of_cell dX) (by show ¬ gm + 1 = gm; omega)).trans dX
                    have hzA : wA.frozen? ⟨gm + 1, kk, none⟩ = false := (hFA.fr.frozen (p := ⟨gm + 1, kk, none⟩) (lt_of_cell dX) (by show ¬ gm + 1 = gm; omega)).trans zX
                    have hU := (unhide HI).1.upd (unhide HI).2.2.2.2.1 (by omega) hFA hMA (Fr.refl (fun _ => False) wA) (fun _ h => h.elim) (.slice none 0 0) (.inl ⟨rfl, rfl⟩) (fun _ _ _ _ e => by cases e) (Nat.zero_le _) (fun _ h => by cases h)
                    have HU := hide hU
                    clear hU hMA hFA
                    go_wp2_with fail
                    exact ⟨⟨i + 1, _, _, by omega, by go_num, unhide HU⟩, by simp [intOf]; omega⟩
                  · have e3 : (op == 3) = false := beq_false_of_ne o3
                    by_cases o4 : op = 4
                    · subst o4
                      have hk2 := (unhide HI).2.2.2.2.1
                      obtain ⟨k', hk', hk'2⟩ : ∃ k' : Nat, k' = 1 - kk ∧ k' < 2 := ⟨1 - kk, rfl, by omega⟩
                      obtain ⟨cs, hcs⟩ : ∃ cs, cs = hv (ssn (D kk) ((D kk).length / 64)) (rfn (D kk)) (D kk).length := ⟨_, rfl⟩
                      have hrg : wX.rangeAt gm (kk * 73) cs := by rw [hcs]; exact HsAt.all ((unhide HI).1.H kk hk2)
                      have hcl : cs.length = 73 := by rw [hcs, hv_len]
                      have hcl2 : cs.toArray.size = 73 := hcl
                      have hon : cs.toArray.all (·.oneCell') = true := by rw [hcs]; exact all_oneCell_toArray (hv_one _ _ _)
                      have hth : wX.there gm (k' * 73) 73 := HsAt.thereAll ((unhide HI).1.H k' hk'2)
                      obtain ⟨wA, hwA⟩ : ∃ wA, wX.setCells gm (k' * 73) cs = wA := ⟨_, rfl⟩
                      have hMA : HM wA gm (k' * 73) (D kk) := by rw [← hwA, hcs]; exact HsAt.stored hth _ _ _
                      have hFA : FrH wX wA gm (k' * 73) := by rw [← hwA]; exact (FrH.refl _ _ _).setCells _ _ (Nat.le_refl _) (by rw [hcl]; omega)
                      have hdA : wA.cell? ⟨gm + 1, kk, none⟩ = some (.slice doo L dc) := (hFA.fr.cell (p := ⟨gm + 1, kk, none⟩) (lt_of_cell dX) (by show ¬ gm + 1 = gm; omega)).trans dX
                      have hdA2 : wA.cell? ⟨gm + 1, k', none⟩ = some (dv k') := (hFA.fr.cell (p := ⟨gm + 1, k', none⟩) (lt_of_cell ((unhide HI).1.c k' hk'2)) (by show ¬ gm + 1 = gm; omega)).trans ((unhide HI).1.c k' hk'2)
                      have hzA : wA.frozen? ⟨gm + 1, k', none⟩ = false := (hFA.fr.frozen (p := ⟨gm + 1, k', none⟩) (lt_of_cell ((unhide HI).1.c k' hk'2)) (by show ¬ gm + 1 = gm; omega)).trans ((unhide HI).1.fz k' hk'2)
                      have hsA : Src wA (.slice doo L dc) (D kk) := by
                        have h1 := ((unhide HI).1.s kk hk2).fr hFA.fr (fun g o m c e => ((unhide HI).1.nb kk hk2 g o m c e).1)
                        rw [(unhide HI).2.2.2.2.2.1] at h1
                        exact h1
                      have hU := (unhide HI).1.upd hk'2 (by omega) hFA hMA (Fr.refl (fun _ => False) wA) (fun _ h => h.elim) (.slice doo L dc) hsA (fun g o n c e => (unhide HI).1.nb kk hk2 g o n c (by rw [(unhide HI).2.2.2.2.2.1]; exact e)) ((unhide HI).1.len kk hk2) ((unhide HI).1.byt kk hk2)
                      have HU := hide (And.intro hU (And.intro (show wX.there gm (k' * 73) cs.toArray.size by rw [hcl2]; exact hth) (And.intro hrg (And.intro (show (Tryd.prog.info? 48).map (·.size) = some cs.length by rw [hcl]; exact info_hash) (And.intro (show (Tryd.prog.info? 48).map (·.size) = some cs.toArray.size by rw [hcl2]; exact info_hash) (And.intro hon hwA))))))
                      have j1 : IntKind.i64.wrap (1 - (kk : Int)) = (k' : Int) := by rw [IntKind.wrap_i64]; omega
                      have j2 : (k' : Int) < 2 := by omega
                      clear hU hMA hFA hsA hrg hcl hcl2 hon hth hwA hcs hk' hk2
                      go_wp2_with (first
                        | (refine wpList_load_mid rfl 48 _ rfl gm (kk * 73) rfl cs _ (unhide HU).2.2.1 Tryd.underlying48 rfl (unhide HU).2.2.2.1 ?_)
                        | (refine wpList_store_to rfl 48 _ _ rfl gm (k' * 73) cs.toArray rfl rfl (unhide HU).2.1 (unhide HU).2.2.2.2.1 (unhide HU).2.2.2.2.2.1 wA (unhide HU).2.2.2.2.2.2 ?_))
                      exact ⟨⟨i + 1, _, _, by omega, by go_num, (unhide HU).1⟩, by simp [intOf]; omega⟩
                    · have e4 : (op == 4) = false := beq_false_of_ne o4
                      go_wp2_with fail
                      exact ⟨⟨i + 1, D, dv, by omega, by go_num, (unhide HI).1⟩, by simp [intOf]; omega⟩
          · have hi2' : ¬ (i : Int) < 200 := by omega
            have HI := hide (And.intro hI hFw)
            clear hI hFw
            have hl0 := (unhide HI).1.len 0 (by decide)
            have hl1 := (unhide HI).1.len 1 (by decide)
            obtain ⟨a0, c0, hd0⟩ := ((unhide HI).1.s 0 (by decide)).form
            obtain ⟨a1, c1, hd1⟩ := ((unhide HI).1.s 1 (by decide)).form
            have d0 : wq.cell? ⟨gm + 1, 0, none⟩ = some (.slice a0 (D 0).length c0) := by rw [← hd0]; exact (unhide HI).1.c 0 (by decide)
            have d1 : wq.cell? ⟨gm + 1, 1, none⟩ = some (.slice a1 (D 1).length c1) := by rw [← hd1]; exact (unhide HI).1.c 1 (by decide)
            have hH0 : HM wq gm 0 (D 0) := (unhide HI).1.H 0 (by decide)
            have hH1 : HM wq gm 73 (D 1) := (unhide HI).1.H 1 (by decide)
            have hs0 : Src wq (.slice a0 (D 0).length c0) (D 0) := by rw [← hd0]; exact (unhide HI).1.s 0 (by decide)
            have hs1 : Src wq (.slice a1 (D 1).length c1) (D 1) := by rw [← hd1]; exact (unhide HI).1.s 1 (by decide)
            have e0 : (sm 32 (D 0)).length = 32 := by rw [sm_len (by decide)]; rfl
            have e1 : (sm 32 (D 1)).length = 32 := by rw [sm_len (by decide)]; rfl
            have cS0 : ∀ w', Fr (fun _ => False) wq w' → Calls Tryd.prog 14 #[.pointer (some ⟨gm, 0, none⟩), .int .i64 32] w' fun e w'' => ∃ yo, e = .returned (.slice yo 32 32) ∧ OB w' w'' yo 32 (sm 32 (D 0)) := fun w' hf => by
              have h := hsum_O 32 gm 0 (D 0) w' (((unhide HG).1.fr0 (unhide HI).2).fr0 hf) (hH0.fr hf (fun h => h)) ((unhide HI).1.byt 0 (by decide)) (by omega)
              rw [e0] at h
              exact h
            have cS1 : ∀ w', Fr (fun _ => False) wq w' → Calls Tryd.prog 14 #[.pointer (some ⟨gm, 73, none⟩), .int .i64 32] w' fun e w'' => ∃ yo, e = .returned (.slice yo 32 32) ∧ OB w' w'' yo 32 (sm 32 (D 1)) := fun w' hf => by
              have h := hsum_O 32 gm 73 (D 1) w' (((unhide HG).1.fr0 (unhide HI).2).fr0 hf) (hH1.fr hf (fun h => h)) ((unhide HI).1.byt 1 (by decide)) (by omega)
              rw [e1] at h
              exact h
            have cG0 : ∀ w', Fr (fun _ => False) wq w' → Calls Tryd.prog 20 #[.int .i64 32, .slice a0 (D 0).length c0] w' fun e w'' => ∃ zo zc, e = .returned (.slice zo 32 zc) ∧ OB w' w'' zo zc (sm 32 (D 0)) := fun w' hf => by
              have h := gsum_T 32 _ (D 0) w' (((unhide HG).2.1.fr0 (unhide HI).2).fr0 hf) (hs0.fr0 hf) ((unhide HI).1.byt 0 (by decide)) (by omega)
              rw [e0] at h
              exact h
            have cG1 : ∀ w', Fr (fun _ => False) wq w' → Calls Tryd.prog 20 #[.int .i64 32, .slice a1 (D 1).length c1] w' fun e w'' => ∃ zo zc, e = .returned (.slice zo 32 zc) ∧ OB w' w'' zo zc (sm 32 (D 1)) := fun w' hf => by
              have h := gsum_T 32 _ (D 1) w' (((unhide HG).2.1.fr0 (unhide HI).2).fr0 hf) (hs1.fr0 hf) ((unhide HI).1.byt 1 (by decide)) (by omega)
              rw [e1] at h
              exact h
            have sOB : ∀ {wa wb : World} {yo : Option Addr} {yc : Nat} {l : List Nat}, OB wa wb yo yc l → l.length = 32 → Src wb (.slice yo 32 yc) l := fun h hl => by have := h.src; rw [hl] at this; exact this
            have HC := hide (And.intro cS0 (And.intro cS1 (And.intro cG0 (And.intro cG1 (And.intro e0 e1)))))
            clear cS0 cS1 cG0 cG1 e0 e1 hH0 hH1 hs0 hs1 hd0 hd1 hl0 hl1
            generalize (D 0).length = L0 at *
            generalize (D 1).length = L1 at *
            have T1 : True := trivial
            have T2 : True := trivial
            have T3 : True := trivial
            go_wp2_with fail
            go_region_held3 (fun w' => w'.cell? ⟨gm + 1, 0, none⟩ = some (.slice a0 L0 c0) ∧ w'.cell? ⟨gm + 1, 1, none⟩ = some (.slice a1 L1 c1)) (first | assumption | (exact ⟨d0, d1⟩) | (exact ⟨(fF.cell (p := ⟨gm + 1, 0, none⟩) (lt_of_cell d0) (fun h => h)).trans d0, (fF.cell (p := ⟨gm + 1, 1, none⟩) (lt_of_cell d1) (fun h => h)).trans d1⟩) | (exact ⟨(fE.cell (p := ⟨gm + 1, 0, none⟩) (lt_of_cell d0) (fun h => h)).trans d0, (fE.cell (p := ⟨gm + 1, 1, none⟩) (lt_of_cell d1) (fun h => h)).trans d1⟩) | (exact ⟨(fD.cell (p := ⟨gm + 1, 0, none⟩) (lt_of_cell d0) (fun h => h)).trans d0, (fD.cell (p := ⟨gm + 1, 1, none⟩) (lt_of_cell d1) (fun h => h)).trans d1⟩) | (exact ⟨(fC.cell (p := ⟨gm + 1, 0, none⟩) (lt_of_cell d0) (fun h => h)).trans d0, (fC.cell (p := ⟨gm + 1, 1, none⟩) (lt_of_cell d1) (fun h => h)).trans d1⟩) | (exact ⟨(fB.cell (p := ⟨gm + 1, 0, none⟩) (lt_of_cell d0) (fun h => h)).trans d0, (fB.cell (p := ⟨gm + 1, 1, none⟩) (lt_of_cell d1) (fun h => h)).trans d1⟩) | (exact ⟨(fA.cell (p := ⟨gm + 1, 0, none⟩) (lt_of_cell d0) (fun h => h)).trans d0, (fA.cell (p := ⟨gm + 1, 1, none⟩) (lt_of_cell d1) (fun h => h)).trans d1⟩))
              (first
                | (go_at_call 14; clear T1; refine ((unhide HC).1 _ ((Fr.refl _ _).drew)).mono ?_; rintro e wA ⟨yA, rfl, oA⟩; have fA : Fr (fun _ => False) wq wA := ((Fr.refl (fun _ => False) wq).drew).trans oA.fr (fun _ _ h => h))
                | (go_at_call 20; clear T2; refine ((unhide HC).2.2.1 _ fA).mono ?_; rintro e wB ⟨zB, zcB, rfl, oB⟩; have fB : Fr (fun _ => False) wq wB := fA.trans oB.fr (fun _ _ h => h))
                | (go_at_call 9; clear T3; refine (same_T ((sOB oA (unhide HC).2.2.2.2.1).fr0 oB.fr) (sOB oB (unhide HC).2.2.2.2.1) (by rw [(unhide HC).2.2.2.2.1]; decide) (sameB_refl _)).mono ?_; rintro e wC ⟨rfl, hC⟩; have fC : Fr (fun _ => False) wq wC := fB.trans hC (fun _ _ h => h))
                | (go_at_call 14; refine ((unhide HC).2.1 _ fC).mono ?_; rintro e wD ⟨yD, rfl, oD⟩; have fD : Fr (fun _ => False) wq wD := fC.trans oD.fr (fun _ _ h => h))
                | (go_at_call 20; refine ((unhide HC).2.2.2.1 _ fD).mono ?_; rintro e wE ⟨zE, zcE, rfl, oE⟩; have fE : Fr (fun _ => False) wq wE := fD.trans oE.fr (fun _ _ h => h))
                | (go_at_call 9; refine (same_T ((sOB oD (unhide HC).2.2.2.2.2).fr0 oE.fr) (sOB oE (unhide HC).2.2.2.2.2) (by rw [(unhide HC).2.2.2.2.2]; decide) (sameB_refl _)).mono ?_; rintro e wF ⟨rfl, hFs⟩; have fF : Fr (fun _ => False) wq wF := fE.trans hFs (fun _ _ h => h)))
            have HF := hide ((unhide HI).2.trans fF (fun _ _ h => h))
            go_wp2_with fail
            go_ret
            exact ⟨rfl, unhide HF⟩
        · have hiN' : ¬ (i : Int) < (N : Int) := by omega
          have HI := hide (And.intro hI hFw)
          clear hI hFw
          have hl0 := (unhide HI).1.len 0 (by decide)
          have hl1 := (unhide HI).1.len 1 (by decide)
          obtain ⟨a0, c0, hd0⟩ := ((unhide HI).1.s 0 (by decide)).form
          obtain ⟨a1, c1, hd1⟩ := ((unhide HI).1.s 1 (by decide)).form
          have d0 : wq.cell? ⟨gm + 1, 0, none⟩ = some (.slice a0 (D 0).length c0) := by rw [← hd0]; exact (unhide HI).1.c 0 (by decide)
          have d1 : wq.cell? ⟨gm + 1, 1, none⟩ = some (.slice a1 (D 1).length c1) := by rw [← hd1]; exact (unhide HI).1.c 1 (by decide)
          have hH0 : HM wq gm 0 (D 0) := (unhide HI).1.H 0 (by decide)
          have hH1 : HM wq gm 73 (D 1) := (unhide HI).1.H 1 (by decide)
          have hs0 : Src wq (.slice a0 (D 0).length c0) (D 0) := by rw [← hd0]; exact (unhide HI).1.s 0 (by decide)
          have hs1 : Src wq (.slice a1 (D 1).length c1) (D 1) := by rw [← hd1]; exact (unhide HI).1.s 1 (by decide)
          have e0 : (sm 32 (D 0)).length = 32 := by rw [sm_len (by decide)]; rfl
          have e1 : (sm 32 (D 1)).length = 32 := by rw [sm_len (by decide)]; rfl
          have cS0 : ∀ w', Fr (fun _ => False) wq w' → Calls Tryd.prog 14 #[.pointer (some ⟨gm, 0, none⟩), .int .i64 32] w' fun e w'' => ∃ yo, e = .returned (.slice yo 32 32) ∧ OB w' w'' yo 32 (sm 32 (D 0)) := fun w' hf => by
            have h := hsum_O 32 gm 0 (D 0) w' (((unhide HG).1.fr0 (unhide HI).2).fr0 hf) (hH0.fr hf (fun h => h)) ((unhide HI).1.byt 0 (by decide)) (by omega)
            rw [e0] at h
            exact h
          have cS1 : ∀ w', Fr (fun _ => False) wq w' → Calls Tryd.prog 14 #[.pointer (some ⟨gm, 73, none⟩), .int .i64 32] w' fun e w'' => ∃ yo, e = .returned (.slice yo 32 32) ∧ OB w' w'' yo 32 (sm 32 (D 1)) := fun w' hf => by
            have h := hsum_O 32 gm 73 (D 1) w' (((unhide HG).1.fr0 (unhide HI).2).fr0 hf) (hH1.fr hf (fun h => h)) ((unhide HI).1.byt 1 (by decide)) (by omega)
            rw [e1] at h
            exact h
          have cG0 : ∀ w', Fr (fun _ => False) wq w' → Calls Tryd.prog 20 #[.int .i64 32, .slice a0 (D 0).length c0] w' fun e w'' => ∃ zo zc, e = .returned (.slice zo 32 zc) ∧ OB w' w'' zo zc (sm 32 (D 0)) := fun w' hf => by
            have h := gsum_T 32 _ (D 0) w' (((unhide HG).2.1.fr0 (unhide HI).2).fr0 hf) (hs0.fr0 hf) ((unhide HI).1.byt 0 (by decide)) (by omega)
            rw [e0] at h
            exact h
          have cG1 : ∀ w', Fr (fun _ => False) wq w' → Calls Tryd.prog 20 #[.int .i64 32, .slice a1 (D 1).length c1] w' fun e w'' => ∃ zo zc, e = .returned (.slice zo 32 zc) ∧ OB w' w'' zo zc (sm 32 (D 1)) := fun w' hf => by
            have h := gsum_T 32 _ (D 1) w' (((unhide HG).2.1.fr0 (unhide HI).2).fr0 hf) (hs1.fr0 hf) ((unhide HI).1.byt 1 (by decide)) (by omega)
            rw [e1] at h
            exact h
          have sOB : ∀ {wa wb : World} {yo : Option Addr} {yc : Nat} {l : List Nat}, OB wa wb yo yc l → l.length = 32 → Src wb (.slice yo 32 yc) l := fun h hl => by have := h.src; rw [hl] at this; exact this
          have HC := hide (And.intro cS0 (And.intro cS1 (And.intro cG0 (And.intro cG1 (And.intro e0 e1)))))
          clear cS0 cS1 cG0 cG1 e0 e1 hH0 hH1 hs0 hs1 hd0 hd1 hl0 hl1
          generalize (D 0).length = L0 at *
          generalize (D 1).length = L1 at *
          have T1 : True := trivial
          have T2 : True := trivial
          have T3 : True := trivial
          go_wp2_with fail
          go_region_held3 (fun w' => w'.cell? ⟨gm + 1, 0, none⟩ = some (.slice a0 L0 c0) ∧ w'.cell? ⟨gm + 1, 1, none⟩ = some (.slice a1 L1 c1)) (first | assumption | (exact ⟨d0, d1⟩) | (exact ⟨(fF.cell (p := ⟨gm + 1, 0, none⟩) (lt_of_cell d0) (fun h => h)).trans d0, (fF.cell (p := ⟨gm + 1, 1, none⟩) (lt_of_cell d1) (fun h => h)).trans d1⟩) | (exact ⟨(fE.cell (p := ⟨gm + 1, 0, none⟩) (lt_of_cell d0) (fun h => h)).trans d0, (fE.cell (p := ⟨gm + 1, 1, none⟩) (lt_of_cell d1) (fun h => h)).trans d1⟩) | (exact ⟨(fD.cell (p := ⟨gm + 1, 0, none⟩) (lt_of_cell d0) (fun h => h)).trans d0, (fD.cell (p := ⟨gm + 1, 1, none⟩) (lt_of_cell d1) (fun h => h)).trans d1⟩) | (exact ⟨(fC.cell (p := ⟨gm + 1, 0, none⟩) (lt_of_cell d0) (fun h => h)).trans d0, (fC.cell (p := ⟨gm + 1, 1, none⟩) (lt_of_cell d1) (fun h => h)).trans d1⟩) | (exact ⟨(fB.cell (p := ⟨gm + 1, 0, none⟩) (lt_of_cell d0) (fun h => h)).trans d0, (fB.cell (p := ⟨gm + 1, 1, none⟩) (lt_of_cell d1) (fun h => h)).trans d1⟩) | (exact ⟨(fA.cell (p := ⟨gm + 1, 0, none⟩) (lt_of_cell d0) (fun h => h)).trans d0, (fA.cell (p := ⟨gm + 1, 1, none⟩) (lt_of_cell d1) (fun h => h)).trans d1⟩))
            (first
              | (go_at_call 14; clear T1; refine ((unhide HC).1 _ ((Fr.refl _ _).drew)).mono ?_; rintro e wA ⟨yA, rfl, oA⟩; have fA : Fr (fun _ => False) wq wA := ((Fr.refl (fun _ => False) wq).drew).trans oA.fr (fun _ _ h => h))
              | (go_at_call 20; clear T2; refine ((unhide HC).2.2.1 _ fA).mono ?_; rintro e wB ⟨zB, zcB, rfl, oB⟩; have fB : Fr (fun _ => False) wq wB := fA.trans oB.fr (fun _ _ h => h))
              | (go_at_call 9; clear T3; refine (same_T ((sOB oA (unhide HC).2.2.2.2.1).fr0 oB.fr) (sOB oB (unhide HC).2.2.2.2.1) (by rw [(unhide HC).2.2.2.2.1]; decide) (sameB_refl _)).mono ?_; rintro e wC ⟨rfl, hC⟩; have fC : Fr (fun _ => False) wq wC := fB.trans hC (fun _ _ h => h))
              | (go_at_call 14; refine ((unhide HC).2.1 _ fC).mono ?_; rintro e wD ⟨yD, rfl, oD⟩; have fD : Fr (fun _ => False) wq wD := fC.trans oD.fr (fun _ _ h => h))
              | (go_at_call 20; refine ((unhide HC).2.2.2.1 _ fD).mono ?_; rintro e wE ⟨zE, zcE, rfl, oE⟩; have fE : Fr (fun _ => False) wq wE := fD.trans oE.fr (fun _ _ h => h))
              | (go_at_call 9; refine (same_T ((sOB oD (unhide HC).2.2.2.2.2).fr0 oE.fr) (sOB oE (unhide HC).2.2.2.2.2) (by rw [(unhide HC).2.2.2.2.2]; decide) (sameB_refl _)).mono ?_; rintro e wF ⟨rfl, hFs⟩; have fF : Fr (fun _ => False) wq wF := fE.trans hFs (fun _ _ h => h)))
          have HF := hide ((unhide HI).2.trans fF (fun _ _ h => h))
          go_wp2_with fail
          go_ret
          exact ⟨rfl, unhide HF⟩
end Go.Proofs.YtheehhplopbceaaDoor
