import Derived.Test.YtiknjghcjaaenaaGreatDoorKOaw
namespace Go.Proofs.YtiknjghcjaaenaaGreatDoor
open Go.RowKit Go.Shelf
theorem own_ne {w : World} {b1 b2 e1 e2 s1 s2 n1 n2 : Nat} {v1 v2 : Value} {x1 x2 : List Value} (h1 : w.ownsRow b1 e1 s1 v1 n1 x1) (h2 : w.ownsRow b2 e2 s2 v2 n2 x2) (he : e1 ≠ e2) : ∀ g, v1.ownBlock = some g → v2.ownBlock ≠ some g := by
 intro g h3 h4
 rcases h1.2 with ⟨rfl, _⟩ | ⟨g1, c1, cur1, rfl, _, k1, _⟩
 ·cases h3
 ·rcases h2.2 with ⟨rfl, _⟩ | ⟨g2, c2, cur2, rfl, _, k2, _⟩
  ·cases h4
  ·cases h3; cases h4
   rw [k1] at k2
   cases k2
   exact he rfl
theorem own_blk {w : World} {b1 e1 s1 n1 : Nat} {v1 : Value} {x1 : List Value} (h1 : w.ownsRow b1 e1 s1 v1 n1 x1) {g : Nat} (h3 : v1.ownBlock = some g) : ∃ cur, w.heap[g]? = some (.cells cur e1) := by
 rcases h1.2 with ⟨rfl, _⟩ | ⟨g1, c1, cur1, rfl, _, k1, _⟩
 ·cases h3
 ·cases h3
  exact ⟨_, k1⟩
theorem blk_ne {w : World} {b1 e1 s1 n1 b e : Nat} {v1 : Value} {x1 : List Value} {cs : Array Value} (h1 : w.ownsRow b1 e1 s1 v1 n1 x1) (hb : w.heap[b]? = some (.cells cs e)) (he : e1 ≠ e) : v1.ownBlock ≠ some b := by
 intro h3
 obtain ⟨cur, k1⟩ := own_blk h1 h3
 rw [hb] at k1
 cases k1
 exact he rfl
theorem set_id {α : Type} {l : List α} {k : Nat} {x : α} (h : l[k]? = some x) : l.set k x = l := by
 apply List.ext_getElem?
 intro j
 rw [List.getElem?_set]
 by_cases hj : k = j
 ·subst hj
  rw [if_pos rfl, if_pos (List.getElem?_eq_some_iff.1 h).1, h]
 ·rw [if_neg hj]
def RW.put (q : RW) (i : Nat) (g v : Value) (f : Nat → Value) : RW := ⟨q.sv, q.cv, fun j => if j = i then g else q.gv j, fun j => if j = i then v else q.vv j, fun j => if j = i then f else q.fv j⟩
theorem ccells_off (q : RW) (i : Nat) (g v : Value) (f : Nat → Value) : ∀ (C : List CM) (i0 : Nat), (i < i0 ∨ i0 + C.length ≤ i) → ccells (q.put i g v f) i0 C = ccells q i0 C
 | [], _, _ => rfl
 | c :: r, i0, h => by
  have hne : ¬ i0 = i := by simp only [List.length_cons] at h; omega
  simp only [ccells, RW.put, if_neg hne]
  rw [← ccells_off q i g v f r (i0 + 1) (by simp only [List.length_cons] at h; omega)]
  rfl
theorem ccells_put (q : RW) (g v : Value) (f : Nat → Value) (c' : CM) : ∀ (C : List CM) (i0 i : Nat), i < C.length → ccells (q.put (i0 + i) g v f) i0 (C.set i c') = (((((ccells q i0 C).set (i * 5) (.int .u32 (c'.wa : Nat))).set (i * 5 + 1) (.int .u32 (c'.ow : Nat))).set (i * 5 + 2) (.bool c'.sl)).set (i * 5 + 3) g).set (i * 5 + 4) v
 | [], _, _, h => by simp at h
 | x :: r, i0, 0, _ => by
  simp only [List.set_cons_zero, ccells, Nat.add_zero, Nat.zero_mul, Nat.zero_add, List.set_cons_succ, RW.put]
  have := ccells_off q i0 g v f r (i0 + 1) (.inl (by omega))
  simp only [RW.put] at this
  rw [this]
  simp only [if_true]
 | x :: r, i0, i + 1, h => by
  have ih := ccells_put q g v f c' r (i0 + 1) i (by simpa using h)
  rw [show i0 + 1 + i = i0 + (i + 1) by omega] at ih
  have hne : ¬ i0 = i0 + (i + 1) := by omega
  rw [show (i + 1) * 5 = i * 5 + 1 + 1 + 1 + 1 + 1 by omega]
  simp only [List.set_cons_succ, ccells]
  rw [ih]
  simp only [RW.put, if_neg hne]
theorem ccells_app (q : RW) : ∀ (C : List CM) (i0 : Nat) (c : CM), ccells q i0 (C ++ [c]) = ccells q i0 C ++ [.int .u32 (c.wa : Nat), .int .u32 (c.ow : Nat), .bool c.sl, q.gv (i0 + C.length), q.vv (i0 + C.length)]
 | [], i0, c => by simp [ccells]
 | x :: r, i0, c => by
  simp only [List.cons_append, ccells, List.length_cons]
  rw [ccells_app q r (i0 + 1) c, show i0 + 1 + r.length = i0 + (r.length + 1) by omega]
theorem vcells_off (f f' : Nat → Value) : ∀ (V : List VM) (j0 : Nat), (∀ j, j0 ≤ j → j < j0 + V.length → f' j = f j) → vcells f' j0 V = vcells f j0 V
 | [], _, _ => rfl
 | v :: r, j0, h => by
  simp only [vcells]
  rw [h j0 (Nat.le_refl _) (by simp), vcells_off f f' r (j0 + 1) (fun j h1 h2 => h j (by omega) (by simp only [List.length_cons]; omega))]
theorem vcells_app (f : Nat → Value) : ∀ (V : List VM) (j0 : Nat) (v : VM), vcells f j0 (V ++ [v]) = vcells f j0 V ++ [.int .u32 (v.au : Nat), .int .u32 (v.ev : Nat), f (j0 + V.length), .bool v.rd]
 | [], j0, v => by simp [vcells]
 | x :: r, j0, v => by
  simp only [List.cons_append, vcells, List.length_cons]
  rw [vcells_app f r (j0 + 1) v, show j0 + 1 + r.length = j0 + (r.length + 1) by omega]
theorem vcells_put (f : Nat → Value) (x : Value) (v' : VM) : ∀ (V : List VM) (j0 k : Nat), k < V.length → vcells (fun j => if j = j0 + k then x else f j) j0 (V.set k v') = ((((vcells f j0 V).set (k * 4) (.int .u32 (v'.au : Nat))).set (k * 4 + 1) (.int .u32 (v'.ev : Nat))).set (k * 4 + 2) x).set (k * 4 + 3) (.bool v'.rd)
 | [], _, _, h => by simp at h
 | y :: r, j0, 0, _ => by
  simp only [List.set_cons_zero, vcells, Nat.add_zero, Nat.zero_mul, Nat.zero_add, List.set_cons_succ, if_true]
  rw [vcells_off f (fun j => if j = j0 then x else f j) r (j0 + 1) (fun j h1 _ => if_neg (by omega))]
 | y :: r, j0, k + 1, h => by
  have ih := vcells_put f x v' r (j0 + 1) k (by simpa using h)
  rw [show j0 + 1 + k = j0 + (k + 1) by omega] at ih
  have hne : ¬ j0 = j0 + (k + 1) := by omega
  rw [show (k + 1) * 4 = k * 4 + 1 + 1 + 1 + 1 by omega]
  simp only [List.set_cons_succ, vcells, if_neg hne]
  rw [ih]
theorem FdM.ltg {w : World} {M : Nat → Prop} {x : Value} {l : List F5} (h : FdM w M x l) {g o n c : Nat} (e : x = .slice (some ⟨g, o, none⟩) n c) (hn : 0 < n) : g < w.heap.size := by
 obtain ⟨xo, xc, e2⟩ := h.f.form
 rw [e2] at e
 cases e
 have hf := h.f
 rw [e2] at hf
 obtain ⟨g', o', e3, c0, _⟩ := hf.at_ 0 hn
 cases e3
 exact lt_of_cell c0
theorem Stf.ltg {w : World} {x : Value} {l : List P3} (h : Stf w x l) {g o n c : Nat} (e : x = .slice (some ⟨g, o, none⟩) n c) (hn : 0 < n) : g < w.heap.size := by
 obtain ⟨xo, xc, e2⟩ := h.form
 rw [e2] at e
 cases e
 rw [e2] at h
 obtain ⟨g', o', e3, c0, _⟩ := h.at_ 0 hn
 cases e3
 exact lt_of_cell c0
theorem FdM.more {w w' : World} {M M' S : Nat → Prop} {x : Value} {l : List F5} (h : FdM w M x l) (hf : Fr S w w') (hS : ∀ k, S k → M k) (hM : ∀ k, M' k → M k ∨ w.heap.size ≤ k) : FdM w' M' x l :=
 ⟨(h.frS hf hS).f, fun g o n c e hn hm => by
  rcases hM g hm with h1 | h1
  ·exact h.m g o n c e hn h1
  ·have := h.ltg e hn
   omega, h.c, h.z⟩
theorem RsAt.put {w w' : World} {b : Nat} {s : RM} {q : RW} {M : Nat → Prop} (h : RsAt w b s q M) {i : Nat} {c : CM} (hc : s.C[i]? = some c) (c' : CM) (g' v' : Value) (f' : Nat → Value)
  (hf : Fr (fun k => q.cv.ownBlock = some k ∨ (q.gv i).ownBlock = some k ∨ (q.vv i).ownBlock = some k) w w')
  (hch : w'.ownsRow 0 87 5 q.cv s.C.length (ccells (q.put i g' v' f') 0 (s.C.set i c')))
  (hgr : w'.ownsRow 0 31 1 g' c'.G.length (ncells c'.G)) (hve : w'.ownsRow 0 110 4 v' c'.V.length (vcells f' 0 c'.V))
  (hfl : ∀ j v, c'.V[j]? = some v → FdM w' (fun k => M k ∨ g'.ownBlock = some k ∨ v'.ownBlock = some k) (f' j) v.F)
  (hg : ∀ k, g'.ownBlock = some k → (q.gv i).ownBlock = some k ∨ w.heap.size ≤ k) (hv : ∀ k, v'.ownBlock = some k → (q.vv i).ownBlock = some k ∨ w.heap.size ≤ k) :
  RsAt w' b ⟨s.S, s.C.set i c'⟩ (q.put i g' v' f') (fun k => M k ∨ g'.ownBlock = some k ∨ v'.ownBlock = some k) := by
 have hi : i < s.C.length := (List.getElem?_eq_some_iff.1 hc).1
 have hSM : ∀ k, (q.cv.ownBlock = some k ∨ (q.gv i).ownBlock = some k ∨ (q.vv i).ownBlock = some k) → M k := fun k hk => by
  rcases hk with hk | hk | hk
  ·exact h.mc k hk
  ·exact h.mg i c hc k hk
  ·exact h.mv i c hc k hk
 have hMM : ∀ k, (M k ∨ g'.ownBlock = some k ∨ v'.ownBlock = some k) → M k ∨ w.heap.size ≤ k := fun k hk => by
  rcases hk with hk | hk | hk
  ·exact .inl hk
  ·rcases hg k hk with h1 | h1
   ·exact .inl (h.mg i c hc k h1)
   ·exact .inr h1
  ·rcases hv k hk with h1 | h1
   ·exact .inl (h.mv i c hc k h1)
   ·exact .inr h1
 have hget : ∀ j d, (s.C.set i c')[j]? = some d → (j = i ∧ d = c') ∨ (j ≠ i ∧ s.C[j]? = some d) := fun j d hd => by
  rw [List.getElem?_set] at hd
  by_cases hj : i = j
  ·rw [if_pos hj, if_pos (by omega)] at hd
   exact .inl ⟨hj.symm, by cases hd; rfl⟩
  ·rw [if_neg hj] at hd
   exact .inr ⟨fun e => hj e.symm, hd⟩
 have eg : ∀ j, j ≠ i → (q.put i g' v' f').gv j = q.gv j := fun j hj => if_neg hj
 have ev : ∀ j, j ≠ i → (q.put i g' v' f').vv j = q.vv j := fun j hj => if_neg hj
 have ef : ∀ j, j ≠ i → (q.put i g' v' f').fv j = q.fv j := fun j hj => if_neg hj
 have eg' : (q.put i g' v' f').gv i = g' := if_pos rfl
 have ev' : (q.put i g' v' f').vv i = v' := if_pos rfl
 have ef' : (q.put i g' v' f').fv i = f' := if_pos rfl
 have tgc : ∀ j d, s.C[j]? = some d → ∀ g, (q.gv j).ownBlock = some g → q.cv.ownBlock ≠ some g := fun j d hd => own_ne (h.gr j d hd) h.ch (by decide)
 have tvc : ∀ j d, s.C[j]? = some d → ∀ g, (q.vv j).ownBlock = some g → q.cv.ownBlock ≠ some g := fun j d hd => own_ne (h.ve j d hd) h.ch (by decide)
 have tgv : ∀ j d, s.C[j]? = some d → ∀ g, (q.gv j).ownBlock = some g → (q.vv i).ownBlock ≠ some g := fun j d hd => own_ne (h.gr j d hd) (h.ve i c hc) (by decide)
 have tvg : ∀ j d, s.C[j]? = some d → ∀ g, (q.vv j).ownBlock = some g → (q.gv i).ownBlock ≠ some g := fun j d hd => own_ne (h.ve j d hd) (h.gr i c hc) (by decide)
 refine ⟨?_, ?_, ?_, ?_, ?_, ?_, ?_, .inl h.mb, fun g hg1 => .inl (h.mc g hg1), ?_, ?_, ?_, ?_, ?_⟩
 ·refine (hf.block b (h.lt b h.mb) (fun hk => ?_)).trans h.blk
  rcases hk with hk | hk | hk
  ·exact blk_ne h.ch h.blk (by decide) hk
  ·exact blk_ne (h.gr i c hc) h.blk (by decide) hk
  ·exact blk_ne (h.ve i c hc) h.blk (by decide) hk
 ·exact h.st.frM hf (fun g o n c1 e h0 hk => h.sm g o n c1 e h0 (hSM g hk))
 ·intro g o n c1 e h0 hk
  rcases hMM g hk with h1 | h1
  ·exact h.sm g o n c1 e h0 h1
  ·have := h.st.ltg e h0
   omega
 ·rw [List.length_set]; exact hch
 ·intro j d hd
  rcases hget j d hd with ⟨rfl, rfl⟩ | ⟨hj, hd⟩
  ·rw [eg']; exact hgr
  ·rw [eg j hj]
   refine ownsRow_of_block (h.gr j d hd) (fun g hg1 => hf.block g (h.lt g (h.mg j d hd g hg1)) (fun hk => ?_))
   rcases hk with hk | hk | hk
   ·exact tgc j d hd g hg1 hk
   ·exact h.ag j i d c hd hc hj g hg1 hk
   ·exact tgv j d hd g hg1 hk
 ·intro j d hd
  rcases hget j d hd with ⟨rfl, rfl⟩ | ⟨hj, hd⟩
  ·rw [ev', ef']; exact hve
  ·rw [ev j hj, ef j hj]
   refine ownsRow_of_block (h.ve j d hd) (fun g hg1 => hf.block g (h.lt g (h.mv j d hd g hg1)) (fun hk => ?_))
   rcases hk with hk | hk | hk
   ·exact tvc j d hd g hg1 hk
   ·exact tvg j d hd g hg1 hk
   ·exact h.av j i d c hd hc hj g hg1 hk
 ·intro j d k v hd hv1
  rcases hget j d hd with ⟨rfl, rfl⟩ | ⟨hj, hd⟩
  ·rw [ef']; exact hfl k v hv1
  ·rw [ef j hj]
   exact (h.fl j d k v hd hv1).more hf hSM hMM
 ·intro j d hd g hg1
  rcases hget j d hd with ⟨rfl, rfl⟩ | ⟨hj, hd⟩
  ·rw [eg'] at hg1; exact .inr (.inl hg1)
  ·rw [eg j hj] at hg1; exact .inl (h.mg j d hd g hg1)
 ·intro j d hd g hg1
  rcases hget j d hd with ⟨rfl, rfl⟩ | ⟨hj, hd⟩
  ·rw [ev'] at hg1; exact .inr (.inr hg1)
  ·rw [ev j hj] at hg1; exact .inl (h.mv j d hd g hg1)
 ·intro j k d d2 hd hd2 hjk g hg1 hg2
  rcases hget j d hd with ⟨rfl, rfl⟩ | ⟨hj, hd'⟩
  ·rcases hget k d2 hd2 with ⟨rfl, rfl⟩ | ⟨hk, hd2⟩
   ·exact hjk rfl
   ·rw [eg'] at hg1; rw [eg k hk] at hg2
    rcases hg g hg1 with h1 | h1
    ·exact h.ag j k c d2 hc hd2 hjk g h1 hg2
    ·have := h.lt g (h.mg k d2 hd2 g hg2)
     omega
  ·rcases hget k d2 hd2 with ⟨rfl, rfl⟩ | ⟨hk, hd2⟩
   ·rw [eg'] at hg2; rw [eg j hj] at hg1
    rcases hg g hg2 with h1 | h1
    ·exact h.ag j k d c hd' hc hjk g hg1 h1
    ·have := h.lt g (h.mg j d hd' g hg1)
     omega
   ·rw [eg j hj] at hg1; rw [eg k hk] at hg2
    exact h.ag j k d d2 hd' hd2 hjk g hg1 hg2
 ·intro j k d d2 hd hd2 hjk g hg1 hg2
  rcases hget j d hd with ⟨rfl, rfl⟩ | ⟨hj, hd'⟩
  ·rcases hget k d2 hd2 with ⟨rfl, rfl⟩ | ⟨hk, hd2⟩
   ·exact hjk rfl
   ·rw [ev'] at hg1; rw [ev k hk] at hg2
    rcases hv g hg1 with h1 | h1
    ·exact h.av j k c d2 hc hd2 hjk g h1 hg2
    ·have := h.lt g (h.mv k d2 hd2 g hg2)
     omega
  ·rcases hget k d2 hd2 with ⟨rfl, rfl⟩ | ⟨hk, hd2⟩
   ·rw [ev'] at hg2; rw [ev j hj] at hg1
    rcases hv g hg2 with h1 | h1
    ·exact h.av j k d c hd' hc hjk g hg1 h1
    ·have := h.lt g (h.mv j d hd' g hg1)
     omega
   ·rw [ev j hj] at hg1; rw [ev k hk] at hg2
    exact h.av j k d d2 hd' hd2 hjk g hg1 hg2
 ·intro k hk
  rcases hk with hk | hk | hk
  ·exact Nat.lt_of_lt_of_le (h.lt k hk) hf.size
  ·exact (hgr.lt k hk).2
  ·exact (hve.lt k hk).2
theorem RsAt.add {w w' : World} {b : Nat} {s : RM} {q : RW} {M : Nat → Prop} (h : RsAt w b s q M) (c' : CM) (cv' v' : Value) (f' : Nat → Value) (hG : c'.G = [])
  (hf : Fr (fun k => q.cv.ownBlock = some k ∨ k = b) w w')
  (hb : w'.heap[b]? = some (.cells #[q.sv, cv'] 66))
  (hch : w'.ownsRow 0 87 5 cv' (s.C ++ [c']).length (ccells (q.put s.C.length (.slice none 0 0) v' f') 0 (s.C ++ [c'])))
  (hve : w'.ownsRow 0 110 4 v' c'.V.length (vcells f' 0 c'.V))
  (hfl : ∀ j v, c'.V[j]? = some v → FdM w' (fun k => M k ∨ cv'.ownBlock = some k ∨ v'.ownBlock = some k) (f' j) v.F)
  (hcv : ∀ k, cv'.ownBlock = some k → q.cv.ownBlock = some k ∨ w.heap.size ≤ k) (hv : ∀ k, v'.ownBlock = some k → w.heap.size ≤ k) :
  RsAt w' b ⟨s.S, s.C ++ [c']⟩ ⟨q.sv, cv', (q.put s.C.length (.slice none 0 0) v' f').gv, (q.put s.C.length (.slice none 0 0) v' f').vv, (q.put s.C.length (.slice none 0 0) v' f').fv⟩ (fun k => M k ∨ cv'.ownBlock = some k ∨ v'.ownBlock = some k) := by
 have hSM : ∀ k, (q.cv.ownBlock = some k ∨ k = b) → M k := fun k hk => by
  rcases hk with hk | rfl
  ·exact h.mc k hk
  ·exact h.mb
 have hMM : ∀ k, (M k ∨ cv'.ownBlock = some k ∨ v'.ownBlock = some k) → M k ∨ w.heap.size ≤ k := fun k hk => by
  rcases hk with hk | hk | hk
  ·exact .inl hk
  ·rcases hcv k hk with h1 | h1
   ·exact .inl (h.mc k h1)
   ·exact .inr h1
  ·exact .inr (hv k hk)
 have hget : ∀ j d, (s.C ++ [c'])[j]? = some d → (j = s.C.length ∧ d = c') ∨ (j ≠ s.C.length ∧ s.C[j]? = some d) := fun j d hd => by
  by_cases hj : j < s.C.length
  ·rw [List.getElem?_append_left hj] at hd
   exact .inr ⟨by omega, hd⟩
  ·rw [List.getElem?_append_right (by omega)] at hd
   obtain ⟨h1, h2⟩ := List.getElem?_eq_some_iff.1 hd
   simp only [List.length_singleton] at h1
   have h3 : j = s.C.length := by omega
   refine .inl ⟨h3, ?_⟩
   subst h3
   simpa using h2.symm
 have eg : ∀ j, j ≠ s.C.length → (q.put s.C.length (.slice none 0 0) v' f').gv j = q.gv j := fun j hj => if_neg hj
 have ev : ∀ j, j ≠ s.C.length → (q.put s.C.length (.slice none 0 0) v' f').vv j = q.vv j := fun j hj => if_neg hj
 have ef : ∀ j, j ≠ s.C.length → (q.put s.C.length (.slice none 0 0) v' f').fv j = q.fv j := fun j hj => if_neg hj
 have eg' : (q.put s.C.length (.slice none 0 0) v' f').gv s.C.length = .slice none 0 0 := if_pos rfl
 have ev' : (q.put s.C.length (.slice none 0 0) v' f').vv s.C.length = v' := if_pos rfl
 have ef' : (q.put s.C.length (.slice none 0 0) v' f').fv s.C.length = f' := if_pos rfl
 have tgc : ∀ j d, s.C[j]? = some d → ∀ g, (q.gv j).ownBlock = some g → q.cv.ownBlock ≠ some g := fun j d hd => own_ne (h.gr j d hd) h.ch (by decide)
 have tvc : ∀ j d, s.C[j]? = some d → ∀ g, (q.vv j).ownBlock = some g → q.cv.ownBlock ≠ some g := fun j d hd => own_ne (h.ve j d hd) h.ch (by decide)
 refine ⟨hb, ?_, ?_, ?_, ?_, ?_, ?_, .inl h.mb, fun g hg1 => .inr (.inl hg1), ?_, ?_, ?_, ?_, ?_⟩
 ·exact h.st.frM hf (fun g o n c1 e h0 hk => h.sm g o n c1 e h0 (hSM g hk))
 ·intro g o n c1 e h0 hk
  rcases hMM g hk with h1 | h1
  ·exact h.sm g o n c1 e h0 h1
  ·have := h.st.ltg e h0
   omega
 ·have e : ∀ (C : List CM) (i0 : Nat), ccells ⟨q.sv, cv', (q.put s.C.length (.slice none 0 0) v' f').gv, (q.put s.C.length (.slice none 0 0) v' f').vv, (q.put s.C.length (.slice none 0 0) v' f').fv⟩ i0 C = ccells (q.put s.C.length (.slice none 0 0) v' f') i0 C := by
   intro C
   induction C with
   | nil => intro _; rfl
   | cons x r ih => intro i0; simp only [ccells]; rw [ih]
  rw [e]
  exact hch
 ·intro j d hd
  rcases hget j d hd with ⟨rfl, rfl⟩ | ⟨hj, hd⟩
  ·show w'.ownsRow 0 _ 1 ((q.put s.C.length (.slice none 0 0) v' f').gv s.C.length) _ _
   rw [eg', hG]; exact World.ownsRow_nil _ _ _ _
  ·show w'.ownsRow 0 _ 1 ((q.put s.C.length (.slice none 0 0) v' f').gv j) _ _
   rw [eg j hj]
   refine ownsRow_of_block (h.gr j d hd) (fun g hg1 => hf.block g (h.lt g (h.mg j d hd g hg1)) (fun hk => ?_))
   rcases hk with hk | rfl
   ·exact tgc j d hd g hg1 hk
   ·exact blk_ne (h.gr j d hd) h.blk (by decide) hg1
 ·intro j d hd
  rcases hget j d hd with ⟨rfl, rfl⟩ | ⟨hj, hd⟩
  ·show w'.ownsRow 0 _ 4 ((q.put s.C.length (.slice none 0 0) v' f').vv s.C.length) _ (vcells ((q.put s.C.length (.slice none 0 0) v' f').fv s.C.length) 0 _)
   rw [ev', ef']; exact hve
  ·show w'.ownsRow 0 _ 4 ((q.put s.C.length (.slice none 0 0) v' f').vv j) _ (vcells ((q.put s.C.length (.slice none 0 0) v' f').fv j) 0 _)
   rw [ev j hj, ef j hj]
   refine ownsRow_of_block (h.ve j d hd) (fun g hg1 => hf.block g (h.lt g (h.mv j d hd g hg1)) (fun hk => ?_))
   rcases hk with hk | rfl
   ·exact tvc j d hd g hg1 hk
   ·exact blk_ne (h.ve j d hd) h.blk (by decide) hg1
 ·intro j d k v hd hv1
  rcases hget j d hd with ⟨rfl, rfl⟩ | ⟨hj, hd⟩
  ·show FdM w' _ ((q.put s.C.length (.slice none 0 0) v' f').fv s.C.length k) _
   rw [ef']; exact hfl k v hv1
  ·show FdM w' _ ((q.put s.C.length (.slice none 0 0) v' f').fv j k) _
   rw [ef j hj]
   exact (h.fl j d k v hd hv1).more hf hSM hMM
 ·intro j d hd g (hg1 : ((q.put s.C.length (.slice none 0 0) v' f').gv j).ownBlock = some g)
  rcases hget j d hd with ⟨rfl, rfl⟩ | ⟨hj, hd⟩
  ·rw [eg'] at hg1; cases hg1
  ·rw [eg j hj] at hg1; exact .inl (h.mg j d hd g hg1)
 ·intro j d hd g (hg1 : ((q.put s.C.length (.slice none 0 0) v' f').vv j).ownBlock = some g)
  rcases hget j d hd with ⟨rfl, rfl⟩ | ⟨hj, hd⟩
  ·rw [ev'] at hg1; exact .inr (.inr hg1)
  ·rw [ev j hj] at hg1; exact .inl (h.mv j d hd g hg1)
 ·intro j k d d2 hd hd2 hjk g (hg1 : ((q.put s.C.length (.slice none 0 0) v' f').gv j).ownBlock = some g) (hg2 : ((q.put s.C.length (.slice none 0 0) v' f').gv k).ownBlock = some g)
  rcases hget j d hd with ⟨rfl, rfl⟩ | ⟨hj, hd'⟩
  ·rw [eg'] at hg1; cases hg1
  ·rcases hget k d2 hd2 with ⟨rfl, rfl⟩ | ⟨hk, hd2'⟩
   ·rw [eg'] at hg2; cases hg2
   ·rw [eg j hj] at hg1; rw [eg k hk] at hg2
    exact h.ag j k d d2 hd' hd2' hjk g hg1 hg2
 ·intro j k d d2 hd hd2 hjk g (hg1 : ((q.put s.C.length (.slice none 0 0) v' f').vv j).ownBlock = some g) (hg2 : ((q.put s.C.length (.slice none 0 0) v' f').vv k).ownBlock = some g)
  rcases hget j d hd with ⟨rfl, rfl⟩ | ⟨hj, hd'⟩
  ·rcases hget k d2 hd2 with ⟨rfl, rfl⟩ | ⟨hk, hd2'⟩
   ·exact hjk rfl
   ·rw [ev'] at hg1; rw [ev k hk] at hg2
    have h1 := hv g hg1
    have := h.lt g (h.mv k d2 hd2' g hg2)
    omega
  ·rcases hget k d2 hd2 with ⟨rfl, rfl⟩ | ⟨hk, hd2'⟩
   ·rw [ev'] at hg2; rw [ev j hj] at hg1
    have h1 := hv g hg2
    have := h.lt g (h.mv j d hd' g hg1)
    omega
   ·rw [ev j hj] at hg1; rw [ev k hk] at hg2
    exact h.av j k d d2 hd' hd2' hjk g hg1 hg2
 ·intro k hk
  rcases hk with hk | hk | hk
  ·exact Nat.lt_of_lt_of_le (h.lt k hk) hf.size
  ·exact (hch.lt k hk).2
  ·exact (hve.lt k hk).2
def RW.uses (q : RW) (s : RM) (k : Nat) : Prop := (∃ o n c, q.sv = .slice (some ⟨k, o, none⟩) n c ∧ 0 < n) ∨ ∃ i c j v, s.C[i]? = some c ∧ c.V[j]? = some v ∧ ∃ o n m, q.fv i j = .slice (some ⟨k, o, none⟩) n m ∧ 0 < n
def RsTo (w w' : World) (b : Nat) (s s' : RM) (q : RW) (M : Nat → Prop) : Prop := ∃ q' M', RsAt w' b s' q' M' ∧ (∀ k, M' k → M k ∨ w.heap.size ≤ k) ∧ (∀ k, q'.uses s' k → q.uses s k ∨ w.heap.size ≤ k) ∧ Fr M w w'
theorem RW.uses_put {q : RW} {s : RM} {i : Nat} {c : CM} (hc : s.C[i]? = some c) (c' : CM) (g v : Value) (f : Nat → Value) {k : Nat} (h : (q.put i g v f).uses ⟨s.S, s.C.set i c'⟩ k) : q.uses s k ∨ ∃ j u, c'.V[j]? = some u ∧ ∃ o n m, f j = .slice (some ⟨k, o, none⟩) n m ∧ 0 < n := by
 have hi : i < s.C.length := (List.getElem?_eq_some_iff.1 hc).1
 rcases h with h | ⟨j, d, jj, u, hd, hu, ho⟩
 ·exact .inl (.inl h)
 ·by_cases hj : i = j
  ·subst hj
   rw [List.getElem?_set_self hi] at hd
   cases hd
   have e : (q.put i g v f).fv i = f := if_pos rfl
   rw [e] at ho
   exact .inr ⟨jj, u, hu, ho⟩
  ·rw [List.getElem?_set_ne hj] at hd
   have e : (q.put i g v f).fv j = q.fv j := if_neg (fun e => hj e.symm)
   rw [e] at ho
   exact .inl (.inr ⟨j, d, jj, u, hd, hu, ho⟩)
theorem RW.uses_add {q : RW} {s : RM} (c' : CM) (cv v : Value) (f : Nat → Value) {k : Nat} (h : RW.uses ⟨q.sv, cv, (q.put s.C.length (.slice none 0 0) v f).gv, (q.put s.C.length (.slice none 0 0) v f).vv, (q.put s.C.length (.slice none 0 0) v f).fv⟩ ⟨s.S, s.C ++ [c']⟩ k) : q.uses s k ∨ ∃ j u, c'.V[j]? = some u ∧ ∃ o n m, f j = .slice (some ⟨k, o, none⟩) n m ∧ 0 < n := by
 rcases h with h | ⟨j, d, jj, u, hd, hu, ho⟩
 ·exact .inl (.inl h)
 ·have ho' : ∃ o n m, (q.put s.C.length (.slice none 0 0) v f).fv j jj = .slice (some ⟨k, o, none⟩) n m ∧ 0 < n := ho
  by_cases hj : j < s.C.length
  ·have hd' : (s.C ++ [c'])[j]? = some d := hd
   rw [List.getElem?_append_left hj] at hd'
   have e : (q.put s.C.length (.slice none 0 0) v f).fv j = q.fv j := if_neg (by omega)
   rw [e] at ho'
   exact .inl (.inr ⟨j, d, jj, u, hd', hu, ho'⟩)
  ·have hd' : (s.C ++ [c'])[j]? = some d := hd
   rw [List.getElem?_append_right (by omega)] at hd'
   obtain ⟨h1, h2⟩ := List.getElem?_eq_some_iff.1 hd'
   simp only [List.length_singleton] at h1
   have h3 : j = s.C.length := by omega
   subst h3
   have h4 : d = c' := by simpa using h2.symm
   subst h4
   have e : (q.put s.C.length (.slice none 0 0) v f).fv s.C.length = f := if_pos rfl
   rw [e] at ho'
   exact .inr ⟨jj, u, hu, ho'⟩
theorem RsAt.usesLt {w : World} {b : Nat} {s : RM} {q : RW} {M : Nat → Prop} (h : RsAt w b s q M) {k : Nat} (hk : q.uses s k) : k < w.heap.size := by
 rcases hk with ⟨o, n, c, e, h0⟩ | ⟨i, c, j, v, hc, hv, o, n, m, e, h0⟩
 ·exact h.st.ltg e h0
 ·exact (h.fl i c j v hc hv).ltg e h0
theorem RsAt.frD {w w' : World} {b : Nat} {s : RM} {q : RW} {M S : Nat → Prop} (h : RsAt w b s q M) (hf : Fr S w w') (hM : ∀ k, S k → ¬ M k) (hU : ∀ k, S k → ¬ q.uses s k) : RsAt w' b s q M :=
 ⟨(hf.block b (h.lt b h.mb) (fun hs => hM b hs h.mb)).trans h.blk, h.st.frM hf (fun g o n c e h0 hs => hU g hs (.inl ⟨o, n, c, e, h0⟩)), h.sm, ownsRow_of_block h.ch (fun g hg => hf.block g (h.lt g (h.mc g hg)) (fun hs => hM g hs (h.mc g hg))), fun i c hc => ownsRow_of_block (h.gr i c hc) (fun g hg => hf.block g (h.lt g (h.mg i c hc g hg)) (fun hs => hM g hs (h.mg i c hc g hg))), fun i c hc => ownsRow_of_block (h.ve i c hc) (fun g hg => hf.block g (h.lt g (h.mv i c hc g hg)) (fun hs => hM g hs (h.mv i c hc g hg))), fun i c j v hc hv => ⟨(h.fl i c j v hc hv).f.frS hf (fun g o n m e h0 hs => hU g hs (.inr ⟨i, c, j, v, hc, hv, o, n, m, e, h0⟩)), (h.fl i c j v hc hv).m, (h.fl i c j v hc hv).c, (h.fl i c j v hc hv).z⟩, h.mb, h.mc, h.mg, h.mv, h.ag, h.av, fun k hk => Nat.lt_of_lt_of_le (h.lt k hk) hf.size⟩
end Go.Proofs.YtiknjghcjaaenaaGreatDoor
