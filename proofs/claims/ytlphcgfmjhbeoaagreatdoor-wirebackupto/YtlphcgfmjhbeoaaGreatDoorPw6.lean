import Derived.Test.YtlphcgfmjhbeoaaGreatDoorPw5
import Derived.Test.YtlphcgfmjhbeoaaGreatDoorPw4
import Derived.Test.YtlphcgfmjhbeoaaGreatDoorKBase
import Derived.Deep.MidRow
namespace Go.Proofs.YtlphcgfmjhbeoaaGreatDoor
open Go.RowKit
theorem own_stp {w w' : World} {lo n e : Nat} {x : Value} {xs : List Value} {F F' : Nat → Prop} {P : Nat → Nat → Prop} (h : w.ownsRow lo e 1 x n xs) (hn : ∀ k, x.ownBlock = some k → ¬ F k) (hs : Stp w w' F F' P) (hP : ∀ k j, P k j → k < lo) : w'.ownsRow lo e 1 x n xs ∧ ∀ k, x.ownBlock = some k → ¬ F' k :=
 ⟨ownsRow_of_block h (fun k hk => hs.block (h.lt k hk).2 (hn k hk) (fun j hp => by have := hP k j hp; have := (h.lt k hk).1; omega)), fun k hk => hs.nF (h.lt k hk).2 (hn k hk)⟩
theorem BO.own {w0 w : World} {q : Q} {x' : Value} {l' : List Nat} {F : Nat → Prop} {g lo : Nat} (h : BO w0 w (.rd q) x' l' F g) (hlo : lo ≤ w0.heap.size) : w.ownsRow lo 5 1 x' l'.length (cellsOf l') ∧ (∀ k, x'.ownBlock = some k → ¬ F k) ∧ x'.oneCell' = true := by
 have hown := h.val q rfl
 refine ⟨own_mono hown hlo, fun k hk => ?_, ?_⟩
 ·obtain ⟨m, c, e⟩ := own_at hown hk
  exact (h.bv.bv.at_ k 0 m c e).2
 ·obtain ⟨xo, xc, rfl⟩ := h.bv.bv.src.form
  rfl
theorem bvg_nil (w : World) (F : Nat → Prop) (g : Nat) : BVg w (.slice none 0 0) [] F g := ⟨⟨.inl ⟨rfl, rfl⟩, fun _ _ _ _ e => (by cases e)⟩, fun _ _ _ _ e => (by cases e), by decide⟩
theorem own_one {w : World} {lo n : Nat} {x : Value} {xs : List Value} {e : Nat} (h : w.ownsRow lo e 1 x n xs) : x.oneCell' = true := by
 rcases h.2 with ⟨rfl, _⟩ | ⟨g, cap, cur, rfl, _⟩ <;> rfl
theorem errV_fr {w w' : World} {v : Value} {x : ByteArray × Nat × Nat} {E : Nat → Addr} {k0 : Nat} {vs : Array Value} {t : TypeId} (h : ErrV w v x E) (hf : Fr (fun k => k = k0) w w') (hb : w.heap[k0]? = some (.cells vs t)) (hne : t ≠ 83) : ErrV w' v x E := by
 rcases h with h | ⟨h1, h7, fb, rfl, hbb⟩
 ·exact .inl h
 ·have hlt : fb < w.heap.size := by
   rcases Nat.lt_or_ge fb w.heap.size with hx | hx
   ·exact hx
   ·rw [Array.getElem?_eq_none hx] at hbb; cases hbb
  refine .inr ⟨h1, h7, fb, rfl, (hf.block fb hlt (fun e => ?_)).trans hbb⟩
  rw [e, hb] at hbb
  simp [faultObj] at hbb
  exact hne hbb.2
theorem getHead (x : Value) (l : List Nat) (E : Nat → Addr) (w : World) (hg : G6 w E) (hw : 9 ≤ w.heap.size) (hx : Src w x l) (hl : l.length ≤ 140737488355328) :
  Calls Tryz.prog 22 #[x] w fun e w' => ∃ vs err, e = .returned (.tuple #[.agg vs, err]) ∧ ErrV w' err (headR l).1.rq.fin E ∧ ((headR l).1.rq.fin.2.2 ≠ 0 → vs = #[.int .u32 0, .slice none 0 0]) ∧ ((headR l).1.rq.fin.2.2 = 0 → ∃ y, vs = #[.int .u32 ((headR l).2.1 : Nat), y] ∧ w'.ownsRow w.heap.size 5 1 y (headR l).2.2.length (cellsOf (headR l).2.2)) ∧ Fr (fun _ => False) w w' := by
 obtain ⟨xo, xc, rfl⟩ := hx.form
 obtain ⟨wb, hwb⟩ : ∃ wb, w.alloc (.cells #[.int .u32 0, .slice none 0 0] 25) = wb := ⟨_, rfl⟩
 have hbx : Fr (fun _ => False) w wb := by rw [← hwb]; exact box1 _ _
 have hsb : wb.heap.size = w.heap.size + 1 := by rw [← hwb]; simp
 have hp := get_Head _ l (headR l).1.rq (fun w' F _ vs => ∃ y, vs = #[.int .u32 ((headR l).2.1 : Nat), y] ∧ w'.ownsRow (w.heap.size + 2) 5 1 y (headR l).2.2.length (cellsOf (headR l).2.2) ∧ ∀ k, y.ownBlock = some k → ¬ F k) E wb (hg.fr hbx (fun _ h => h.elim)) (by omega) (hx.fr hbx (fun _ _ _ _ _ h => h)) hl
  (fun w2 w' F F' P g vs ⟨y, h1, h2, h3⟩ hs hP => by
   obtain ⟨h4, h5⟩ := own_stp h2 h3 hs (fun k j hp => by have := hP k j hp; omega)
   exact ⟨y, h1, h4, h5⟩)
  (fun w1 cb b F g hC h0 h1 hL hF hgg hf => by
   refine (whole_Head (cr0 l) 0 [] (.slice none 0 0) cb b g F E w1 hC h0 h1 (bvg_nil w1 F g) hL (by decide) (by simp only [CS.room, CS.len, cr0]; omega)).mono ?_
   rintro e w' ⟨rfl, F', hC', hc0, y, hc1, hb, hs⟩
   have hlt := (hL 0).lt
   obtain ⟨ho, hn, h1c⟩ := BO.own (lo := w.heap.size + 2) hb (by omega)
   exact ⟨rfl, F', hC', _, y, hc0, hc1, fun v hv => by
    simp at hv
    rcases hv with rfl | rfl
    ·rfl
    ·exact h1c, ⟨y, rfl, ho, hn⟩, hs.mono (fun k j _ h => h.1)⟩)
 refine (GetHead_go xo l.length xc w (fun w' vs err => ErrV w' err (headR l).1.rq.fin E ∧ ((headR l).1.rq.fin.2.2 ≠ 0 → vs = #[.int .u32 0, .slice none 0 0]) ∧ ((headR l).1.rq.fin.2.2 = 0 → ∃ (y : Value) (F : Nat → Prop), vs = #[.int .u32 ((headR l).2.1 : Nat), y] ∧ w'.ownsRow (w.heap.size + 2) 5 1 y (headR l).2.2.length (cellsOf (headR l).2.2) ∧ ∀ k, y.ownBlock = some k → ¬ F k)) ?_).mono ?_
 ·rw [hwb]
  refine hp.mono ?_
  rintro e w' ⟨vs, err, rfl, hE, hz, hr, hf⟩
  by_cases h0 : (headR l).1.rq.fin.2.2 = 0
  ·obtain ⟨F', g, ⟨y, rfl, ho, hn⟩, _⟩ := hr h0
   exact ⟨_, _, err, rfl, fun v hv => by
    simp at hv
    rcases hv with rfl | rfl
    ·rfl
    ·exact own_one ho, hf, hE, fun h => absurd h0 h, fun _ => ⟨y, F', rfl, ho, hn⟩⟩
  ·obtain rfl := hz h0
   exact ⟨_, _, err, rfl, fun v hv => by
    simp at hv
    rcases hv with rfl | rfl <;> rfl, hf, hE, fun _ => rfl, fun h => absurd h h0⟩
 ·rintro e w' ⟨vs, err, rfl, w2, ⟨hE, hz, hr⟩, hf1, hs, hf, hrb⟩
  refine ⟨vs, err, rfl, errV_fr hE hf1 hrb (by decide), hz, fun h0 => ?_, hf⟩
  obtain ⟨y, F, h1, ho, hn⟩ := hr h0
  exact ⟨y, h1, ownsRow_base (own_stp ho hn (hs F) (fun k j h => by omega)).1 (by omega)⟩
theorem getSigned (x : Value) (l : List Nat) (E : Nat → Addr) (w : World) (hg : G6 w E) (hw : 9 ≤ w.heap.size) (hx : Src w x l) (hl : l.length ≤ 140737488355328) :
  Calls Tryz.prog 37 #[x] w fun e w' => ∃ vs err, e = .returned (.tuple #[.agg vs, err]) ∧ ErrV w' err (signedR l).1.rq.fin E ∧ ((signedR l).1.rq.fin.2.2 ≠ 0 → vs = #[.int .u32 0, .slice none 0 0, .int .u32 0, .slice none 0 0]) ∧ ((signedR l).1.rq.fin.2.2 = 0 → ∃ y z, vs = #[.int .u32 ((signedR l).2.1.1 : Nat), y, .int .u32 ((signedR l).2.2.1 : Nat), z] ∧ w'.ownsRow w.heap.size 5 1 y (signedR l).2.1.2.length (cellsOf (signedR l).2.1.2) ∧ w'.ownsRow w.heap.size 5 1 z (signedR l).2.2.2.length (cellsOf (signedR l).2.2.2)) ∧ Fr (fun _ => False) w w' := by
 obtain ⟨xo, xc, rfl⟩ := hx.form
 obtain ⟨wb, hwb⟩ : ∃ wb, w.alloc (.cells #[.int .u32 0, .slice none 0 0, .int .u32 0, .slice none 0 0] 37) = wb := ⟨_, rfl⟩
 have hbx : Fr (fun _ => False) w wb := by rw [← hwb]; exact box1 _ _
 have hsb : wb.heap.size = w.heap.size + 1 := by rw [← hwb]; simp
 have hp := get_Signed _ l (signedR l).1.rq (fun w' F _ vs => ∃ y z, vs = #[.int .u32 ((signedR l).2.1.1 : Nat), y, .int .u32 ((signedR l).2.2.1 : Nat), z] ∧ (w'.ownsRow (w.heap.size + 2) 5 1 y (signedR l).2.1.2.length (cellsOf (signedR l).2.1.2) ∧ ∀ k, y.ownBlock = some k → ¬ F k) ∧ w'.ownsRow (w.heap.size + 2) 5 1 z (signedR l).2.2.2.length (cellsOf (signedR l).2.2.2) ∧ ∀ k, z.ownBlock = some k → ¬ F k) E wb (hg.fr hbx (fun _ h => h.elim)) (by omega) (hx.fr hbx (fun _ _ _ _ _ h => h)) hl
  (fun w2 w' F F' P g vs ⟨y, z, h1, h2, h3⟩ hs hP => ⟨y, z, h1, own_stp h2.1 h2.2 hs (fun k j hp => by have := hP k j hp; omega), own_stp h3.1 h3.2 hs (fun k j hp => by have := hP k j hp; omega)⟩)
  (fun w1 cb b F g hC h0 h1 h2 h3 hL hF hgg hf => by
   refine (whole_Signed (cr0 l) 0 0 [] [] (.slice none 0 0) (.slice none 0 0) cb b g F E w1 hC h0 h1 h2 h3 (bvg_nil w1 F g) (bvg_nil w1 F g) hL (by decide) (by decide) (by simp only [CS.room, CS.len, cr0]; omega)).mono ?_
   rintro e w' ⟨rfl, F', hC', hc0, hc2, y, z, hc1, hc3, hb, hb2, hs⟩
   have hlt := (hL 0).lt
   obtain ⟨ho, hn, h1c⟩ := BO.own (lo := w.heap.size + 2) hb (by omega)
   obtain ⟨ho2, hn2, h1c2⟩ := BO.own (lo := w.heap.size + 2) hb2 (by omega)
   exact ⟨rfl, F', hC', _, y, _, z, hc0, hc1, hc2, hc3, fun v hv => by
    simp at hv
    rcases hv with rfl | rfl | rfl | rfl
    ·rfl
    ·exact h1c
    ·rfl
    ·exact h1c2, ⟨y, z, rfl, ⟨ho, hn⟩, ho2, hn2⟩, hs.mono (fun k j _ h => h.1)⟩)
 refine (GetSigned_go xo l.length xc w (fun w' vs err => ErrV w' err (signedR l).1.rq.fin E ∧ ((signedR l).1.rq.fin.2.2 ≠ 0 → vs = #[.int .u32 0, .slice none 0 0, .int .u32 0, .slice none 0 0]) ∧ ((signedR l).1.rq.fin.2.2 = 0 → ∃ (y z : Value) (F : Nat → Prop), vs = #[.int .u32 ((signedR l).2.1.1 : Nat), y, .int .u32 ((signedR l).2.2.1 : Nat), z] ∧ (w'.ownsRow (w.heap.size + 2) 5 1 y (signedR l).2.1.2.length (cellsOf (signedR l).2.1.2) ∧ ∀ k, y.ownBlock = some k → ¬ F k) ∧ w'.ownsRow (w.heap.size + 2) 5 1 z (signedR l).2.2.2.length (cellsOf (signedR l).2.2.2) ∧ ∀ k, z.ownBlock = some k → ¬ F k)) ?_).mono ?_
 ·rw [hwb]
  refine hp.mono ?_
  rintro e w' ⟨vs, err, rfl, hE, hz, hr, hf⟩
  by_cases h0 : (signedR l).1.rq.fin.2.2 = 0
  ·obtain ⟨F', g, ⟨y, z, rfl, ho, ho2⟩, _⟩ := hr h0
   exact ⟨_, _, _, _, err, rfl, fun v hv => by
    simp at hv
    rcases hv with rfl | rfl | rfl | rfl
    ·rfl
    ·exact own_one ho.1
    ·rfl
    ·exact own_one ho2.1, hf, hE, fun h => absurd h0 h, fun _ => ⟨y, z, F', rfl, ho, ho2⟩⟩
  ·obtain rfl := hz h0
   exact ⟨_, _, _, _, err, rfl, fun v hv => by
    simp at hv
    rcases hv with rfl | rfl | rfl | rfl <;> rfl, hf, hE, fun _ => rfl, fun h => absurd h h0⟩
 ·rintro e w' ⟨vs, err, rfl, w2, ⟨hE, hz, hr⟩, hf1, hs, hf, hrb⟩
  refine ⟨vs, err, rfl, errV_fr hE hf1 hrb (by decide), hz, fun h0 => ?_, hf⟩
  obtain ⟨y, z, F, h1, ho, ho2⟩ := hr h0
  exact ⟨y, z, h1, ownsRow_base (own_stp ho.1 ho.2 (hs F) (fun k j h => by omega)).1 (by omega), ownsRow_base (own_stp ho2.1 ho2.2 (hs F) (fun k j h => by omega)).1 (by omega)⟩
theorem proofR_eq (l : List Nat) : ∃ q, (proofR l).1 = .rd q := by
 have key : ∀ n c, (∃ q, c = CS.rd q) → ∃ q, (loopR (fun c v => c.pHash n_hash v) [] n c).1 = .rd q := by
  intro n
  induction n with
  | zero => intro c h; exact h
  | succ n ih =>
   intro c h
   obtain ⟨q, hq⟩ := ih c h
   show ∃ q, ((loopR (fun c v => c.pHash n_hash v) [] n c).1.pHash n_hash []).1 = .rd q
   rw [hq]
   exact ⟨_, rfl⟩
 exact key _ _ ⟨_, rfl⟩
theorem proofR_rq (l : List Nat) : (proofR l).1 = .rd (proofR l).1.rq := by
 obtain ⟨q, hq⟩ := proofR_eq l
 rw [hq]
 rfl
theorem getProof (x : Value) (l : List Nat) (E : Nat → Addr) (w : World) (hg : G6 w E) (hw : 9 ≤ w.heap.size) (hx : Src w x l) (hl : l.length ≤ 140737488355328) :
  Calls Tryz.prog 38 #[x] w fun e w' => ∃ vs err, e = .returned (.tuple #[.agg vs, err]) ∧ ErrV w' err (proofR l).1.rq.fin E ∧ ((proofR l).1.rq.fin.2.2 ≠ 0 → vs = #[.slice none 0 0]) ∧ ((proofR l).1.rq.fin.2.2 = 0 → ∃ y, vs = #[y] ∧ OwP w' w.heap.size y (proofR l).2 (fun _ => False)) ∧ Fr (fun _ => False) w w' := by
 obtain ⟨xo, xc, rfl⟩ := hx.form
 obtain ⟨wb, hwb⟩ : ∃ wb, w.alloc (.cells #[.slice none 0 0] 40) = wb := ⟨_, rfl⟩
 have hbx : Fr (fun _ => False) w wb := by rw [← hwb]; exact box1 _ _
 have hsb : wb.heap.size = w.heap.size + 1 := by rw [← hwb]; simp
 have hp := get_Proof _ l (proofR l).1.rq (fun w' F _ vs => ∃ y, vs = #[y] ∧ OwP w' (w.heap.size + 2) y (proofR l).2 F) E wb (hg.fr hbx (fun _ h => h.elim)) (by omega) (hx.fr hbx (fun _ _ _ _ _ h => h)) hl
  (fun w2 w' F F' P g vs ⟨y, h1, h2⟩ hs hP => ⟨y, h1, h2.stp hs (fun k j hk _ hp => by have := hP k j hp; omega)⟩)
  (fun w1 cb b F g hC h0 hL hF hgg hf => by
   refine (whole_Proof_r _ cb b g F E w1 hC h0 (hL 0)).mono ?_
   rintro e w' ⟨rfl, F', hC', y, hc, hO, hs⟩
   have hlt := (hL 0).lt
   obtain ⟨yo, yc, e1⟩ := hO.form
   exact ⟨rfl, F', by rw [← proofR_rq]; exact hC', y, hc, fun v hv => by
    simp at hv
    rw [hv, e1]
    rfl, ⟨y, rfl, hO.base (by omega)⟩, hs.mono (fun k j _ h => h.1)⟩)
 refine (GetProof_go xo l.length xc w (fun w' vs err => ErrV w' err (proofR l).1.rq.fin E ∧ ((proofR l).1.rq.fin.2.2 ≠ 0 → vs = #[.slice none 0 0]) ∧ ((proofR l).1.rq.fin.2.2 = 0 → ∃ (y : Value) (F : Nat → Prop), vs = #[y] ∧ OwP w' (w.heap.size + 2) y (proofR l).2 F)) ?_).mono ?_
 ·rw [hwb]
  refine hp.mono ?_
  rintro e w' ⟨vs, err, rfl, hE, hz, hr, hf⟩
  by_cases h0 : (proofR l).1.rq.fin.2.2 = 0
  ·obtain ⟨F', g, ⟨y, rfl, hO⟩, _⟩ := hr h0
   obtain ⟨yo, yc, e1⟩ := hO.form
   exact ⟨_, err, rfl, fun v hv => by
    simp at hv
    rw [hv, e1]
    rfl, hf, hE, fun h => absurd h0 h, fun _ => ⟨y, F', rfl, hO⟩⟩
  ·obtain rfl := hz h0
   exact ⟨_, err, rfl, fun v hv => by
    simp at hv
    rw [hv]
    rfl, hf, hE, fun _ => rfl, fun h => absurd h h0⟩
 ·rintro e w' ⟨vs, err, rfl, w2, ⟨hE, hz, hr⟩, hf1, hs, hf, hrb⟩
  refine ⟨vs, err, rfl, errV_fr hE hf1 hrb (by decide), hz, fun h0 => ?_, hf⟩
  obtain ⟨y, F, h1, hO⟩ := hr h0
  have hO' := (hO.stp (hs F) (fun k j hk _ h => by omega)).base (show w.heap.size ≤ w.heap.size + 2 by omega)
  obtain ⟨us, a1, a2, a3, a4, a5⟩ := hO'.us
  exact ⟨y, h1, fun _ _ h => h, us, a1, a2, a3, fun j u k hu hk => ⟨fun h => h, (a4 j u k hu hk).2⟩, a5⟩
theorem own_one2 {w : World} {lo n z : Nat} {x : Value} {xs : List Value} {e : Nat} (h : w.ownsRow lo e z x n xs) : x.oneCell' = true := by
 rcases h.2 with ⟨rfl, _⟩ | ⟨g, cap, cur, rfl, _⟩ <;> rfl
theorem OwV.fin {w : World} {b b' : Nat} {x : Value} {l : List Fld} {F : Nat → Prop} (h : OwV w b x l F) (hb : b' ≤ b) : OwV w b' x l (fun _ => False) := ⟨fun _ _ h => h, ownsRow_base h.row hb, h.ok⟩
theorem OwZ.fin {w : World} {b b' : Nat} {x : Value} {l : List SuM} {F : Nat → Prop} (h : OwZ w b x l F) (hb : b' ≤ b) : OwZ w b' x l (fun _ => False) := ⟨fun _ _ h => h, ownsRow_base h.row hb, h.ok⟩
theorem fdx_nil (w : World) (q : Q) (F : Nat → Prop) (g : Nat) : FdX w (.rd q) (.slice none 0 0) [] F g := ⟨fun s e => (by cases e), fun _ _ => ⟨rfl, rfl⟩, by decide⟩
theorem sux_nil (w : World) (q : Q) (F : Nat → Prop) (g : Nat) : SuX w (.rd q) (.slice none 0 0) [] F g := ⟨fun s e => (by cases e), fun _ _ => ⟨rfl, rfl⟩, by decide⟩
structure OwB (w : World) (base : Nat) (x : Value) (l : List Nat) (F : Nat → Prop) : Prop where
 nF : ∀ k, x.ownBlock = some k → ¬ F k
 row : w.ownsRow base 5 1 x l.length (cellsOf l)
theorem OwB.stp {w w' : World} {base : Nat} {x : Value} {l : List Nat} {F F' : Nat → Prop} {P : Nat → Nat → Prop} (h : OwB w base x l F) (hs : Stp w w' F F' P) (hP : ∀ k j, base ≤ k → k < w.heap.size → ¬ P k j) : OwB w' base x l F' :=
 ⟨fun k hk => hs.nF (h.row.lt k hk).2 (h.nF k hk), ownsRow_of_block h.row (fun k hk => hs.block (h.row.lt k hk).2 (h.nF k hk) (fun j => hP k j (h.row.lt k hk).1 (h.row.lt k hk).2))⟩
theorem OwB.fin {w : World} {b b' : Nat} {x : Value} {l : List Nat} {F : Nat → Prop} (h : OwB w b x l F) (hb : b' ≤ b) : OwB w b' x l (fun _ => False) := ⟨fun _ _ h => h, ownsRow_base h.row hb⟩
theorem RqC.fs {w : World} {g o : Nat} (v : RqM) (l : List Fld) {x : Value} (h : RqC w g o { v with fs := l } x) : RqC w g o v x := ⟨h.c0, h.c1, h.c2, h.c3, h.c4, h.c5, h.c6, h.c7, h.c8, h.c9⟩
theorem EvC.fs {w : World} {g o : Nat} (v : EvM) (l : List Fld) {x y : Value} (h : EvC w g o { v with rq := { v.rq with fs := l } } x y) : EvC w g o v x y := ⟨h.c0, h.r.fs v.rq l, h.c11, h.c12⟩
def zRq : RqM := ⟨0, 0, 0, 0, 0, 0, 0, 0, [], ⟨#[]⟩⟩
def zEv : EvM := ⟨0, zRq, 0, []⟩
theorem zRq_ok : zRq.ok := ⟨by decide, by decide, by decide, by decide, by decide, by decide, by decide, by decide, by decide⟩
theorem zEv_ok : zEv.ok := ⟨by decide, zRq_ok, by decide⟩
theorem requestR_def (l : List Nat) : ((cr0 l).pForm 1).pRequest zRq = requestR l := rfl
theorem eventR_def (l : List Nat) : ((cr0 l).pForm 3).pEvent zEv = eventR l := rfl
theorem whole_RequestR (l : List Nat) (cb b g : Nat) (F : Nat → Prop) (E : Nat → Addr) (w : World) (h : Cd w cb b F (cr0 l) E) (hp : RqC w g 0 zRq (.slice none 0 0)) (hL : ∀ i, Loc w cb F g i) (hroom : (cr0 l).room 221) :
  Calls Tryz.prog 68 #[.pointer (some ⟨cb, 0, none⟩), .iface 157 (.pointer (some ⟨g, 0, none⟩))] w fun e w' => e = .returned (.tuple #[]) ∧ ∃ F' y, Cd w' cb b F' (.rd (requestR l).1.rq) E ∧ RqC w' g 0 (requestR l).2 y ∧ FdO w w' (cr0 l) (.slice none 0 0) y (requestR l).2.fs F' ∧ Stp w w' F F' (cellsAt g 0 10) := by
 have HW := whole_Request (cr0 l) zRq (.slice none 0 0) cb b g F E w h hp (fdx_nil w _ F g) hL zRq_ok hroom
 rw [requestR_def] at HW
 refine HW.mono ?_
 rintro e w' ⟨rfl, F', y, hC, hcl, ho, hs⟩
 exact ⟨rfl, F', y, by rw [← requestR_eq]; exact hC, hcl.fs _ _, ho, hs⟩
theorem whole_EventR (l : List Nat) (cb b g : Nat) (F : Nat → Prop) (E : Nat → Addr) (w : World) (h : Cd w cb b F (cr0 l) E) (hp : EvC w g 0 zEv (.slice none 0 0) (.slice none 0 0)) (hL : ∀ i, Loc w cb F g i) (hroom : (cr0 l).room 231) :
  Calls Tryz.prog 68 #[.pointer (some ⟨cb, 0, none⟩), .iface 210 (.pointer (some ⟨g, 0, none⟩))] w fun e w' => e = .returned (.tuple #[]) ∧ ∃ F' y z, Cd w' cb b F' (.rd (eventR l).1.rq) E ∧ EvC w' g 0 (eventR l).2 y z ∧ FdO w w' (cr0 l) (.slice none 0 0) y (eventR l).2.rq.fs F' ∧ BO w w' (cr0 l) z (eventR l).2.dg F' g ∧ Stp w w' F F' (cellsAt g 0 13) := by
 have HW := whole_Event (cr0 l) zEv (.slice none 0 0) (.slice none 0 0) cb b g F E w h hp (fdx_nil w _ F g) (bvg_nil w F g) hL zEv_ok hroom
 rw [eventR_def] at HW
 refine HW.mono ?_
 rintro e w' ⟨rfl, F', y, z, hC, hcl, ho, hb, hs⟩
 exact ⟨rfl, F', y, z, by rw [← eventR_eq]; exact hC, hcl.fs _ _, ho, hb, hs⟩
theorem whole_AnswerR (l : List Nat) (cb b g : Nat) (F : Nat → Prop) (E : Nat → Addr) (w : World) (h : Cd w cb b F (cr0 l) E) (hp : AnC w g 0 ⟨0, 0, 0, 0, 0, [], []⟩ (.slice none 0 0) (.slice none 0 0)) (hL : ∀ i, Loc w cb F g i) (hroom : (cr0 l).room 501) :
  Calls Tryz.prog 68 #[.pointer (some ⟨cb, 0, none⟩), .iface 158 (.pointer (some ⟨g, 0, none⟩))] w fun e w' => e = .returned (.tuple #[]) ∧ ∃ F' y z, Cd w' cb b F' (.rd (answerR l).1.rq) E ∧ AnC w' g 0 (answerR l).2 y z ∧ FdO w w' (cr0 l) (.slice none 0 0) y (answerR l).2.fs F' ∧ SuO w w' (cr0 l) (.slice none 0 0) z (answerR l).2.hi F' ∧ Stp w w' F F' (cellsAt g 0 7) := by
 refine (whole_Answer (cr0 l) ⟨0, 0, 0, 0, 0, [], []⟩ (.slice none 0 0) (.slice none 0 0) cb b g F E w h hp (fdx_nil w _ F g) (sux_nil w _ F g) hL ⟨by decide, by decide, by decide, by decide, by decide⟩ hroom).mono ?_
 rintro e w' ⟨rfl, F', y, z, hC, hcl, ho, hb, hs⟩
 exact ⟨rfl, F', y, z, by rw [← answerR_eq]; exact hC, hcl, ho, hb, hs⟩
set_option maxRecDepth 100000 in
set_option maxHeartbeats 400000 in
theorem getRequest (x : Value) (l : List Nat) (E : Nat → Addr) (w : World) (hg : G6 w E) (hw : 9 ≤ w.heap.size) (hx : Src w x l) (hl : l.length ≤ 140737488355328) :
  Calls Tryz.prog 34 #[x] w fun e w' => ∃ vs err, e = .returned (.tuple #[.agg vs, err]) ∧ ErrV w' err (requestR l).1.rq.fin E ∧ ((requestR l).1.rq.fin.2.2 ≠ 0 → vs = #[.int .u32 0, .int .u32 0, .int .u32 0, .int .u8 0, .int .u32 0, .int .u32 0, .int .u32 0, .int .u32 0, .slice none 0 0, .string ⟨#[]⟩]) ∧ ((requestR l).1.rq.fin.2.2 = 0 → ∃ y, vs = ((requestR l).2.vals y) ∧ OwV w' (w.heap.size) y (requestR l).2.fs (fun _ => False)) ∧ Fr (fun _ => False) w w' := by
 obtain ⟨xo, xc, rfl⟩ := hx.form
 obtain ⟨wb, hwb⟩ : ∃ wb, w.alloc (.cells #[.int .u32 0, .int .u32 0, .int .u32 0, .int .u8 0, .int .u32 0, .int .u32 0, .int .u32 0, .int .u32 0, .slice none 0 0, .string ⟨#[]⟩] 30) = wb := ⟨_, rfl⟩
 have hbx : Fr (fun _ => False) w wb := by rw [← hwb]; exact box1 _ _
 have hsb : wb.heap.size = w.heap.size + 1 := by rw [← hwb]; simp
 have hp := get_Request _ l (requestR l).1.rq (fun w' F _ vs => ∃ y, vs = ((requestR l).2.vals y) ∧ OwV w' (w.heap.size + 2) y (requestR l).2.fs F) E wb (hg.fr hbx (fun _ h => h.elim)) (by omega) (hx.fr hbx (fun _ _ _ _ _ h => h)) hl
  (fun w2 w' F F' P g vs ⟨y, h1, hoy⟩ hs hP => ⟨y, h1, hoy.stp hs (fun k j hb hk hp => by have := hP k j hp; omega)⟩)
  (fun w1 cb b F g hC h0 h1 h2 h3 h4 h5 h6 h7 h8 h9 hL hF hgg hf => by
   have hlt := (hL 0).lt
   refine (whole_RequestR l cb b g F E w1 hC ⟨h0, h1, h2, h3, h4, h5, h6, h7, h8, h9⟩ hL (by simp only [CS.room, CS.len, cr0]; omega)).mono ?_
   rintro e w' ⟨rfl, F', y, hC', hcl, hby, hs⟩
   have hoy : OwV w' (w.heap.size + 2) y (requestR l).2.fs F' := by have h9 := hby.rd _ rfl; exact ⟨h9.nF, ownsRow_base h9.row (by omega), h9.ok⟩
   have hrowy := hoy.row
   exact ⟨rfl, F', hC', _, _, _, _, _, _, _, _, _, _, hcl.c0, hcl.c1, hcl.c2, hcl.c3, hcl.c4, hcl.c5, hcl.c6, hcl.c7, hcl.c8, hcl.c9, fun v hv => by
    simp only [List.mem_cons, List.not_mem_nil, or_false] at hv
    rcases hv with rfl | rfl | rfl | rfl | rfl | rfl | rfl | rfl | rfl | rfl
    all_goals first | rfl | exact own_one2 (by assumption), ⟨y, rfl, hoy⟩, hs.mono (fun k j _ h => h.1)⟩)
 refine (GetRequest_go xo l.length xc w (fun w' vs err => ErrV w' err (requestR l).1.rq.fin E ∧ ((requestR l).1.rq.fin.2.2 ≠ 0 → vs = #[.int .u32 0, .int .u32 0, .int .u32 0, .int .u8 0, .int .u32 0, .int .u32 0, .int .u32 0, .int .u32 0, .slice none 0 0, .string ⟨#[]⟩]) ∧ ((requestR l).1.rq.fin.2.2 = 0 → ∃ (y : Value) (F : Nat → Prop), vs = ((requestR l).2.vals y) ∧ OwV w' (w.heap.size + 2) y (requestR l).2.fs F)) ?_).mono ?_
 ·rw [hwb]
  refine hp.mono ?_
  rintro e w' ⟨vs, err, rfl, hE, hz, hr, hf⟩
  by_cases h0 : (requestR l).1.rq.fin.2.2 = 0
  ·obtain ⟨F', g, ⟨y, rfl, hoy⟩, _⟩ := hr h0
   have hrowy := hoy.row
   exact ⟨_, _, _, _, _, _, _, _, _, _, err, rfl, fun v hv => by
    simp only [List.mem_cons, List.not_mem_nil, or_false] at hv
    rcases hv with rfl | rfl | rfl | rfl | rfl | rfl | rfl | rfl | rfl | rfl
    all_goals first | rfl | exact own_one2 (by assumption), hf, hE, fun h => absurd h0 h, fun _ => ⟨y, F', rfl, hoy⟩⟩
  ·obtain rfl := hz h0
   exact ⟨_, _, _, _, _, _, _, _, _, _, err, rfl, fun v hv => by
    simp only [List.mem_cons, List.not_mem_nil, or_false] at hv
    rcases hv with rfl | rfl | rfl | rfl | rfl | rfl | rfl | rfl | rfl | rfl <;> rfl, hf, hE, fun _ => rfl, fun h => absurd h h0⟩
 ·rintro e w' ⟨vs, err, rfl, w2, ⟨hE, hz, hr⟩, hf1, hs, hf, hrb⟩
  refine ⟨vs, err, rfl, errV_fr hE hf1 hrb (by decide), hz, fun h0 => ?_, hf⟩
  obtain ⟨y, F, h1, hoy⟩ := hr h0
  exact ⟨y, h1, (hoy.stp (hs F) (fun k j hb hk hp => by omega)).fin (by omega)⟩
set_option maxRecDepth 100000 in
set_option maxHeartbeats 400000 in
theorem getAnswer (x : Value) (l : List Nat) (E : Nat → Addr) (w : World) (hg : G6 w E) (hw : 9 ≤ w.heap.size) (hx : Src w x l) (hl : l.length ≤ 140737488355328) :
  Calls Tryz.prog 35 #[x] w fun e w' => ∃ vs err, e = .returned (.tuple #[.agg vs, err]) ∧ ErrV w' err (answerR l).1.rq.fin E ∧ ((answerR l).1.rq.fin.2.2 ≠ 0 → vs = #[.int .u32 0, .int .u32 0, .int .u8 0, .int .u32 0, .int .u32 0, .slice none 0 0, .slice none 0 0]) ∧ ((answerR l).1.rq.fin.2.2 = 0 → ∃ y z, vs = ((answerR l).2.vals y z) ∧ OwV w' (w.heap.size) y (answerR l).2.fs (fun _ => False) ∧ OwZ w' (w.heap.size) z (answerR l).2.hi (fun _ => False)) ∧ Fr (fun _ => False) w w' := by
 obtain ⟨xo, xc, rfl⟩ := hx.form
 obtain ⟨wb, hwb⟩ : ∃ wb, w.alloc (.cells #[.int .u32 0, .int .u32 0, .int .u8 0, .int .u32 0, .int .u32 0, .slice none 0 0, .slice none 0 0] 33) = wb := ⟨_, rfl⟩
 have hbx : Fr (fun _ => False) w wb := by rw [← hwb]; exact box1 _ _
 have hsb : wb.heap.size = w.heap.size + 1 := by rw [← hwb]; simp
 have hp := get_Answer _ l (answerR l).1.rq (fun w' F _ vs => ∃ y z, vs = ((answerR l).2.vals y z) ∧ OwV w' (w.heap.size + 2) y (answerR l).2.fs F ∧ OwZ w' (w.heap.size + 2) z (answerR l).2.hi F) E wb (hg.fr hbx (fun _ h => h.elim)) (by omega) (hx.fr hbx (fun _ _ _ _ _ h => h)) hl
  (fun w2 w' F F' P g vs ⟨y, z, h1, hoy, hoz⟩ hs hP => ⟨y, z, h1, hoy.stp hs (fun k j hb hk hp => by have := hP k j hp; omega), hoz.stp hs (fun k j hb hk hp => by have := hP k j hp; omega)⟩)
  (fun w1 cb b F g hC h0 h1 h2 h3 h4 h5 h6 hL hF hgg hf => by
   have hlt := (hL 0).lt
   refine (whole_AnswerR l cb b g F E w1 hC ⟨h0, h1, h2, h3, h4, h5, h6⟩ hL (by simp only [CS.room, CS.len, cr0]; omega)).mono ?_
   rintro e w' ⟨rfl, F', y, z, hC', hcl, hby, hbz, hs⟩
   have hoy : OwV w' (w.heap.size + 2) y (answerR l).2.fs F' := by have h9 := hby.rd _ rfl; exact ⟨h9.nF, ownsRow_base h9.row (by omega), h9.ok⟩
   have hrowy := hoy.row
   have hoz : OwZ w' (w.heap.size + 2) z (answerR l).2.hi F' := by have h9 := hbz.rd _ rfl; exact ⟨h9.nF, ownsRow_base h9.row (by omega), h9.ok⟩
   have hrowz := hoz.row
   exact ⟨rfl, F', hC', _, _, _, _, _, _, _, hcl.c0, hcl.c1, hcl.c2, hcl.c3, hcl.c4, hcl.c5, hcl.c6, fun v hv => by
    simp only [List.mem_cons, List.not_mem_nil, or_false] at hv
    rcases hv with rfl | rfl | rfl | rfl | rfl | rfl | rfl
    all_goals first | rfl | exact own_one2 (by assumption), ⟨y, z, rfl, hoy, hoz⟩, hs.mono (fun k j _ h => h.1)⟩)
 refine (GetAnswer_go xo l.length xc w (fun w' vs err => ErrV w' err (answerR l).1.rq.fin E ∧ ((answerR l).1.rq.fin.2.2 ≠ 0 → vs = #[.int .u32 0, .int .u32 0, .int .u8 0, .int .u32 0, .int .u32 0, .slice none 0 0, .slice none 0 0]) ∧ ((answerR l).1.rq.fin.2.2 = 0 → ∃ (y z : Value) (F : Nat → Prop), vs = ((answerR l).2.vals y z) ∧ OwV w' (w.heap.size + 2) y (answerR l).2.fs F ∧ OwZ w' (w.heap.size + 2) z (answerR l).2.hi F)) ?_).mono ?_
 ·rw [hwb]
  refine hp.mono ?_
  rintro e w' ⟨vs, err, rfl, hE, hz, hr, hf⟩
  by_cases h0 : (answerR l).1.rq.fin.2.2 = 0
  ·obtain ⟨F', g, ⟨y, z, rfl, hoy, hoz⟩, _⟩ := hr h0
   have hrowy := hoy.row
   have hrowz := hoz.row
   exact ⟨_, _, _, _, _, _, _, err, rfl, fun v hv => by
    simp only [List.mem_cons, List.not_mem_nil, or_false] at hv
    rcases hv with rfl | rfl | rfl | rfl | rfl | rfl | rfl
    all_goals first | rfl | exact own_one2 (by assumption), hf, hE, fun h => absurd h0 h, fun _ => ⟨y, z, F', rfl, hoy, hoz⟩⟩
  ·obtain rfl := hz h0
   exact ⟨_, _, _, _, _, _, _, err, rfl, fun v hv => by
    simp only [List.mem_cons, List.not_mem_nil, or_false] at hv
    rcases hv with rfl | rfl | rfl | rfl | rfl | rfl | rfl <;> rfl, hf, hE, fun _ => rfl, fun h => absurd h h0⟩
 ·rintro e w' ⟨vs, err, rfl, w2, ⟨hE, hz, hr⟩, hf1, hs, hf, hrb⟩
  refine ⟨vs, err, rfl, errV_fr hE hf1 hrb (by decide), hz, fun h0 => ?_, hf⟩
  obtain ⟨y, z, F, h1, hoy, hoz⟩ := hr h0
  exact ⟨y, z, h1, (hoy.stp (hs F) (fun k j hb hk hp => by omega)).fin (by omega), (hoz.stp (hs F) (fun k j hb hk hp => by omega)).fin (by omega)⟩
set_option maxRecDepth 100000 in
set_option maxHeartbeats 400000 in
theorem getEvent (x : Value) (l : List Nat) (E : Nat → Addr) (w : World) (hg : G6 w E) (hw : 9 ≤ w.heap.size) (hx : Src w x l) (hl : l.length ≤ 140737488355328) :
  Calls Tryz.prog 36 #[x] w fun e w' => ∃ vs err, e = .returned (.tuple #[.agg vs, err]) ∧ ErrV w' err (eventR l).1.rq.fin E ∧ ((eventR l).1.rq.fin.2.2 ≠ 0 → vs = #[.int .u32 0, .int .u32 0, .int .u32 0, .int .u32 0, .int .u8 0, .int .u32 0, .int .u32 0, .int .u32 0, .int .u32 0, .slice none 0 0, .string ⟨#[]⟩, .int .u8 0, .slice none 0 0]) ∧ ((eventR l).1.rq.fin.2.2 = 0 → ∃ y z, vs = ((eventR l).2.vals y z) ∧ OwV w' (w.heap.size) y (eventR l).2.rq.fs (fun _ => False) ∧ OwB w' (w.heap.size) z (eventR l).2.dg (fun _ => False)) ∧ Fr (fun _ => False) w w' := by
 obtain ⟨xo, xc, rfl⟩ := hx.form
 obtain ⟨wb, hwb⟩ : ∃ wb, w.alloc (.cells #[.int .u32 0, .int .u32 0, .int .u32 0, .int .u32 0, .int .u8 0, .int .u32 0, .int .u32 0, .int .u32 0, .int .u32 0, .slice none 0 0, .string ⟨#[]⟩, .int .u8 0, .slice none 0 0] 35) = wb := ⟨_, rfl⟩
 have hbx : Fr (fun _ => False) w wb := by rw [← hwb]; exact box1 _ _
 have hsb : wb.heap.size = w.heap.size + 1 := by rw [← hwb]; simp
 have hp := get_Event _ l (eventR l).1.rq (fun w' F _ vs => ∃ y z, vs = ((eventR l).2.vals y z) ∧ OwV w' (w.heap.size + 2) y (eventR l).2.rq.fs F ∧ OwB w' (w.heap.size + 2) z (eventR l).2.dg F) E wb (hg.fr hbx (fun _ h => h.elim)) (by omega) (hx.fr hbx (fun _ _ _ _ _ h => h)) hl
  (fun w2 w' F F' P g vs ⟨y, z, h1, hoy, hoz⟩ hs hP => ⟨y, z, h1, hoy.stp hs (fun k j hb hk hp => by have := hP k j hp; omega), hoz.stp hs (fun k j hb hk hp => by have := hP k j hp; omega)⟩)
  (fun w1 cb b F g hC h0 h1 h2 h3 h4 h5 h6 h7 h8 h9 h10 h11 h12 hL hF hgg hf => by
   have hlt := (hL 0).lt
   refine (whole_EventR l cb b g F E w1 hC ⟨h0, ⟨h1, h2, h3, h4, h5, h6, h7, h8, h9, h10⟩, h11, h12⟩ hL (by simp only [CS.room, CS.len, cr0]; omega)).mono ?_
   rintro e w' ⟨rfl, F', y, z, hC', hcl, hby, hbz, hs⟩
   have hoy : OwV w' (w.heap.size + 2) y (eventR l).2.rq.fs F' := by have h9 := hby.rd _ rfl; exact ⟨h9.nF, ownsRow_base h9.row (by omega), h9.ok⟩
   have hrowy := hoy.row
   have hoz : OwB w' (w.heap.size + 2) z (eventR l).2.dg F' := by obtain ⟨h7, h8, _⟩ := BO.own (lo := w.heap.size + 2) hbz (by omega); exact ⟨h8, h7⟩
   have hrowz := hoz.row
   exact ⟨rfl, F', hC', _, _, _, _, _, _, _, _, _, _, _, _, _, hcl.c0, hcl.r.c0, hcl.r.c1, hcl.r.c2, hcl.r.c3, hcl.r.c4, hcl.r.c5, hcl.r.c6, hcl.r.c7, hcl.r.c8, hcl.r.c9, hcl.c11, hcl.c12, fun v hv => by
    simp only [List.mem_cons, List.not_mem_nil, or_false] at hv
    rcases hv with rfl | rfl | rfl | rfl | rfl | rfl | rfl | rfl | rfl | rfl | rfl | rfl | rfl
    all_goals first | rfl | exact own_one2 (by assumption), ⟨y, z, rfl, hoy, hoz⟩, hs.mono (fun k j _ h => h.1)⟩)
 refine (GetEvent_go xo l.length xc w (fun w' vs err => ErrV w' err (eventR l).1.rq.fin E ∧ ((eventR l).1.rq.fin.2.2 ≠ 0 → vs = #[.int .u32 0, .int .u32 0, .int .u32 0, .int .u32 0, .int .u8 0, .int .u32 0, .int .u32 0, .int .u32 0, .int .u32 0, .slice none 0 0, .string ⟨#[]⟩, .int .u8 0, .slice none 0 0]) ∧ ((eventR l).1.rq.fin.2.2 = 0 → ∃ (y z : Value) (F : Nat → Prop), vs = ((eventR l).2.vals y z) ∧ OwV w' (w.heap.size + 2) y (eventR l).2.rq.fs F ∧ OwB w' (w.heap.size + 2) z (eventR l).2.dg F)) ?_).mono ?_
 ·rw [hwb]
  refine hp.mono ?_
  rintro e w' ⟨vs, err, rfl, hE, hz, hr, hf⟩
  by_cases h0 : (eventR l).1.rq.fin.2.2 = 0
  ·obtain ⟨F', g, ⟨y, z, rfl, hoy, hoz⟩, _⟩ := hr h0
   have hrowy := hoy.row
   have hrowz := hoz.row
   exact ⟨_, _, _, _, _, _, _, _, _, _, _, _, _, err, rfl, fun v hv => by
    simp only [List.mem_cons, List.not_mem_nil, or_false] at hv
    rcases hv with rfl | rfl | rfl | rfl | rfl | rfl | rfl | rfl | rfl | rfl | rfl | rfl | rfl
    all_goals first | rfl | exact own_one2 (by assumption), hf, hE, fun h => absurd h0 h, fun _ => ⟨y, z, F', rfl, hoy, hoz⟩⟩
  ·obtain rfl := hz h0
   exact ⟨_, _, _, _, _, _, _, _, _, _, _, _, _, err, rfl, fun v hv => by
    simp only [List.mem_cons, List.not_mem_nil, or_false] at hv
    rcases hv with rfl | rfl | rfl | rfl | rfl | rfl | rfl | rfl | rfl | rfl | rfl | rfl | rfl <;> rfl, hf, hE, fun _ => rfl, fun h => absurd h h0⟩
 ·rintro e w' ⟨vs, err, rfl, w2, ⟨hE, hz, hr⟩, hf1, hs, hf, hrb⟩
  refine ⟨vs, err, rfl, errV_fr hE hf1 hrb (by decide), hz, fun h0 => ?_, hf⟩
  obtain ⟨y, z, F, h1, hoy, hoz⟩ := hr h0
  exact ⟨y, z, h1, (hoy.stp (hs F) (fun k j hb hk hp => by omega)).fin (by omega), (hoz.stp (hs F) (fun k j hb hk hp => by omega)).fin (by omega)⟩
def RqM.is (v : RqM) : Bool := !(v.cl == 0 && v.nu == 0) || v.ac != 0 || v.op != 0 || v.re != 0 || v.ve != 0 || v.wa != 0 || v.ow != 0 || v.fs.length != 0 || !v.rs.toList.isEmpty
def AnM.is (v : AnM) : Bool := !(v.cl == 0 && v.nu == 0) || v.co != 0 || v.re != 0 || v.ve != 0 || v.fs.length != 0 || v.hi.length != 0
def EvM.is (v : EvM) : Bool := v.pl != 0 || v.rq.is || v.co != 0 || v.dg.length != 0
theorem bne_cast (m : Nat) : (((m : Nat) : Int) != 0) = (m != 0) := by
 rw [Bool.eq_iff_iff]
 simp
set_option maxRecDepth 100000 in
set_option maxHeartbeats 2000000 in
theorem isRequest_any (v : RqM) (xo : Option Addr) (xc : Nat) (w : World) (hv : v.ok) (hn : v.fs.length < 9223372036854775808) : Calls Tryz.prog 163 #[.agg (v.vals (.slice xo v.fs.length xc))] w fun e w' => e = .returned (.bool v.is) ∧ Fr (fun _ => False) w w' := by
 obtain ⟨cl, nu, ac, op, re, ve, wa, ow, fs, rs⟩ := v
 obtain ⟨h1, h2, h3, h4, h5, h6, h7, h8, h9⟩ := hv
 simp only [RqM.vals] at *
 obtain ⟨n, hfs⟩ : ∃ n, fs.length = n := ⟨_, rfl⟩
 rw [hfs] at hn ⊢
 go_enter Tryz.func163, Tryz.ntmps163
 go_wp2_with fail
 all_goals
  go_ret
  refine ⟨?_, box1 _ _⟩
  simp_all [RqM.is]
set_option maxRecDepth 100000 in
set_option maxHeartbeats 2000000 in
theorem isAnswer_any (v : AnM) (xo : Option Addr) (xc : Nat) (yo : Option Addr) (yc : Nat) (w : World) (hv : v.ok) (hn : v.fs.length < 9223372036854775808) (hm : v.hi.length < 9223372036854775808) : Calls Tryz.prog 164 #[.agg (v.vals (.slice xo v.fs.length xc) (.slice yo v.hi.length yc))] w fun e w' => e = .returned (.bool v.is) ∧ Fr (fun _ => False) w w' := by
 obtain ⟨cl, nu, co, re, ve, fs, hi⟩ := v
 obtain ⟨h1, h2, h3, h4, h5⟩ := hv
 simp only [AnM.vals] at *
 obtain ⟨n, hfs⟩ : ∃ n, fs.length = n := ⟨_, rfl⟩
 obtain ⟨m, hhi⟩ : ∃ m, hi.length = m := ⟨_, rfl⟩
 rw [hfs] at hn ⊢
 rw [hhi] at hm ⊢
 go_enter Tryz.func164, Tryz.ntmps164
 go_wp2_with fail
 all_goals
  go_ret
  refine ⟨?_, box1 _ _⟩
  simp_all [AnM.is, bne_cast]
set_option maxRecDepth 100000 in
set_option maxHeartbeats 2000000 in
theorem isEvent_any (v : EvM) (xo : Option Addr) (xc : Nat) (yo : Option Addr) (yc : Nat) (w : World) (hv : v.ok) (hn : v.rq.fs.length < 9223372036854775808) (hm : v.dg.length < 9223372036854775808) : Calls Tryz.prog 165 #[.agg (v.vals (.slice xo v.rq.fs.length xc) (.slice yo v.dg.length yc))] w fun e w' => e = .returned (.bool v.is) ∧ Fr (fun _ => False) w w' := by
 obtain ⟨pl, rq, co, dg⟩ := v
 obtain ⟨h1, h2, h3⟩ := hv
 simp only at h1 h2 h3 hn hm
 have HR : Hid (∀ wx, Calls Tryz.prog 163 #[.agg (rq.vals (.slice xo rq.fs.length xc))] wx fun e w' => e = .returned (.bool rq.is) ∧ Fr (fun _ => False) wx w') := fun wx => isRequest_any rq xo xc wx h2 hn
 obtain ⟨B, hB⟩ : ∃ B, rq.is = B := ⟨_, rfl⟩
 simp only [RqM.vals, hB] at HR
 have HB := hid hB
 clear hB
 simp only [EvM.vals]
 obtain ⟨m, hdg⟩ : ∃ m, dg.length = m := ⟨_, rfl⟩
 rw [hdg] at hm ⊢
 go_enter Tryz.func165, Tryz.ntmps165
 go_wp2_with (first | (go_at_call 163; refine ((uh HR) _).mono ?_; rintro e w1 ⟨rfl, hf1⟩; have hl1 := Nat.lt_of_lt_of_le (show w.heap.size < (w.alloc _).heap.size by simp) hf1.size; have hc11 := (hf1.cell (p := ⟨w.heap.size, 11, none⟩) (by simp) (fun h => h)).trans (show _ = some (Value.int .u8 (co : Nat)) by simp); have hc12 := (hf1.cell (p := ⟨w.heap.size, 12, none⟩) (by simp) (fun h => h)).trans (show _ = some (Value.slice yo m yc) by simp); have HF := hid ((box1 w _).trans hf1 (fun _ _ h => h)); clear hf1))
 all_goals
  go_ret
  refine ⟨?_, ?_⟩
  ·have hB := uh HB
   clear HB HR
   simp_all [EvM.is, bne_cast]
  ·first | exact uh HF | exact box1 _ _
structure MsM where
 kd : Nat
 rq : RqM
 icl : Nat
 inu : Nat
 an : AnM
 co : Nat
 ev : EvM
 le : Nat
structure MsM.ok (v : MsM) : Prop where
 kd : v.kd < 256
 rq : v.rq.ok
 icl : v.icl < 4294967296
 inu : v.inu < 4294967296
 an : v.an.ok
 co : v.co < 256
 ev : v.ev.ok
 le : v.le < 4294967296
structure MsM.lens (v : MsM) : Prop where
 rq : v.rq.fs.length < 9223372036854775808
 an : v.an.fs.length < 9223372036854775808
 hi : v.an.hi.length < 9223372036854775808
 ev : v.ev.rq.fs.length < 9223372036854775808
 dg : v.ev.dg.length < 9223372036854775808
def MsM.is (v : MsM) : Bool := v.rq.is || !(v.icl == 0 && v.inu == 0) || v.an.is || v.co != 0 || v.ev.is || v.le != 0
def zAn : AnM := ⟨0, 0, 0, 0, 0, [], []⟩
def MsM.cut (v : MsM) : MsM := match v.kd with
 | 1 => { v with rq := zRq }
 | 2 => { v with icl := 0, inu := 0 }
 | 3 => { v with an := zAn }
 | 4 => { v with icl := 0, inu := 0, co := 0 }
 | 5 => { v with ev := zEv }
 | 6 => { v with le := 0 }
 | _ => v
def MsM.beside (v : MsM) : Bool := v.cut.is
def MsM.vals (v : MsM) (x0 x1 x2 x3 x4 : Value) : Array Value := #[.int .u8 (v.kd : Nat), .int .u32 (v.rq.cl : Nat), .int .u32 (v.rq.nu : Nat), .int .u32 (v.rq.ac : Nat), .int .u8 (v.rq.op : Nat), .int .u32 (v.rq.re : Nat), .int .u32 (v.rq.ve : Nat), .int .u32 (v.rq.wa : Nat), .int .u32 (v.rq.ow : Nat), x0, .string v.rq.rs, .int .u32 (v.icl : Nat), .int .u32 (v.inu : Nat), .int .u32 (v.an.cl : Nat), .int .u32 (v.an.nu : Nat), .int .u8 (v.an.co : Nat), .int .u32 (v.an.re : Nat), .int .u32 (v.an.ve : Nat), x1, x2, .int .u8 (v.co : Nat), .int .u32 (v.ev.pl : Nat), .int .u32 (v.ev.rq.cl : Nat), .int .u32 (v.ev.rq.nu : Nat), .int .u32 (v.ev.rq.ac : Nat), .int .u8 (v.ev.rq.op : Nat), .int .u32 (v.ev.rq.re : Nat), .int .u32 (v.ev.rq.ve : Nat), .int .u32 (v.ev.rq.wa : Nat), .int .u32 (v.ev.rq.ow : Nat), x3, .string v.ev.rq.rs, .int .u8 (v.ev.co : Nat), x4, .int .u32 (v.le : Nat)]
set_option maxRecDepth 100000 in
set_option maxHeartbeats 4000000 in
theorem beside_0 (v : MsM) (a0 a1 a2 a3 a4 : Option Addr) (c0 c1 c2 c3 c4 : Nat) (w : World) (hv : v.ok) (hn : v.lens) (hk : ∀ i, 1 ≤ i → i ≤ 6 → v.kd ≠ i) : Calls Tryz.prog 145 #[.agg (v.vals (.slice a0 v.rq.fs.length c0) (.slice a1 v.an.fs.length c1) (.slice a2 v.an.hi.length c2) (.slice a3 v.ev.rq.fs.length c3) (.slice a4 v.ev.dg.length c4))] w fun e w' => e = .returned (.bool v.beside) ∧ Fr (fun _ => False) w w' := by
 have HR : Hid (∀ wx, Calls Tryz.prog 163 #[.agg #[.int .u32 (v.rq.cl : Nat), .int .u32 (v.rq.nu : Nat), .int .u32 (v.rq.ac : Nat), .int .u8 (v.rq.op : Nat), .int .u32 (v.rq.re : Nat), .int .u32 (v.rq.ve : Nat), .int .u32 (v.rq.wa : Nat), .int .u32 (v.rq.ow : Nat), .slice a0 v.rq.fs.length c0, .string v.rq.rs]] wx fun e w' => e = .returned (.bool (v.rq).is) ∧ Fr (fun _ => False) wx w') := fun wx => isRequest_any (v.rq) a0 c0 wx hv.rq hn.rq
 have HA : Hid (∀ wx, Calls Tryz.prog 164 #[.agg #[.int .u32 (v.an.cl : Nat), .int .u32 (v.an.nu : Nat), .int .u8 (v.an.co : Nat), .int .u32 (v.an.re : Nat), .int .u32 (v.an.ve : Nat), .slice a1 v.an.fs.length c1, .slice a2 v.an.hi.length c2]] wx fun e w' => e = .returned (.bool (v.an).is) ∧ Fr (fun _ => False) wx w') := fun wx => isAnswer_any (v.an) a1 c1 a2 c2 wx hv.an hn.an hn.hi
 have HE : Hid (∀ wx, Calls Tryz.prog 165 #[.agg #[.int .u32 (v.ev.pl : Nat), .int .u32 (v.ev.rq.cl : Nat), .int .u32 (v.ev.rq.nu : Nat), .int .u32 (v.ev.rq.ac : Nat), .int .u8 (v.ev.rq.op : Nat), .int .u32 (v.ev.rq.re : Nat), .int .u32 (v.ev.rq.ve : Nat), .int .u32 (v.ev.rq.wa : Nat), .int .u32 (v.ev.rq.ow : Nat), .slice a3 v.ev.rq.fs.length c3, .string v.ev.rq.rs, .int .u8 (v.ev.co : Nat), .slice a4 v.ev.dg.length c4]] wx fun e w' => e = .returned (.bool (v.ev).is) ∧ Fr (fun _ => False) wx w') := fun wx => isEvent_any (v.ev) a3 c3 a4 c4 wx hv.ev hn.ev hn.dg
 have HC : Hid (v.beside = (((((v.rq).is || !(v.icl == 0 && v.inu == 0)) || (v.an).is) || v.co != 0) || (v.ev).is || v.le != 0)) := by
  have e : v.cut = v := by
   have h1 := hk 1; have h2 := hk 2; have h3 := hk 3; have h4 := hk 4; have h5 := hk 5; have h6 := hk 6
   unfold MsM.cut
   split <;> first | rfl | (rename_i h; exact absurd h (hk _ (by decide) (by decide)))
  show v.cut.is = _
  rw [e]
  rfl
 obtain ⟨hv1, hv2, hv3, hv4, hv5, hv6, hv7, hv8⟩ := hv
 obtain ⟨hn1, hn2, hn3, hn4, hn5⟩ := hn
 generalize v.beside = R at HC ⊢
 generalize (v.rq).is = B1 at HR HC
 generalize (v.an).is = B2 at HA HC
 generalize (v.ev).is = B3 at HE HC
 have m1 : ((v.kd : Int) == 1) = false := by have := hk 1 (by decide) (by decide); simp; omega
 have m2 : ((v.kd : Int) == 2) = false := by have := hk 2 (by decide) (by decide); simp; omega
 have m3 : ((v.kd : Int) == 3) = false := by have := hk 3 (by decide) (by decide); simp; omega
 have m4 : ((v.kd : Int) == 4) = false := by have := hk 4 (by decide) (by decide); simp; omega
 have m5 : ((v.kd : Int) == 5) = false := by have := hk 5 (by decide) (by decide); simp; omega
 have m6 : ((v.kd : Int) == 6) = false := by have := hk 6 (by decide) (by decide); simp; omega
 simp only [MsM.vals]
 clear hn1 hn2 hn3 hn4 hn5 hv2 hv5 hv7
 go_enter Tryz.func145, Tryz.ntmps145
 go_wp2_with (first
  | (go_at_call 163; refine ((uh HR) _).mono ?_; rintro e w1 ⟨rfl, hf1⟩; have p11 := (hf1.cell (p := ⟨w.heap.size, 11, none⟩) (by simp) (fun h => h)).trans (show _ = some ((Value.int .u32 (v.icl : Nat))) by rw [World.cell?_alloc_at _ _ _ _ rfl]; rfl); have p12 := (hf1.cell (p := ⟨w.heap.size, 12, none⟩) (by simp) (fun h => h)).trans (show _ = some ((Value.int .u32 (v.inu : Nat))) by rw [World.cell?_alloc_at _ _ _ _ rfl]; rfl); have p13 := (hf1.cell (p := ⟨w.heap.size, 13, none⟩) (by simp) (fun h => h)).trans (show _ = some ((Value.int .u32 (v.an.cl : Nat))) by rw [World.cell?_alloc_at _ _ _ _ rfl]; rfl); have p14 := (hf1.cell (p := ⟨w.heap.size, 14, none⟩) (by simp) (fun h => h)).trans (show _ = some ((Value.int .u32 (v.an.nu : Nat))) by rw [World.cell?_alloc_at _ _ _ _ rfl]; rfl); have p15 := (hf1.cell (p := ⟨w.heap.size, 15, none⟩) (by simp) (fun h => h)).trans (show _ = some ((Value.int .u8 (v.an.co : Nat))) by rw [World.cell?_alloc_at _ _ _ _ rfl]; rfl); have p16 := (hf1.cell (p := ⟨w.heap.size, 16, none⟩) (by simp) (fun h => h)).trans (show _ = some ((Value.int .u32 (v.an.re : Nat))) by rw [World.cell?_alloc_at _ _ _ _ rfl]; rfl); have p17 := (hf1.cell (p := ⟨w.heap.size, 17, none⟩) (by simp) (fun h => h)).trans (show _ = some ((Value.int .u32 (v.an.ve : Nat))) by rw [World.cell?_alloc_at _ _ _ _ rfl]; rfl); have p18 := (hf1.cell (p := ⟨w.heap.size, 18, none⟩) (by simp) (fun h => h)).trans (show _ = some ((Value.slice a1 v.an.fs.length c1)) by rw [World.cell?_alloc_at _ _ _ _ rfl]; rfl); have p19 := (hf1.cell (p := ⟨w.heap.size, 19, none⟩) (by simp) (fun h => h)).trans (show _ = some ((Value.slice a2 v.an.hi.length c2)) by rw [World.cell?_alloc_at _ _ _ _ rfl]; rfl); have p20 := (hf1.cell (p := ⟨w.heap.size, 20, none⟩) (by simp) (fun h => h)).trans (show _ = some ((Value.int .u8 (v.co : Nat))) by rw [World.cell?_alloc_at _ _ _ _ rfl]; rfl); have p21 := (hf1.cell (p := ⟨w.heap.size, 21, none⟩) (by simp) (fun h => h)).trans (show _ = some ((Value.int .u32 (v.ev.pl : Nat))) by rw [World.cell?_alloc_at _ _ _ _ rfl]; rfl); have p22 := (hf1.cell (p := ⟨w.heap.size, 22, none⟩) (by simp) (fun h => h)).trans (show _ = some ((Value.int .u32 (v.ev.rq.cl : Nat))) by rw [World.cell?_alloc_at _ _ _ _ rfl]; rfl); have p23 := (hf1.cell (p := ⟨w.heap.size, 23, none⟩) (by simp) (fun h => h)).trans (show _ = some ((Value.int .u32 (v.ev.rq.nu : Nat))) by rw [World.cell?_alloc_at _ _ _ _ rfl]; rfl); have p24 := (hf1.cell (p := ⟨w.heap.size, 24, none⟩) (by simp) (fun h => h)).trans (show _ = some ((Value.int .u32 (v.ev.rq.ac : Nat))) by rw [World.cell?_alloc_at _ _ _ _ rfl]; rfl); have p25 := (hf1.cell (p := ⟨w.heap.size, 25, none⟩) (by simp) (fun h => h)).trans (show _ = some ((Value.int .u8 (v.ev.rq.op : Nat))) by rw [World.cell?_alloc_at _ _ _ _ rfl]; rfl); have p26 := (hf1.cell (p := ⟨w.heap.size, 26, none⟩) (by simp) (fun h => h)).trans (show _ = some ((Value.int .u32 (v.ev.rq.re : Nat))) by rw [World.cell?_alloc_at _ _ _ _ rfl]; rfl); have p27 := (hf1.cell (p := ⟨w.heap.size, 27, none⟩) (by simp) (fun h => h)).trans (show _ = some ((Value.int .u32 (v.ev.rq.ve : Nat))) by rw [World.cell?_alloc_at _ _ _ _ rfl]; rfl); have p28 := (hf1.cell (p := ⟨w.heap.size, 28, none⟩) (by simp) (fun h => h)).trans (show _ = some ((Value.int .u32 (v.ev.rq.wa : Nat))) by rw [World.cell?_alloc_at _ _ _ _ rfl]; rfl); have p29 := (hf1.cell (p := ⟨w.heap.size, 29, none⟩) (by simp) (fun h => h)).trans (show _ = some ((Value.int .u32 (v.ev.rq.ow : Nat))) by rw [World.cell?_alloc_at _ _ _ _ rfl]; rfl); have p30 := (hf1.cell (p := ⟨w.heap.size, 30, none⟩) (by simp) (fun h => h)).trans (show _ = some ((Value.slice a3 v.ev.rq.fs.length c3)) by rw [World.cell?_alloc_at _ _ _ _ rfl]; rfl); have p31 := (hf1.cell (p := ⟨w.heap.size, 31, none⟩) (by simp) (fun h => h)).trans (show _ = some ((Value.string v.ev.rq.rs)) by rw [World.cell?_alloc_at _ _ _ _ rfl]; rfl); have p32 := (hf1.cell (p := ⟨w.heap.size, 32, none⟩) (by simp) (fun h => h)).trans (show _ = some ((Value.int .u8 (v.ev.co : Nat))) by rw [World.cell?_alloc_at _ _ _ _ rfl]; rfl); have p33 := (hf1.cell (p := ⟨w.heap.size, 33, none⟩) (by simp) (fun h => h)).trans (show _ = some ((Value.slice a4 v.ev.dg.length c4)) by rw [World.cell?_alloc_at _ _ _ _ rfl]; rfl); have p34 := (hf1.cell (p := ⟨w.heap.size, 34, none⟩) (by simp) (fun h => h)).trans (show _ = some ((Value.int .u32 (v.le : Nat))) by rw [World.cell?_alloc_at _ _ _ _ rfl]; rfl); have F1 := hid ((box1 w _).trans hf1 (fun _ _ h => h)); clear hf1)
  | (go_at_call 164; refine ((uh HA) _).mono ?_; rintro e w2 ⟨rfl, hf2⟩; have r20 := (hf2.cell (p := ⟨w.heap.size, 20, none⟩) (ltC p20) (fun h => h)).trans p20; have r21 := (hf2.cell (p := ⟨w.heap.size, 21, none⟩) (ltC p21) (fun h => h)).trans p21; have r22 := (hf2.cell (p := ⟨w.heap.size, 22, none⟩) (ltC p22) (fun h => h)).trans p22; have r23 := (hf2.cell (p := ⟨w.heap.size, 23, none⟩) (ltC p23) (fun h => h)).trans p23; have r24 := (hf2.cell (p := ⟨w.heap.size, 24, none⟩) (ltC p24) (fun h => h)).trans p24; have r25 := (hf2.cell (p := ⟨w.heap.size, 25, none⟩) (ltC p25) (fun h => h)).trans p25; have r26 := (hf2.cell (p := ⟨w.heap.size, 26, none⟩) (ltC p26) (fun h => h)).trans p26; have r27 := (hf2.cell (p := ⟨w.heap.size, 27, none⟩) (ltC p27) (fun h => h)).trans p27; have r28 := (hf2.cell (p := ⟨w.heap.size, 28, none⟩) (ltC p28) (fun h => h)).trans p28; have r29 := (hf2.cell (p := ⟨w.heap.size, 29, none⟩) (ltC p29) (fun h => h)).trans p29; have r30 := (hf2.cell (p := ⟨w.heap.size, 30, none⟩) (ltC p30) (fun h => h)).trans p30; have r31 := (hf2.cell (p := ⟨w.heap.size, 31, none⟩) (ltC p31) (fun h => h)).trans p31; have r32 := (hf2.cell (p := ⟨w.heap.size, 32, none⟩) (ltC p32) (fun h => h)).trans p32; have r33 := (hf2.cell (p := ⟨w.heap.size, 33, none⟩) (ltC p33) (fun h => h)).trans p33; have r34 := (hf2.cell (p := ⟨w.heap.size, 34, none⟩) (ltC p34) (fun h => h)).trans p34; have F2 := hid ((uh F1).trans hf2 (fun _ _ h => h)); clear hf2)
  | (go_at_call 165; refine ((uh HE) _).mono ?_; rintro e w3 ⟨rfl, hf3⟩; have s34 := (hf3.cell (p := ⟨w.heap.size, 34, none⟩) (ltC r34) (fun h => h)).trans r34; have F3 := hid ((uh F2).trans hf3 (fun _ _ h => h)); clear hf3))
 all_goals
  go_ret
  refine ⟨?_, ?_⟩
  ·have hC := uh HC
   clear HC HR HA HE
   simp_all [bne_cast]
  ·first | exact uh F3 | exact uh F2 | exact uh F1
set_option maxRecDepth 100000 in
set_option maxHeartbeats 4000000 in
theorem beside_1 (v : MsM) (a0 a1 a2 a3 a4 : Option Addr) (c0 c1 c2 c3 c4 : Nat) (w : World) (hv : v.ok) (hn : v.lens) (hk : v.kd = 1) : Calls Tryz.prog 145 #[.agg (v.vals (.slice a0 v.rq.fs.length c0) (.slice a1 v.an.fs.length c1) (.slice a2 v.an.hi.length c2) (.slice a3 v.ev.rq.fs.length c3) (.slice a4 v.ev.dg.length c4))] w fun e w' => e = .returned (.bool v.beside) ∧ Fr (fun _ => False) w w' := by
 have HR : Hid (∀ wx, Calls Tryz.prog 163 #[.agg #[.int .u32 0, .int .u32 0, .int .u32 0, .int .u8 0, .int .u32 0, .int .u32 0, .int .u32 0, .int .u32 0, .slice none 0 0, .string ⟨#[]⟩]] wx fun e w' => e = .returned (.bool (zRq).is) ∧ Fr (fun _ => False) wx w') := fun wx => isRequest_any (zRq) none 0 wx zRq_ok (by decide)
 have HA : Hid (∀ wx, Calls Tryz.prog 164 #[.agg #[.int .u32 (v.an.cl : Nat), .int .u32 (v.an.nu : Nat), .int .u8 (v.an.co : Nat), .int .u32 (v.an.re : Nat), .int .u32 (v.an.ve : Nat), .slice a1 v.an.fs.length c1, .slice a2 v.an.hi.length c2]] wx fun e w' => e = .returned (.bool (v.an).is) ∧ Fr (fun _ => False) wx w') := fun wx => isAnswer_any (v.an) a1 c1 a2 c2 wx hv.an hn.an hn.hi
 have HE : Hid (∀ wx, Calls Tryz.prog 165 #[.agg #[.int .u32 (v.ev.pl : Nat), .int .u32 (v.ev.rq.cl : Nat), .int .u32 (v.ev.rq.nu : Nat), .int .u32 (v.ev.rq.ac : Nat), .int .u8 (v.ev.rq.op : Nat), .int .u32 (v.ev.rq.re : Nat), .int .u32 (v.ev.rq.ve : Nat), .int .u32 (v.ev.rq.wa : Nat), .int .u32 (v.ev.rq.ow : Nat), .slice a3 v.ev.rq.fs.length c3, .string v.ev.rq.rs, .int .u8 (v.ev.co : Nat), .slice a4 v.ev.dg.length c4]] wx fun e w' => e = .returned (.bool (v.ev).is) ∧ Fr (fun _ => False) wx w') := fun wx => isEvent_any (v.ev) a3 c3 a4 c4 wx hv.ev hn.ev hn.dg
 have HC : Hid (v.beside = (((((zRq).is || !(v.icl == 0 && v.inu == 0)) || (v.an).is) || v.co != 0) || (v.ev).is || v.le != 0)) := by
  have e : v.cut = { v with rq := zRq } := by simp only [MsM.cut, hk]
  show v.cut.is = _
  rw [e]
  rfl
 obtain ⟨hv1, hv2, hv3, hv4, hv5, hv6, hv7, hv8⟩ := hv
 obtain ⟨hn1, hn2, hn3, hn4, hn5⟩ := hn
 generalize v.beside = R at HC ⊢
 generalize (zRq).is = B1 at HR HC
 generalize (v.an).is = B2 at HA HC
 generalize (v.ev).is = B3 at HE HC
 simp only [MsM.vals, hk]
 clear hn1 hn2 hn3 hn4 hn5 hv2 hv5 hv7
 go_enter Tryz.func145, Tryz.ntmps145
 go_wp2_with (first
  | (go_at_call 163; refine ((uh HR) _).mono ?_; rintro e w1 ⟨rfl, hf1⟩; have p11 := (hf1.cell (p := ⟨w.heap.size, 11, none⟩) (by simp) (fun h => h)).trans (show _ = some ((Value.int .u32 (v.icl : Nat))) by rw [World.cell?_alloc_at _ _ _ _ rfl]; rfl); have p12 := (hf1.cell (p := ⟨w.heap.size, 12, none⟩) (by simp) (fun h => h)).trans (show _ = some ((Value.int .u32 (v.inu : Nat))) by rw [World.cell?_alloc_at _ _ _ _ rfl]; rfl); have p13 := (hf1.cell (p := ⟨w.heap.size, 13, none⟩) (by simp) (fun h => h)).trans (show _ = some ((Value.int .u32 (v.an.cl : Nat))) by rw [World.cell?_alloc_at _ _ _ _ rfl]; rfl); have p14 := (hf1.cell (p := ⟨w.heap.size, 14, none⟩) (by simp) (fun h => h)).trans (show _ = some ((Value.int .u32 (v.an.nu : Nat))) by rw [World.cell?_alloc_at _ _ _ _ rfl]; rfl); have p15 := (hf1.cell (p := ⟨w.heap.size, 15, none⟩) (by simp) (fun h => h)).trans (show _ = some ((Value.int .u8 (v.an.co : Nat))) by rw [World.cell?_alloc_at _ _ _ _ rfl]; rfl); have p16 := (hf1.cell (p := ⟨w.heap.size, 16, none⟩) (by simp) (fun h => h)).trans (show _ = some ((Value.int .u32 (v.an.re : Nat))) by rw [World.cell?_alloc_at _ _ _ _ rfl]; rfl); have p17 := (hf1.cell (p := ⟨w.heap.size, 17, none⟩) (by simp) (fun h => h)).trans (show _ = some ((Value.int .u32 (v.an.ve : Nat))) by rw [World.cell?_alloc_at _ _ _ _ rfl]; rfl); have p18 := (hf1.cell (p := ⟨w.heap.size, 18, none⟩) (by simp) (fun h => h)).trans (show _ = some ((Value.slice a1 v.an.fs.length c1)) by rw [World.cell?_alloc_at _ _ _ _ rfl]; rfl); have p19 := (hf1.cell (p := ⟨w.heap.size, 19, none⟩) (by simp) (fun h => h)).trans (show _ = some ((Value.slice a2 v.an.hi.length c2)) by rw [World.cell?_alloc_at _ _ _ _ rfl]; rfl); have p20 := (hf1.cell (p := ⟨w.heap.size, 20, none⟩) (by simp) (fun h => h)).trans (show _ = some ((Value.int .u8 (v.co : Nat))) by rw [World.cell?_alloc_at _ _ _ _ rfl]; rfl); have p21 := (hf1.cell (p := ⟨w.heap.size, 21, none⟩) (by simp) (fun h => h)).trans (show _ = some ((Value.int .u32 (v.ev.pl : Nat))) by rw [World.cell?_alloc_at _ _ _ _ rfl]; rfl); have p22 := (hf1.cell (p := ⟨w.heap.size, 22, none⟩) (by simp) (fun h => h)).trans (show _ = some ((Value.int .u32 (v.ev.rq.cl : Nat))) by rw [World.cell?_alloc_at _ _ _ _ rfl]; rfl); have p23 := (hf1.cell (p := ⟨w.heap.size, 23, none⟩) (by simp) (fun h => h)).trans (show _ = some ((Value.int .u32 (v.ev.rq.nu : Nat))) by rw [World.cell?_alloc_at _ _ _ _ rfl]; rfl); have p24 := (hf1.cell (p := ⟨w.heap.size, 24, none⟩) (by simp) (fun h => h)).trans (show _ = some ((Value.int .u32 (v.ev.rq.ac : Nat))) by rw [World.cell?_alloc_at _ _ _ _ rfl]; rfl); have p25 := (hf1.cell (p := ⟨w.heap.size, 25, none⟩) (by simp) (fun h => h)).trans (show _ = some ((Value.int .u8 (v.ev.rq.op : Nat))) by rw [World.cell?_alloc_at _ _ _ _ rfl]; rfl); have p26 := (hf1.cell (p := ⟨w.heap.size, 26, none⟩) (by simp) (fun h => h)).trans (show _ = some ((Value.int .u32 (v.ev.rq.re : Nat))) by rw [World.cell?_alloc_at _ _ _ _ rfl]; rfl); have p27 := (hf1.cell (p := ⟨w.heap.size, 27, none⟩) (by simp) (fun h => h)).trans (show _ = some ((Value.int .u32 (v.ev.rq.ve : Nat))) by rw [World.cell?_alloc_at _ _ _ _ rfl]; rfl); have p28 := (hf1.cell (p := ⟨w.heap.size, 28, none⟩) (by simp) (fun h => h)).trans (show _ = some ((Value.int .u32 (v.ev.rq.wa : Nat))) by rw [World.cell?_alloc_at _ _ _ _ rfl]; rfl); have p29 := (hf1.cell (p := ⟨w.heap.size, 29, none⟩) (by simp) (fun h => h)).trans (show _ = some ((Value.int .u32 (v.ev.rq.ow : Nat))) by rw [World.cell?_alloc_at _ _ _ _ rfl]; rfl); have p30 := (hf1.cell (p := ⟨w.heap.size, 30, none⟩) (by simp) (fun h => h)).trans (show _ = some ((Value.slice a3 v.ev.rq.fs.length c3)) by rw [World.cell?_alloc_at _ _ _ _ rfl]; rfl); have p31 := (hf1.cell (p := ⟨w.heap.size, 31, none⟩) (by simp) (fun h => h)).trans (show _ = some ((Value.string v.ev.rq.rs)) by rw [World.cell?_alloc_at _ _ _ _ rfl]; rfl); have p32 := (hf1.cell (p := ⟨w.heap.size, 32, none⟩) (by simp) (fun h => h)).trans (show _ = some ((Value.int .u8 (v.ev.co : Nat))) by rw [World.cell?_alloc_at _ _ _ _ rfl]; rfl); have p33 := (hf1.cell (p := ⟨w.heap.size, 33, none⟩) (by simp) (fun h => h)).trans (show _ = some ((Value.slice a4 v.ev.dg.length c4)) by rw [World.cell?_alloc_at _ _ _ _ rfl]; rfl); have p34 := (hf1.cell (p := ⟨w.heap.size, 34, none⟩) (by simp) (fun h => h)).trans (show _ = some ((Value.int .u32 (v.le : Nat))) by rw [World.cell?_alloc_at _ _ _ _ rfl]; rfl); have F1 := hid ((box1 w _).trans hf1 (fun _ _ h => h)); clear hf1)
  | (go_at_call 164; refine ((uh HA) _).mono ?_; rintro e w2 ⟨rfl, hf2⟩; have r20 := (hf2.cell (p := ⟨w.heap.size, 20, none⟩) (ltC p20) (fun h => h)).trans p20; have r21 := (hf2.cell (p := ⟨w.heap.size, 21, none⟩) (ltC p21) (fun h => h)).trans p21; have r22 := (hf2.cell (p := ⟨w.heap.size, 22, none⟩) (ltC p22) (fun h => h)).trans p22; have r23 := (hf2.cell (p := ⟨w.heap.size, 23, none⟩) (ltC p23) (fun h => h)).trans p23; have r24 := (hf2.cell (p := ⟨w.heap.size, 24, none⟩) (ltC p24) (fun h => h)).trans p24; have r25 := (hf2.cell (p := ⟨w.heap.size, 25, none⟩) (ltC p25) (fun h => h)).trans p25; have r26 := (hf2.cell (p := ⟨w.heap.size, 26, none⟩) (ltC p26) (fun h => h)).trans p26; have r27 := (hf2.cell (p := ⟨w.heap.size, 27, none⟩) (ltC p27) (fun h => h)).trans p27; have r28 := (hf2.cell (p := ⟨w.heap.size, 28, none⟩) (ltC p28) (fun h => h)).trans p28; have r29 := (hf2.cell (p := ⟨w.heap.size, 29, none⟩) (ltC p29) (fun h => h)).trans p29; have r30 := (hf2.cell (p := ⟨w.heap.size, 30, none⟩) (ltC p30) (fun h => h)).trans p30; have r31 := (hf2.cell (p := ⟨w.heap.size, 31, none⟩) (ltC p31) (fun h => h)).trans p31; have r32 := (hf2.cell (p := ⟨w.heap.size, 32, none⟩) (ltC p32) (fun h => h)).trans p32; have r33 := (hf2.cell (p := ⟨w.heap.size, 33, none⟩) (ltC p33) (fun h => h)).trans p33; have r34 := (hf2.cell (p := ⟨w.heap.size, 34, none⟩) (ltC p34) (fun h => h)).trans p34; have F2 := hid ((uh F1).trans hf2 (fun _ _ h => h)); clear hf2)
  | (go_at_call 165; refine ((uh HE) _).mono ?_; rintro e w3 ⟨rfl, hf3⟩; have s34 := (hf3.cell (p := ⟨w.heap.size, 34, none⟩) (ltC r34) (fun h => h)).trans r34; have F3 := hid ((uh F2).trans hf3 (fun _ _ h => h)); clear hf3))
 all_goals
  go_ret
  refine ⟨?_, ?_⟩
  ·have hC := uh HC
   clear HC HR HA HE
   simp_all [bne_cast]
  ·first | exact uh F3 | exact uh F2 | exact uh F1
set_option maxRecDepth 100000 in
set_option maxHeartbeats 4000000 in
theorem beside_2 (v : MsM) (a0 a1 a2 a3 a4 : Option Addr) (c0 c1 c2 c3 c4 : Nat) (w : World) (hv : v.ok) (hn : v.lens) (hk : v.kd = 2) : Calls Tryz.prog 145 #[.agg (v.vals (.slice a0 v.rq.fs.length c0) (.slice a1 v.an.fs.length c1) (.slice a2 v.an.hi.length c2) (.slice a3 v.ev.rq.fs.length c3) (.slice a4 v.ev.dg.length c4))] w fun e w' => e = .returned (.bool v.beside) ∧ Fr (fun _ => False) w w' := by
 have HR : Hid (∀ wx, Calls Tryz.prog 163 #[.agg #[.int .u32 (v.rq.cl : Nat), .int .u32 (v.rq.nu : Nat), .int .u32 (v.rq.ac : Nat), .int .u8 (v.rq.op : Nat), .int .u32 (v.rq.re : Nat), .int .u32 (v.rq.ve : Nat), .int .u32 (v.rq.wa : Nat), .int .u32 (v.rq.ow : Nat), .slice a0 v.rq.fs.length c0, .string v.rq.rs]] wx fun e w' => e = .returned (.bool (v.rq).is) ∧ Fr (fun _ => False) wx w') := fun wx => isRequest_any (v.rq) a0 c0 wx hv.rq hn.rq
 have HA : Hid (∀ wx, Calls Tryz.prog 164 #[.agg #[.int .u32 (v.an.cl : Nat), .int .u32 (v.an.nu : Nat), .int .u8 (v.an.co : Nat), .int .u32 (v.an.re : Nat), .int .u32 (v.an.ve : Nat), .slice a1 v.an.fs.length c1, .slice a2 v.an.hi.length c2]] wx fun e w' => e = .returned (.bool (v.an).is) ∧ Fr (fun _ => False) wx w') := fun wx => isAnswer_any (v.an) a1 c1 a2 c2 wx hv.an hn.an hn.hi
 have HE : Hid (∀ wx, Calls Tryz.prog 165 #[.agg #[.int .u32 (v.ev.pl : Nat), .int .u32 (v.ev.rq.cl : Nat), .int .u32 (v.ev.rq.nu : Nat), .int .u32 (v.ev.rq.ac : Nat), .int .u8 (v.ev.rq.op : Nat), .int .u32 (v.ev.rq.re : Nat), .int .u32 (v.ev.rq.ve : Nat), .int .u32 (v.ev.rq.wa : Nat), .int .u32 (v.ev.rq.ow : Nat), .slice a3 v.ev.rq.fs.length c3, .string v.ev.rq.rs, .int .u8 (v.ev.co : Nat), .slice a4 v.ev.dg.length c4]] wx fun e w' => e = .returned (.bool (v.ev).is) ∧ Fr (fun _ => False) wx w') := fun wx => isEvent_any (v.ev) a3 c3 a4 c4 wx hv.ev hn.ev hn.dg
 have HC : Hid (v.beside = (((((v.rq).is || !(0 == 0 && 0 == 0)) || (v.an).is) || v.co != 0) || (v.ev).is || v.le != 0)) := by
  have e : v.cut = { v with icl := 0, inu := 0 } := by simp only [MsM.cut, hk]
  show v.cut.is = _
  rw [e]
  rfl
 obtain ⟨hv1, hv2, hv3, hv4, hv5, hv6, hv7, hv8⟩ := hv
 obtain ⟨hn1, hn2, hn3, hn4, hn5⟩ := hn
 generalize v.beside = R at HC ⊢
 generalize (v.rq).is = B1 at HR HC
 generalize (v.an).is = B2 at HA HC
 generalize (v.ev).is = B3 at HE HC
 simp only [MsM.vals, hk]
 clear hn1 hn2 hn3 hn4 hn5 hv2 hv5 hv7
 go_enter Tryz.func145, Tryz.ntmps145
 go_wp2_with (first
  | (go_at_call 163; refine ((uh HR) _).mono ?_; rintro e w1 ⟨rfl, hf1⟩; have p11 := (hf1.cell (p := ⟨w.heap.size, 11, none⟩) (by simp) (fun h => h)).trans (show _ = some ((Value.int .u32 0)) by rw [World.cell?_alloc_at _ _ _ _ rfl]; rfl); have p12 := (hf1.cell (p := ⟨w.heap.size, 12, none⟩) (by simp) (fun h => h)).trans (show _ = some ((Value.int .u32 0)) by rw [World.cell?_alloc_at _ _ _ _ rfl]; rfl); have p13 := (hf1.cell (p := ⟨w.heap.size, 13, none⟩) (by simp) (fun h => h)).trans (show _ = some ((Value.int .u32 (v.an.cl : Nat))) by rw [World.cell?_alloc_at _ _ _ _ rfl]; rfl); have p14 := (hf1.cell (p := ⟨w.heap.size, 14, none⟩) (by simp) (fun h => h)).trans (show _ = some ((Value.int .u32 (v.an.nu : Nat))) by rw [World.cell?_alloc_at _ _ _ _ rfl]; rfl); have p15 := (hf1.cell (p := ⟨w.heap.size, 15, none⟩) (by simp) (fun h => h)).trans (show _ = some ((Value.int .u8 (v.an.co : Nat))) by rw [World.cell?_alloc_at _ _ _ _ rfl]; rfl); have p16 := (hf1.cell (p := ⟨w.heap.size, 16, none⟩) (by simp) (fun h => h)).trans (show _ = some ((Value.int .u32 (v.an.re : Nat))) by rw [World.cell?_alloc_at _ _ _ _ rfl]; rfl); have p17 := (hf1.cell (p := ⟨w.heap.size, 17, none⟩) (by simp) (fun h => h)).trans (show _ = some ((Value.int .u32 (v.an.ve : Nat))) by rw [World.cell?_alloc_at _ _ _ _ rfl]; rfl); have p18 := (hf1.cell (p := ⟨w.heap.size, 18, none⟩) (by simp) (fun h => h)).trans (show _ = some ((Value.slice a1 v.an.fs.length c1)) by rw [World.cell?_alloc_at _ _ _ _ rfl]; rfl); have p19 := (hf1.cell (p := ⟨w.heap.size, 19, none⟩) (by simp) (fun h => h)).trans (show _ = some ((Value.slice a2 v.an.hi.length c2)) by rw [World.cell?_alloc_at _ _ _ _ rfl]; rfl); have p20 := (hf1.cell (p := ⟨w.heap.size, 20, none⟩) (by simp) (fun h => h)).trans (show _ = some ((Value.int .u8 (v.co : Nat))) by rw [World.cell?_alloc_at _ _ _ _ rfl]; rfl); have p21 := (hf1.cell (p := ⟨w.heap.size, 21, none⟩) (by simp) (fun h => h)).trans (show _ = some ((Value.int .u32 (v.ev.pl : Nat))) by rw [World.cell?_alloc_at _ _ _ _ rfl]; rfl); have p22 := (hf1.cell (p := ⟨w.heap.size, 22, none⟩) (by simp) (fun h => h)).trans (show _ = some ((Value.int .u32 (v.ev.rq.cl : Nat))) by rw [World.cell?_alloc_at _ _ _ _ rfl]; rfl); have p23 := (hf1.cell (p := ⟨w.heap.size, 23, none⟩) (by simp) (fun h => h)).trans (show _ = some ((Value.int .u32 (v.ev.rq.nu : Nat))) by rw [World.cell?_alloc_at _ _ _ _ rfl]; rfl); have p24 := (hf1.cell (p := ⟨w.heap.size, 24, none⟩) (by simp) (fun h => h)).trans (show _ = some ((Value.int .u32 (v.ev.rq.ac : Nat))) by rw [World.cell?_alloc_at _ _ _ _ rfl]; rfl); have p25 := (hf1.cell (p := ⟨w.heap.size, 25, none⟩) (by simp) (fun h => h)).trans (show _ = some ((Value.int .u8 (v.ev.rq.op : Nat))) by rw [World.cell?_alloc_at _ _ _ _ rfl]; rfl); have p26 := (hf1.cell (p := ⟨w.heap.size, 26, none⟩) (by simp) (fun h => h)).trans (show _ = some ((Value.int .u32 (v.ev.rq.re : Nat))) by rw [World.cell?_alloc_at _ _ _ _ rfl]; rfl); have p27 := (hf1.cell (p := ⟨w.heap.size, 27, none⟩) (by simp) (fun h => h)).trans (show _ = some ((Value.int .u32 (v.ev.rq.ve : Nat))) by rw [World.cell?_alloc_at _ _ _ _ rfl]; rfl); have p28 := (hf1.cell (p := ⟨w.heap.size, 28, none⟩) (by simp) (fun h => h)).trans (show _ = some ((Value.int .u32 (v.ev.rq.wa : Nat))) by rw [World.cell?_alloc_at _ _ _ _ rfl]; rfl); have p29 := (hf1.cell (p := ⟨w.heap.size, 29, none⟩) (by simp) (fun h => h)).trans (show _ = some ((Value.int .u32 (v.ev.rq.ow : Nat))) by rw [World.cell?_alloc_at _ _ _ _ rfl]; rfl); have p30 := (hf1.cell (p := ⟨w.heap.size, 30, none⟩) (by simp) (fun h => h)).trans (show _ = some ((Value.slice a3 v.ev.rq.fs.length c3)) by rw [World.cell?_alloc_at _ _ _ _ rfl]; rfl); have p31 := (hf1.cell (p := ⟨w.heap.size, 31, none⟩) (by simp) (fun h => h)).trans (show _ = some ((Value.string v.ev.rq.rs)) by rw [World.cell?_alloc_at _ _ _ _ rfl]; rfl); have p32 := (hf1.cell (p := ⟨w.heap.size, 32, none⟩) (by simp) (fun h => h)).trans (show _ = some ((Value.int .u8 (v.ev.co : Nat))) by rw [World.cell?_alloc_at _ _ _ _ rfl]; rfl); have p33 := (hf1.cell (p := ⟨w.heap.size, 33, none⟩) (by simp) (fun h => h)).trans (show _ = some ((Value.slice a4 v.ev.dg.length c4)) by rw [World.cell?_alloc_at _ _ _ _ rfl]; rfl); have p34 := (hf1.cell (p := ⟨w.heap.size, 34, none⟩) (by simp) (fun h => h)).trans (show _ = some ((Value.int .u32 (v.le : Nat))) by rw [World.cell?_alloc_at _ _ _ _ rfl]; rfl); have F1 := hid ((box1 w _).trans hf1 (fun _ _ h => h)); clear hf1)
  | (go_at_call 164; refine ((uh HA) _).mono ?_; rintro e w2 ⟨rfl, hf2⟩; have r20 := (hf2.cell (p := ⟨w.heap.size, 20, none⟩) (ltC p20) (fun h => h)).trans p20; have r21 := (hf2.cell (p := ⟨w.heap.size, 21, none⟩) (ltC p21) (fun h => h)).trans p21; have r22 := (hf2.cell (p := ⟨w.heap.size, 22, none⟩) (ltC p22) (fun h => h)).trans p22; have r23 := (hf2.cell (p := ⟨w.heap.size, 23, none⟩) (ltC p23) (fun h => h)).trans p23; have r24 := (hf2.cell (p := ⟨w.heap.size, 24, none⟩) (ltC p24) (fun h => h)).trans p24; have r25 := (hf2.cell (p := ⟨w.heap.size, 25, none⟩) (ltC p25) (fun h => h)).trans p25; have r26 := (hf2.cell (p := ⟨w.heap.size, 26, none⟩) (ltC p26) (fun h => h)).trans p26; have r27 := (hf2.cell (p := ⟨w.heap.size, 27, none⟩) (ltC p27) (fun h => h)).trans p27; have r28 := (hf2.cell (p := ⟨w.heap.size, 28, none⟩) (ltC p28) (fun h => h)).trans p28; have r29 := (hf2.cell (p := ⟨w.heap.size, 29, none⟩) (ltC p29) (fun h => h)).trans p29; have r30 := (hf2.cell (p := ⟨w.heap.size, 30, none⟩) (ltC p30) (fun h => h)).trans p30; have r31 := (hf2.cell (p := ⟨w.heap.size, 31, none⟩) (ltC p31) (fun h => h)).trans p31; have r32 := (hf2.cell (p := ⟨w.heap.size, 32, none⟩) (ltC p32) (fun h => h)).trans p32; have r33 := (hf2.cell (p := ⟨w.heap.size, 33, none⟩) (ltC p33) (fun h => h)).trans p33; have r34 := (hf2.cell (p := ⟨w.heap.size, 34, none⟩) (ltC p34) (fun h => h)).trans p34; have F2 := hid ((uh F1).trans hf2 (fun _ _ h => h)); clear hf2)
  | (go_at_call 165; refine ((uh HE) _).mono ?_; rintro e w3 ⟨rfl, hf3⟩; have s34 := (hf3.cell (p := ⟨w.heap.size, 34, none⟩) (ltC r34) (fun h => h)).trans r34; have F3 := hid ((uh F2).trans hf3 (fun _ _ h => h)); clear hf3))
 all_goals
  go_ret
  refine ⟨?_, ?_⟩
  ·have hC := uh HC
   clear HC HR HA HE
   simp_all [bne_cast]
  ·first | exact uh F3 | exact uh F2 | exact uh F1
set_option maxRecDepth 100000 in
set_option maxHeartbeats 4000000 in
theorem beside_3 (v : MsM) (a0 a1 a2 a3 a4 : Option Addr) (c0 c1 c2 c3 c4 : Nat) (w : World) (hv : v.ok) (hn : v.lens) (hk : v.kd = 3) : Calls Tryz.prog 145 #[.agg (v.vals (.slice a0 v.rq.fs.length c0) (.slice a1 v.an.fs.length c1) (.slice a2 v.an.hi.length c2) (.slice a3 v.ev.rq.fs.length c3) (.slice a4 v.ev.dg.length c4))] w fun e w' => e = .returned (.bool v.beside) ∧ Fr (fun _ => False) w w' := by
 have HR : Hid (∀ wx, Calls Tryz.prog 163 #[.agg #[.int .u32 (v.rq.cl : Nat), .int .u32 (v.rq.nu : Nat), .int .u32 (v.rq.ac : Nat), .int .u8 (v.rq.op : Nat), .int .u32 (v.rq.re : Nat), .int .u32 (v.rq.ve : Nat), .int .u32 (v.rq.wa : Nat), .int .u32 (v.rq.ow : Nat), .slice a0 v.rq.fs.length c0, .string v.rq.rs]] wx fun e w' => e = .returned (.bool (v.rq).is) ∧ Fr (fun _ => False) wx w') := fun wx => isRequest_any (v.rq) a0 c0 wx hv.rq hn.rq
 have HA : Hid (∀ wx, Calls Tryz.prog 164 #[.agg #[.int .u32 0, .int .u32 0, .int .u8 0, .int .u32 0, .int .u32 0, .slice none 0 0, .slice none 0 0]] wx fun e w' => e = .returned (.bool (zAn).is) ∧ Fr (fun _ => False) wx w') := fun wx => isAnswer_any (zAn) none 0 none 0 wx ⟨by decide, by decide, by decide, by decide, by decide⟩ (by decide) (by decide)
 have HE : Hid (∀ wx, Calls Tryz.prog 165 #[.agg #[.int .u32 (v.ev.pl : Nat), .int .u32 (v.ev.rq.cl : Nat), .int .u32 (v.ev.rq.nu : Nat), .int .u32 (v.ev.rq.ac : Nat), .int .u8 (v.ev.rq.op : Nat), .int .u32 (v.ev.rq.re : Nat), .int .u32 (v.ev.rq.ve : Nat), .int .u32 (v.ev.rq.wa : Nat), .int .u32 (v.ev.rq.ow : Nat), .slice a3 v.ev.rq.fs.length c3, .string v.ev.rq.rs, .int .u8 (v.ev.co : Nat), .slice a4 v.ev.dg.length c4]] wx fun e w' => e = .returned (.bool (v.ev).is) ∧ Fr (fun _ => False) wx w') := fun wx => isEvent_any (v.ev) a3 c3 a4 c4 wx hv.ev hn.ev hn.dg
 have HC : Hid (v.beside = (((((v.rq).is || !(v.icl == 0 && v.inu == 0)) || (zAn).is) || v.co != 0) || (v.ev).is || v.le != 0)) := by
  have e : v.cut = { v with an := zAn } := by simp only [MsM.cut, hk]
  show v.cut.is = _
  rw [e]
  rfl
 obtain ⟨hv1, hv2, hv3, hv4, hv5, hv6, hv7, hv8⟩ := hv
 obtain ⟨hn1, hn2, hn3, hn4, hn5⟩ := hn
 generalize v.beside = R at HC ⊢
 generalize (v.rq).is = B1 at HR HC
 generalize (zAn).is = B2 at HA HC
 generalize (v.ev).is = B3 at HE HC
 simp only [MsM.vals, hk]
 clear hn1 hn2 hn3 hn4 hn5 hv2 hv5 hv7
 go_enter Tryz.func145, Tryz.ntmps145
 go_wp2_with (first
  | (go_at_call 163; refine ((uh HR) _).mono ?_; rintro e w1 ⟨rfl, hf1⟩; have p11 := (hf1.cell (p := ⟨w.heap.size, 11, none⟩) (by simp) (fun h => h)).trans (show _ = some ((Value.int .u32 (v.icl : Nat))) by rw [World.cell?_alloc_at _ _ _ _ rfl]; rfl); have p12 := (hf1.cell (p := ⟨w.heap.size, 12, none⟩) (by simp) (fun h => h)).trans (show _ = some ((Value.int .u32 (v.inu : Nat))) by rw [World.cell?_alloc_at _ _ _ _ rfl]; rfl); have p13 := (hf1.cell (p := ⟨w.heap.size, 13, none⟩) (by simp) (fun h => h)).trans (show _ = some ((Value.int .u32 0)) by rw [World.cell?_alloc_at _ _ _ _ rfl]; rfl); have p14 := (hf1.cell (p := ⟨w.heap.size, 14, none⟩) (by simp) (fun h => h)).trans (show _ = some ((Value.int .u32 0)) by rw [World.cell?_alloc_at _ _ _ _ rfl]; rfl); have p15 := (hf1.cell (p := ⟨w.heap.size, 15, none⟩) (by simp) (fun h => h)).trans (show _ = some ((Value.int .u8 0)) by rw [World.cell?_alloc_at _ _ _ _ rfl]; rfl); have p16 := (hf1.cell (p := ⟨w.heap.size, 16, none⟩) (by simp) (fun h => h)).trans (show _ = some ((Value.int .u32 0)) by rw [World.cell?_alloc_at _ _ _ _ rfl]; rfl); have p17 := (hf1.cell (p := ⟨w.heap.size, 17, none⟩) (by simp) (fun h => h)).trans (show _ = some ((Value.int .u32 0)) by rw [World.cell?_alloc_at _ _ _ _ rfl]; rfl); have p18 := (hf1.cell (p := ⟨w.heap.size, 18, none⟩) (by simp) (fun h => h)).trans (show _ = some ((Value.slice none 0 0)) by rw [World.cell?_alloc_at _ _ _ _ rfl]; rfl); have p19 := (hf1.cell (p := ⟨w.heap.size, 19, none⟩) (by simp) (fun h => h)).trans (show _ = some ((Value.slice none 0 0)) by rw [World.cell?_alloc_at _ _ _ _ rfl]; rfl); have p20 := (hf1.cell (p := ⟨w.heap.size, 20, none⟩) (by simp) (fun h => h)).trans (show _ = some ((Value.int .u8 (v.co : Nat))) by rw [World.cell?_alloc_at _ _ _ _ rfl]; rfl); have p21 := (hf1.cell (p := ⟨w.heap.size, 21, none⟩) (by simp) (fun h => h)).trans (show _ = some ((Value.int .u32 (v.ev.pl : Nat))) by rw [World.cell?_alloc_at _ _ _ _ rfl]; rfl); have p22 := (hf1.cell (p := ⟨w.heap.size, 22, none⟩) (by simp) (fun h => h)).trans (show _ = some ((Value.int .u32 (v.ev.rq.cl : Nat))) by rw [World.cell?_alloc_at _ _ _ _ rfl]; rfl); have p23 := (hf1.cell (p := ⟨w.heap.size, 23, none⟩) (by simp) (fun h => h)).trans (show _ = some ((Value.int .u32 (v.ev.rq.nu : Nat))) by rw [World.cell?_alloc_at _ _ _ _ rfl]; rfl); have p24 := (hf1.cell (p := ⟨w.heap.size, 24, none⟩) (by simp) (fun h => h)).trans (show _ = some ((Value.int .u32 (v.ev.rq.ac : Nat))) by rw [World.cell?_alloc_at _ _ _ _ rfl]; rfl); have p25 := (hf1.cell (p := ⟨w.heap.size, 25, none⟩) (by simp) (fun h => h)).trans (show _ = some ((Value.int .u8 (v.ev.rq.op : Nat))) by rw [World.cell?_alloc_at _ _ _ _ rfl]; rfl); have p26 := (hf1.cell (p := ⟨w.heap.size, 26, none⟩) (by simp) (fun h => h)).trans (show _ = some ((Value.int .u32 (v.ev.rq.re : Nat))) by rw [World.cell?_alloc_at _ _ _ _ rfl]; rfl); have p27 := (hf1.cell (p := ⟨w.heap.size, 27, none⟩) (by simp) (fun h => h)).trans (show _ = some ((Value.int .u32 (v.ev.rq.ve : Nat))) by rw [World.cell?_alloc_at _ _ _ _ rfl]; rfl); have p28 := (hf1.cell (p := ⟨w.heap.size, 28, none⟩) (by simp) (fun h => h)).trans (show _ = some ((Value.int .u32 (v.ev.rq.wa : Nat))) by rw [World.cell?_alloc_at _ _ _ _ rfl]; rfl); have p29 := (hf1.cell (p := ⟨w.heap.size, 29, none⟩) (by simp) (fun h => h)).trans (show _ = some ((Value.int .u32 (v.ev.rq.ow : Nat))) by rw [World.cell?_alloc_at _ _ _ _ rfl]; rfl); have p30 := (hf1.cell (p := ⟨w.heap.size, 30, none⟩) (by simp) (fun h => h)).trans (show _ = some ((Value.slice a3 v.ev.rq.fs.length c3)) by rw [World.cell?_alloc_at _ _ _ _ rfl]; rfl); have p31 := (hf1.cell (p := ⟨w.heap.size, 31, none⟩) (by simp) (fun h => h)).trans (show _ = some ((Value.string v.ev.rq.rs)) by rw [World.cell?_alloc_at _ _ _ _ rfl]; rfl); have p32 := (hf1.cell (p := ⟨w.heap.size, 32, none⟩) (by simp) (fun h => h)).trans (show _ = some ((Value.int .u8 (v.ev.co : Nat))) by rw [World.cell?_alloc_at _ _ _ _ rfl]; rfl); have p33 := (hf1.cell (p := ⟨w.heap.size, 33, none⟩) (by simp) (fun h => h)).trans (show _ = some ((Value.slice a4 v.ev.dg.length c4)) by rw [World.cell?_alloc_at _ _ _ _ rfl]; rfl); have p34 := (hf1.cell (p := ⟨w.heap.size, 34, none⟩) (by simp) (fun h => h)).trans (show _ = some ((Value.int .u32 (v.le : Nat))) by rw [World.cell?_alloc_at _ _ _ _ rfl]; rfl); have F1 := hid ((box1 w _).trans hf1 (fun _ _ h => h)); clear hf1)
  | (go_at_call 164; refine ((uh HA) _).mono ?_; rintro e w2 ⟨rfl, hf2⟩; have r20 := (hf2.cell (p := ⟨w.heap.size, 20, none⟩) (ltC p20) (fun h => h)).trans p20; have r21 := (hf2.cell (p := ⟨w.heap.size, 21, none⟩) (ltC p21) (fun h => h)).trans p21; have r22 := (hf2.cell (p := ⟨w.heap.size, 22, none⟩) (ltC p22) (fun h => h)).trans p22; have r23 := (hf2.cell (p := ⟨w.heap.size, 23, none⟩) (ltC p23) (fun h => h)).trans p23; have r24 := (hf2.cell (p := ⟨w.heap.size, 24, none⟩) (ltC p24) (fun h => h)).trans p24; have r25 := (hf2.cell (p := ⟨w.heap.size, 25, none⟩) (ltC p25) (fun h => h)).trans p25; have r26 := (hf2.cell (p := ⟨w.heap.size, 26, none⟩) (ltC p26) (fun h => h)).trans p26; have r27 := (hf2.cell (p := ⟨w.heap.size, 27, none⟩) (ltC p27) (fun h => h)).trans p27; have r28 := (hf2.cell (p := ⟨w.heap.size, 28, none⟩) (ltC p28) (fun h => h)).trans p28; have r29 := (hf2.cell (p := ⟨w.heap.size, 29, none⟩) (ltC p29) (fun h => h)).trans p29; have r30 := (hf2.cell (p := ⟨w.heap.size, 30, none⟩) (ltC p30) (fun h => h)).trans p30; have r31 := (hf2.cell (p := ⟨w.heap.size, 31, none⟩) (ltC p31) (fun h => h)).trans p31; have r32 := (hf2.cell (p := ⟨w.heap.size, 32, none⟩) (ltC p32) (fun h => h)).trans p32; have r33 := (hf2.cell (p := ⟨w.heap.size, 33, none⟩) (ltC p33) (fun h => h)).trans p33; have r34 := (hf2.cell (p := ⟨w.heap.size, 34, none⟩) (ltC p34) (fun h => h)).trans p34; have F2 := hid ((uh F1).trans hf2 (fun _ _ h => h)); clear hf2)
  | (go_at_call 165; refine ((uh HE) _).mono ?_; rintro e w3 ⟨rfl, hf3⟩; have s34 := (hf3.cell (p := ⟨w.heap.size, 34, none⟩) (ltC r34) (fun h => h)).trans r34; have F3 := hid ((uh F2).trans hf3 (fun _ _ h => h)); clear hf3))
 all_goals
  go_ret
  refine ⟨?_, ?_⟩
  ·have hC := uh HC
   clear HC HR HA HE
   simp_all [bne_cast]
  ·first | exact uh F3 | exact uh F2 | exact uh F1
set_option maxRecDepth 100000 in
set_option maxHeartbeats 4000000 in
theorem beside_4 (v : MsM) (a0 a1 a2 a3 a4 : Option Addr) (c0 c1 c2 c3 c4 : Nat) (w : World) (hv : v.ok) (hn : v.lens) (hk : v.kd = 4) : Calls Tryz.prog 145 #[.agg (v.vals (.slice a0 v.rq.fs.length c0) (.slice a1 v.an.fs.length c1) (.slice a2 v.an.hi.length c2) (.slice a3 v.ev.rq.fs.length c3) (.slice a4 v.ev.dg.length c4))] w fun e w' => e = .returned (.bool v.beside) ∧ Fr (fun _ => False) w w' := by
 have HR : Hid (∀ wx, Calls Tryz.prog 163 #[.agg #[.int .u32 (v.rq.cl : Nat), .int .u32 (v.rq.nu : Nat), .int .u32 (v.rq.ac : Nat), .int .u8 (v.rq.op : Nat), .int .u32 (v.rq.re : Nat), .int .u32 (v.rq.ve : Nat), .int .u32 (v.rq.wa : Nat), .int .u32 (v.rq.ow : Nat), .slice a0 v.rq.fs.length c0, .string v.rq.rs]] wx fun e w' => e = .returned (.bool (v.rq).is) ∧ Fr (fun _ => False) wx w') := fun wx => isRequest_any (v.rq) a0 c0 wx hv.rq hn.rq
 have HA : Hid (∀ wx, Calls Tryz.prog 164 #[.agg #[.int .u32 (v.an.cl : Nat), .int .u32 (v.an.nu : Nat), .int .u8 (v.an.co : Nat), .int .u32 (v.an.re : Nat), .int .u32 (v.an.ve : Nat), .slice a1 v.an.fs.length c1, .slice a2 v.an.hi.length c2]] wx fun e w' => e = .returned (.bool (v.an).is) ∧ Fr (fun _ => False) wx w') := fun wx => isAnswer_any (v.an) a1 c1 a2 c2 wx hv.an hn.an hn.hi
 have HE : Hid (∀ wx, Calls Tryz.prog 165 #[.agg #[.int .u32 (v.ev.pl : Nat), .int .u32 (v.ev.rq.cl : Nat), .int .u32 (v.ev.rq.nu : Nat), .int .u32 (v.ev.rq.ac : Nat), .int .u8 (v.ev.rq.op : Nat), .int .u32 (v.ev.rq.re : Nat), .int .u32 (v.ev.rq.ve : Nat), .int .u32 (v.ev.rq.wa : Nat), .int .u32 (v.ev.rq.ow : Nat), .slice a3 v.ev.rq.fs.length c3, .string v.ev.rq.rs, .int .u8 (v.ev.co : Nat), .slice a4 v.ev.dg.length c4]] wx fun e w' => e = .returned (.bool (v.ev).is) ∧ Fr (fun _ => False) wx w') := fun wx => isEvent_any (v.ev) a3 c3 a4 c4 wx hv.ev hn.ev hn.dg
 have HC : Hid (v.beside = (((((v.rq).is || !(0 == 0 && 0 == 0)) || (v.an).is) || 0 != 0) || (v.ev).is || v.le != 0)) := by
  have e : v.cut = { v with icl := 0, inu := 0, co := 0 } := by simp only [MsM.cut, hk]
  show v.cut.is = _
  rw [e]
  rfl
 obtain ⟨hv1, hv2, hv3, hv4, hv5, hv6, hv7, hv8⟩ := hv
 obtain ⟨hn1, hn2, hn3, hn4, hn5⟩ := hn
 generalize v.beside = R at HC ⊢
 generalize (v.rq).is = B1 at HR HC
 generalize (v.an).is = B2 at HA HC
 generalize (v.ev).is = B3 at HE HC
 simp only [MsM.vals, hk]
 clear hn1 hn2 hn3 hn4 hn5 hv2 hv5 hv7
 go_enter Tryz.func145, Tryz.ntmps145
 go_wp2_with (first
  | (go_at_call 163; refine ((uh HR) _).mono ?_; rintro e w1 ⟨rfl, hf1⟩; have p11 := (hf1.cell (p := ⟨w.heap.size, 11, none⟩) (by simp) (fun h => h)).trans (show _ = some ((Value.int .u32 0)) by rw [World.cell?_alloc_at _ _ _ _ rfl]; rfl); have p12 := (hf1.cell (p := ⟨w.heap.size, 12, none⟩) (by simp) (fun h => h)).trans (show _ = some ((Value.int .u32 0)) by rw [World.cell?_alloc_at _ _ _ _ rfl]; rfl); have p13 := (hf1.cell (p := ⟨w.heap.size, 13, none⟩) (by simp) (fun h => h)).trans (show _ = some ((Value.int .u32 (v.an.cl : Nat))) by rw [World.cell?_alloc_at _ _ _ _ rfl]; rfl); have p14 := (hf1.cell (p := ⟨w.heap.size, 14, none⟩) (by simp) (fun h => h)).trans (show _ = some ((Value.int .u32 (v.an.nu : Nat))) by rw [World.cell?_alloc_at _ _ _ _ rfl]; rfl); have p15 := (hf1.cell (p := ⟨w.heap.size, 15, none⟩) (by simp) (fun h => h)).trans (show _ = some ((Value.int .u8 (v.an.co : Nat))) by rw [World.cell?_alloc_at _ _ _ _ rfl]; rfl); have p16 := (hf1.cell (p := ⟨w.heap.size, 16, none⟩) (by simp) (fun h => h)).trans (show _ = some ((Value.int .u32 (v.an.re : Nat))) by rw [World.cell?_alloc_at _ _ _ _ rfl]; rfl); have p17 := (hf1.cell (p := ⟨w.heap.size, 17, none⟩) (by simp) (fun h => h)).trans (show _ = some ((Value.int .u32 (v.an.ve : Nat))) by rw [World.cell?_alloc_at _ _ _ _ rfl]; rfl); have p18 := (hf1.cell (p := ⟨w.heap.size, 18, none⟩) (by simp) (fun h => h)).trans (show _ = some ((Value.slice a1 v.an.fs.length c1)) by rw [World.cell?_alloc_at _ _ _ _ rfl]; rfl); have p19 := (hf1.cell (p := ⟨w.heap.size, 19, none⟩) (by simp) (fun h => h)).trans (show _ = some ((Value.slice a2 v.an.hi.length c2)) by rw [World.cell?_alloc_at _ _ _ _ rfl]; rfl); have p20 := (hf1.cell (p := ⟨w.heap.size, 20, none⟩) (by simp) (fun h => h)).trans (show _ = some ((Value.int .u8 0)) by rw [World.cell?_alloc_at _ _ _ _ rfl]; rfl); have p21 := (hf1.cell (p := ⟨w.heap.size, 21, none⟩) (by simp) (fun h => h)).trans (show _ = some ((Value.int .u32 (v.ev.pl : Nat))) by rw [World.cell?_alloc_at _ _ _ _ rfl]; rfl); have p22 := (hf1.cell (p := ⟨w.heap.size, 22, none⟩) (by simp) (fun h => h)).trans (show _ = some ((Value.int .u32 (v.ev.rq.cl : Nat))) by rw [World.cell?_alloc_at _ _ _ _ rfl]; rfl); have p23 := (hf1.cell (p := ⟨w.heap.size, 23, none⟩) (by simp) (fun h => h)).trans (show _ = some ((Value.int .u32 (v.ev.rq.nu : Nat))) by rw [World.cell?_alloc_at _ _ _ _ rfl]; rfl); have p24 := (hf1.cell (p := ⟨w.heap.size, 24, none⟩) (by simp) (fun h => h)).trans (show _ = some ((Value.int .u32 (v.ev.rq.ac : Nat))) by rw [World.cell?_alloc_at _ _ _ _ rfl]; rfl); have p25 := (hf1.cell (p := ⟨w.heap.size, 25, none⟩) (by simp) (fun h => h)).trans (show _ = some ((Value.int .u8 (v.ev.rq.op : Nat))) by rw [World.cell?_alloc_at _ _ _ _ rfl]; rfl); have p26 := (hf1.cell (p := ⟨w.heap.size, 26, none⟩) (by simp) (fun h => h)).trans (show _ = some ((Value.int .u32 (v.ev.rq.re : Nat))) by rw [World.cell?_alloc_at _ _ _ _ rfl]; rfl); have p27 := (hf1.cell (p := ⟨w.heap.size, 27, none⟩) (by simp) (fun h => h)).trans (show _ = some ((Value.int .u32 (v.ev.rq.ve : Nat))) by rw [World.cell?_alloc_at _ _ _ _ rfl]; rfl); have p28 := (hf1.cell (p := ⟨w.heap.size, 28, none⟩) (by simp) (fun h => h)).trans (show _ = some ((Value.int .u32 (v.ev.rq.wa : Nat))) by rw [World.cell?_alloc_at _ _ _ _ rfl]; rfl); have p29 := (hf1.cell (p := ⟨w.heap.size, 29, none⟩) (by simp) (fun h => h)).trans (show _ = some ((Value.int .u32 (v.ev.rq.ow : Nat))) by rw [World.cell?_alloc_at _ _ _ _ rfl]; rfl); have p30 := (hf1.cell (p := ⟨w.heap.size, 30, none⟩) (by simp) (fun h => h)).trans (show _ = some ((Value.slice a3 v.ev.rq.fs.length c3)) by rw [World.cell?_alloc_at _ _ _ _ rfl]; rfl); have p31 := (hf1.cell (p := ⟨w.heap.size, 31, none⟩) (by simp) (fun h => h)).trans (show _ = some ((Value.string v.ev.rq.rs)) by rw [World.cell?_alloc_at _ _ _ _ rfl]; rfl); have p32 := (hf1.cell (p := ⟨w.heap.size, 32, none⟩) (by simp) (fun h => h)).trans (show _ = some ((Value.int .u8 (v.ev.co : Nat))) by rw [World.cell?_alloc_at _ _ _ _ rfl]; rfl); have p33 := (hf1.cell (p := ⟨w.heap.size, 33, none⟩) (by simp) (fun h => h)).trans (show _ = some ((Value.slice a4 v.ev.dg.length c4)) by rw [World.cell?_alloc_at _ _ _ _ rfl]; rfl); have p34 := (hf1.cell (p := ⟨w.heap.size, 34, none⟩) (by simp) (fun h => h)).trans (show _ = some ((Value.int .u32 (v.le : Nat))) by rw [World.cell?_alloc_at _ _ _ _ rfl]; rfl); have F1 := hid ((box1 w _).trans hf1 (fun _ _ h => h)); clear hf1)
  | (go_at_call 164; refine ((uh HA) _).mono ?_; rintro e w2 ⟨rfl, hf2⟩; have r20 := (hf2.cell (p := ⟨w.heap.size, 20, none⟩) (ltC p20) (fun h => h)).trans p20; have r21 := (hf2.cell (p := ⟨w.heap.size, 21, none⟩) (ltC p21) (fun h => h)).trans p21; have r22 := (hf2.cell (p := ⟨w.heap.size, 22, none⟩) (ltC p22) (fun h => h)).trans p22; have r23 := (hf2.cell (p := ⟨w.heap.size, 23, none⟩) (ltC p23) (fun h => h)).trans p23; have r24 := (hf2.cell (p := ⟨w.heap.size, 24, none⟩) (ltC p24) (fun h => h)).trans p24; have r25 := (hf2.cell (p := ⟨w.heap.size, 25, none⟩) (ltC p25) (fun h => h)).trans p25; have r26 := (hf2.cell (p := ⟨w.heap.size, 26, none⟩) (ltC p26) (fun h => h)).trans p26; have r27 := (hf2.cell (p := ⟨w.heap.size, 27, none⟩) (ltC p27) (fun h => h)).trans p27; have r28 := (hf2.cell (p := ⟨w.heap.size, 28, none⟩) (ltC p28) (fun h => h)).trans p28; have r29 := (hf2.cell (p := ⟨w.heap.size, 29, none⟩) (ltC p29) (fun h => h)).trans p29; have r30 := (hf2.cell (p := ⟨w.heap.size, 30, none⟩) (ltC p30) (fun h => h)).trans p30; have r31 := (hf2.cell (p := ⟨w.heap.size, 31, none⟩) (ltC p31) (fun h => h)).trans p31; have r32 := (hf2.cell (p := ⟨w.heap.size, 32, none⟩) (ltC p32) (fun h => h)).trans p32; have r33 := (hf2.cell (p := ⟨w.heap.size, 33, none⟩) (ltC p33) (fun h => h)).trans p33; have r34 := (hf2.cell (p := ⟨w.heap.size, 34, none⟩) (ltC p34) (fun h => h)).trans p34; have F2 := hid ((uh F1).trans hf2 (fun _ _ h => h)); clear hf2)
  | (go_at_call 165; refine ((uh HE) _).mono ?_; rintro e w3 ⟨rfl, hf3⟩; have s34 := (hf3.cell (p := ⟨w.heap.size, 34, none⟩) (ltC r34) (fun h => h)).trans r34; have F3 := hid ((uh F2).trans hf3 (fun _ _ h => h)); clear hf3))
 all_goals
  go_ret
  refine ⟨?_, ?_⟩
  ·have hC := uh HC
   clear HC HR HA HE
   simp_all [bne_cast]
  ·first | exact uh F3 | exact uh F2 | exact uh F1
set_option maxRecDepth 100000 in
set_option maxHeartbeats 4000000 in
theorem beside_5 (v : MsM) (a0 a1 a2 a3 a4 : Option Addr) (c0 c1 c2 c3 c4 : Nat) (w : World) (hv : v.ok) (hn : v.lens) (hk : v.kd = 5) : Calls Tryz.prog 145 #[.agg (v.vals (.slice a0 v.rq.fs.length c0) (.slice a1 v.an.fs.length c1) (.slice a2 v.an.hi.length c2) (.slice a3 v.ev.rq.fs.length c3) (.slice a4 v.ev.dg.length c4))] w fun e w' => e = .returned (.bool v.beside) ∧ Fr (fun _ => False) w w' := by
 have HR : Hid (∀ wx, Calls Tryz.prog 163 #[.agg #[.int .u32 (v.rq.cl : Nat), .int .u32 (v.rq.nu : Nat), .int .u32 (v.rq.ac : Nat), .int .u8 (v.rq.op : Nat), .int .u32 (v.rq.re : Nat), .int .u32 (v.rq.ve : Nat), .int .u32 (v.rq.wa : Nat), .int .u32 (v.rq.ow : Nat), .slice a0 v.rq.fs.length c0, .string v.rq.rs]] wx fun e w' => e = .returned (.bool (v.rq).is) ∧ Fr (fun _ => False) wx w') := fun wx => isRequest_any (v.rq) a0 c0 wx hv.rq hn.rq
 have HA : Hid (∀ wx, Calls Tryz.prog 164 #[.agg #[.int .u32 (v.an.cl : Nat), .int .u32 (v.an.nu : Nat), .int .u8 (v.an.co : Nat), .int .u32 (v.an.re : Nat), .int .u32 (v.an.ve : Nat), .slice a1 v.an.fs.length c1, .slice a2 v.an.hi.length c2]] wx fun e w' => e = .returned (.bool (v.an).is) ∧ Fr (fun _ => False) wx w') := fun wx => isAnswer_any (v.an) a1 c1 a2 c2 wx hv.an hn.an hn.hi
 have HE : Hid (∀ wx, Calls Tryz.prog 165 #[.agg #[.int .u32 0, .int .u32 0, .int .u32 0, .int .u32 0, .int .u8 0, .int .u32 0, .int .u32 0, .int .u32 0, .int .u32 0, .slice none 0 0, .string ⟨#[]⟩, .int .u8 0, .slice none 0 0]] wx fun e w' => e = .returned (.bool (zEv).is) ∧ Fr (fun _ => False) wx w') := fun wx => isEvent_any (zEv) none 0 none 0 wx zEv_ok (by decide) (by decide)
 have HC : Hid (v.beside = (((((v.rq).is || !(v.icl == 0 && v.inu == 0)) || (v.an).is) || v.co != 0) || (zEv).is || v.le != 0)) := by
  have e : v.cut = { v with ev := zEv } := by simp only [MsM.cut, hk]
  show v.cut.is = _
  rw [e]
  rfl
 obtain ⟨hv1, hv2, hv3, hv4, hv5, hv6, hv7, hv8⟩ := hv
 obtain ⟨hn1, hn2, hn3, hn4, hn5⟩ := hn
 generalize v.beside = R at HC ⊢
 generalize (v.rq).is = B1 at HR HC
 generalize (v.an).is = B2 at HA HC
 generalize (zEv).is = B3 at HE HC
 simp only [MsM.vals, hk]
 clear hn1 hn2 hn3 hn4 hn5 hv2 hv5 hv7
 go_enter Tryz.func145, Tryz.ntmps145
 go_wp2_with (first
  | (go_at_call 163; refine ((uh HR) _).mono ?_; rintro e w1 ⟨rfl, hf1⟩; have p11 := (hf1.cell (p := ⟨w.heap.size, 11, none⟩) (by simp) (fun h => h)).trans (show _ = some ((Value.int .u32 (v.icl : Nat))) by rw [World.cell?_alloc_at _ _ _ _ rfl]; rfl); have p12 := (hf1.cell (p := ⟨w.heap.size, 12, none⟩) (by simp) (fun h => h)).trans (show _ = some ((Value.int .u32 (v.inu : Nat))) by rw [World.cell?_alloc_at _ _ _ _ rfl]; rfl); have p13 := (hf1.cell (p := ⟨w.heap.size, 13, none⟩) (by simp) (fun h => h)).trans (show _ = some ((Value.int .u32 (v.an.cl : Nat))) by rw [World.cell?_alloc_at _ _ _ _ rfl]; rfl); have p14 := (hf1.cell (p := ⟨w.heap.size, 14, none⟩) (by simp) (fun h => h)).trans (show _ = some ((Value.int .u32 (v.an.nu : Nat))) by rw [World.cell?_alloc_at _ _ _ _ rfl]; rfl); have p15 := (hf1.cell (p := ⟨w.heap.size, 15, none⟩) (by simp) (fun h => h)).trans (show _ = some ((Value.int .u8 (v.an.co : Nat))) by rw [World.cell?_alloc_at _ _ _ _ rfl]; rfl); have p16 := (hf1.cell (p := ⟨w.heap.size, 16, none⟩) (by simp) (fun h => h)).trans (show _ = some ((Value.int .u32 (v.an.re : Nat))) by rw [World.cell?_alloc_at _ _ _ _ rfl]; rfl); have p17 := (hf1.cell (p := ⟨w.heap.size, 17, none⟩) (by simp) (fun h => h)).trans (show _ = some ((Value.int .u32 (v.an.ve : Nat))) by rw [World.cell?_alloc_at _ _ _ _ rfl]; rfl); have p18 := (hf1.cell (p := ⟨w.heap.size, 18, none⟩) (by simp) (fun h => h)).trans (show _ = some ((Value.slice a1 v.an.fs.length c1)) by rw [World.cell?_alloc_at _ _ _ _ rfl]; rfl); have p19 := (hf1.cell (p := ⟨w.heap.size, 19, none⟩) (by simp) (fun h => h)).trans (show _ = some ((Value.slice a2 v.an.hi.length c2)) by rw [World.cell?_alloc_at _ _ _ _ rfl]; rfl); have p20 := (hf1.cell (p := ⟨w.heap.size, 20, none⟩) (by simp) (fun h => h)).trans (show _ = some ((Value.int .u8 (v.co : Nat))) by rw [World.cell?_alloc_at _ _ _ _ rfl]; rfl); have p21 := (hf1.cell (p := ⟨w.heap.size, 21, none⟩) (by simp) (fun h => h)).trans (show _ = some ((Value.int .u32 0)) by rw [World.cell?_alloc_at _ _ _ _ rfl]; rfl); have p22 := (hf1.cell (p := ⟨w.heap.size, 22, none⟩) (by simp) (fun h => h)).trans (show _ = some ((Value.int .u32 0)) by rw [World.cell?_alloc_at _ _ _ _ rfl]; rfl); have p23 := (hf1.cell (p := ⟨w.heap.size, 23, none⟩) (by simp) (fun h => h)).trans (show _ = some ((Value.int .u32 0)) by rw [World.cell?_alloc_at _ _ _ _ rfl]; rfl); have p24 := (hf1.cell (p := ⟨w.heap.size, 24, none⟩) (by simp) (fun h => h)).trans (show _ = some ((Value.int .u32 0)) by rw [World.cell?_alloc_at _ _ _ _ rfl]; rfl); have p25 := (hf1.cell (p := ⟨w.heap.size, 25, none⟩) (by simp) (fun h => h)).trans (show _ = some ((Value.int .u8 0)) by rw [World.cell?_alloc_at _ _ _ _ rfl]; rfl); have p26 := (hf1.cell (p := ⟨w.heap.size, 26, none⟩) (by simp) (fun h => h)).trans (show _ = some ((Value.int .u32 0)) by rw [World.cell?_alloc_at _ _ _ _ rfl]; rfl); have p27 := (hf1.cell (p := ⟨w.heap.size, 27, none⟩) (by simp) (fun h => h)).trans (show _ = some ((Value.int .u32 0)) by rw [World.cell?_alloc_at _ _ _ _ rfl]; rfl); have p28 := (hf1.cell (p := ⟨w.heap.size, 28, none⟩) (by simp) (fun h => h)).trans (show _ = some ((Value.int .u32 0)) by rw [World.cell?_alloc_at _ _ _ _ rfl]; rfl); have p29 := (hf1.cell (p := ⟨w.heap.size, 29, none⟩) (by simp) (fun h => h)).trans (show _ = some ((Value.int .u32 0)) by rw [World.cell?_alloc_at _ _ _ _ rfl]; rfl); have p30 := (hf1.cell (p := ⟨w.heap.size, 30, none⟩) (by simp) (fun h => h)).trans (show _ = some ((Value.slice none 0 0)) by rw [World.cell?_alloc_at _ _ _ _ rfl]; rfl); have p31 := (hf1.cell (p := ⟨w.heap.size, 31, none⟩) (by simp) (fun h => h)).trans (show _ = some ((Value.string ⟨#[]⟩)) by rw [World.cell?_alloc_at _ _ _ _ rfl]; rfl); have p32 := (hf1.cell (p := ⟨w.heap.size, 32, none⟩) (by simp) (fun h => h)).trans (show _ = some ((Value.int .u8 0)) by rw [World.cell?_alloc_at _ _ _ _ rfl]; rfl); have p33 := (hf1.cell (p := ⟨w.heap.size, 33, none⟩) (by simp) (fun h => h)).trans (show _ = some ((Value.slice none 0 0)) by rw [World.cell?_alloc_at _ _ _ _ rfl]; rfl); have p34 := (hf1.cell (p := ⟨w.heap.size, 34, none⟩) (by simp) (fun h => h)).trans (show _ = some ((Value.int .u32 (v.le : Nat))) by rw [World.cell?_alloc_at _ _ _ _ rfl]; rfl); have F1 := hid ((box1 w _).trans hf1 (fun _ _ h => h)); clear hf1)
  | (go_at_call 164; refine ((uh HA) _).mono ?_; rintro e w2 ⟨rfl, hf2⟩; have r20 := (hf2.cell (p := ⟨w.heap.size, 20, none⟩) (ltC p20) (fun h => h)).trans p20; have r21 := (hf2.cell (p := ⟨w.heap.size, 21, none⟩) (ltC p21) (fun h => h)).trans p21; have r22 := (hf2.cell (p := ⟨w.heap.size, 22, none⟩) (ltC p22) (fun h => h)).trans p22; have r23 := (hf2.cell (p := ⟨w.heap.size, 23, none⟩) (ltC p23) (fun h => h)).trans p23; have r24 := (hf2.cell (p := ⟨w.heap.size, 24, none⟩) (ltC p24) (fun h => h)).trans p24; have r25 := (hf2.cell (p := ⟨w.heap.size, 25, none⟩) (ltC p25) (fun h => h)).trans p25; have r26 := (hf2.cell (p := ⟨w.heap.size, 26, none⟩) (ltC p26) (fun h => h)).trans p26; have r27 := (hf2.cell (p := ⟨w.heap.size, 27, none⟩) (ltC p27) (fun h => h)).trans p27; have r28 := (hf2.cell (p := ⟨w.heap.size, 28, none⟩) (ltC p28) (fun h => h)).trans p28; have r29 := (hf2.cell (p := ⟨w.heap.size, 29, none⟩) (ltC p29) (fun h => h)).trans p29; have r30 := (hf2.cell (p := ⟨w.heap.size, 30, none⟩) (ltC p30) (fun h => h)).trans p30; have r31 := (hf2.cell (p := ⟨w.heap.size, 31, none⟩) (ltC p31) (fun h => h)).trans p31; have r32 := (hf2.cell (p := ⟨w.heap.size, 32, none⟩) (ltC p32) (fun h => h)).trans p32; have r33 := (hf2.cell (p := ⟨w.heap.size, 33, none⟩) (ltC p33) (fun h => h)).trans p33; have r34 := (hf2.cell (p := ⟨w.heap.size, 34, none⟩) (ltC p34) (fun h => h)).trans p34; have F2 := hid ((uh F1).trans hf2 (fun _ _ h => h)); clear hf2)
  | (go_at_call 165; refine ((uh HE) _).mono ?_; rintro e w3 ⟨rfl, hf3⟩; have s34 := (hf3.cell (p := ⟨w.heap.size, 34, none⟩) (ltC r34) (fun h => h)).trans r34; have F3 := hid ((uh F2).trans hf3 (fun _ _ h => h)); clear hf3))
 all_goals
  go_ret
  refine ⟨?_, ?_⟩
  ·have hC := uh HC
   clear HC HR HA HE
   simp_all [bne_cast]
  ·first | exact uh F3 | exact uh F2 | exact uh F1
set_option maxRecDepth 100000 in
set_option maxHeartbeats 4000000 in
theorem beside_6 (v : MsM) (a0 a1 a2 a3 a4 : Option Addr) (c0 c1 c2 c3 c4 : Nat) (w : World) (hv : v.ok) (hn : v.lens) (hk : v.kd = 6) : Calls Tryz.prog 145 #[.agg (v.vals (.slice a0 v.rq.fs.length c0) (.slice a1 v.an.fs.length c1) (.slice a2 v.an.hi.length c2) (.slice a3 v.ev.rq.fs.length c3) (.slice a4 v.ev.dg.length c4))] w fun e w' => e = .returned (.bool v.beside) ∧ Fr (fun _ => False) w w' := by
 have HR : Hid (∀ wx, Calls Tryz.prog 163 #[.agg #[.int .u32 (v.rq.cl : Nat), .int .u32 (v.rq.nu : Nat), .int .u32 (v.rq.ac : Nat), .int .u8 (v.rq.op : Nat), .int .u32 (v.rq.re : Nat), .int .u32 (v.rq.ve : Nat), .int .u32 (v.rq.wa : Nat), .int .u32 (v.rq.ow : Nat), .slice a0 v.rq.fs.length c0, .string v.rq.rs]] wx fun e w' => e = .returned (.bool (v.rq).is) ∧ Fr (fun _ => False) wx w') := fun wx => isRequest_any (v.rq) a0 c0 wx hv.rq hn.rq
 have HA : Hid (∀ wx, Calls Tryz.prog 164 #[.agg #[.int .u32 (v.an.cl : Nat), .int .u32 (v.an.nu : Nat), .int .u8 (v.an.co : Nat), .int .u32 (v.an.re : Nat), .int .u32 (v.an.ve : Nat), .slice a1 v.an.fs.length c1, .slice a2 v.an.hi.length c2]] wx fun e w' => e = .returned (.bool (v.an).is) ∧ Fr (fun _ => False) wx w') := fun wx => isAnswer_any (v.an) a1 c1 a2 c2 wx hv.an hn.an hn.hi
 have HE : Hid (∀ wx, Calls Tryz.prog 165 #[.agg #[.int .u32 (v.ev.pl : Nat), .int .u32 (v.ev.rq.cl : Nat), .int .u32 (v.ev.rq.nu : Nat), .int .u32 (v.ev.rq.ac : Nat), .int .u8 (v.ev.rq.op : Nat), .int .u32 (v.ev.rq.re : Nat), .int .u32 (v.ev.rq.ve : Nat), .int .u32 (v.ev.rq.wa : Nat), .int .u32 (v.ev.rq.ow : Nat), .slice a3 v.ev.rq.fs.length c3, .string v.ev.rq.rs, .int .u8 (v.ev.co : Nat), .slice a4 v.ev.dg.length c4]] wx fun e w' => e = .returned (.bool (v.ev).is) ∧ Fr (fun _ => False) wx w') := fun wx => isEvent_any (v.ev) a3 c3 a4 c4 wx hv.ev hn.ev hn.dg
 have HC : Hid (v.beside = (((((v.rq).is || !(v.icl == 0 && v.inu == 0)) || (v.an).is) || v.co != 0) || (v.ev).is || 0 != 0)) := by
  have e : v.cut = { v with le := 0 } := by simp only [MsM.cut, hk]
  show v.cut.is = _
  rw [e]
  rfl
 obtain ⟨hv1, hv2, hv3, hv4, hv5, hv6, hv7, hv8⟩ := hv
 obtain ⟨hn1, hn2, hn3, hn4, hn5⟩ := hn
 generalize v.beside = R at HC ⊢
 generalize (v.rq).is = B1 at HR HC
 generalize (v.an).is = B2 at HA HC
 generalize (v.ev).is = B3 at HE HC
 simp only [MsM.vals, hk]
 clear hn1 hn2 hn3 hn4 hn5 hv2 hv5 hv7
 go_enter Tryz.func145, Tryz.ntmps145
 go_wp2_with (first
  | (go_at_call 163; refine ((uh HR) _).mono ?_; rintro e w1 ⟨rfl, hf1⟩; have p11 := (hf1.cell (p := ⟨w.heap.size, 11, none⟩) (by simp) (fun h => h)).trans (show _ = some ((Value.int .u32 (v.icl : Nat))) by rw [World.cell?_alloc_at _ _ _ _ rfl]; rfl); have p12 := (hf1.cell (p := ⟨w.heap.size, 12, none⟩) (by simp) (fun h => h)).trans (show _ = some ((Value.int .u32 (v.inu : Nat))) by rw [World.cell?_alloc_at _ _ _ _ rfl]; rfl); have p13 := (hf1.cell (p := ⟨w.heap.size, 13, none⟩) (by simp) (fun h => h)).trans (show _ = some ((Value.int .u32 (v.an.cl : Nat))) by rw [World.cell?_alloc_at _ _ _ _ rfl]; rfl); have p14 := (hf1.cell (p := ⟨w.heap.size, 14, none⟩) (by simp) (fun h => h)).trans (show _ = some ((Value.int .u32 (v.an.nu : Nat))) by rw [World.cell?_alloc_at _ _ _ _ rfl]; rfl); have p15 := (hf1.cell (p := ⟨w.heap.size, 15, none⟩) (by simp) (fun h => h)).trans (show _ = some ((Value.int .u8 (v.an.co : Nat))) by rw [World.cell?_alloc_at _ _ _ _ rfl]; rfl); have p16 := (hf1.cell (p := ⟨w.heap.size, 16, none⟩) (by simp) (fun h => h)).trans (show _ = some ((Value.int .u32 (v.an.re : Nat))) by rw [World.cell?_alloc_at _ _ _ _ rfl]; rfl); have p17 := (hf1.cell (p := ⟨w.heap.size, 17, none⟩) (by simp) (fun h => h)).trans (show _ = some ((Value.int .u32 (v.an.ve : Nat))) by rw [World.cell?_alloc_at _ _ _ _ rfl]; rfl); have p18 := (hf1.cell (p := ⟨w.heap.size, 18, none⟩) (by simp) (fun h => h)).trans (show _ = some ((Value.slice a1 v.an.fs.length c1)) by rw [World.cell?_alloc_at _ _ _ _ rfl]; rfl); have p19 := (hf1.cell (p := ⟨w.heap.size, 19, none⟩) (by simp) (fun h => h)).trans (show _ = some ((Value.slice a2 v.an.hi.length c2)) by rw [World.cell?_alloc_at _ _ _ _ rfl]; rfl); have p20 := (hf1.cell (p := ⟨w.heap.size, 20, none⟩) (by simp) (fun h => h)).trans (show _ = some ((Value.int .u8 (v.co : Nat))) by rw [World.cell?_alloc_at _ _ _ _ rfl]; rfl); have p21 := (hf1.cell (p := ⟨w.heap.size, 21, none⟩) (by simp) (fun h => h)).trans (show _ = some ((Value.int .u32 (v.ev.pl : Nat))) by rw [World.cell?_alloc_at _ _ _ _ rfl]; rfl); have p22 := (hf1.cell (p := ⟨w.heap.size, 22, none⟩) (by simp) (fun h => h)).trans (show _ = some ((Value.int .u32 (v.ev.rq.cl : Nat))) by rw [World.cell?_alloc_at _ _ _ _ rfl]; rfl); have p23 := (hf1.cell (p := ⟨w.heap.size, 23, none⟩) (by simp) (fun h => h)).trans (show _ = some ((Value.int .u32 (v.ev.rq.nu : Nat))) by rw [World.cell?_alloc_at _ _ _ _ rfl]; rfl); have p24 := (hf1.cell (p := ⟨w.heap.size, 24, none⟩) (by simp) (fun h => h)).trans (show _ = some ((Value.int .u32 (v.ev.rq.ac : Nat))) by rw [World.cell?_alloc_at _ _ _ _ rfl]; rfl); have p25 := (hf1.cell (p := ⟨w.heap.size, 25, none⟩) (by simp) (fun h => h)).trans (show _ = some ((Value.int .u8 (v.ev.rq.op : Nat))) by rw [World.cell?_alloc_at _ _ _ _ rfl]; rfl); have p26 := (hf1.cell (p := ⟨w.heap.size, 26, none⟩) (by simp) (fun h => h)).trans (show _ = some ((Value.int .u32 (v.ev.rq.re : Nat))) by rw [World.cell?_alloc_at _ _ _ _ rfl]; rfl); have p27 := (hf1.cell (p := ⟨w.heap.size, 27, none⟩) (by simp) (fun h => h)).trans (show _ = some ((Value.int .u32 (v.ev.rq.ve : Nat))) by rw [World.cell?_alloc_at _ _ _ _ rfl]; rfl); have p28 := (hf1.cell (p := ⟨w.heap.size, 28, none⟩) (by simp) (fun h => h)).trans (show _ = some ((Value.int .u32 (v.ev.rq.wa : Nat))) by rw [World.cell?_alloc_at _ _ _ _ rfl]; rfl); have p29 := (hf1.cell (p := ⟨w.heap.size, 29, none⟩) (by simp) (fun h => h)).trans (show _ = some ((Value.int .u32 (v.ev.rq.ow : Nat))) by rw [World.cell?_alloc_at _ _ _ _ rfl]; rfl); have p30 := (hf1.cell (p := ⟨w.heap.size, 30, none⟩) (by simp) (fun h => h)).trans (show _ = some ((Value.slice a3 v.ev.rq.fs.length c3)) by rw [World.cell?_alloc_at _ _ _ _ rfl]; rfl); have p31 := (hf1.cell (p := ⟨w.heap.size, 31, none⟩) (by simp) (fun h => h)).trans (show _ = some ((Value.string v.ev.rq.rs)) by rw [World.cell?_alloc_at _ _ _ _ rfl]; rfl); have p32 := (hf1.cell (p := ⟨w.heap.size, 32, none⟩) (by simp) (fun h => h)).trans (show _ = some ((Value.int .u8 (v.ev.co : Nat))) by rw [World.cell?_alloc_at _ _ _ _ rfl]; rfl); have p33 := (hf1.cell (p := ⟨w.heap.size, 33, none⟩) (by simp) (fun h => h)).trans (show _ = some ((Value.slice a4 v.ev.dg.length c4)) by rw [World.cell?_alloc_at _ _ _ _ rfl]; rfl); have p34 := (hf1.cell (p := ⟨w.heap.size, 34, none⟩) (by simp) (fun h => h)).trans (show _ = some ((Value.int .u32 0)) by rw [World.cell?_alloc_at _ _ _ _ rfl]; rfl); have F1 := hid ((box1 w _).trans hf1 (fun _ _ h => h)); clear hf1)
  | (go_at_call 164; refine ((uh HA) _).mono ?_; rintro e w2 ⟨rfl, hf2⟩; have r20 := (hf2.cell (p := ⟨w.heap.size, 20, none⟩) (ltC p20) (fun h => h)).trans p20; have r21 := (hf2.cell (p := ⟨w.heap.size, 21, none⟩) (ltC p21) (fun h => h)).trans p21; have r22 := (hf2.cell (p := ⟨w.heap.size, 22, none⟩) (ltC p22) (fun h => h)).trans p22; have r23 := (hf2.cell (p := ⟨w.heap.size, 23, none⟩) (ltC p23) (fun h => h)).trans p23; have r24 := (hf2.cell (p := ⟨w.heap.size, 24, none⟩) (ltC p24) (fun h => h)).trans p24; have r25 := (hf2.cell (p := ⟨w.heap.size, 25, none⟩) (ltC p25) (fun h => h)).trans p25; have r26 := (hf2.cell (p := ⟨w.heap.size, 26, none⟩) (ltC p26) (fun h => h)).trans p26; have r27 := (hf2.cell (p := ⟨w.heap.size, 27, none⟩) (ltC p27) (fun h => h)).trans p27; have r28 := (hf2.cell (p := ⟨w.heap.size, 28, none⟩) (ltC p28) (fun h => h)).trans p28; have r29 := (hf2.cell (p := ⟨w.heap.size, 29, none⟩) (ltC p29) (fun h => h)).trans p29; have r30 := (hf2.cell (p := ⟨w.heap.size, 30, none⟩) (ltC p30) (fun h => h)).trans p30; have r31 := (hf2.cell (p := ⟨w.heap.size, 31, none⟩) (ltC p31) (fun h => h)).trans p31; have r32 := (hf2.cell (p := ⟨w.heap.size, 32, none⟩) (ltC p32) (fun h => h)).trans p32; have r33 := (hf2.cell (p := ⟨w.heap.size, 33, none⟩) (ltC p33) (fun h => h)).trans p33; have r34 := (hf2.cell (p := ⟨w.heap.size, 34, none⟩) (ltC p34) (fun h => h)).trans p34; have F2 := hid ((uh F1).trans hf2 (fun _ _ h => h)); clear hf2)
  | (go_at_call 165; refine ((uh HE) _).mono ?_; rintro e w3 ⟨rfl, hf3⟩; have s34 := (hf3.cell (p := ⟨w.heap.size, 34, none⟩) (ltC r34) (fun h => h)).trans r34; have F3 := hid ((uh F2).trans hf3 (fun _ _ h => h)); clear hf3))
 all_goals
  go_ret
  refine ⟨?_, ?_⟩
  ·have hC := uh HC
   clear HC HR HA HE
   simp_all [bne_cast]
  ·first | exact uh F3 | exact uh F2 | exact uh F1
theorem beside_any (v : MsM) (a0 a1 a2 a3 a4 : Option Addr) (c0 c1 c2 c3 c4 : Nat) (w : World) (hv : v.ok) (hn : v.lens) : Calls Tryz.prog 145 #[.agg (v.vals (.slice a0 v.rq.fs.length c0) (.slice a1 v.an.fs.length c1) (.slice a2 v.an.hi.length c2) (.slice a3 v.ev.rq.fs.length c3) (.slice a4 v.ev.dg.length c4))] w fun e w' => e = .returned (.bool v.beside) ∧ Fr (fun _ => False) w w' := by
 by_cases h1 : v.kd = 1
 ·exact beside_1 v a0 a1 a2 a3 a4 c0 c1 c2 c3 c4 w hv hn h1
 by_cases h2 : v.kd = 2
 ·exact beside_2 v a0 a1 a2 a3 a4 c0 c1 c2 c3 c4 w hv hn h2
 by_cases h3 : v.kd = 3
 ·exact beside_3 v a0 a1 a2 a3 a4 c0 c1 c2 c3 c4 w hv hn h3
 by_cases h4 : v.kd = 4
 ·exact beside_4 v a0 a1 a2 a3 a4 c0 c1 c2 c3 c4 w hv hn h4
 by_cases h5 : v.kd = 5
 ·exact beside_5 v a0 a1 a2 a3 a4 c0 c1 c2 c3 c4 w hv hn h5
 by_cases h6 : v.kd = 6
 ·exact beside_6 v a0 a1 a2 a3 a4 c0 c1 c2 c3 c4 w hv hn h6
 exact beside_0 v a0 a1 a2 a3 a4 c0 c1 c2 c3 c4 w hv hn (fun i h1 h2 => by omega)
variable {L : List Nat}
def CS.m1 (c : CS) (v : MsM) : CS × Nat := c.pU8 n_kind [wiN 1 7 5, unN v.beside] v.kd
def CS.pM (c : CS) (k : Nat) (v : MsM) : CS × MsM :=
 if k = 1 then ((c.pRequest v.rq).1, { v with kd := 1, rq := (c.pRequest v.rq).2 })
 else if k = 2 then ((c.pId (v.icl, v.inu)).1, { v with kd := 2, icl := (c.pId (v.icl, v.inu)).2.1, inu := (c.pId (v.icl, v.inu)).2.2 })
 else if k = 3 then ((c.pAnswer v.an).1, { v with kd := 3, an := (c.pAnswer v.an).2 })
 else if k = 4 then (((c.pId (v.icl, v.inu)).1.pU8 n_busy [wiN 1 15 4] v.co).1, { v with kd := 4, icl := (c.pId (v.icl, v.inu)).2.1, inu := (c.pId (v.icl, v.inu)).2.2, co := ((c.pId (v.icl, v.inu)).1.pU8 n_busy [wiN 1 15 4] v.co).2 })
 else if k = 5 then ((c.pEvent v.ev).1, { v with kd := 5, ev := (c.pEvent v.ev).2 })
 else if k = 6 then ((c.pU32 n_length [] v.le).1, { v with kd := 6, le := (c.pU32 n_length [] v.le).2 })
 else (c, { v with kd := k })
def CS.pMessage (c : CS) (v : MsM) : CS × MsM := (c.m1 v).1.pM (c.m1 v).2 v
def zMs : MsM := ⟨0, zRq, 0, 0, zAn, 0, zEv, 0⟩
variable {L : List Nat}
def messageR (l : List Nat) : CS × MsM := ((cr0 l).pForm 7).pMessage zMs
def messageW (v : MsM) : Wq := ((cw0.pForm 7).pMessage v).1.wq
theorem Tryz.sizeMs7 : (Tryz.prog.info? 42).map (·.size) = some 35 := by kernel_rfl
structure MsC (w : World) (g : Nat) (v : MsM) (x0 x1 x2 x3 x4 : Value) : Prop where
 c0 : w.cell? ⟨g, 0, none⟩ = some (.int .u8 (v.kd : Nat))
 r : RqC w g 1 v.rq x0
 c11 : w.cell? ⟨g, 11, none⟩ = some (.int .u32 (v.icl : Nat))
 c12 : w.cell? ⟨g, 12, none⟩ = some (.int .u32 (v.inu : Nat))
 a : AnC w g 13 v.an x1 x2
 c20 : w.cell? ⟨g, 20, none⟩ = some (.int .u8 (v.co : Nat))
 e : EvC w g 21 v.ev x3 x4
 c34 : w.cell? ⟨g, 34, none⟩ = some (.int .u32 (v.le : Nat))
theorem MsC.range {w : World} {g : Nat} {v : MsM} {x0 x1 x2 x3 x4 : Value} (h : MsC w g v x0 x1 x2 x3 x4) : w.rangeAt g 0 (v.vals x0 x1 x2 x3 x4).toList := by
 intro j u hu
 rw [Nat.zero_add]
 have hj : j < 35 := (List.getElem?_eq_some_iff.1 hu).1
 match j, hj with
 | 0, _ => exact (Option.some.inj hu) ▸ h.c0
 | 1, _ => exact (Option.some.inj hu) ▸ h.r.c0
 | 2, _ => exact (Option.some.inj hu) ▸ h.r.c1
 | 3, _ => exact (Option.some.inj hu) ▸ h.r.c2
 | 4, _ => exact (Option.some.inj hu) ▸ h.r.c3
 | 5, _ => exact (Option.some.inj hu) ▸ h.r.c4
 | 6, _ => exact (Option.some.inj hu) ▸ h.r.c5
 | 7, _ => exact (Option.some.inj hu) ▸ h.r.c6
 | 8, _ => exact (Option.some.inj hu) ▸ h.r.c7
 | 9, _ => exact (Option.some.inj hu) ▸ h.r.c8
 | 10, _ => exact (Option.some.inj hu) ▸ h.r.c9
 | 11, _ => exact (Option.some.inj hu) ▸ h.c11
 | 12, _ => exact (Option.some.inj hu) ▸ h.c12
 | 13, _ => exact (Option.some.inj hu) ▸ h.a.c0
 | 14, _ => exact (Option.some.inj hu) ▸ h.a.c1
 | 15, _ => exact (Option.some.inj hu) ▸ h.a.c2
 | 16, _ => exact (Option.some.inj hu) ▸ h.a.c3
 | 17, _ => exact (Option.some.inj hu) ▸ h.a.c4
 | 18, _ => exact (Option.some.inj hu) ▸ h.a.c5
 | 19, _ => exact (Option.some.inj hu) ▸ h.a.c6
 | 20, _ => exact (Option.some.inj hu) ▸ h.c20
 | 21, _ => exact (Option.some.inj hu) ▸ h.e.c0
 | 22, _ => exact (Option.some.inj hu) ▸ h.e.r.c0
 | 23, _ => exact (Option.some.inj hu) ▸ h.e.r.c1
 | 24, _ => exact (Option.some.inj hu) ▸ h.e.r.c2
 | 25, _ => exact (Option.some.inj hu) ▸ h.e.r.c3
 | 26, _ => exact (Option.some.inj hu) ▸ h.e.r.c4
 | 27, _ => exact (Option.some.inj hu) ▸ h.e.r.c5
 | 28, _ => exact (Option.some.inj hu) ▸ h.e.r.c6
 | 29, _ => exact (Option.some.inj hu) ▸ h.e.r.c7
 | 30, _ => exact (Option.some.inj hu) ▸ h.e.r.c8
 | 31, _ => exact (Option.some.inj hu) ▸ h.e.r.c9
 | 32, _ => exact (Option.some.inj hu) ▸ h.e.c11
 | 33, _ => exact (Option.some.inj hu) ▸ h.e.c12
 | 34, _ => exact (Option.some.inj hu) ▸ h.c34
structure MsO (w w' : World) (cb b g : Nat) (F F' : Nat → Prop) (c : CS) (E : Nat → Addr) (r : CS × MsM) (x0 x1 x2 x3 y0 y1 y2 y3 y4 : Value) : Prop where
 C : Cd w' cb b F' r.1 E
 m : MsC w' g r.2 y0 y1 y2 y3 y4
 o0 : FdO w w' c x0 y0 r.2.rq.fs F'
 o1 : FdO w w' c x1 y1 r.2.an.fs F'
 o2 : SuO w w' c x2 y2 r.2.an.hi F'
 o3 : FdO w w' c x3 y3 r.2.ev.rq.fs F'
 o4 : BO w w' c y4 r.2.ev.dg F' g
 s : Stp w w' F F' (cellsAt g 0 35)
theorem FdX.same {w w' : World} {c : CS} {x : Value} {l : List Fld} {F F' : Nat → Prop} {g : Nat} (h : FdX w c x l F g) : FdO w w' c x x l F' := ⟨fun _ _ => rfl, fun q e => by obtain ⟨rfl, rfl⟩ := h.rd q e; exact OwV.nil _ _ _⟩
theorem SuX.same {w w' : World} {c : CS} {x : Value} {l : List SuM} {F F' : Nat → Prop} {g : Nat} (h : SuX w c x l F g) : SuO w w' c x x l F' := ⟨fun _ _ => rfl, fun q e => by obtain ⟨rfl, rfl⟩ := h.rd q e; exact ⟨fun _ h => (by cases h), ⟨rfl, .inl ⟨rfl, rfl⟩⟩, fun _ h => (by cases h)⟩⟩
theorem BVg.same {w w' : World} {c : CS} {x : Value} {l : List Nat} {F F' : Nat → Prop} {P : Nat → Nat → Prop} {g : Nat} (h : BVg w x l F g) (hr : ∀ q, c = .rd q → x = .slice none 0 0 ∧ l = []) (hs : Stp w w' F F' P) (hP : ∀ k i, k < w.heap.size → P k i → k = g) : BO w w' c x l F' g := ⟨h.stp hs hP, fun q e => by obtain ⟨rfl, rfl⟩ := hr q e; exact ⟨rfl, .inl ⟨rfl, rfl⟩⟩⟩
structure MsT (w w' : World) (cb b g : Nat) (F F' : Nat → Prop) (c c1 : CS) (E : Nat → Addr) (v : MsM) (kd : Nat) (x0 x1 x2 x3 x4 : Value) : Prop where
 C : Cd w' cb b F' c1 E
 m : MsC w' g { v with kd := kd } x0 x1 x2 x3 x4
 X0 : FdX w c x0 v.rq.fs F g
 X1 : FdX w c x1 v.an.fs F g
 X2 : SuX w c x2 v.an.hi F g
 X3 : FdX w c x3 v.ev.rq.fs F g
 X4 : BVg w x4 v.ev.dg F g
 R4 : ∀ q, c = .rd q → x4 = .slice none 0 0 ∧ v.ev.dg = []
 L : ∀ i, Loc w cb F g i
 s : Stp w w' F F' (cellsAt g 0 1)
 sm : c.sm c1
 ok : v.ok
 room : c1.room 500
section
variable {w w' w2 : World} {cb b g : Nat} {F F' F2 : Nat → Prop} {c c1 c2 : CS} {E : Nat → Addr} {v : MsM} {kd : Nat} {x0 x1 x2 x3 x4 : Value}
theorem MsT.lt (h : MsT w w' cb b g F F' c c1 E v kd x0 x1 x2 x3 x4) : g < w'.heap.size := Nat.lt_of_lt_of_le (h.L 0).lt h.s.size
theorem MsT.nF (h : MsT w w' cb b g F F' c c1 E v kd x0 x1 x2 x3 x4) : ¬ F' g := h.s.nF (h.L 0).lt (h.L 0).nF
theorem MsT.st (h : MsT w w' cb b g F F' c c1 E v kd x0 x1 x2 x3 x4) {o n : Nat} (hs : Stp w' w2 F' F2 (cellsAt g o n)) (ho : o + n ≤ 35) : Stp w w2 F F2 (cellsAt g 0 35) :=
 (h.s.mono (P' := cellsAt g 0 35) (fun k j _ e => ⟨e.1, by omega, by have := e.2; omega⟩)).trans hs (fun k j _ e => ⟨e.1, by omega, by have := e.2; omega⟩)
theorem MsT.end0 (h : MsT w w' cb b g F F' c c1 E v kd x0 x1 x2 x3 x4) : MsO w w' cb b g F F' c E (c1, { v with kd := kd }) x0 x1 x2 x3 x0 x1 x2 x3 x4 :=
 ⟨h.C, h.m, h.X0.same, h.X1.same, h.X2.same, h.X3.same, h.X4.same h.R4 h.s (fun k j _ e => e.1), h.s.mono (fun k j _ e => ⟨e.1, by omega, by have := e.2; omega⟩)⟩
theorem MsT.end1 (h : MsT w w' cb b g F F' c c1 E v kd x0 x1 x2 x3 x4) (hk : kd = 1) {y : Value} (hC : Cd w2 cb b F2 (c1.pRequest v.rq).1 E) (hr : RqC w2 g 1 { (c1.pRequest v.rq).2 with fs := v.rq.fs } y) (hO : FdO w' w2 c1 x0 y (c1.pRequest v.rq).2.fs F2) (hs : Stp w' w2 F' F2 (cellsAt g 1 10)) : MsO w w2 cb b g F F2 c E (c1.pM kd v) x0 x1 x2 x3 y x1 x2 x3 x4 := by
 subst hk
 unfold CS.pM
 rw [if_pos rfl]
 exact ⟨hC, ⟨(hs.oth g 0 h.lt h.nF (fun e => by have := e.2; omega)).trans h.m.c0, RqC.fs _ _ hr, (hs.oth g 11 h.lt h.nF (fun e => by have := e.2; omega)).trans h.m.c11, (hs.oth g 12 h.lt h.nF (fun e => by have := e.2; omega)).trans h.m.c12, h.m.a.stp hs h.nF (fun i hi e => by have := e.2; omega), (hs.oth g 20 h.lt h.nF (fun e => by have := e.2; omega)).trans h.m.c20, h.m.e.stp hs h.nF (fun i hi e => by have := e.2; omega), (hs.oth g 34 h.lt h.nF (fun e => by have := e.2; omega)).trans h.m.c34⟩, hO.of h.sm h.s.size, h.X1.same, h.X2.same, h.X3.same, h.X4.same h.R4 (h.st hs (by decide)) (fun k j _ e => e.1), h.st hs (by decide)⟩
theorem MsT.end2 (h : MsT w w' cb b g F F' c c1 E v kd x0 x1 x2 x3 x4) (hk : kd = 2) (hC : Cd w2 cb b F2 (c1.pId (v.icl, v.inu)).1 E) (h1 : w2.cell? ⟨g, 11, none⟩ = some (.int .u32 ((c1.pId (v.icl, v.inu)).2.1 : Nat))) (h2 : w2.cell? ⟨g, 12, none⟩ = some (.int .u32 ((c1.pId (v.icl, v.inu)).2.2 : Nat))) (hs : Stp w' w2 F' F2 (cellsAt g 11 2)) : MsO w w2 cb b g F F2 c E (c1.pM kd v) x0 x1 x2 x3 x0 x1 x2 x3 x4 := by
 subst hk
 unfold CS.pM
 rw [if_neg (by decide), if_pos rfl]
 exact ⟨hC, ⟨(hs.oth g 0 h.lt h.nF (fun e => by have := e.2; omega)).trans h.m.c0, h.m.r.stp hs h.nF (fun i hi e => by have := e.2; omega), h1, h2, h.m.a.stp hs h.nF (fun i hi e => by have := e.2; omega), (hs.oth g 20 h.lt h.nF (fun e => by have := e.2; omega)).trans h.m.c20, h.m.e.stp hs h.nF (fun i hi e => by have := e.2; omega), (hs.oth g 34 h.lt h.nF (fun e => by have := e.2; omega)).trans h.m.c34⟩, h.X0.same, h.X1.same, h.X2.same, h.X3.same, h.X4.same h.R4 (h.st hs (by decide)) (fun k j _ e => e.1), h.st hs (by decide)⟩
theorem MsT.end3 (h : MsT w w' cb b g F F' c c1 E v kd x0 x1 x2 x3 x4) (hk : kd = 3) {y z : Value} (hC : Cd w2 cb b F2 (c1.pAnswer v.an).1 E) (hr : AnC w2 g 13 (c1.pAnswer v.an).2 y z) (hO : FdO w' w2 c1 x1 y (c1.pAnswer v.an).2.fs F2) (hZ : SuO w' w2 c1 x2 z (c1.pAnswer v.an).2.hi F2) (hs : Stp w' w2 F' F2 (cellsAt g 13 7)) : MsO w w2 cb b g F F2 c E (c1.pM kd v) x0 x1 x2 x3 x0 y z x3 x4 := by
 subst hk
 unfold CS.pM
 rw [if_neg (by decide), if_neg (by decide), if_pos rfl]
 exact ⟨hC, ⟨(hs.oth g 0 h.lt h.nF (fun e => by have := e.2; omega)).trans h.m.c0, h.m.r.stp hs h.nF (fun i hi e => by have := e.2; omega), (hs.oth g 11 h.lt h.nF (fun e => by have := e.2; omega)).trans h.m.c11, (hs.oth g 12 h.lt h.nF (fun e => by have := e.2; omega)).trans h.m.c12, hr, (hs.oth g 20 h.lt h.nF (fun e => by have := e.2; omega)).trans h.m.c20, h.m.e.stp hs h.nF (fun i hi e => by have := e.2; omega), (hs.oth g 34 h.lt h.nF (fun e => by have := e.2; omega)).trans h.m.c34⟩, h.X0.same, hO.of h.sm h.s.size, hZ.of h.sm h.s.size, h.X3.same, h.X4.same h.R4 (h.st hs (by decide)) (fun k j _ e => e.1), h.st hs (by decide)⟩
theorem MsT.end4 (h : MsT w w' cb b g F F' c c1 E v kd x0 x1 x2 x3 x4) (hk : kd = 4) (hC : Cd w2 cb b F2 ((c1.pId (v.icl, v.inu)).1.pU8 n_busy [wiN 1 15 4] v.co).1 E) (h1 : w2.cell? ⟨g, 11, none⟩ = some (.int .u32 ((c1.pId (v.icl, v.inu)).2.1 : Nat))) (h2 : w2.cell? ⟨g, 12, none⟩ = some (.int .u32 ((c1.pId (v.icl, v.inu)).2.2 : Nat))) (h3 : w2.cell? ⟨g, 20, none⟩ = some (.int .u8 (((c1.pId (v.icl, v.inu)).1.pU8 n_busy [wiN 1 15 4] v.co).2 : Nat)))
  (hs : Stp w' w2 F' F2 (fun k j => cellsAt g 11 2 k j ∨ (k = g ∧ j = 20))) : MsO w w2 cb b g F F2 c E (c1.pM kd v) x0 x1 x2 x3 x0 x1 x2 x3 x4 := by
 subst hk
 have hst : Stp w w2 F F2 (cellsAt g 0 35) := (h.s.mono (P' := cellsAt g 0 35) (fun k j _ e => ⟨e.1, by omega, by have := e.2; omega⟩)).trans hs (fun k j _ e => by
  rcases e with e | e
  ·exact ⟨e.1, by omega, by have := e.2; omega⟩
  ·exact ⟨e.1, by omega, by omega⟩)
 have hn : ∀ j, (j < 11 ∨ 12 < j) → j ≠ 20 → ¬ (cellsAt g 11 2 g j ∨ (g = g ∧ j = 20)) := fun j h1 h2 e => by
  rcases e with e | e
  ·have := e.2; omega
  ·omega
 unfold CS.pM
 rw [if_neg (by decide), if_neg (by decide), if_neg (by decide), if_pos rfl]
 exact ⟨hC, ⟨(hs.oth g 0 h.lt h.nF (hn 0 (by omega) (by omega))).trans h.m.c0, h.m.r.stp hs h.nF (fun i hi => hn _ (by omega) (by omega)), h1, h2, h.m.a.stp hs h.nF (fun i hi => hn _ (by omega) (by omega)), h3, h.m.e.stp hs h.nF (fun i hi => hn _ (by omega) (by omega)), (hs.oth g 34 h.lt h.nF (hn 34 (by omega) (by omega))).trans h.m.c34⟩, h.X0.same, h.X1.same, h.X2.same, h.X3.same, h.X4.same h.R4 hst (fun k j _ e => e.1), hst⟩
theorem MsT.end5 (h : MsT w w' cb b g F F' c c1 E v kd x0 x1 x2 x3 x4) (hk : kd = 5) {y z : Value} (hC : Cd w2 cb b F2 (c1.pEvent v.ev).1 E) (hr : EvC w2 g 21 { (c1.pEvent v.ev).2 with rq := { (c1.pEvent v.ev).2.rq with fs := v.ev.rq.fs } } y z) (hO : FdO w' w2 c1 x3 y (c1.pEvent v.ev).2.rq.fs F2) (hZ : BO w' w2 c1 z (c1.pEvent v.ev).2.dg F2 g) (hs : Stp w' w2 F' F2 (cellsAt g 21 13)) : MsO w w2 cb b g F F2 c E (c1.pM kd v) x0 x1 x2 x3 x0 x1 x2 y z := by
 subst hk
 have hmd : ∀ q, c = .rd q → ∃ q', c1 = .rd q' := fun q hq => by
  cases hm : c1 with
  | wr s' => obtain ⟨_, e'⟩ := h.sm.1 s' hm; rw [hq] at e'; cases e'
  | rd q' => exact ⟨q', rfl⟩
 unfold CS.pM
 rw [if_neg (by decide), if_neg (by decide), if_neg (by decide), if_neg (by decide), if_pos rfl]
 exact ⟨hC, ⟨(hs.oth g 0 h.lt h.nF (fun e => by have := e.2; omega)).trans h.m.c0, h.m.r.stp hs h.nF (fun i hi e => by have := e.2; omega), (hs.oth g 11 h.lt h.nF (fun e => by have := e.2; omega)).trans h.m.c11, (hs.oth g 12 h.lt h.nF (fun e => by have := e.2; omega)).trans h.m.c12, h.m.a.stp hs h.nF (fun i hi e => by have := e.2; omega), (hs.oth g 20 h.lt h.nF (fun e => by have := e.2; omega)).trans h.m.c20, EvC.fs _ _ hr, (hs.oth g 34 h.lt h.nF (fun e => by have := e.2; omega)).trans h.m.c34⟩, h.X0.same, h.X1.same, h.X2.same, hO.of h.sm h.s.size, hZ.mode h.s.size hmd, h.st hs (by decide)⟩
theorem MsT.end6 (h : MsT w w' cb b g F F' c c1 E v kd x0 x1 x2 x3 x4) (hk : kd = 6) (hC : Cd w2 cb b F2 (c1.pU32 n_length [] v.le).1 E) (h1 : w2.cell? ⟨g, 34, none⟩ = some (.int .u32 ((c1.pU32 n_length [] v.le).2 : Nat))) (hs' : Stp w' w2 F' F2 (fun k j => k = g ∧ j = 34)) : MsO w w2 cb b g F F2 c E (c1.pM kd v) x0 x1 x2 x3 x0 x1 x2 x3 x4 := by
 subst hk
 have hs : Stp w' w2 F' F2 (cellsAt g 34 1) := hs'.mono (fun k j _ e => ⟨e.1, by omega, by omega⟩)
 unfold CS.pM
 rw [if_neg (by decide), if_neg (by decide), if_neg (by decide), if_neg (by decide), if_neg (by decide), if_pos rfl]
 exact ⟨hC, ⟨(hs.oth g 0 h.lt h.nF (fun e => by have := e.2; omega)).trans h.m.c0, h.m.r.stp hs h.nF (fun i hi e => by have := e.2; omega), (hs.oth g 11 h.lt h.nF (fun e => by have := e.2; omega)).trans h.m.c11, (hs.oth g 12 h.lt h.nF (fun e => by have := e.2; omega)).trans h.m.c12, h.m.a.stp hs h.nF (fun i hi e => by have := e.2; omega), (hs.oth g 20 h.lt h.nF (fun e => by have := e.2; omega)).trans h.m.c20, h.m.e.stp hs h.nF (fun i hi e => by have := e.2; omega), h1⟩, h.X0.same, h.X1.same, h.X2.same, h.X3.same, h.X4.same h.R4 (h.st hs (by decide)) (fun k j _ e => e.1), h.st hs (by decide)⟩
theorem MsT.end7 (h : MsT w w' cb b g F F' c c1 E v kd x0 x1 x2 x3 x4) (hk : kd < 1 ∨ 6 < kd) : MsO w w' cb b g F F' c E (c1.pM kd v) x0 x1 x2 x3 x0 x1 x2 x3 x4 := by
 unfold CS.pM
 rw [if_neg (by omega), if_neg (by omega), if_neg (by omega), if_neg (by omega), if_neg (by omega), if_neg (by omega)]
 exact h.end0
end
set_option maxHeartbeats 4000000 in
set_option maxRecDepth 100000 in
theorem message_any (c : CS) (v : MsM) (a0 a1 a2 a3 a4 : Option Addr) (n0 n1 n2 n3 n4 : Nat) (x0 x1 x2 x3 x4 : Value) (cb b g : Nat) (F : Nat → Prop) (E : Nat → Addr) (w : World) (h : Cd w cb b F c E) (hp : MsC w g v x0 x1 x2 x3 x4)
  (e0 : x0 = .slice a0 v.rq.fs.length n0) (e1 : x1 = .slice a1 v.an.fs.length n1) (e2 : x2 = .slice a2 v.an.hi.length n2) (e3 : x3 = .slice a3 v.ev.rq.fs.length n3) (e4 : x4 = .slice a4 v.ev.dg.length n4)
  (hX0 : FdX w c x0 v.rq.fs F g) (hX1 : FdX w c x1 v.an.fs F g) (hX2 : SuX w c x2 v.an.hi F g) (hX3 : FdX w c x3 v.ev.rq.fs F g) (hX4 : BVg w x4 v.ev.dg F g) (hR4 : ∀ q, c = .rd q → x4 = .slice none 0 0 ∧ v.ev.dg = []) (hL : ∀ i, Loc w cb F g i) (hv : v.ok) (hroom : c.room 501) :
  Calls Tryz.prog 114 #[.pointer (some ⟨cb, 0, none⟩), .pointer (some ⟨g, 0, none⟩)] w fun e w' => e = .returned (.tuple #[]) ∧ ∃ F' y0 y1 y2 y3 y4, MsO w w' cb b g F F' c E (c.pMessage v) x0 x1 x2 x3 y0 y1 y2 y3 y4 := by
 have hn : v.lens := ⟨hX0.n, hX1.n, hX2.n, hX3.n, hX4.len⟩
 have k5 := h.g7.k5
 have hsf := st_func
 have HK := hid (fun (V : World) (hv : Fr (fun _ => False) w V) => kpC hv k5)
 have HM : Hid (∀ V : World, Fr (fun _ => False) w V → V.rangeAt g 0 (v.vals x0 x1 x2 x3 x4).toList) := hid (fun V hv j u hu => kpC hv (hp.range j u hu))
 have hBS := fun (V : World) => beside_any v a0 a1 a2 a3 a4 n0 n1 n2 n3 n4 V hv hn
 rw [← e0, ← e1, ← e2, ← e3, ← e4] at hBS
 have HB := hid hBS
 clear hBS e0 e1 e2 e3 e4
 have hm0 := hp.c0
 have HN : Hid (∀ (w3 : World) (f1 f2 : Value) (T : TypeId), Fr (fun _ => False) w w3 → RR enU8 w w3 E f1 (wiN 1 7 5) → RR enU8 w w3 E f2 (unN v.beside) → Calls Tryz.prog 127 #[.pointer (some ⟨cb, 0, none⟩), .string n_kind, .pointer (some ⟨g, 0, none⟩), .slice (some ⟨w3.heap.size, 0, none⟩) 2 2] (w3.alloc (.cells #[f1, f2] T)) fun e w' => e = .returned (.tuple #[]) ∧ ∃ F', Cd w' cb b F' (c.pU8 n_kind [wiN 1 7 5, unN v.beside] v.kd).1 E ∧ w'.cell? ⟨g, 0, none⟩ = some (.int .u8 ((c.pU8 n_kind [wiN 1 7 5, unN v.beside] v.kd).2 : Nat)) ∧ Stp w w' F F' (fun k j => k = g ∧ j = 0)) := fun w3 f1 f2 T hf3 h1 h2 => by
  have hf2 := hf3.trans (box1 w3 (.cells #[f1, f2] T)) (fun _ _ h => h)
  refine (number_u8 c n_kind [wiN 1 7 5, unN v.beside] v.kd cb b g 0 F E _ _ (h.fr0 hf2) (kpC hf2 hm0) ((hL 0).fr0 hf2) hv.kd (ruc_two T h (hL 0) hf3 h1 h2) (by simp only [CS.room] at *; omega)).mono ?_
  rintro e w' ⟨rfl, F', hC, hc, hs⟩
  exact ⟨rfl, F', hC, hc, (Stp.of_fr hf2 F _).trans hs (fun _ _ _ h => h)⟩
 have HG := hid h.g7
 obtain ⟨c1, hc1⟩ : ∃ c1, (c.pU8 n_kind [wiN 1 7 5, unN v.beside] v.kd).1 = c1 := ⟨_, rfl⟩
 obtain ⟨kd, hkd⟩ : ∃ kd, (c.pU8 n_kind [wiN 1 7 5, unN v.beside] v.kd).2 = kd := ⟨_, rfl⟩
 have hP : c.pMessage v = c1.pM kd v := by rw [← hc1, ← hkd]; rfl
 rw [hP]
 have hkl : kd < 256 := by rw [← hkd]; exact CS.pU8_lt c n_kind [wiN 1 7 5, unN v.beside] v.kd hv.kd
 have HT : Hid (∀ (w4 : World) (F4 : Nat → Prop), Cd w4 cb b F4 c1 E → w4.cell? ⟨g, 0, none⟩ = some (.int .u8 (kd : Nat)) → Stp w w4 F F4 (fun k j => k = g ∧ j = 0) → MsT w w4 cb b g F F4 c c1 E v kd x0 x1 x2 x3 x4) := hid (fun w4 F4 hC hc hs => by
  have hg := (hL 0).lt
  have hgF := (hL 0).nF
  refine ⟨hC, ⟨hc, hp.r.stp hs hgF (fun i hi e => by omega), (hs.oth g 11 hg hgF (fun e => by omega)).trans hp.c11, (hs.oth g 12 hg hgF (fun e => by omega)).trans hp.c12, hp.a.stp hs hgF (fun i hi e => by omega), (hs.oth g 20 hg hgF (fun e => by omega)).trans hp.c20, hp.e.stp hs hgF (fun i hi e => by omega), (hs.oth g 34 hg hgF (fun e => by omega)).trans hp.c34⟩, hX0, hX1, hX2, hX3, hX4, hR4, hL, hs.mono (fun k j _ e => ⟨e.1, by omega, by omega⟩), by rw [← hc1]; exact CS.pU8_sm _ _ _ _, hv, by rw [← hc1]; exact CS.pU8_room hroom _ _ _⟩)
 rw [hc1, hkd] at HN
 clear h hp hX0 hX1 hX2 hX3 hX4 hR4 hL hv hroom hn hP hc1 hkd k5 hm0
 go_enter Tryz.func114, Tryz.ntmps114
 go_wp2_with fail
 refine wp_region_last (n := 12) (m := 12) (S := fun V => Fr (fun _ => False) w V) (by kernel_rfl) rfl rfl rfl (by kernel_rfl) (by kernel_rfl) ((Fr.refl _ _).drew) (fun hHeld => ?_)
 refine wtk (i := 0) (v := ?_) rfl (Or.inl ⟨by rfl, ?_⟩) hHeld ?_
 rotate_left
 ·intro V hSw; (try dsimp only at hSw); have q0 := (uh HK) V hSw; go_simp; (try with_reducible rfl)
 (try simp only [Act.put, nrm])
 refine wtk (i := 1) (v := ?_) rfl (Or.inl ⟨by rfl, ?_⟩) hHeld ?_
 rotate_left
 ·intro V hSw; (try dsimp only at hSw); have q0 := (uh HK) V hSw; go_simp; (try with_reducible rfl)
 (try simp only [Act.put, nrm])
 refine wtk (i := 2) (v := ?_) rfl (Or.inl ⟨by rfl, ?_⟩) hHeld ?_
 rotate_left
 ·intro V hSw; (try dsimp only at hSw); have q0 := (uh HK) V hSw; go_simp; (try with_reducible rfl)
 (try simp only [Act.put, nrm])
 refine wtk (i := 3) (v := ?_) rfl (Or.inl ⟨by rfl, ?_⟩) hHeld ?_
 rotate_left
 ·intro V hSw; (try dsimp only at hSw); have q0 := (uh HK) V hSw; go_simp; (try with_reducible rfl)
 (try simp only [Act.put, nrm])
 refine wtk (i := 4) (v := ?_) rfl (Or.inl ⟨by rfl, ?_⟩) hHeld ?_
 rotate_left
 ·intro V hSw; (try dsimp only at hSw); have q0 := (uh HK) V hSw; go_simp; (try with_reducible rfl)
 (try simp only [Act.put, nrm])
 refine wtk (i := 6) (v := ?_) rfl (Or.inl ⟨by rfl, ?_⟩) hHeld ?_
 rotate_left
 ·intro V hSw; (try dsimp only at hSw); have q0 := (uh HK) V hSw; go_simp; (try with_reducible rfl)
 (try simp only [Act.put, nrm])
 refine wtk (i := 7) (v := ?_) rfl (Or.inl ⟨by rfl, ?_⟩) hHeld ?_
 rotate_left
 ·intro V hSw; (try dsimp only at hSw); have q0 := (uh HK) V hSw; go_simp; (try with_reducible rfl)
 (try simp only [Act.put, nrm])
 refine wtk (i := 8) rfl (yieldsIf_load_mid rfl 42 (.tmp 11) rfl g 0 rfl (v.vals x0 x1 x2 x3 x4).toList _ (fun V hSw => (uh HM) V hSw) Tryz.underlying42 rfl Tryz.sizeMs7) hHeld ?_
 (try simp only [Act.put, nrm])
 refine wpAnyH_ready (rs := [5]) (by kernel_rfl) (by simp) (AllReadyH.cons rfl (fun K hK => ?_) AllReadyH.nil)
 go_simp
 refine (within_u8 1 7 5 E _ (by decide)).mono ?_
 rintro e w1 ⟨fv1, rfl, K1, hF1, hf1, hK1⟩
 have H1 := hid (And.intro (show RR enU8 w w1 E fv1 (wiN 1 7 5) from ⟨K1, hF1, hK1.mono (Nat.le_refl _)⟩) ((Fr.refl _ _).drew.trans hf1 (fun _ _ h => h)))
 obtain ⟨Fc1, caps1, rfl, _⟩ := hF1.ex
 clear hF1 hf1 hK1
 go_simp
 refine hK.out _ _ ((uh H1).2) (fun hHeld => ?_)
 clear hK K
 (try simp only [Act.put, nrm])
 refine wpAnyH_ready (rs := [9]) (by kernel_rfl) (by simp) (AllReadyH.cons rfl (fun K hK => ?_) AllReadyH.nil)
 go_simp
 refine ((uh HB) _).mono ?_
 rintro e w2 ⟨rfl, hf2⟩
 have H2 := hid (And.intro ((uh H1).1.fr hf2) ((uh H1).2.trans hf2 (fun _ _ h => h)))
 clear hf2 H1
 go_simp
 refine hK.out _ _ ((uh H2).2) (fun hHeld => ?_)
 clear hK K
 (try simp only [Act.put, nrm])
 refine wpAnyH_ready (rs := [10]) (by kernel_rfl) (by simp) (AllReadyH.cons rfl (fun K hK => ?_) AllReadyH.nil)
 go_simp
 refine (unless_any v.beside E _ ((uh HG).fr (uh H2).2 (fun _ h => h.elim))).mono ?_
 rintro e w3 ⟨fv3, rfl, K3, hF3, hf3, hK3⟩
 have H3 := hid (And.intro ((uh H2).1.fr hf3) (And.intro (show RR enU8 w w3 E fv3 (unN v.beside) from ⟨K3, hF3, hK3.mono (uh H2).2.size⟩) ((uh H2).2.trans hf3 (fun _ _ h => h))))
 obtain ⟨Fc3, caps3, rfl, _⟩ := hF3.ex
 clear hF3 hf3 hK3 H2
 go_simp
 refine hK.out _ _ ((uh H3).2.2) (fun hHeld => ?_)
 clear hK K
 (try simp only [Act.put, nrm])
 refine wpAnyH_ready (rs := [11]) (by kernel_rfl) (by simp) (AllReadyH.cons rfl (fun K hK => ?_) AllReadyH.nil)
 go_simp
 refine hK.out _ _ ((uh H3).2.2.alloc _) (fun hHeld => ?_)
 clear hK K
 (try simp only [Act.put, nrm])
 refine wpAnyH_done (by kernel_rfl) ?_ _
 simp only [lastQ]
 go_simp
 refine ((uh HN) w3 _ _ _ (uh H3).2.2 (uh H3).1 (uh H3).2.1).mono ?_
 rintro e w4 ⟨rfl, F4, hC4, hk4, hs4⟩
 have HT4 := hid ((uh HT) w4 F4 hC4 hk4 hs4)
 clear hC4 hs4 H3 HN HT HK HM HB HG
 have hL4 := fun i => ((uh HT4).L i).stp (uh HT4).s
 have HL := hid hL4
 clear hL4
 by_cases k1 : kd = 1
 ·subst k1
  have HQ := hid (request_any c1 v.rq x0 cb b g 1 F4 E w4 (uh HT4).C (uh HT4).m.r ((uh HT4).X0.stp (uh HT4).s (fun k j _ e => e.1) (uh HT4).sm.1 (uh HT4).sm.2) (uh HL) (uh HT4).ok.rq (CS.room_le (uh HT4).room (by decide)))
  go_wp2_with fail
  refine (uh HQ).mono ?_
  rintro e w5 ⟨rfl, F5, y, hC5, hr5, hO5, hs5⟩
  have HE := hid ((uh HT4).end1 rfl hC5 hr5 hO5 hs5)
  clear hC5 hr5 hO5 hs5 HQ
  go_wp2_with fail
  go_end0
  exact ⟨rfl, F5, _, _, _, _, _, uh HE⟩
 by_cases k2 : kd = 2
 ·subst k2
  have HQ := hid (id_any c1 (v.icl, v.inu) cb b g 11 F4 E w4 (uh HT4).C (uh HT4).m.c11 (uh HT4).m.c12 (uh HL) (uh HT4).ok.icl (uh HT4).ok.inu (CS.room_le (uh HT4).room (by decide)))
  go_wp2_with fail
  refine (uh HQ).mono ?_
  rintro e w5 ⟨rfl, F5, hC5, h1, h2, hs5⟩
  have HE := hid ((uh HT4).end2 rfl hC5 h1 h2 hs5)
  clear hC5 h1 h2 hs5 HQ
  go_wp2_with fail
  go_end0
  exact ⟨rfl, F5, _, _, _, _, _, uh HE⟩
 by_cases k3 : kd = 3
 ·subst k3
  have HQ := hid (answer_any c1 v.an x1 x2 cb b g 13 F4 E w4 (uh HT4).C (uh HT4).m.a ((uh HT4).X1.stp (uh HT4).s (fun k j _ e => e.1) (uh HT4).sm.1 (uh HT4).sm.2) ((uh HT4).X2.stp (uh HT4).s (fun k j _ e => e.1) (uh HT4).sm) (uh HL) (uh HT4).ok.an (uh HT4).room)
  go_wp2_with fail
  refine (uh HQ).mono ?_
  rintro e w5 ⟨rfl, F5, y, z, hC5, hr5, hO5, hZ5, hs5⟩
  have HE := hid ((uh HT4).end3 rfl hC5 hr5 hO5 hZ5 hs5)
  clear hC5 hr5 hO5 hZ5 hs5 HQ
  go_wp2_with fail
  go_end0
  exact ⟨rfl, F5, _, _, _, _, _, uh HE⟩
 by_cases k4 : kd = 4
 ·subst k4
  have HQ := hid (id_any c1 (v.icl, v.inu) cb b g 11 F4 E w4 (uh HT4).C (uh HT4).m.c11 (uh HT4).m.c12 (uh HL) (uh HT4).ok.icl (uh HT4).ok.inu (CS.room_le (uh HT4).room (by decide)))
  go_wp2_with fail
  refine (uh HQ).mono ?_
  rintro e w5 ⟨rfl, F5, hC5, h1, h2, hs5⟩
  have hL5 := fun i => ((uh HL) i).stp hs5
  have r5 : (c1.pId (v.icl, v.inu)).1.room 1 := CS.pId_room (n := 1) (CS.room_le (uh HT4).room (by decide)) _
  have c20 : w5.cell? ⟨g, 20, none⟩ = some (.int .u8 (v.co : Nat)) := (hs5.oth g 20 (uh HT4).lt (uh HT4).nF (fun e => by have := e.2; omega)).trans (uh HT4).m.c20
  have H5 := hid (And.intro hC5 (And.intro h1 (And.intro h2 (And.intro hs5 (And.intro hL5 (And.intro r5 c20))))))
  have k4 := hC5.g7.k4
  have HK5 := hid (fun (V : World) (hv : Fr (fun _ => False) w5 V) => kpC hv k4)
  clear hC5 h1 h2 hs5 hL5 r5 c20 HQ k4
  go_wp2_with fail
  refine wp_region_last (n := 7) (m := 7) (S := fun V => Fr (fun _ => False) w5 V) (by kernel_rfl) rfl rfl rfl (by kernel_rfl) (by kernel_rfl) ((Fr.refl _ _).drew) (fun hHeld => ?_)
  refine wtk (i := 0) (v := ?_) rfl (Or.inl ⟨by rfl, ?_⟩) hHeld ?_
  rotate_left
  ·intro V hSw; (try dsimp only at hSw); have q0 := (uh HK5) V hSw; go_simp; (try with_reducible rfl)
  (try simp only [Act.put, nrm])
  refine wtk (i := 1) (v := ?_) rfl (Or.inl ⟨by rfl, ?_⟩) hHeld ?_
  rotate_left
  ·intro V hSw; (try dsimp only at hSw); have q0 := (uh HK5) V hSw; go_simp; (try with_reducible rfl)
  (try simp only [Act.put, nrm])
  refine wtk (i := 2) (v := ?_) rfl (Or.inl ⟨by rfl, ?_⟩) hHeld ?_
  rotate_left
  ·intro V hSw; (try dsimp only at hSw); have q0 := (uh HK5) V hSw; go_simp; (try with_reducible rfl)
  (try simp only [Act.put, nrm])
  refine wtk (i := 3) (v := ?_) rfl (Or.inl ⟨by rfl, ?_⟩) hHeld ?_
  rotate_left
  ·intro V hSw; (try dsimp only at hSw); have q0 := (uh HK5) V hSw; go_simp; (try with_reducible rfl)
  (try simp only [Act.put, nrm])
  refine wtk (i := 4) (v := ?_) rfl (Or.inl ⟨by rfl, ?_⟩) hHeld ?_
  rotate_left
  ·intro V hSw; (try dsimp only at hSw); have q0 := (uh HK5) V hSw; go_simp; (try with_reducible rfl)
  (try simp only [Act.put, nrm])
  refine wpAnyH_ready (rs := [5]) (by kernel_rfl) (by simp) (AllReadyH.cons rfl (fun K hK => ?_) AllReadyH.nil)
  go_simp
  refine (within_u8 1 15 4 E _ (by decide)).mono ?_
  rintro e w6 ⟨fv1, rfl, K1, hF1, hf1, hK1⟩
  have H6 := hid (And.intro (show RR enU8 w5 w6 E fv1 (wiN 1 15 4) from ⟨K1, hF1, hK1.mono (Nat.le_refl _)⟩) ((Fr.refl _ _).drew.trans hf1 (fun _ _ h => h)))
  obtain ⟨Fc1, caps1, rfl, _⟩ := hF1.ex
  clear hF1 hf1 hK1
  go_simp
  refine hK.out _ _ ((uh H6).2) (fun hHeld => ?_)
  clear hK K
  (try simp only [Act.put, nrm])
  refine wpAnyH_ready (rs := [6]) (by kernel_rfl) (by simp) (AllReadyH.cons rfl (fun K hK => ?_) AllReadyH.nil)
  go_simp
  refine hK.out _ _ ((uh H6).2.alloc _) (fun hHeld => ?_)
  clear hK K
  (try simp only [Act.put, nrm])
  refine wpAnyH_done (by kernel_rfl) ?_ _
  simp only [lastQ]
  go_simp
  refine (num_u8_R (nm := n_busy) _ (uh H5).1 (uh H5).2.2.2.2.2.2 ((uh H5).2.2.2.2.1 _) (uh HT4).ok.co (uh H6).1 (uh H6).2 (uh H5).2.2.2.2.2.1).mono ?_
  rintro e w7 ⟨rfl, F7, hC7, hc7, hs7⟩
  obtain ⟨hC5, h1, h2, hs5, hL5, r5, c20⟩ := uh H5
  have hg5 := (hL5 0).lt
  have hgF5 := (hL5 0).nF
  have HE := hid ((uh HT4).end4 rfl hC7 ((hs7.oth g 11 hg5 hgF5 (fun e => by omega)).trans h1) ((hs7.oth g 12 hg5 hgF5 (fun e => by omega)).trans h2) hc7 ((hs5.mono (P' := fun k j => cellsAt g 11 2 k j ∨ (k = g ∧ j = 20)) (fun k j _ e => .inl e)).trans hs7 (fun k j _ e => .inr e)))
  clear hC5 h1 h2 hs5 hL5 r5 c20 hC7 hc7 hs7 hg5 hgF5 H5 H6 HK5
  go_wp2_with fail
  go_end0
  exact ⟨rfl, F7, _, _, _, _, _, uh HE⟩
 by_cases k5 : kd = 5
 ·subst k5
  have HQ := hid (event_any c1 v.ev x3 x4 cb b g 21 F4 E w4 (uh HT4).C (uh HT4).m.e ((uh HT4).X3.stp (uh HT4).s (fun k j _ e => e.1) (uh HT4).sm.1 (uh HT4).sm.2) ((uh HT4).X4.stp (uh HT4).s (fun k j _ e => e.1)) (uh HL) (uh HT4).ok.ev (CS.room_le (uh HT4).room (by decide)))
  go_wp2_with fail
  refine (uh HQ).mono ?_
  rintro e w5 ⟨rfl, F5, y, z, hC5, hr5, hO5, hZ5, hs5⟩
  have HE := hid ((uh HT4).end5 rfl hC5 hr5 hO5 hZ5 hs5)
  clear hC5 hr5 hO5 hZ5 hs5 HQ
  go_wp2_with fail
  go_end0
  exact ⟨rfl, F5, _, _, _, _, _, uh HE⟩
 by_cases k6 : kd = 6
 ·subst k6
  have HQ := hid (number_u32 c1 n_length [] v.le cb b g 34 F4 E (.slice none 0 0) w4 (uh HT4).C (uh HT4).m.c34 ((uh HL) _) (uh HT4).ok.le (RuC.nil _ w4 F4 g E) (CS.room_le (uh HT4).room (by decide)))
  go_wp2_with fail
  refine (uh HQ).mono ?_
  rintro e w5 ⟨rfl, F5, hC5, h1, hs5⟩
  have HE := hid ((uh HT4).end6 rfl hC5 h1 hs5)
  clear hC5 h1 hs5 HQ
  go_wp2_with fail
  go_end0
  exact ⟨rfl, F5, _, _, _, _, _, uh HE⟩
 have m1 : ((kd : Int) == 1) = false := by simp; omega
 have m2 : ((kd : Int) == 2) = false := by simp; omega
 have m3 : ((kd : Int) == 3) = false := by simp; omega
 have m4 : ((kd : Int) == 4) = false := by simp; omega
 have m5 : ((kd : Int) == 5) = false := by simp; omega
 have m6 : ((kd : Int) == 6) = false := by simp; omega
 have HE := hid ((uh HT4).end7 (by omega))
 clear k1 k2 k3 k4 k5 k6
 go_wp2_with fail
 go_end0
 exact ⟨rfl, F4, _, _, _, _, _, uh HE⟩
theorem blkset {w : World} {b t : Nat} {cs : Array Value} (h : w.heap[b]? = some (.cells cs t)) (o : Nat) (v : Value) : (w.setCell ⟨b, o, none⟩ v).heap[b]? = some (.cells (cs.setIfInBounds o v) t) := by
 simp [World.setCell, Array.getElem?_modify, h]
theorem setCells_blk (g t : Nat) : ∀ (vs olds pre : List Value) (o : Nat) (w : World), w.heap[g]? = some (.cells (pre ++ olds).toArray t) → olds.length = vs.length → pre.length = o → (w.setCells g o vs).heap[g]? = some (.cells (pre ++ vs).toArray t)
 | [], olds, pre, o, w, h, hl, _ => by
  obtain rfl := List.eq_nil_of_length_eq_zero hl
  exact h
 | v :: vs, [], pre, o, w, h, hl, _ => by cases hl
 | v :: vs, a :: olds, pre, o, w, h, hl, ho => by
  rw [World.setCells]
  have := setCells_blk g t vs olds (pre ++ [v]) (o + 1) (w.setCell ⟨g, o, none⟩ v) (by rw [blkset h]; subst ho; simp) (by simpa using hl) (by simp [ho])
  simpa using this
theorem setCells_fr (g : Nat) : ∀ (vs : List Value) (o : Nat) (w : World), Fr (fun k => k = g) w (w.setCells g o vs)
 | [], o, w => Fr.refl _ _
 | v :: vs, o, w => by
  rw [World.setCells]
  exact ((Fr.refl (fun k => k = g) w).setCell (p := ⟨g, o, none⟩) (.inl rfl) v).trans (setCells_fr g vs (o + 1) _) (fun _ _ h => h)
theorem st_all {P : Program} {W : World} {g t ty : Nat} (olds news : List Value) (hb : W.heap[g]? = some (.cells olds.toArray t)) (hl : olds.length = news.length) (hi : (P.info? ty).map (·.size) = some news.length) (h1 : ∀ v ∈ news, v.oneCell' = true) :
  ∃ W8, (Instr.storeAt ty (.pointer (some ⟨g, 0, none⟩)) (.agg news.toArray)).run P W = .ok () W8 ∧ W8.heap[g]? = some (.cells news.toArray t) ∧ Fr (fun k => k = g) W W8 := by
 refine ⟨W.setCells g 0 news, run_storeAt_mid W g 0 ty news.toArray (fun j hj => ?_) (by simpa using hi) (all_oneCell_toArray h1), ?_, setCells_fr g news 0 W⟩
 ·have hj : j < news.length := by simpa using hj
  have hj2 : j < olds.length := by omega
  refine ⟨?_, by simp [World.frozen?, hb]⟩
  simp [World.cell?, hb, hj2]
 ·have := setCells_blk g t news olds [] 0 W (by simpa using hb) hl rfl
  simpa using this
theorem wpList_stN {P : Program} {w w' : World} {ops : Array Oper} {rest : List Oper} {op : Oper} {a : Act} {Q : Exit → Act → World → Prop} (hgd : op.guard = none) (ty : TypeId) (x y : Operand) (ho : op.op = .store ty x y)
  (p v : Value) (hx : a.eval x = p) (hy : a.eval y = v) (hr : (Instr.storeAt ty p v).run P w = .ok () w')
  (h : wpList P ops Q rest (a.put op.dst undef) w') : wpList P ops Q (op :: rest) a w :=
 wpList_plain hgd fun _ hK => by
  unfold Oper.wp execOp
  simp only [ho, hx, hy, Sem.run_bind, hr, Result.andThen_ok, Sem.run_pure]
  exact hK _ _ h
theorem rOB {W : World} {b : Nat} {cs : List Value} {t : TypeId} (h : W.heap[b]? = some (.cells cs.toArray t)) : W.rangeAt b 0 cs := by
 intro j v hv
 simp only [World.cell?, h]
 simpa using hv
theorem results_cellt {P : Program} {fn : Func} {p u : Tmp} {ty : TypeId} (h : fn.results = #[.cell p ty, .tmp u]) (tmps : Array Value) (w : World) (b o : Nat) (cs : List Value) (d : TypeDesc) (x : Value)
  (hp : tmps.getD p undef = .pointer (some ⟨b, o, none⟩)) (hx : tmps.getD u undef = x) (hc : w.rangeAt b o cs)
  (hu : P.underlying ty = some d) (hd : d.isRow = true) (hi : (P.info? ty).map (·.size) = some cs.length) :
  (results fn tmps).run P w = .ok (.tuple #[.agg cs.toArray, x]) w := by
 have hp' : tmps[p]?.getD undef = .pointer (some ⟨b, o, none⟩) := by simpa using hp
 have hx' : tmps[u]?.getD undef = x := by simpa using hx
 simp [results, h, hp', hx', asAddr, run_loadVar_mid w b o ty cs d hc hu hd hi]
theorem setCells_mid (g t : Nat) : ∀ (vs fs : List Value) (o : Nat) (w : World), w.heap[g]? = some (.cells fs.toArray t) → o + vs.length ≤ fs.length → ∃ fs', (w.setCells g o vs).heap[g]? = some (.cells (List.toArray fs') t) ∧ fs'.length = fs.length ∧ (∀ i v, vs[i]? = some v → fs'[o + i]? = some v) ∧ ∀ j, (j < o ∨ o + vs.length ≤ j) → fs'[j]? = fs[j]?
 | [], fs, o, w, h, _ => ⟨fs, h, rfl, by simp, fun _ _ => rfl⟩
 | v :: vs, fs, o, w, h, hl => by
  rw [World.setCells]
  have hl2 : o + (vs.length + 1) ≤ fs.length := hl
  obtain ⟨fs', a1, a2, a3, a4⟩ := setCells_mid g t vs (fs.set o v) (o + 1) (w.setCell ⟨g, o, none⟩ v) (by rw [blkset h]; simp) (by rw [List.length_set]; omega)
  refine ⟨fs', a1, by rw [a2, List.length_set], fun i u hu => ?_, fun j hj => ?_⟩
  ·cases i with
   | zero =>
    simp only [List.getElem?_cons_zero, Option.some.injEq] at hu
    subst hu
    rw [Nat.add_zero, a4 o (by omega), List.getElem?_set_self (by omega)]
   | succ i =>
    have := a3 i u (by simpa using hu)
    rw [← this]
    congr 1
    omega
  ·have hj2 : j < o ∨ o + (vs.length + 1) ≤ j := hj
   rw [a4 j (by omega), List.getElem?_set_ne (by omega)]
theorem st_mid {P : Program} {W : World} {g t ty o : Nat} (fs news : List Value) (hb : W.heap[g]? = some (.cells fs.toArray t)) (hl : o + news.length ≤ fs.length) (hi : (P.info? ty).map (·.size) = some news.length) (h1 : ∀ v ∈ news, v.oneCell' = true) :
  ∃ W8, (Instr.storeAt ty (.pointer (some ⟨g, o, none⟩)) (.agg news.toArray)).run P W = .ok () W8 ∧ (∃ fs', W8.heap[g]? = some (.cells (List.toArray fs') t) ∧ fs'.length = fs.length ∧ (∀ i v, news[i]? = some v → fs'[o + i]? = some v) ∧ ∀ j, (j < o ∨ o + news.length ≤ j) → fs'[j]? = fs[j]?) ∧ Fr (fun k => k = g) W W8 := by
 refine ⟨W.setCells g o news, run_storeAt_mid W g o ty news.toArray (fun j hj => ?_) (by simpa using hi) (all_oneCell_toArray h1), setCells_mid g t news fs o W hb hl, setCells_fr g news o W⟩
 have hj : j < news.length := by simpa using hj
 have hj2 : o + j < fs.length := by omega
 refine ⟨?_, by simp [World.frozen?, hb]⟩
 simp [World.cell?, hb, hj2]
theorem mid_eq {pre olds vs post fs' : List Value} (hl : olds.length = vs.length) (h2 : ∀ i v, vs[i]? = some v → fs'[pre.length + i]? = some v) (h3 : ∀ j, j < pre.length ∨ pre.length + vs.length ≤ j → fs'[j]? = (pre ++ (olds ++ post))[j]?) : fs' = pre ++ (vs ++ post) := by
 apply List.ext_getElem?
 intro j
 by_cases a : j < pre.length
 ·rw [h3 j (.inl a), List.getElem?_append_left a, List.getElem?_append_left a]
 ·by_cases b : j < pre.length + vs.length
  ·rw [List.getElem?_append_right (by omega), List.getElem?_append_left (by omega)]
   have hv : vs[j - pre.length]? = some (vs[j - pre.length]'(by omega)) := List.getElem?_eq_getElem (by omega)
   have := h2 _ _ hv
   rw [show pre.length + (j - pre.length) = j by omega] at this
   rw [this, hv]
  ·rw [h3 j (.inr (by omega)), List.getElem?_append_right (by omega), List.getElem?_append_right (by omega), List.getElem?_append_right (by omega), List.getElem?_append_right (by omega), hl]
set_option maxRecDepth 100000 in
set_option maxHeartbeats 2000000 in
theorem whole_Message (c : CS) (v : MsM) (a0 a1 a2 a3 a4 : Option Addr) (n0 n1 n2 n3 n4 : Nat) (x0 x1 x2 x3 x4 : Value) (cb b g : Nat) (F : Nat → Prop) (E : Nat → Addr) (w : World) (h : Cd w cb b F c E) (hp : MsC w g v x0 x1 x2 x3 x4)
  (e0 : x0 = .slice a0 v.rq.fs.length n0) (e1 : x1 = .slice a1 v.an.fs.length n1) (e2 : x2 = .slice a2 v.an.hi.length n2) (e3 : x3 = .slice a3 v.ev.rq.fs.length n3) (e4 : x4 = .slice a4 v.ev.dg.length n4)
  (hX0 : FdX w c x0 v.rq.fs F g) (hX1 : FdX w c x1 v.an.fs F g) (hX2 : SuX w c x2 v.an.hi F g) (hX3 : FdX w c x3 v.ev.rq.fs F g) (hX4 : BVg w x4 v.ev.dg F g) (hR4 : ∀ q, c = .rd q → x4 = .slice none 0 0 ∧ v.ev.dg = []) (hL : ∀ i, Loc w cb F g i) (hv : v.ok) (hroom : c.room 502) :
  Calls Tryz.prog 68 #[.pointer (some ⟨cb, 0, none⟩), .iface 145 (.pointer (some ⟨g, 0, none⟩))] w fun e w' => e = .returned (.tuple #[]) ∧ ∃ F' y0 y1 y2 y3 y4, MsO w w' cb b g F F' c E ((c.pForm 7).pMessage v) x0 x1 x2 x3 y0 y1 y2 y3 y4 := by
 have t0 := Tryz.wh_Message
 have t1 := Tryz.wm_Message_Request
 have t2 := Tryz.wm_Message_Answer
 have t3 := Tryz.wm_Message_Event
 have t4 := Tryz.wm_Message_Head
 have t5 := Tryz.wm_Message_Signed
 have t6 := Tryz.wm_Message_Proof
 have HF := hid (form_any c 7 cb b F E w h (by decide) (by simp only [CS.room] at *; omega))
 have hgF := (hL 0).nF
 have hM := c.pForm_sm 7
 have H := hid (And.intro hp (And.intro hL (And.intro hX0 (And.intro hX1 (And.intro hX2 (And.intro hX3 (And.intro hX4 hR4)))))))
 clear h hp hL hX0 hX1 hX2 hX3 hX4 hR4
 go_enter Tryz.func68, Tryz.ntmps68
 go_wp2_with fail
 refine (uh HF).mono ?_
 rintro e w1 ⟨rfl, F1, hC1, hs1⟩
 obtain ⟨hp, hL, hX0, hX1, hX2, hX3, hX4, hR4⟩ := uh H
 have hg := (hL 0).lt
 have hm1 : MsC w1 g v x0 x1 x2 x3 x4 := ⟨(hs1.oth g 0 hg hgF (fun h => h)).trans hp.c0, hp.r.stp hs1 hgF (fun _ _ h => h), (hs1.oth g 11 hg hgF (fun h => h)).trans hp.c11, (hs1.oth g 12 hg hgF (fun h => h)).trans hp.c12, hp.a.stp hs1 hgF (fun _ _ h => h), (hs1.oth g 20 hg hgF (fun h => h)).trans hp.c20, hp.e.stp hs1 hgF (fun _ _ h => h), (hs1.oth g 34 hg hgF (fun h => h)).trans hp.c34⟩
 have HH := hid (message_any (c.pForm 7) v a0 a1 a2 a3 a4 n0 n1 n2 n3 n4 x0 x1 x2 x3 x4 cb b g F1 E w1 hC1 hm1 e0 e1 e2 e3 e4 (hX0.stp (c' := c.pForm 7) hs1 (fun _ _ _ h => h.elim) hM.1 hM.2) (hX1.stp (c' := c.pForm 7) hs1 (fun _ _ _ h => h.elim) hM.1 hM.2) (hX2.stp (c' := c.pForm 7) hs1 (fun _ _ _ h => h.elim) hM) (hX3.stp (c' := c.pForm 7) hs1 (fun _ _ _ h => h.elim) hM.1 hM.2) (hX4.stp hs1 (fun _ _ _ h => h.elim)) (fun q e => by obtain ⟨q', e'⟩ := hM.2 q e; exact hR4 q' e') (fun i => (hL i).stp hs1) hv (CS.pForm_room (by simp only [CS.room] at *; omega) 7))
 have H1 := hid (And.intro hs1 hX4)
 clear hC1 hs1 hp hL hX0 hX1 hX2 hX3 hX4 hR4 hm1 e0 e1 e2 e3 e4
 go_wp2_with fail
 refine (uh HH).mono ?_
 rintro e w2 ⟨rfl, F2, y0, y1, y2, y3, y4, hO⟩
 have hmd : ∀ q, c = .rd q → ∃ q', c.pForm 7 = .rd q' := by rintro q rfl; exact ⟨_, rfl⟩
 have H2 : Hid (MsO w w2 cb b g F F2 c E ((c.pForm 7).pMessage v) x0 x1 x2 x3 y0 y1 y2 y3 y4) := hid ⟨hO.C, hO.m, hO.o0.of hM (uh H1).1.size, hO.o1.of hM (uh H1).1.size, hO.o2.of hM (uh H1).1.size, hO.o3.of hM (uh H1).1.size, hO.o4.mode (uh H1).1.size hmd, ((uh H1).1.mono (fun _ _ _ h => h.elim)).trans hO.s (fun _ _ _ h => h)⟩
 clear hO hmd
 go_wp2_with fail
 go_end0
 exact ⟨rfl, F2, y0, y1, y2, y3, y4, uh H2⟩
end Go.Proofs.YtlphcgfmjhbeoaaGreatDoor
