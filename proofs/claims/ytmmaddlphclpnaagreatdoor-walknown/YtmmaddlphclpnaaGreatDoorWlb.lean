import Derived.Test.YtmmaddlphclpnaaGreatDoorWla
import Derived.Test.YtmmaddlphclpnaaGreatDoorDlp
namespace Go.Proofs.YtmmaddlphclpnaaGreatDoor
open Go.RowKit Go.ChangeShapes Go.WideShapes Go.Maps Go.Sort

/-- A log: its name, how many bytes a segment takes, its segments, where its payloads lie (segment, place, size). -/
structure LM where
  name : ByteArray
  size : Nat
  segs : List Nat
  pls : List (Nat × Nat × Nat)
def icells (l : List Nat) : List Value := l.map fun n => .int .i64 (n : Nat)
def scells (l : List (Nat × Nat × Nat)) : List Value := l.flatMap fun p => [.int .i64 (p.1 : Nat), .int .i64 (p.2.1 : Nat), .int .i64 (p.2.2 : Nat)]
theorem scells_app (l : List (Nat × Nat × Nat)) (a b c : Nat) : scells (l ++ [(a, b, c)]) = scells l ++ [.int .i64 (a : Nat), .int .i64 (b : Nat), .int .i64 (c : Nat)] := by simp [scells]
/-- A log in memory. -/
structure LgAt (w : World) (l d : Nat) (L : LM) (sv pv : Value) : Prop where
  blk : w.heap[l]? = some (.cells #[.pointer (some ⟨d, 0, none⟩), .string L.name, .int .i64 (L.size : Nat), sv, pv] 82)
  so : w.ownsRow 0 3 1 sv L.segs.length (icells L.segs)
  po : w.ownsRow 0 93 3 pv L.pls.length (scells L.pls)
/-- A log and its disk, both made since w; their blocks are apart. -/
structure WL (w W : World) (l d m : Nat) (L : LM) (s : DM) (q : DW) (O : Nat → Prop) (sv pv : Value) : Prop where
  D : DkAt W d m s q O
  G : LgAt W l d L sv pv
  al : ¬ O l
  asv : ∀ g, sv.ownBlock = some g → ¬ O g
  ap : ∀ g, pv.ownBlock = some g → ¬ O g
  fr : Fr (fun _ => False) w W
  o : ∀ k, O k → w.heap.size ≤ k
  ol : w.heap.size ≤ l
  os : ∀ g, sv.ownBlock = some g → w.heap.size ≤ g
  op : ∀ g, pv.ownBlock = some g → w.heap.size ≤ g
theorem LgAt.cells {w : World} {l d : Nat} {L : LM} {sv pv : Value} (h : LgAt w l d L sv pv) : w.cell? ⟨l, 0, none⟩ = some (.pointer (some ⟨d, 0, none⟩)) ∧ w.cell? ⟨l, 1, none⟩ = some (.string L.name) ∧ w.cell? ⟨l, 2, none⟩ = some (.int .i64 (L.size : Nat)) ∧ w.cell? ⟨l, 3, none⟩ = some sv ∧ w.cell? ⟨l, 4, none⟩ = some pv ∧ ∀ i, w.frozen? ⟨l, i, none⟩ = false := by
  refine ⟨?_, ?_, ?_, ?_, ?_, fun i => ?_⟩ <;> simp [World.cell?, World.frozen?, h.blk]
theorem LgAt.lt {w : World} {l d : Nat} {L : LM} {sv pv : Value} (h : LgAt w l d L sv pv) : l < w.heap.size ∧ (∀ g, sv.ownBlock = some g → g < w.heap.size) ∧ (∀ g, pv.ownBlock = some g → g < w.heap.size) :=
  ⟨lt_of_block h.blk, fun g hg => (h.so.lt g hg).2, fun g hg => (h.po.lt g hg).2⟩
/-- Its blocks are of three kinds. -/
theorem LgAt.kinds {w : World} {l d : Nat} {L : LM} {sv pv : Value} (h : LgAt w l d L sv pv) : (∀ g, sv.ownBlock = some g → g ≠ l ∧ pv.ownBlock ≠ some g) ∧ (∀ g, pv.ownBlock = some g → g ≠ l) := by
  refine ⟨fun g hg => ⟨fun e => ?_, fun e => ?_⟩, fun g hg e => ?_⟩
  · obtain ⟨cur, hc⟩ := own_blk h.so hg
    rw [e, h.blk] at hc
    simp at hc
  · obtain ⟨cur, hc⟩ := own_blk h.so hg
    obtain ⟨cur2, hc2⟩ := own_blk h.po e
    rw [hc] at hc2
    simp at hc2
  · obtain ⟨cur, hc⟩ := own_blk h.po hg
    rw [e, h.blk] at hc
    simp at hc
theorem LgAt.keep {w w' : World} {l d : Nat} {L : LM} {sv pv : Value} (h : LgAt w l d L sv pv) (h0 : w'.heap[l]? = w.heap[l]?) (h1 : ∀ g, sv.ownBlock = some g → w'.heap[g]? = w.heap[g]?) (h2 : ∀ g, pv.ownBlock = some g → w'.heap[g]? = w.heap[g]?) : LgAt w' l d L sv pv :=
  ⟨h0.trans h.blk, ownsRow_of_block h.so h1, ownsRow_of_block h.po h2⟩
theorem LgAt.fr {w w' : World} {l d : Nat} {L : LM} {sv pv : Value} {S : Nat → Prop} (h : LgAt w l d L sv pv) (hf : Fr S w w') (h0 : ¬ S l) (h1 : ∀ g, sv.ownBlock = some g → ¬ S g) (h2 : ∀ g, pv.ownBlock = some g → ¬ S g) : LgAt w' l d L sv pv :=
  h.keep (hf.block l h.lt.1 h0) (fun g hg => hf.block g (h.lt.2.1 g hg) (h1 g hg)) (fun g hg => hf.block g (h.lt.2.2 g hg) (h2 g hg))
/-- Nothing of both has turned. -/
theorem WL.quiet {w W W' : World} {l d m : Nat} {L : LM} {s : DM} {q : DW} {O : Nat → Prop} {sv pv : Value} (h : WL w W l d m L s q O sv pv) (hf : Fr (fun _ => False) W W') : WL w W' l d m L s q O sv pv :=
  ⟨h.D.fr hf (fun _ _ h => h), h.G.fr hf (fun h => h) (fun _ _ h => h) (fun _ _ h => h), h.al, h.asv, h.ap, h.fr.trans hf (fun _ _ h => h), h.o, h.ol, h.os, h.op⟩
/-- The disk has gone on. -/
theorem WL.disk {w W W' : World} {l d m : Nat} {L : LM} {s s' : DM} {q q' : DW} {O O' : Nat → Prop} {sv pv : Value} (h : WL w W l d m L s q O sv pv) (hD : DkAt W' d m s' q' O') (hf : Fr O W W') (hO : ∀ k, O' k → O k ∨ W.heap.size ≤ k) : WL w W' l d m L s' q' O' sv pv :=
  ⟨hD, h.G.fr hf h.al h.asv h.ap, fun e => (hO _ e).elim h.al (fun e => by have := h.G.lt.1; omega), fun g hg e => (hO _ e).elim (h.asv g hg) (fun e => by have := h.G.lt.2.1 g hg; omega), fun g hg e => (hO _ e).elim (h.ap g hg) (fun e => by have := h.G.lt.2.2 g hg; omega), h.fr.absorb hf h.o, fun k hk => (hO k hk).elim (h.o k) (Nat.le_trans h.fr.size), h.ol, h.os, h.op⟩
/-- The log has gone on. -/
theorem WL.log {w W W' : World} {l d m : Nat} {L L' : LM} {s : DM} {q : DW} {O : Nat → Prop} {sv pv sv' pv' : Value} (h : WL w W l d m L s q O sv pv) (hG : LgAt W' l d L' sv' pv') (hf : Fr (fun g => g = l ∨ sv.ownBlock = some g ∨ pv.ownBlock = some g) W W') (hs : ∀ g, sv'.ownBlock = some g → sv.ownBlock = some g ∨ W.heap.size ≤ g) (hp : ∀ g, pv'.ownBlock = some g → pv.ownBlock = some g ∨ W.heap.size ≤ g) : WL w W' l d m L' s q O sv' pv' := by
  have hlt : ∀ k, O k → k < W.heap.size := h.D.lt
  refine ⟨h.D.fr hf (fun k hk e => ?_), hG, h.al, fun g hg e => (hs g hg).elim (fun e2 => h.asv g e2 e) (fun e2 => by have := hlt g e; omega), fun g hg e => (hp g hg).elim (fun e2 => h.ap g e2 e) (fun e2 => by have := hlt g e; omega), h.fr.absorb hf (fun k hk => ?_), h.o, h.ol, fun g hg => (hs g hg).elim (h.os g) (Nat.le_trans h.fr.size), fun g hg => (hp g hg).elim (h.op g) (Nat.le_trans h.fr.size)⟩
  · rcases e with rfl | e | e
    · exact h.al hk
    · exact h.asv k e hk
    · exact h.ap k e hk
  · rcases hk with rfl | e | e
    · exact h.ol
    · exact h.os k e
    · exact h.op k e
set_option maxRecDepth 100000 in
theorem wopen_any (l d : Nat) (L : LM) (sv pv : Value) (w : World) (h : LgAt w l d L sv pv) (hl : L.segs.length ≤ 1000) :
    Calls Tryz.prog 44 #[.pointer (some ⟨l, 0, none⟩)] w fun e w' => e = .returned (.int .i64 ((L.segs.length : Int) - 1)) ∧ w' = w := by
  obtain ⟨c0, c1, c2, c3, c4, _⟩ := h.cells
  obtain ⟨so, sc, rfl⟩ := own_formX h.so
  clear h
  generalize L.segs.length = N at *
  go_enter Tryz.func44, Tryz.ntmps44
  go_wp2
  go_ret
  exact ⟨rfl, rfl⟩
set_option maxRecDepth 100000 in
theorem wlen_any (l d : Nat) (L : LM) (sv pv : Value) (w : World) (h : LgAt w l d L sv pv) :
    Calls Tryz.prog 12 #[.pointer (some ⟨l, 0, none⟩)] w fun e w' => e = .returned (.int .i64 (L.pls.length : Nat)) ∧ w' = w := by
  obtain ⟨c0, c1, c2, c3, c4, _⟩ := h.cells
  obtain ⟨so, sc, rfl⟩ := own_formX h.po
  clear h
  generalize L.pls.length = N at *
  go_enter Tryz.func12, Tryz.ntmps12
  go_wp2
  go_ret
  exact ⟨rfl, rfl⟩
end Go.Proofs.YtmmaddlphclpnaaGreatDoor
