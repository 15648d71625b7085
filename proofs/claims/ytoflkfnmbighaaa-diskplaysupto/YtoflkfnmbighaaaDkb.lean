import Derived.Test.YtoflkfnmbighaaaDka
import Derived.Maps.RangeWalk
import Derived.Maps.OwnSet
import Derived.Maps.OwnOps
namespace Go.Proofs.Ytoflkfnmbighaaa
open Go.RowKit Go.ChangeShapes Go.WideShapes

theorem blkset {w : World} {b t : Nat} {cs : Array Value} (h : w.heap[b]? = some (.cells cs t)) (o : Nat) (v : Value) : (w.setCell ⟨b, o, none⟩ v).heap[b]? = some (.cells (cs.setIfInBounds o v) t) := by
  simp [World.setCell, Array.getElem?_modify, h]
theorem lt_of_block {w : World} {b : Nat} {o : Obj} (h : w.heap[b]? = some o) : b < w.heap.size := by
  rcases Nat.lt_or_ge b w.heap.size with hx | hx
  · exact hx
  · rw [Array.getElem?_eq_none hx] at h; cases h
theorem heap_alloc_new (w : World) (o : Obj) : (w.alloc o).heap[w.heap.size]? = some o := (MapKept.heap_alloc w o).1
/-- How a pointer to a file reads: by its block's number. -/
def Rp : Value → Option (DataW Unit × List MemPlace)
  | .pointer none => some (.nil, [])
  | .pointer (some ⟨b, 0, none⟩) => some (.lit (.int .i64 (b : Nat)), [])
  | _ => none
theorem Rp_nil : Rp (.pointer none) = some (.nil, []) := rfl
theorem Rp_at (b : Nat) : Rp (.pointer (some ⟨b, 0, none⟩)) = some (.lit (.int .i64 (b : Nat)), []) := rfl
theorem Rp_inv {v : Value} {y : DataW Unit × List MemPlace} (h : Rp v = some y) : (v = .pointer none ∧ y = (.nil, [])) ∨ ∃ b : Nat, v = .pointer (some ⟨b, 0, none⟩) ∧ y = (.lit (.int .i64 (b : Nat)), []) := by
  unfold Rp at h
  split at h
  · cases h; exact .inl ⟨rfl, rfl⟩
  · cases h; exact .inr ⟨_, rfl, rfl⟩
  · cases h
theorem Try.sK : Maps.Keyed Try.prog 9 := Maps.string_keyed Try.underlying9
/-- A name as a key. -/
def nm (s : ByteArray) : List UInt8 := s.data.toList
theorem key_nm (s : ByteArray) (h : s.size ≤ maxLen) : keyOf Try.prog 9 (.string s) = some (.string (nm s)) := by
  simp [keyOf, mapKey, nm, Try.underlying9, h]
/-- A file: its bytes, how many of them are safe, its pieces (a write's number, how many bytes). -/
structure FM where
  b : List Nat
  safe : Nat
  ps : List (Nat × Nat)
def pcells (ps : List (Nat × Nat)) : List Value := ps.flatMap fun p => [.int .i64 (p.1 : Nat), .int .i64 (p.2 : Nat)]
/-- A disk. -/
structure DM where
  limit : Nat
  used : Nat
  writes : Nat
  off : Bool
  full : Bool
  left : Int
  tear : Int
  D : DataW Unit
  F : List UInt8 → FM
/-- Where its files lie. -/
structure DW where
  fb : List UInt8 → Nat
  bv : List UInt8 → Value
  pv : List UInt8 → Value
/-- A file in memory. -/
structure FAt (w : World) (fb : Nat) (f : FM) (bv pv : Value) : Prop where
  blk : w.heap[fb]? = some (.cells #[bv, .int .i64 (f.safe : Nat), pv] 72)
  bo : w.ownsRow 0 5 1 bv f.b.length (cellsOf f.b)
  po : w.ownsRow 0 98 2 pv f.ps.length (pcells f.ps)
def DM.cells (s : DM) (m : Nat) : Array Value := #[.int .i64 (s.limit : Nat), .map (some m), .int .i64 (s.used : Nat), .int .i64 (s.writes : Nat), .bool s.off, .bool s.full, .int .i64 s.left, .int .i64 s.tear]
/-- A disk in memory: its own blocks are among O. -/
structure DkAt (w : World) (d m : Nat) (s : DM) (q : DW) (O : Nat → Prop) : Prop where
  blk : w.heap[d]? = some (.cells (s.cells m) 48)
  map : w.ownsMap Try.prog 9 Rp m (Maps.size s.D) s.D
  at_ : ∀ k : List UInt8, Maps.has s.D (.string k) = true → s.D.atKey (.string k) .nil = .lit (.int .i64 (q.fb k : Nat)) ∧ FAt w (q.fb k) (s.F k) (q.bv k) (q.pv k)
  own : ∀ k : List UInt8, Maps.has s.D (.string k) = true → O (q.fb k) ∧ (∀ g, (q.bv k).ownBlock = some g → O g) ∧ (∀ g, (q.pv k).ownBlock = some g → O g)
  ap : ∀ k k' : List UInt8, Maps.has s.D (.string k) = true → Maps.has s.D (.string k') = true → k ≠ k' → q.fb k ≠ q.fb k' ∧ (∀ g, (q.bv k).ownBlock = some g → (q.bv k').ownBlock ≠ some g) ∧ (∀ g, (q.pv k).ownBlock = some g → (q.pv k').ownBlock ≠ some g)
  od : O d
  om : O m
  lt : ∀ k, O k → k < w.heap.size
theorem own_blk {w : World} {base e size n g : Nat} {v : Value} {xs : List Value} (h : w.ownsRow base e size v n xs) (hg : v.ownBlock = some g) : ∃ cur, w.heap[g]? = some (.cells cur e) := by
  rcases h.2 with ⟨rfl, _⟩ | ⟨q, cap, cur, rfl, _, hq, _⟩
  · cases hg
  · cases hg
    exact ⟨cur, hq⟩
/-- A file's blocks are of three kinds. -/
theorem FAt.kinds {w : World} {fb : Nat} {f : FM} {bv pv : Value} (h : FAt w fb f bv pv) : (∀ g, bv.ownBlock = some g → g ≠ fb ∧ pv.ownBlock ≠ some g) ∧ (∀ g, pv.ownBlock = some g → g ≠ fb) := by
  refine ⟨fun g hg => ⟨fun e => ?_, fun e => ?_⟩, fun g hg e => ?_⟩
  · obtain ⟨cur, hc⟩ := own_blk h.bo hg
    rw [e, h.blk] at hc
    simp at hc
  · obtain ⟨cur, hc⟩ := own_blk h.bo hg
    obtain ⟨cur2, hc2⟩ := own_blk h.po e
    rw [hc] at hc2
    simp at hc2
  · obtain ⟨cur, hc⟩ := own_blk h.po hg
    rw [e, h.blk] at hc
    simp at hc
theorem FAt.lt {w : World} {fb : Nat} {f : FM} {bv pv : Value} (h : FAt w fb f bv pv) : fb < w.heap.size ∧ (∀ g, bv.ownBlock = some g → g < w.heap.size) ∧ (∀ g, pv.ownBlock = some g → g < w.heap.size) :=
  ⟨lt_of_block h.blk, fun g hg => (h.bo.lt g hg).2, fun g hg => (h.po.lt g hg).2⟩
theorem FAt.keep {w w' : World} {fb : Nat} {f : FM} {bv pv : Value} (h : FAt w fb f bv pv) (h0 : w'.heap[fb]? = w.heap[fb]?) (h1 : ∀ g, bv.ownBlock = some g → w'.heap[g]? = w.heap[g]?) (h2 : ∀ g, pv.ownBlock = some g → w'.heap[g]? = w.heap[g]?) : FAt w' fb f bv pv :=
  ⟨h0.trans h.blk, ownsRow_of_block h.bo h1, ownsRow_of_block h.po h2⟩
theorem ownsMap_keep {w w' : World} {P : Program} {k : TypeId} {R : Value → Option (DataW Unit × List MemPlace)} {b n : Nat} {D : DataW Unit} (h : w.ownsMap P k R b n D) (hb : w'.heap[b]? = w.heap[b]?) : w'.ownsMap P k R b n D := by
  obtain ⟨es, clock, h1, F, hs, hD⟩ := h
  exact ⟨es, clock, hb.trans h1, F, hs, hD⟩
theorem ownsMap_blk {w : World} {P : Program} {k : TypeId} {R : Value → Option (DataW Unit × List MemPlace)} {b n : Nat} {D : DataW Unit} (h : w.ownsMap P k R b n D) : ∃ es clock, w.heap[b]? = some (.map es clock) := by
  obtain ⟨es, clock, h1, _⟩ := h
  exact ⟨es, clock, h1⟩
theorem DkAt.fr {w w' : World} {d m : Nat} {s : DM} {q : DW} {O S : Nat → Prop} (h : DkAt w d m s q O) (hf : Fr S w w') (hS : ∀ k, O k → ¬ S k) : DkAt w' d m s q O := by
  have hk : ∀ k, O k → w'.heap[k]? = w.heap[k]? := fun k hk => hf.block k (h.lt k hk) (hS k hk)
  exact ⟨(hk d h.od).trans h.blk, ownsMap_keep h.map (hk m h.om), fun k hh => ⟨(h.at_ k hh).1, (h.at_ k hh).2.keep (hk _ (h.own k hh).1) (fun g hg => hk g ((h.own k hh).2.1 g hg)) (fun g hg => hk g ((h.own k hh).2.2 g hg))⟩, h.own, h.ap, h.od, h.om, fun k hk => Nat.lt_of_lt_of_le (h.lt k hk) hf.size⟩
/-- The disk's own numbers turned. -/
theorem DkAt.upd {w w' : World} {d m : Nat} {s : DM} {q : DW} {O : Nat → Prop} (h : DkAt w d m s q O) (s' : DM) (hD : s'.D = s.D) (hF : s'.F = s.F) (hb : w'.heap[d]? = some (.cells (s'.cells m) 48)) (hf : Fr (fun k => k = d) w w') : DkAt w' d m s' q O := by
  obtain ⟨es, clock, hm⟩ := ownsMap_blk h.map
  have hk : ∀ k, k ≠ d → k < w.heap.size → w'.heap[k]? = w.heap[k]? := fun k hk hl => hf.block k hl hk
  refine ⟨hb, by rw [hD]; exact ownsMap_keep h.map (hk m (fun e => by rw [e, h.blk] at hm; cases hm) (h.lt m h.om)), fun k hh => ?_, by rw [hD]; exact h.own, by rw [hD]; exact h.ap, h.od, h.om, fun k hk => Nat.lt_of_lt_of_le (h.lt k hk) hf.size⟩
  rw [hD] at hh ⊢
  rw [hF]
  obtain ⟨h1, h2⟩ := h.at_ k hh
  refine ⟨h1, h2.keep (hk _ (fun e => ?_) h2.lt.1) (fun g hg => hk g (fun e => ?_) (h2.lt.2.1 g hg)) (fun g hg => hk g (fun e => ?_) (h2.lt.2.2 g hg))⟩
  · have := h2.blk
    rw [e, h.blk] at this
    simp at this
  · obtain ⟨cur, hc⟩ := own_blk h2.bo hg
    rw [e, h.blk] at hc
    simp at hc
  · obtain ⟨cur, hc⟩ := own_blk h2.po hg
    rw [e, h.blk] at hc
    simp at hc
/-- One file turned. -/
theorem DkAt.file {w w' : World} {d m : Nat} {s : DM} {q : DW} {O : Nat → Prop} (h : DkAt w d m s q O) (x : List UInt8) (hx : Maps.has s.D (.string x) = true) (f' : FM) (bv' pv' : Value)
    (hf : Fr (fun g => g = q.fb x ∨ (q.bv x).ownBlock = some g ∨ (q.pv x).ownBlock = some g) w w') (hA : FAt w' (q.fb x) f' bv' pv') (hb : ∀ g, bv'.ownBlock = some g → (q.bv x).ownBlock = some g ∨ w.heap.size ≤ g) (hp : ∀ g, pv'.ownBlock = some g → (q.pv x).ownBlock = some g ∨ w.heap.size ≤ g) :
    DkAt w' d m { s with F := fun k => if k = x then f' else s.F k } { q with bv := fun k => if k = x then bv' else q.bv k, pv := fun k => if k = x then pv' else q.pv k } (fun g => O g ∨ bv'.ownBlock = some g ∨ pv'.ownBlock = some g) := by
  obtain ⟨es, clock, hm⟩ := ownsMap_blk h.map
  have hxA := (h.at_ x hx).2
  have kd : ¬ (d = q.fb x ∨ (q.bv x).ownBlock = some d ∨ (q.pv x).ownBlock = some d) := by
    rintro (e | e | e)
    · have := hxA.blk; rw [← e, h.blk] at this; simp at this
    · obtain ⟨cur, hc⟩ := own_blk hxA.bo e; rw [h.blk] at hc; simp at hc
    · obtain ⟨cur, hc⟩ := own_blk hxA.po e; rw [h.blk] at hc; simp at hc
  have km : ¬ (m = q.fb x ∨ (q.bv x).ownBlock = some m ∨ (q.pv x).ownBlock = some m) := by
    rintro (e | e | e)
    · have := hxA.blk; rw [← e, hm] at this; cases this
    · obtain ⟨cur, hc⟩ := own_blk hxA.bo e; rw [hm] at hc; cases hc
    · obtain ⟨cur, hc⟩ := own_blk hxA.po e; rw [hm] at hc; cases hc
  have kb : ∀ k, Maps.has s.D (.string k) = true → k ≠ x → ∀ g, (g = q.fb k ∨ (q.bv k).ownBlock = some g ∨ (q.pv k).ownBlock = some g) → ¬ (g = q.fb x ∨ (q.bv x).ownBlock = some g ∨ (q.pv x).ownBlock = some g) := by
    intro k hk hne g hg hg2
    have hkA := (h.at_ k hk).2
    have hap := h.ap k x hk hx hne
    rcases hg with rfl | hg | hg
    · rcases hg2 with e | e | e
      · exact hap.1 e
      · obtain ⟨cur, hc⟩ := own_blk hxA.bo e; rw [hkA.blk] at hc; simp at hc
      · obtain ⟨cur, hc⟩ := own_blk hxA.po e; rw [hkA.blk] at hc; simp at hc
    · obtain ⟨cur, hc⟩ := own_blk hkA.bo hg
      rcases hg2 with e | e | e
      · rw [e, hxA.blk] at hc; simp at hc
      · exact hap.2.1 g hg e
      · obtain ⟨cur2, hc2⟩ := own_blk hxA.po e; rw [hc] at hc2; simp at hc2
    · obtain ⟨cur, hc⟩ := own_blk hkA.po hg
      rcases hg2 with e | e | e
      · rw [e, hxA.blk] at hc; simp at hc
      · obtain ⟨cur2, hc2⟩ := own_blk hxA.bo e; rw [hc] at hc2; simp at hc2
      · exact hap.2.2 g hg e
  refine ⟨(hf.block d (h.lt d h.od) kd).trans h.blk, ownsMap_keep h.map (hf.block m (h.lt m h.om) km), fun k hk => ?_, fun k hk => ?_, fun k k' hk hk' hne => ?_, .inl h.od, .inl h.om, ?_⟩
  · refine ⟨(h.at_ k hk).1, ?_⟩
    by_cases e : k = x
    · subst e
      simpa using hA
    · simp only [if_neg e]
      have hkA := (h.at_ k hk).2
      exact hkA.keep (hf.block _ hkA.lt.1 (kb k hk e _ (.inl rfl))) (fun g hg => hf.block g (hkA.lt.2.1 g hg) (kb k hk e g (.inr (.inl hg)))) (fun g hg => hf.block g (hkA.lt.2.2 g hg) (kb k hk e g (.inr (.inr hg))))
  · refine ⟨.inl (h.own k hk).1, fun g hg => ?_, fun g hg => ?_⟩
    · by_cases e : k = x
      · simp only [if_pos e] at hg; exact .inr (.inl hg)
      · simp only [if_neg e] at hg; exact .inl ((h.own k hk).2.1 g hg)
    · by_cases e : k = x
      · simp only [if_pos e] at hg; exact .inr (.inr hg)
      · simp only [if_neg e] at hg; exact .inl ((h.own k hk).2.2 g hg)
  · have hap := h.ap k k' hk hk' hne
    refine ⟨hap.1, fun g hg hg' => ?_, fun g hg hg' => ?_⟩
    · by_cases e : k = x
      · simp only [if_pos e] at hg
        have e' : k' ≠ x := fun e2 => hne (e.trans e2.symm)
        simp only [if_neg e'] at hg'
        rcases hb g hg with h2 | h2
        · exact hap.2.1 g (by rw [e]; exact h2) hg'
        · have := h.lt g ((h.own k' hk').2.1 g hg'); omega
      · simp only [if_neg e] at hg
        by_cases e' : k' = x
        · simp only [if_pos e'] at hg'
          rcases hb g hg' with h2 | h2
          · exact hap.2.1 g hg (by rw [e']; exact h2)
          · have := h.lt g ((h.own k hk).2.1 g hg); omega
        · simp only [if_neg e'] at hg'
          exact hap.2.1 g hg hg'
    · by_cases e : k = x
      · simp only [if_pos e] at hg
        have e' : k' ≠ x := fun e2 => hne (e.trans e2.symm)
        simp only [if_neg e'] at hg'
        rcases hp g hg with h2 | h2
        · exact hap.2.2 g (by rw [e]; exact h2) hg'
        · have := h.lt g ((h.own k' hk').2.2 g hg'); omega
      · simp only [if_neg e] at hg
        by_cases e' : k' = x
        · simp only [if_pos e'] at hg'
          rcases hp g hg' with h2 | h2
          · exact hap.2.2 g hg (by rw [e']; exact h2)
          · have := h.lt g ((h.own k hk).2.2 g hg); omega
        · simp only [if_neg e'] at hg'
          exact hap.2.2 g hg hg'
  · rintro k (hk | hk | hk)
    · exact Nat.lt_of_lt_of_le (h.lt k hk) hf.size
    · exact hA.lt.2.1 k hk
    · exact hA.lt.2.2 k hk
end Go.Proofs.Ytoflkfnmbighaaa
