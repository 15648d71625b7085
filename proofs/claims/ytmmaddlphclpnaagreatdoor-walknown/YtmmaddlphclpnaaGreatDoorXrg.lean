import Derived.Test.YtmmaddlphclpnaaGreatDoorXrf
import Derived.Deep.RegionHeld3
namespace Go.Proofs.YtmmaddlphclpnaaGreatDoor
open Go.RowKit
set_option maxRecDepth 100000

/-- A table of words in a block, to be written. -/
def TabAt (w : World) (b : Nat) (f : Nat → Nat) : Prop := ∀ j, j < 256 → w.cell? ⟨b, j, none⟩ = some (.int .u32 (f j : Nat)) ∧ w.frozen? ⟨b, j, none⟩ = false
theorem TabAt.congr {w : World} {b : Nat} {f f' : Nat → Nat} (h : TabAt w b f) (e : ∀ j, j < 256 → f j = f' j) : TabAt w b f' := fun j hj => by rw [← e j hj]; exact h j hj
theorem TabAt.put {w : World} {b : Nat} {f : Nat → Nat} (h : TabAt w b f) (k v : Nat) : TabAt (w.setCell ⟨b, k, none⟩ (.int .u32 (v : Int))).drew b (fun j => if j = k then v else f j) := by
  intro j hj
  refine ⟨?_, ?_⟩
  · rw [World.cell?_drew]
    by_cases e : j = k
    · subst e
      rw [World.cell?_setCell_same _ _ _ (h j hj).1]; simp
    · rw [World.cell?_setCell_other _ _ _ _ (by intro h; injection h with _ h2 _; exact e h2.symm), (h j hj).1]; simp [e]
  · rw [World.frozen?_drew, World.frozen?_setCell]; exact (h j hj).2
theorem Fr.put {w wr : World} {b : Nat} (h : Fr (fun k => k = b) w wr) (k : Nat) (v : Value) : Fr (fun k => k = b) w (wr.setCell ⟨b, k, none⟩ v).drew :=
  (Fr.setCell (S := fun k => k = b) h (p := ⟨b, k, none⟩) (.inl rfl) v).drew
theorem TabAt.fr {w w' : World} {b : Nat} {f : Nat → Nat} {S : Nat → Prop} (h : TabAt w b f) (hf : Fr S w w') (hS : ¬ S b) : TabAt w' b f := fun j hj => by
  have hb := lt_of_cell (h j hj).1
  exact ⟨(hf.cell (p := ⟨b, j, none⟩) hb hS).trans (h j hj).1, (hf.frozen (p := ⟨b, j, none⟩) hb hS).trans (h j hj).2⟩

def ck (k : Nat) : Nat := Xn k 2197175160
/-- The table behind k places, m steps of the next one. -/
def tbk (k m j : Nat) : Nat := if j % 2 ^ (8 - k) = 0 ∨ (j % 2 ^ (7 - k) = 0 ∧ j < 2 ^ (8 - k) * m) then Tb j else 0
theorem tb_val : ∀ k, k < 8 → ∀ m, m < 128 → m < 2 ^ k → Tb (2 ^ (8 - k) * m + 2 ^ (7 - k)) = Tb (2 ^ (8 - k) * m) ^^^ ck k := by decide +kernel
theorem k8 (k : Nat) (h : k < 8) : k = 0 ∨ k = 1 ∨ k = 2 ∨ k = 3 ∨ k = 4 ∨ k = 5 ∨ k = 6 ∨ k = 7 := by omega
theorem tb_step (k m j : Nat) (hk : k < 8) (hm : m < 2 ^ k) : (if j = 2 ^ (8 - k) * m + 2 ^ (7 - k) then Tb (2 ^ (8 - k) * m) ^^^ ck k else tbk k m j) = tbk k (m + 1) j := by
  have hv := tb_val k hk m (by have : 2 ^ k ≤ 2 ^ 7 := Nat.pow_le_pow_right (by decide) (by omega); omega) hm
  rw [← hv]
  unfold tbk
  have key : ∀ (c d : Prop) [Decidable c] [Decidable d], (j ≠ 2 ^ (8 - k) * m + 2 ^ (7 - k) → (c ↔ d)) → (j = 2 ^ (8 - k) * m + 2 ^ (7 - k) → d) → (if j = 2 ^ (8 - k) * m + 2 ^ (7 - k) then Tb (2 ^ (8 - k) * m + 2 ^ (7 - k)) else if c then Tb j else 0) = if d then Tb j else 0 := by
    intro c d _ _ h1 h2
    by_cases e : j = 2 ^ (8 - k) * m + 2 ^ (7 - k)
    · rw [if_pos e, if_pos (h2 e), ← e]
    · rw [if_neg e]
      by_cases hc : c
      · rw [if_pos hc, if_pos ((h1 e).1 hc)]
      · rw [if_neg hc, if_neg (fun h => hc ((h1 e).2 h))]
  refine key _ _ ?_ ?_
  · intro e
    rcases k8 k hk with rfl | rfl | rfl | rfl | rfl | rfl | rfl | rfl <;> simp only [Nat.reduceSub, Nat.reducePow] at * <;> omega
  · intro e
    rcases k8 k hk with rfl | rfl | rfl | rfl | rfl | rfl | rfl | rfl <;> simp only [Nat.reduceSub, Nat.reducePow] at * <;> omega
theorem tb_next (k j : Nat) (hk : k < 8) (hj : j < 256) : tbk k (2 ^ k) j = tbk (k + 1) 0 j := by
  unfold tbk
  congr 1
  apply propext
  rcases k8 k hk with rfl | rfl | rfl | rfl | rfl | rfl | rfl | rfl <;> simp only [Nat.reduceSub, Nat.reducePow, Nat.reduceAdd] at * <;> omega
theorem tb_0 (j : Nat) (hj : j < 256) : tbk 0 0 j = 0 := by
  unfold tbk
  by_cases h : j = 0
  · subst h; rfl
  · rw [if_neg (by simp only [Nat.reduceSub, Nat.reducePow]; omega)]
theorem tb_8 (j : Nat) : tbk 8 0 j = Tb j := by
  unfold tbk
  rw [if_pos (.inl (by simp only [Nat.reduceSub, Nat.reducePow]; omega))]
theorem ck_lt (k : Nat) : ck k < 4294967296 := Xn_lt k _ (by decide)
theorem ck_succ (k : Nat) : ck (k + 1) = X (ck k) := by rw [ck, Xn, Xn_X]; rfl
theorem pl_facts (k m : Nat) (hk : k < 8) (hm : m < 2 ^ k) : 2 ^ (8 - k) * m + 2 ^ (7 - k) < 256 ∧ 2 ^ (8 - k) * (m + 1) = 2 ^ (8 - k) * m + 2 * 2 ^ (7 - k) ∧ 0 < 2 ^ (7 - k) ∧ 2 ^ (8 - k) * m % 2 ^ (8 - k) = 0 := by
  refine ⟨?_, ?_, ?_, Nat.mul_mod_right _ _⟩ <;> rcases k8 k hk with rfl | rfl | rfl | rfl | rfl | rfl | rfl | rfl <;> simp only [Nat.reduceSub, Nat.reducePow] at * <;> omega
theorem pl_end (k : Nat) (hk : k < 8) : 2 ^ (8 - k) * 2 ^ k = 256 ∧ 128 / 2 ^ k = 2 ^ (7 - k) ∧ 128 / 2 ^ (k + 1) = 2 ^ (7 - k) / 2 := by
  rcases k8 k hk with rfl | rfl | rfl | rfl | rfl | rfl | rfl | rfl <;> decide

set_option maxRecDepth 100000 in
theorem cfill_any (b : Nat) (w : World) (hT : TabAt w b (fun _ => 0)) : Calls Tryz.prog 133 #[.pointer (some ⟨b, 0, none⟩)] w fun e w' => e = .returned (.tuple #[]) ∧ TabAt w' b Tb ∧ Fr (fun k => k = b) w w' ∧ w'.heap.size = w.heap.size := by
  have HT := hide hT
  clear hT
  go_enter Tryz.func133, Tryz.ntmps133
  go_wp2_with fail
  go_loopw [2, 3] (fun c p wr => ∃ k : Nat, k ≤ 8 ∧ p = .int .i64 ((128 / 2 ^ k : Nat) : Int) ∧ c = .int .u32 (ck k : Nat) ∧ TabAt wr b (tbk k 0) ∧ Fr (fun k => k = b) w wr ∧ wr.heap.size = w.heap.size) (fun _ p _ => (intOf p).toNat)
  case atStart => exact ⟨0, Nat.zero_le _, rfl, rfl, (unhide HT).congr (fun j hj => (tb_0 j hj).symm), Fr.refl _ _, rfl⟩
  case round =>
    obtain ⟨k, hk, rfl, rfl, hT, hF, hS⟩ := hrel
    rename World => wr
    have HI := hide (And.intro hT (And.intro hF hS))
    clear hT hF hS
    by_cases hlt : k < 8
    · have hpe := pl_end k hlt
      have hpos : 0 < 2 ^ (7 - k) := Nat.pow_pos (by decide)
      have hp128 : 2 ^ (7 - k) ≤ 2 ^ 7 := Nat.pow_le_pow_right (by decide) (by omega)
      have hck := ck_lt k
      have HE := hide hpe
      rw [hpe.2.1]
      clear hpe
      have hcs := ck_succ k
      generalize hP : 2 ^ (7 - k) = P at *
      generalize hC : ck k = C at *
      have HP := hide (And.intro hP (And.intro hC hcs))
      clear hP hC hcs
      have hpos' : (0 : Int) < (P : Int) := by omega
      go_wp2_with fail
      go_loopw [4] (fun i wq => ∃ m : Nat, m ≤ 2 ^ k ∧ i = .int .i64 ((2 ^ (8 - k) * m : Nat) : Int) ∧ TabAt wq b (tbk k m) ∧ Fr (fun k => k = b) w wq ∧ wq.heap.size = w.heap.size) (fun i _ => 256 - (intOf i).toNat)
      case atStart => exact ⟨0, Nat.zero_le _, rfl, (unhide HI).1, (unhide HI).2.1, (unhide HI).2.2⟩
      case round =>
        obtain ⟨m, hm, rfl, hT, hF, hS⟩ := hrel
        rename World => wq
        by_cases hlm : m < 2 ^ k
        · have hpf := pl_facts k m hlt hlm
          rw [(unhide HP).1] at hpf
          obtain ⟨f1, f2, f3, f4⟩ := hpf
          have hst := fun j => tb_step k m j hlt hlm
          rw [(unhide HP).1, (unhide HP).2.1] at hst
          have h1 := hT (2 ^ (8 - k) * m) (by omega)
          rw [show tbk k m (2 ^ (8 - k) * m) = Tb (2 ^ (8 - k) * m) from by unfold tbk; rw [if_pos (.inl f4)]] at h1
          have h2 := hT (2 ^ (8 - k) * m + P) f1
          have htl : Tb (2 ^ (8 - k) * m) < 4294967296 := Xn_lt 8 _ (by omega)
          have HQ := hide (And.intro hT (And.intro hF (And.intro hS (And.intro hst f2))))
          clear hT hF hS hst f2 f4
          generalize hi : 2 ^ (8 - k) * m = i at *
          generalize Tb i = t at *
          generalize tbk k m (i + P) = t2 at *
          have HX := hide hi
          clear hi
          obtain ⟨c1, z1⟩ := h1
          obtain ⟨c2, z2⟩ := h2
          have hxx := xor_u32 t C htl hck
          have i1 : (i : Int) < 256 := by omega
          have j0 : (0 : Int) ≤ (i : Int) + (P : Int) := by omega
          have m0 : (i : Int) + (P : Int) < 256 := by omega
          have n0 : ((i : Int) + (P : Int)).toNat = i + P := by omega
          have r0 : IntKind.i64.wrap ((i : Int) + (P : Int)) = (i : Int) + (P : Int) := by rw [IntKind.wrap_i64]; omega
          go_wp2_with fail
          go_region_held3 (fun w' => w'.cell? ⟨b, i, none⟩ = some (.int .u32 t)) (first | assumption | (rw [World.cell?_drew]; first | assumption | (rw [World.cell?_setCell_other _ _ _ _ (by intro h; injection h with _ h2 _; omega)]; assumption))) (fail)
          go_wp2_with fail
          refine ⟨⟨m + 1, by omega, ?_, ((unhide HQ).1.put (i + P) (t ^^^ C)).congr (fun j _ => (unhide HQ).2.2.2.1 j), (unhide HQ).2.1.put _ _, ?_⟩, ?_⟩
          · rw [(unhide HQ).2.2.2.2]
            go_num
          · simpa [World.setCell] using (unhide HQ).2.2.1
          · simp [intOf]; omega
        · have e : m = 2 ^ k := by omega
          subst e
          have h256 : ((2 ^ (8 - k) * 2 ^ k : Nat) : Int) = 256 := by rw [(unhide HE).1]; rfl
          rw [h256]
          have HQ := hide (And.intro hT (And.intro hF hS))
          clear hT hF hS h256
          go_wp2_with fail
          refine (timesX_any C _ hck).mono ?_
          rintro e w' ⟨rfl, rfl⟩
          go_wp2_with fail
          refine ⟨⟨k + 1, by omega, ?_, ?_, (unhide HQ).1.congr (fun j hj => tb_next k j hlt hj), (unhide HQ).2.1, (unhide HQ).2.2⟩, ?_⟩
          · rw [(unhide HE).2.2]
            go_num
          · rw [(unhide HP).2.2]
          · simp [intOf]; omega
    · have e : k = 8 := by omega
      subst e
      go_wp2_with fail
      go_end0
      exact ⟨rfl, (unhide HI).1.congr (fun j _ => tb_8 j), (unhide HI).2.1, (unhide HI).2.2⟩
end Go.Proofs.YtmmaddlphclpnaaGreatDoor
