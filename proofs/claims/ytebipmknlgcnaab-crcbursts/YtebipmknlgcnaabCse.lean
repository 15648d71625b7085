import Derived.Test.YtebipmknlgcnaabCsd
namespace Go.Proofs.Ytebipmknlgcnaab
open Go.RowKit

theorem own_bt {w : World} {base n cap : Nat} {ao : Option Addr} {l : List Nat} (h : w.ownsRow base 5 1 (.slice ao n cap) n (cellsOf l)) (hn : 0 < n) : ∃ g, ao = some ⟨g, 0, none⟩ ∧ base ≤ g ∧ BtAt w g n (fun j => (nb l).getD j 0) := by
  rcases h.2 with ⟨_, e⟩ | ⟨g, c, cur, e1, e2, e3, _, _, e4, e5⟩
  · omega
  · simp only [Value.slice.injEq] at e1
    obtain ⟨rfl, -, rfl⟩ := e1
    have hl : (cellsOf l).length = n := by have := h.1; simpa using this
    rw [cellsOf_length] at hl
    refine ⟨g, rfl, e2, fun j hj => ⟨?_, ?_⟩⟩
    · rw [h.cellAt j (by omega)]
      simp [cellsOf, B, nb, show j < l.length by omega]
    · simp [World.frozen?, e3]
/-- What the loop keeps. -/
structure Brs (w wr : World) (g L M m i V : Nat) (b lst : List Nat) : Prop where
  len : lst.length = L
  bt : BtAt wr g L (fun j => lst.getD j 0)
  lt : ∀ j, lst.getD j 0 < 256
  up : Up 4294967295 lst = Up 4294967295 (nb b) ^^^ Xn (M - m + 31) V
  bd : V < 2 ^ (31 - m + min i (m + 1))
  fr : Fr (fun _ => False) w wr
theorem Brs.next {w wr : World} {g L M m i V : Nat} {b lst : List Nat} (h : Brs w wr g L M m i V b lst) : Brs w wr g L M m (i + 1) V b lst :=
  ⟨h.len, h.bt, h.lt, h.up, Nat.lt_of_lt_of_le h.bd (Nat.pow_le_pow_right (by decide) (by omega)), h.fr⟩
theorem Brs.flip {w wr : World} {g L M m i V f : Nat} {b lst : List Nat} (h : Brs w wr g L M m i V b lst) (hM : M = 8 * L - f) (hf : f < 8 * L) (hm : m = min 32 M - 1) (hi : i < 32) (hk : f + i < 8 * L) (hg : w.heap.size ≤ g) :
    ∃ V', Brs w (wr.setCell ⟨g, (f + i) / 8, none⟩ (.int .u8 ((lst.getD ((f + i) / 8) 0 ^^^ 2 ^ ((f + i) % 8) : Nat) : Int))).drew g L M m (i + 1) V' b (lst.set ((f + i) / 8) (lst.getD ((f + i) / 8) 0 ^^^ 2 ^ ((f + i) % 8))) ∧ V' ≠ 0 := by
  have hj : (f + i) / 8 < lst.length := by rw [h.len]; omega
  have him : min i (m + 1) = i := by omega
  have hbd := h.bd
  rw [him] at hbd
  obtain ⟨w1, w2, w3⟩ := flip_worth V M m i (by omega) (by omega) (by omega) hbd
  have hu := set_flip 4294967295 lst ((f + i) / 8) ((f + i) % 8) hj (Nat.mod_lt _ (by decide)) _ rfl
  have hset : ∀ (u j : Nat), (lst.set ((f + i) / 8) u).getD j 0 = if j = (f + i) / 8 then u else lst.getD j 0 := by
    intro u j
    rw [List.getD, List.getD, List.getElem?_set]
    by_cases e : (f + i) / 8 = j
    · subst e; simp [hj]
    · rw [if_neg e, if_neg (fun h => e h.symm)]
  have hlt : lst.getD ((f + i) / 8) 0 ^^^ 2 ^ ((f + i) % 8) < 256 := Nat.xor_lt_two_pow (n := 8) (h.lt _) (Nat.pow_lt_pow_right (a := 2) (n := 8) (by decide) (Nat.mod_lt _ (by decide)))
  refine ⟨V ^^^ 2 ^ (31 - m + i), ⟨by rw [List.length_set, h.len], ?_, ?_, ?_, ?_, (Fr.setCell h.fr (p := ⟨g, (f + i) / 8, none⟩) (.inr hg) _).drew⟩, w3⟩
  · exact (h.bt.put ((f + i) / 8) _).congr (fun j _ => (hset _ j).symm)
  · intro j
    rw [hset]
    split
    · exact hlt
    · exact h.lt j
  · rw [hu, h.up, Nat.xor_assoc, ← w1, h.len]
    congr 3
    omega
  · rw [show min (i + 1) (m + 1) = i + 1 by omega]; exact w2
theorem Brs.start {w wr : World} {g L M m : Nat} {b : List Nat} (hl : b.length = L) (hb : BtAt wr g L (fun j => (nb b).getD j 0)) (hf : Fr (fun _ => False) w wr) : Brs w wr g L M m 0 0 b (nb b) :=
  ⟨by rw [nb_length, hl], hb, fun j => by
    rw [List.getD]
    rcases h : (nb b)[j]? with _ | x
    · decide
    · exact nb_lt b x (List.mem_of_getElem? h), by rw [Xn_zero, Nat.xor_zero], Nat.pow_pos (by decide), hf⟩
theorem Brs.src {w wr : World} {g L M m i V c : Nat} {b lst : List Nat} (h : Brs w wr g L M m i V b lst) : Src wr (.slice (some ⟨g, 0, none⟩) L c) lst := h.bt.src h.len (fun j _ => (Nat.mod_eq_of_lt (h.lt j)).symm)
theorem Brs.ne {w wr : World} {g L M m V : Nat} {b lst : List Nat} (h : Brs w wr g L M m 32 V b lst) (hm : m ≤ 31) (hV : V ≠ 0) : Sm 0 lst ≠ Sm 0 b := by
  have e : nb lst = lst := by
    apply List.ext_getElem?
    intro j
    rw [nb, List.getElem?_map]
    rcases e : lst[j]? with _ | x
    · rfl
    · have := h.lt j
      rw [List.getD, e] at this
      rw [Option.getD_some] at this
      rw [Option.map_some, Nat.mod_eq_of_lt this]
  rw [Sm, Sm, e, Nat.zero_xor]
  refine burst_ne V M m _ _ (Nat.lt_of_lt_of_le h.bd ?_) hV h.up
  exact Nat.pow_le_pow_right (n := 2) (j := 32) (by decide) (by omega)
end Go.Proofs.Ytebipmknlgcnaab
