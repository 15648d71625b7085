import Derived.Test.YtoflkfnmbighaaaDlg
namespace Go.Proofs.Ytoflkfnmbighaaa
open Go.RowKit Go.ChangeShapes Go.WideShapes Go.Maps Go.Sort

theorem count_same (s : DM) (n : Nat) : (s.count n).1.D = s.D ∧ (s.count n).1.full = s.full ∧ (s.count n).1.limit = s.limit ∧ (s.count n).1.tear = s.tear := by
  unfold DM.count
  split
  · exact ⟨rfl, rfl, rfl, rfl⟩
  · split <;> exact ⟨rfl, rfl, rfl, rfl⟩
theorem count_le (s : DM) (n : Nat) : (s.count n).2 ≤ n := by
  unfold DM.count
  split
  · exact Nat.le_refl _
  · split
    · exact Nat.le_refl _
    · simp only
      omega
/-- Append of a piece to one of DiskTears' two files. -/
theorem TW.append {w W : World} {d m : Nat} {s : DM} {q : DW} {O : Nat → Prop} {f : Nat → Nat} {od : List Nat} {safe : Nat} {G : List Own3} (h : TW w W d m s q O f od safe G) (j : Nat) (hj : j < 2) (name : ByteArray) (hnm : nm name = key2 j) (hn : name.size ≤ maxLen) (ho : s.off = false) (x : Value) (n : Nat) (hx : Src W x (List.range' od.length n)) (hxO : ∀ g o k c, x = .slice (some ⟨g, o, none⟩) k c → ¬ O g) (hxc : ∀ xo k c, x = .slice xo k c → k ≤ c) (hroom : od.length + n ≤ 65536)
    (hw : s.writes < 1000000000) (hl0 : 0 ≤ s.left) (hl : s.left < 9223372036854775808) (ht0 : 0 ≤ s.tear) (ht : s.tear < 9223372036854775808) :
    Calls Try.prog 10 #[.pointer (some ⟨d, 0, none⟩), .string name, x] W fun e W' => e = .returned (.int .i64 (s.count n).1.code) ∧ ∃ q' O', TW w W' d m (s.app (key2 j) (List.range' od.length n)) q' O' f (od ++ List.replicate (s.count n).2 j) safe (if (s.count n).2 = 0 then G else G ++ [⟨s.writes + 1, (s.count n).2, f j⟩]) ∧ Fr O W W' ∧ ∀ k, O' k → O k ∨ W.heap.size ≤ k := by
  have hz := h.t.sizes j hj
  have hlen := h.limit
  have hus := h.t.used
  have hcs := count_same s n
  have hap := append_ok d m s q O name x (List.range' od.length n) W h.D ho hn (by rw [hnm]; exact h.has j hj) h.full hx hxO hxc (by rw [List.length_range', hlen, hus]; exact hroom) (by rw [hlen]; decide) hw hl0 hl ht0 ht (by rw [hnm]; omega) (by rw [hnm]; omega)
  rw [hnm, List.length_range'] at hap
  refine hap.mono ?_
  rintro e W' ⟨rfl, q', O', hD, hf, hO⟩
  have eD : (s.app (key2 j) (List.range' od.length n)).D = s.D := by simp only [DM.app, List.length_range']; exact hcs.1
  refine ⟨rfl, q', O', ⟨hD, h.fr.absorb hf h.o, fun k hk => (hO k hk).elim (h.o k) (Nat.le_trans h.fr.size), h.t.app j n _ hj rfl (count_le s n), fun i hi => ?_, ?_, ?_, ?_, fun o hx => ?_, fun k hk => ?_⟩, hf, hO⟩
  · rw [h.D.fb_eq hD eD (key2 i) (h.has i hi)]; exact h.fb i hi
  · rw [eD]; exact h.es
  · simp only [DM.app, List.length_range']; rw [hcs.2.1]; exact h.full
  · simp only [DM.app, List.length_range']; rw [hcs.2.2.1]; exact h.limit
  · rcases List.mem_append.1 hx with hx | hx
    · exact h.two o hx
    · rw [List.eq_of_mem_replicate hx]; exact hj
  · simp only [DM.app]
    rw [if_neg (hk j hj)]
    exact h.oth k hk
theorem TW.keys {w W : World} {d m : Nat} {s : DM} {q : DW} {O : Nat → Prop} {f : Nat → Nat} {od : List Nat} {safe : Nat} {G : List Own3} (h : TW w W d m s q O f od safe G) (k : List UInt8) (hk : Maps.has s.D (.string k) = true) : ∃ i, i < 2 ∧ k = key2 i := by
  obtain ⟨v1, v2, e⟩ := h.es
  rw [e] at hk
  obtain ⟨p, hp, hs⟩ := List.any_eq_true.1 hk
  have ep : p.1 = .string k := Classical.byContradiction (fun e => by rw [Maps.sameKey_ne e] at hs; cases hs)
  rcases List.mem_cons.1 hp with rfl | hp
  · injection ep with ep; exact ⟨0, by decide, ep.symm⟩
  · rw [List.mem_singleton] at hp
    subst hp
    injection ep with ep; exact ⟨1, by decide, ep.symm⟩
/-- A crash of DiskTears' disk: what is left of both files. -/
theorem TW.crash {w W : World} {d m : Nat} {s : DM} {q : DW} {O : Nat → Prop} {f : Nat → Nat} {od : List Nat} {safe : Nat} {G : List Own3} (h : TW w W d m s q O f od safe G) (keep : Int) (hkp : keep ≤ 9223372036854775807) (hod : od.length ≤ 65536) :
    Calls Try.prog 17 #[.pointer (some ⟨d, 0, none⟩), .int .i64 keep] W fun e W' => e = .returned (.tuple #[]) ∧ ∃ (q' : DW), DkAt W' d m ((s.offd).plus q G keep.toNat).crashT q' O ∧ Fr O W W' := by
  obtain ⟨v1, v2, he⟩ := h.es
  have hD : ents s.D = [(.string (key2 0), v1), (.string (key2 1), v2)] := by rw [he]; rfl
  have hsz : ∀ k, Maps.has s.D (.string k) = true → (s.F k).ps.length ≤ od.length ∧ (s.F k).safe ≤ od.length ∧ (s.F k).b.length ≤ od.length ∧ (∀ p ∈ (s.F k).ps, p.2 ≤ od.length) ∧ (s.F k).safe + sumP (s.F k).ps = (s.F k).b.length := fun k hk => by
    obtain ⟨i, hi, rfl⟩ := h.keys k hk
    obtain ⟨a, b, c, e⟩ := h.t.sizes i hi
    exact ⟨a, b, c, e, h.t.whole i hi⟩
  have hal : (s.allp q).length ≤ od.length := by
    have e : s.allp q = G.filter (fun o => o.fb == f 0) ++ G.filter (fun o => o.fb == f 1) := by
      rw [DM.allp, hD]
      simp only [catA, DM.pcs, List.append_nil]
      rw [h.fb 0 (by decide), h.fb 1 (by decide), h.t.p 0 (by decide), h.t.p 1 (by decide), file_own, file_own]
    rw [e, ← (parted f h.t.ne G h.t.fbs).length_eq]
    exact Nat.le_trans (whose_len G h.t.pos) h.t.len
  refine (crash_any d m keep s q O W h.D (by omega) (fun k hk => by have := (hsz k hk).1; omega) hkp (fun k hk => ⟨by have := (hsz k hk).2.1; omega, fun p hp => by have := (hsz k hk).2.2.2.1 p hp; omega⟩) (fun k hk => ⟨Nat.le_of_eq (hsz k hk).2.2.2.2, by have := (hsz k hk).2.2.1; omega⟩) (h.t.used_ln hD h.two) (by rw [h.t.used]; omega)).mono ?_
  rintro e W' ⟨rfl, L, q', hp, hs, hD2, _, hf⟩
  have hL : L = G := h.t.pieces q h.fb hD hp hs
  subst hL
  exact ⟨rfl, q', hD2, hf⟩
end Go.Proofs.Ytoflkfnmbighaaa
