import Derived.Test.YtoflkfnmbighaaaDlh
namespace Go.Proofs.Ytoflkfnmbighaaa
open Go.RowKit Go.ChangeShapes Go.WideShapes Go.Maps Go.Sort

theorem two_oth (L fx fy : Nat) (k : List UInt8) (hk : ∀ i, i < 2 → k ≠ key2 i) : (DM.two L fx fy).F k = ⟨[], 0, []⟩ := by
  simp only [DM.two, DM.made]
  rw [if_neg (hk 1 (by decide)), if_neg (hk 0 (by decide))]
  rfl
theorem TW.dec {w W : World} {d m : Nat} {s : DM} {q : DW} {O : Nat → Prop} {f : Nat → Nat} {od : List Nat} {safe : Nat} {G : List Own3} (_h : TW w W d m s q O f od safe G) (k : List UInt8) : (∃ i, i < 2 ∧ k = key2 i) ∨ ∀ i, i < 2 → k ≠ key2 i := by
  by_cases h0 : k = key2 0
  · exact .inl ⟨0, by decide, h0⟩
  · by_cases h1 : k = key2 1
    · exact .inl ⟨1, by decide, h1⟩
    · refine .inr (fun i hi e => ?_)
      have : i = 0 ∨ i = 1 := by omega
      rcases this with rfl | rfl
      · exact h0 e
      · exact h1 e
/-- Pending of DiskTears' disk. -/
theorem TW.pending {w W : World} {d m : Nat} {s : DM} {q : DW} {O : Nat → Prop} {f : Nat → Nat} {od : List Nat} {safe : Nat} {G : List Own3} (h : TW w W d m s q O f od safe G) (hod : od.length ≤ 65536) :
    Calls Try.prog 11 #[.pointer (some ⟨d, 0, none⟩)] W fun e W' => e = .returned (.int .i64 ((od.length : Int) - (safe : Int))) ∧ Fr (fun _ => False) W W' := by
  obtain ⟨v1, v2, he⟩ := h.es
  have hD : ents s.D = [(.string (key2 0), v1), (.string (key2 1), v2)] := by rw [he]; rfl
  have hF : ∀ k, (s.F k).b.length ≤ 65536 ∧ (s.F k).safe ≤ (s.F k).b.length := fun k => by
    rcases h.dec k with ⟨i, hi, rfl⟩ | hk
    · have h1 := (h.t.sizes i hi).2.2.1
      have h2 := h.t.whole i hi
      exact ⟨by omega, by omega⟩
    · rw [h.oth k hk]; exact ⟨by decide, by decide⟩
  have hp := pending_any d m s q O W h.D (fun x => by have h1 := hF x; simp only [DM.pd]; exact ⟨by omega, by omega⟩) (by rw [he]; exact (by decide : 2 ≤ 256)) (fun x => by have h1 := hF x; exact ⟨by omega, by omega⟩)
  rw [h.t.pend hD h.two] at hp
  exact hp
/-- Behind the crash: nothing is pending, and both files are what is left. -/
theorem TW.behind {w W : World} {d m : Nat} {s : DM} {q : DW} {O : Nat → Prop} {f : Nat → Nat} {od : List Nat} {safe : Nat} {G : List Own3} (h : TW w W d m s q O f od safe G) (keep : Nat) (hod : od.length ≤ 65536) (s' : DM) (hs : s' = { ((s.offd).plus q G keep).crashT with off := false }) :
    (∀ i, i < 2 → Maps.has s'.D (.string (key2 i)) = true ∧ (s'.F (key2 i)).b = wantL i (od.take (safe + keep)) 0) ∧ s'.pend = 0 ∧ Maps.size s'.D ≤ 256 ∧ ∀ k, (s'.F k).b.length ≤ 65536 ∧ (s'.F k).safe = (s'.F k).b.length := by
  obtain ⟨v1, v2, he⟩ := h.es
  have eD : s'.D = s.D := by rw [hs]; rfl
  have hsf : ∀ k, (s'.F k).safe = (s'.F k).b.length := fun k => by rw [hs]; rfl
  refine ⟨fun i hi => ⟨by rw [eD]; exact h.has i hi, by rw [hs]; exact h.t.left q keep h.fb i hi⟩, ?_, by rw [eD, he]; exact (by decide : 2 ≤ 256), fun k => ⟨?_, hsf k⟩⟩
  · rw [DM.pend, eD, he]
    simp only [ents, sumA, DM.pd]
    rw [hsf, hsf]
    omega
  · rcases h.dec k with ⟨i, hi, rfl⟩ | hk
    · have e1 : (s'.F (key2 i)).b = wantL i (od.take (safe + keep)) 0 := by rw [hs]; exact h.t.left q keep h.fb i hi
      rw [e1]
      have h1 := wantL_len i (od.take (safe + keep)) 0
      rw [List.length_take] at h1
      omega
    · have e1 : (s'.F k).b = (s.F k).b.take ((s.F k).safe + gain G keep (q.fb k)) := by rw [hs]; rfl
      rw [e1, h.oth k hk]
      simp
end Go.Proofs.Ytoflkfnmbighaaa
