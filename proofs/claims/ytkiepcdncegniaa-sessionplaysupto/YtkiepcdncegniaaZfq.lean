import Derived.Test.YtkiepcdncegniaaPk3
import Derived.Test.YtkiepcdncegniaaZfm
import Derived.Test.YtkiepcdncegniaaZfn
import Derived.Test.YtkiepcdncegniaaZfp
namespace Go.Proofs.Ytkiepcdncegniaa
open Go.RowKit Go.Maps

/-- looked. -/
theorem looked_any {w0 w : World} {d c : Nat} {cs : List SC} {dn : List Nat} {T : Nat → Prop} {l : List RC} (hs : SS w d c cs dn T) (hf : Fr (fun _ => False) w0 w) (base : Nat) (v : Value) (ho : OwC w base v l) (hR : Rel w0 c cs dn l) (hc : c < 4294967296) (cl k : Nat) (hcl : cl < 4294967296) (hk : k < 4294967296) :
    Calls Try.prog 23 #[.pointer (some ⟨d, 0, none⟩), .agg #[.int .u32 (c : Nat), v, .int .i64 (dn.length : Nat)], .agg #[.int .u32 (cl : Nat), .int .u32 (k : Nat)]] w fun e w' => e = .returned (.bool true) ∧ Fr (fun _ => False) w w' := by
  have hl : l.length ≤ 4096 := by rw [hR.n]; exact hs.len
  by_cases hu : cl = c ∧ k ≠ 0 ∧ k ≤ cs.length
  · obtain ⟨rfl, h0, hle⟩ := hu
    obtain ⟨i, rfl⟩ : ∃ i, k = i + 1 := ⟨k - 1, by omega⟩
    obtain ⟨q, hq⟩ : ∃ q, cs[i]? = some q := ⟨_, List.getElem?_eq_getElem (by omega)⟩
    obtain ⟨x, hx⟩ : ∃ x, l[i]? = some x := ⟨_, List.getElem?_eq_getElem (by rw [hR.n]; omega)⟩
    have hq0 := hR.q i q x hq hx
    have hk := hR.k x (List.mem_of_getElem? hx)
    cases hd : q.d with
    | none =>
      have hw := hq0.w hd
      exact looked_wait hs dn.length base v l ho hl hc i q x hq hx (hk.1.fr0 hf) hd hw.1 hk.2 hw.2.1 hw.2.2
    | some y =>
      obtain ⟨g1, g2, g3, g4, g5, _⟩ := hq0.d y hd
      exact looked_done hs dn.length base v l ho hl hc i q x hq hx (hk.1.fr0 hf) y hd g1 g3 g4 g5
  · refine looked_none hs dn.length base v l ho hl cl k hcl hk (gnum_no (by rw [hR.n]; exact hu)) (fun e => fA_no ?_) (fun e => fW_no ?_)
    all_goals
      by_cases h0 : k = 0
      · exact .inl h0
      · exact .inr (by
          have : ¬ k ≤ cs.length := fun hl => hu ⟨e, h0, hl⟩
          omega)
end Go.Proofs.Ytkiepcdncegniaa

