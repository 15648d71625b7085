import Derived.Test.YtjkkonhhnmjcaaaGreatDoorFit
import Derived.Test.YtjkkonhhnmjcaaaGreatDoorAwl
import Derived.Lib.ConvBytes
namespace Go.Proofs.YtjkkonhhnmjcaaaGreatDoor
open Go.RowKit

theorem Ch.behind {w wa w' : World} {F F' : Nat → Prop} (h : Ch wa w' F F') (ha : Fr (fun _ => False) w wa) : Ch w w' F F' :=
  ⟨(ha.mono (fun _ _ h => h.elim)).trans h.fr (fun _ _ h => h), fun k hk => by
    rcases h.new k hk with hx | hx
    · exact .inl hx
    · exact .inr (Nat.le_trans ha.size hx)⟩


def Wst.txt (st : Wst) (s : ByteArray) (m : Int) (ea : Addr) : Wst := if (s.size : Int) ≤ m ∧ s.size < 4294967296 then st.putB (be 4 s.size ++ bytesOf s) else st.fail ea

theorem conv_bytes (w : World) (s : ByteArray) : ∃ cap w', (convert 9 35 (.string s)).run Tryz.prog w = .ok (.slice (some ⟨w.heap.size, 0, none⟩) s.size cap) w' ∧ Src w' (.slice (some ⟨w.heap.size, 0, none⟩) s.size cap) (bytesOf s) ∧ Fr (fun _ => False) w w' := by
  refine ⟨_, Lib.bytesWorld w 5 s, Lib.run_convert_string_bytes w 9 35 5 s Tryz.underlying9 Tryz.underlying35 Tryz.underlying5, ?_, ?_⟩
  · refine .inr (.inl ⟨w.heap.size, 0, _, by rw [bytesOf_length], fun j v hv => ?_⟩)
    have hj : j < s.size := by
      have := (List.getElem?_eq_some_iff.1 hv).1
      simpa [cellsOf_length, bytesOf_length] using this
    rw [Nat.zero_add, Lib.bytesWorld_cell w _ s j hj, ← hv, cellsOf_bytesOf]
    have hj' : j < s.data.size := hj
    simp [Lib.strCells, List.getD, Array.getElem?_eq_getElem hj']
  · exact ⟨rfl, rfl, rfl, by rw [Lib.bytesWorld_size]; omega, fun k hk _ => Lib.bytesWorld_at_old w _ s k hk⟩

/-- What a call makes of a writer (numbers, texts, counts). -/
def Wst.lay (st : Wst) (p : Pt) (ea er : Addr) : Wst :=
  if p.k = 1 then st.putB (be 1 (p.u % 256)) else if p.k = 2 then st.putB (be 2 (p.u % 65536)) else if p.k = 4 then st.putB (be 4 (p.u % 4294967296)) else if p.k = 8 then st.putB (be 8 p.u) else if p.k = 6 then st.txt p.s p.m ea else if p.k = 7 then st.cnt p.n p.m ea er else st

end Go.Proofs.YtjkkonhhnmjcaaaGreatDoor
