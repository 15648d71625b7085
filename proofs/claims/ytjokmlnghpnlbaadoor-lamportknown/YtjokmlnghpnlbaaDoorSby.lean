import Derived.Test.YtjokmlnghpnlbaaDoorSbx
namespace Go.Proofs.YtjokmlnghpnlbaaDoor
open Go.RowKit

def bytesOf (s : ByteArray) : List Nat := s.data.toList.map UInt8.toNat
theorem bytesOf_length (s : ByteArray) : (bytesOf s).length = s.size := by simp [bytesOf]
theorem ownsRow_of_block {w w' : World} {base e size n : Nat} {v : Value} {xs : List Value} (h : w.ownsRow base e size v n xs) (hb : ∀ g, v.ownBlock = some g → w'.heap[g]? = w.heap[g]?) : w'.ownsRow base e size v n xs := by
  refine ⟨h.1, ?_⟩
  rcases h.2 with h0 | ⟨g, cap, cur, e1, e2, e3, e4⟩
  · exact .inl h0
  · exact .inr ⟨g, cap, cur, e1, e2, (hb g (by rw [e1]; rfl)).trans e3, e4⟩
def hbl (l : List Nat) (k : Nat) : Nat := (dg (l.getD (2 * k) 0) * 16 % 256) ||| dg (l.getD (2 * k + 1) 0)
def hxk (l : List Nat) (n : Nat) : List Nat := (List.range n).map (hbl l)
def hxl (l : List Nat) : List Nat := hxk l (l.length / 2)
theorem hxk_len (l : List Nat) (n : Nat) : (hxk l n).length = n := by simp [hxk]
theorem hxk_succ (l : List Nat) (n : Nat) : hxk l (n + 1) = hxk l n ++ [hbl l n] := by rw [hxk, List.range_succ, List.map_append]; rfl
end Go.Proofs.YtjokmlnghpnlbaaDoor
