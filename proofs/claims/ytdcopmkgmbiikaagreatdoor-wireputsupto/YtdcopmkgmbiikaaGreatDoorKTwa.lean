import Derived.Test.YtdcopmkgmbiikaaGreatDoorKPsr
namespace Go.Proofs.YtdcopmkgmbiikaaGreatDoor
open Go.RowKit
def Box (w : World) (b : Nat) (p : Pt) : Prop := w.cell? ⟨b, 0, none⟩ = some (.int .i64 p.k) ∧ w.cell? ⟨b, 1, none⟩ = some (.int .u64 p.u) ∧ w.cell? ⟨b, 2, none⟩ = some (.string p.s) ∧ w.cell? ⟨b, 3, none⟩ = some (.int .i64 p.n) ∧ w.cell? ⟨b, 4, none⟩ = some (.int .i64 p.m)
theorem Box.fr {w w' : World} {b : Nat} {p : Pt} {S : Nat → Prop} (h : Box w b p) (hf : Fr S w w') (hS : ¬ S b) : Box w' b p := by
 obtain ⟨h0, h1, h2, h3, h4⟩ := h
 have hb : b < w.heap.size := ltC h0
 exact ⟨(hf.cell hb hS).trans h0, (hf.cell hb hS).trans h1, (hf.cell hb hS).trans h2, (hf.cell hb hS).trans h3, (hf.cell hb hS).trans h4⟩
theorem putB_len (st : Wst) (x : List Nat) : (st.putB x).l.length ≤ st.l.length + x.length := by
 unfold Wst.putB; split <;> simp
end Go.Proofs.YtdcopmkgmbiikaaGreatDoor
