import Derived.Test.YtkiepcdncegniaaPoi
namespace Go.Proofs.Ytkiepcdncegniaa
open Go.RowKit

theorem QE.who {w : World} {q : QM} {S : List P3} {G : List Nat} {F : List F5} (h : QE w q S G F) (p : P3) : QE w { q with p := p } S G F := ⟨h.s, h.g, h.f, h.sl, h.gl, h.fl⟩
/-- What is answered, once it is known who asks. -/
def ansv (S : List P3) (k : Nat) (f : P3 → Nat) : Nat := match perso S k with
  | none => 1
  | some p => f p
theorem fds_nil (w : World) : Fds w (.slice none 0 0) [] := .inl ⟨_, _, rfl, rfl⟩
theorem us_nil (w : World) : Us w (.slice none 0 0) [] := .inl ⟨_, _, rfl, rfl⟩
end Go.Proofs.Ytkiepcdncegniaa
