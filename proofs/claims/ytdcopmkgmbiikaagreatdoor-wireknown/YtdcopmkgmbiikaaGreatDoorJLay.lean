import Derived.Test.YtdcopmkgmbiikaaGreatDoorJFit
import Derived.Test.YtdcopmkgmbiikaaGreatDoorJAwl
import Derived.Lib.ConvBytes
namespace Go.Proofs.YtdcopmkgmbiikaaGreatDoor
open Go.RowKit
theorem Ch.behind {w wa w':World} {F F':Nat→Prop} (h:Ch wa w' F F') (ha:Fr (fun _=>False) w wa):Ch w w' F F':=
 ⟨(ha.mono (fun _ _ h=>h.elim)).trans h.fr (fun _ _ h=>h),fun k hk=>by
  rcases h.new k hk with hx|hx
  ·exact .inl hx
  ·exact .inr (Nat.le_trans ha.size hx)⟩
def cL.txt (st:cL) (s:ByteArray) (m:Int) (ea:Addr):cL:=if (s.size:Int)≤m∧s.size<4294967296 then st.bP (be 4 s.size++bytesOf s) else st.fail ea
def cL.lay (st:cL) (p:Pt) (ea er:Addr):cL:=
 if p.k=1 then st.bP (be 1 (p.u % 256)) else if p.k=2 then st.bP (be 2 (p.u % 65536)) else if p.k=4 then st.bP (be 4 (p.u % 4294967296)) else if p.k=8 then st.bP (be 8 p.u) else if p.k=6 then st.txt p.s p.m ea else if p.k=7 then st.kI p.n p.m ea er else st
end Go.Proofs.YtdcopmkgmbiikaaGreatDoor
