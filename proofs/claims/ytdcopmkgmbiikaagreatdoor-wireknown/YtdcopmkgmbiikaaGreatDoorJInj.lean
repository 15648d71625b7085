import Derived.Test.YtdcopmkgmbiikaaGreatDoorJLay
namespace Go.Proofs.YtdcopmkgmbiikaaGreatDoor
open Go.RowKit
def enc (p:Pt):List Nat:=if p.k=1 then be 1 (p.u % 256) else if p.k=2 then be 2 (p.u % 65536) else if p.k=4 then be 4 (p.u % 4294967296) else if p.k=8 then be 8 p.u else if p.k=6 then be 4 p.s.size++bytesOf p.s else if p.k=7 then be 4 p.n.toNat else []
def start:cL:=⟨ByteArray.empty,[],none⟩
def run (l:List Pt) (ea er:Addr):cL:=l.foldl (fun st p=>st.lay p.fit ea er) start
end Go.Proofs.YtdcopmkgmbiikaaGreatDoor
