import Derived.Test.YtdcopmkgmbiikaaGreatDoorJCnt
namespace Go.Proofs.YtdcopmkgmbiikaaGreatDoor
open Go.RowKit
structure Pt where
 k:Int
 u:Nat
 s:ByteArray
 n:Int
 m:Int
def Pt.val (p:Pt):Value:=.agg #[.int .i64 p.k,.int .u64 p.u,.string p.s,.int .i64 p.n,.int .i64 p.m]
def kinds:List Int:=[1,2,4,8,5,6,7,9,10]
def fk (k:Int):Int:=if k∈kinds then k else 4
def fn (k n:Int):Int:=if fk k=9∧(n<0∨7<n) then 0 else n
def Pt.fit (p:Pt):Pt:={ p with k:=fk p.k,n:=fn p.k p.n }
end Go.Proofs.YtdcopmkgmbiikaaGreatDoor
