import Derived.Test.YtdcopmkgmbiikaaGreatDoorKPsr
namespace Go.Proofs.YtdcopmkgmbiikaaGreatDoor
open Go.RowKit
theorem Fr.Dh {S:Nat→Prop} {w a b:World} (h:Fr (fun _=>False) w a) (k:Fr S a b) (hS:∀ i,S i→w.heap.size≤i):Fr (fun _=>False) w b:=
 h.trans k (fun i hi hs=>by have:=hS i hs;omega)
end Go.Proofs.YtdcopmkgmbiikaaGreatDoor
