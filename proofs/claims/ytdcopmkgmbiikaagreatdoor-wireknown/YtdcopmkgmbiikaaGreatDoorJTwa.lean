import Derived.Test.YtdcopmkgmbiikaaGreatDoorJPsr
namespace Go.Proofs.YtdcopmkgmbiikaaGreatDoor
open Go.RowKit
theorem Fr.CN {S:Nat→Prop} {w a b:World} (h:Fr (fun _=>False) w a) (k:Fr S a b) (hS:∀ i,S i→w.heap.size≤i):Fr (fun _=>False) w b:=
 h.trans k (fun i hi hs=>by have:=hS i hs;omega)
def Da (w:World) (b:Nat) (p:Pt):Prop:=w.cell? ⟨b,0,none⟩=some (.int .i64 p.k)∧w.cell? ⟨b,1,none⟩=some (.int .u64 p.u)∧w.cell? ⟨b,2,none⟩=some (.string p.s)∧w.cell? ⟨b,3,none⟩=some (.int .i64 p.n)∧w.cell? ⟨b,4,none⟩=some (.int .i64 p.m)
theorem Da.fr {w w':World} {b:Nat} {p:Pt} {S:Nat→Prop} (h:Da w b p) (hf:Fr S w w') (hS:¬ S b):Da w' b p:=by
 obtain⟨h0,h1,h2,h3,h4⟩:=h
 have hb:b<w.heap.size:=ab h0
 exact⟨(hf.cell hb hS).trans h0,(hf.cell hb hS).trans h1,(hf.cell hb hS).trans h2,(hf.cell hb hS).trans h3,(hf.cell hb hS).trans h4⟩
theorem gx (st:cL) (x:List Nat):(st.bP x).l.length≤st.l.length+x.length:=by
 unfold cL.bP;split <;> simp
end Go.Proofs.YtdcopmkgmbiikaaGreatDoor
