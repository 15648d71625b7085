import Derived.Test.YtdcopmkgmbiikaaGreatDoorJInj
namespace Go.Proofs.YtdcopmkgmbiikaaGreatDoor
open Go.RowKit
def z7 (w:World) (x:Value) (A:List Pt):Prop:=
 (∃ xo c,x = .slice xo 0 c∧A=[])∨∃ g o c,x = .slice (some ⟨g,o,none⟩) A.length c∧∀ j (h:j<A.length),w.cell? ⟨g,o+j * 5,none⟩=some (.int .i64 A[j].k)∧w.cell? ⟨g,o+j * 5+1,none⟩=some (.int .u64 A[j].u)∧w.cell? ⟨g,o+j * 5+2,none⟩=some (.string A[j].s)∧w.cell? ⟨g,o+j * 5+3,none⟩=some (.int .i64 A[j].n)∧w.cell? ⟨g,o+j * 5+4,none⟩=some (.int .i64 A[j].m)
theorem z7.form {w:World} {x:Value} {A:List Pt} (h:z7 w x A):∃ xo c,x = .slice xo A.length c:=by
 rcases h with ⟨xo,c,rfl,rfl⟩|⟨g,o,c,rfl,_⟩
 ·exact⟨xo,c,rfl⟩
 ·exact⟨_,c,rfl⟩
theorem z7.at_ {w w':World} {xo:Option Addr} {n c:Nat} {A:List Pt} (h:z7 w (.slice xo n c) A) (hf:Fr (fun _=>False) w w') (j:Nat) (hj:j<A.length):∃ g o,xo=some ⟨g,o,none⟩∧w'.cell? ⟨g,o+j * 5,none⟩=some (.int .i64 A[j].k)∧w'.cell? ⟨g,o+j * 5+1,none⟩=some (.int .u64 A[j].u)∧w'.cell? ⟨g,o+j * 5+2,none⟩=some (.string A[j].s)∧w'.cell? ⟨g,o+j * 5+3,none⟩=some (.int .i64 A[j].n)∧w'.cell? ⟨g,o+j * 5+4,none⟩=some (.int .i64 A[j].m):=by
 rcases h with ⟨xo',c',_,e⟩|⟨g,o,c',hx,hc⟩
 ·subst e;simp at hj
 ·simp only[Value.slice.injEq] at hx
  obtain⟨h0,h1,h2,h3,h4⟩:=hc j hj
  exact⟨g,o,hx.1,(hf.cell (ab h0) (fun h=>h)).trans h0,(hf.cell (ab h1) (fun h=>h)).trans h1,(hf.cell (ab h2) (fun h=>h)).trans h2,(hf.cell (ab h3) (fun h=>h)).trans h3,(hf.cell (ab h4) (fun h=>h)).trans h4⟩
def Pt.ok (p:Pt):Prop:=p.u<18446744073709551616∧p.n<9223372036854775808∧p.m<9223372036854775808
end Go.Proofs.YtdcopmkgmbiikaaGreatDoor
