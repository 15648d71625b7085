import Derived.Test.YtdcopmkgmbiikaaGreatDoorJApp
import Derived.Test.YtdcopmkgmbiikaaGreatDoorCards
import Derived.Test.YtdcopmkgmbiikaaGreatDoorTie
import Derived.WalkKit
import Derived.ProofKit
import Derived.OpenShut
import Derived.LaidLaws
import Derived.Deep.DeepHandedRow
import Derived.Deep.DeepWitnessRowRef
set_option maxRecDepth 100000
namespace Go.Proofs.YtdcopmkgmbiikaaGreatDoor
open Go.ChangeShapes Go.WideShapes Go.ChangeAt Go.RowKit
theorem Tryz.ownKnob:ownKnob Tryz.prog.godebug=none:=by kernel_rfl
theorem Tryz.zX:Tryz.prog.cellsOf 359=1:=by kernel_rfl
theorem Tryz.Bz:Tryz.prog.cellsOf 9=1:=by kernel_rfl
theorem Tryz.star : "*" ++ "errors.errorString" = "*errors.errorString" := by decide
theorem Tryz.CO (u : TypeId) (h : Tryz.prog.typeName? 3 u = some "*errors.errorString") : u = 339 :=
 typeName_ptr_named (nm := "errors.errorString") (by rw [Tryz.star]; kernel_rfl) (by kernel_rfl) (by decide) u (by rw [Tryz.star]; exact h)
theorem zL {W:World} : ∀ {l:List (String × DataW Unit)} {ps:List MemPlace},DataW.LaidVars Tryz.prog W l ps→∀ {nm:String} {d:DataW Unit},(nm,d)∈l →
  ∃ g t cs fuel p,Tryz.prog.globalNamed nm=some g∧(Tryz.prog.globals[g]?).map (·.type)=some t∧W.var? Tryz.prog nm=some cs∧DataW.trod (H:=Unit) (fun _=>()) Tryz.prog W 0 (fun _=>true) false fuel t cs.toList=some (d,p)∧∀ x∈MemPlace.row ⟨g,0,none⟩ cs.size,x∈ps:=by
 intro l
 induction l with
 | nil=>intro ps _ nm d hm;cases hm
 | cons y r ih =>
  intro ps h nm d hm
  obtain⟨n,dd⟩:=y
  obtain⟨g,t,cs,fuel,p,q,hg,ht,hv,hd,hr,rfl⟩:=h
  rcases List.mem_cons.1 hm with e|hm
  ·cases e
   exact⟨g,t,cs,fuel,p,hg,ht,hv,hd,fun x hx=>by simp[hx]⟩
  ·obtain⟨g',t',cs',fuel',p',a1,a2,a3,a4,a5⟩:=ih hr hm
   exact⟨g',t',cs',fuel',p',a1,a2,a3,a4,fun x hx=>by simp[a5 x hx]⟩
theorem cD {W : World} {laid : List (String × DataW Unit)} (hL : laidMet Tryz.prog laid W) {nm : String} {text : List UInt8} (hm : (nm, DataW.iface "*errors.errorString" (.ptr (.agg [.lit (.string text)]))) ∈ laid) {g : Nat} (hg : Tryz.prog.globalNamed nm = some g) (hty : (Tryz.prog.globals[g]?).map (·.type) = some 49) :
  ∃ ea,W.cell? ⟨g,0,none⟩=some (.iface 339 (.pointer (some ea))):=by
 obtain⟨ps,hv,hnd,hrows⟩:=hL
 obtain⟨g',t,cs,fuel,p,a1,a2,a3,a4,a5⟩:=zL hv hm
 obtain rfl:=Option.some.inj (hg.symm.trans a1)
 obtain rfl:=Option.some.inj (hty.symm.trans a2)
 obtain⟨l0⟩:=cs
 have hok0:∀ u v,l0=[.iface u v]→Value.okWide Tryz.prog W .any 0 u v:=fun u v e=>by
  subst e
  exact(hrows g 0 (a5 _ (by simp[MemPlace.row]))).2 u v (by simpa using World.var?_cell hg a3 0)
 obtain⟨a0,s0,rfl,hc0,hs0,hz0,rfl⟩:=errorString_of_trod Tryz.underlying49 Tryz.CO Tryz.underlying339 Tryz.underlying359 rfl rfl Tryz.underlying9 Tryz.zX Tryz.Bz a4 hok0
 exact⟨a0,by simpa using World.var?_cell hg a3 0⟩
end Go.Proofs.YtdcopmkgmbiikaaGreatDoor
