import Derived.Test.YtdcopmkgmbiikaaGreatDoorJNum
import Derived.Defers
import Derived.Recover
set_option maxRecDepth 100000
namespace Go.Proofs.YtdcopmkgmbiikaaGreatDoor
open Go.RowKit
def aG (fa:Addr):PanicEntry:={ v:=.iface 78 (.pointer (some fa)),recovered:=false }
theorem Tryz.BS (fa:Addr) (w:World):(Instr.typeAssert (.iface 78 (.pointer (some fa))) 20 78 true).run Tryz.prog w = .ok (.tuple #[.pointer (some fa),.bool true]) w:=by kernel_rfl
theorem Tryz.BD (w:World):(Instr.typeAssert .nilIface 20 78 true).run Tryz.prog w = .ok (.tuple #[.pointer none,.bool false]) w:=by kernel_rfl
theorem kG (p fa:Addr) (b:Nat) (old:Value) (w:World) (hp:w.cell? p=some (.pointer (some ⟨b,0,none⟩))) (h1:w.cell? ⟨b,1,none⟩=some old) (f1:w.frozen? ⟨b,1,none⟩=false) :
  CallsD Tryz.prog 200 #[.pointer (some p)] (.panicking [aG fa]) w fun e u' w' =>
   e = .returned (.tuple #[])∧u' = .panicking [{ v:=.iface 78 (.pointer (some fa)),recovered:=true }]∧w'=w.setCell ⟨b,1,none⟩ (.pointer (some fa)):=by
 refine callsD_of_wpS Tryz.func200 rfl fun c₀ cs hu=>?_
 have ta:=Tryz.BS
 apply wpS_seq
 apply wpS_region
 simp[wpOpsS,go_sem,recoverD,hu,Tryz.ntmps200,Exit.thenS,aG,ta]
 apply wpS_seq
 apply wpS_region
 simp[wpOpsS,go_sem,Exit.thenS]
 refine wpS_cond (t:=true) (by simp[Act.eval,Array.replicate]) ?_
 simp only[if_true]
 apply wpS_region
 simp[wpOpsS,go_sem,hp,h1,f1,bodyPostS,results,Tryz.results200]
theorem rH (p:Addr) (w:World) :
  CallsD Tryz.prog 200 #[.pointer (some p)] .returning w fun e u' w'=>e = .returned (.tuple #[])∧u' = .returning∧w'=w:=by
 refine callsD_of_wpS Tryz.func200 rfl fun c₀ cs hu=>?_
 have ta:=Tryz.BD
 apply wpS_seq
 apply wpS_region
 simp[wpOpsS,go_sem,recoverD,hu,Tryz.ntmps200,Exit.thenS,ta]
 refine wpS_of_wp ?_
 go_wp2
 cases c₀
 simp_all [bodyPostS,results,Tryz.results200]
theorem mf:∀ (fn:Fn) (first cap:Array Value) (w:World),(Instr.makeFunc fn first cap).run Tryz.prog w = .ok (.func fn first cap) w:=fun _ _ _ _=>rfl
theorem bX (b:Nat) (fa:Addr) (f:Value) (w:World) (h1:w.cell? ⟨b,1,none⟩=some (.pointer (some fa))) :
  Calls Tryz.prog 182 #[.pointer (some ⟨b,0,none⟩),f] w fun e w'=>e = .returned (.tuple #[])∧w'=w.alloc (.cells #[.pointer (some ⟨b,0,none⟩)] 271):=by
 have hlt:=ab h1
 go_enter_defers Tryz.func182,Tryz.ntmps182
 go_wp2
 simp[bodyPostD,Leaves,results,Tryz.results182,go_sem]
theorem enters {F : Nat} {fn : Func} (hf : Tryz.prog.funcs[F]? = some fn) (hn : (fn.name == "runtime.NumGoroutine") = false) (hb : fn.body.isSome = true) (caps : Array Value) (W : World) : (callFunc F caps).run Tryz.prog W = .ok (.enter F caps) W := by
 have h1 : ¬ fn.name = "runtime.NumGoroutine" := by simpa using hn
 have h2:¬ fn.body=none:=by intro h;rw[h] at hb;cases hb
 simp[callFunc,hf,h1,h2]
theorem de (b F:Nat) (caps:Array Value) (R:World→Prop) (w:World) (h1:w.cell? ⟨b,1,none⟩=some (.pointer none)) (he:∀ W,(callFunc F caps).run Tryz.prog W = .ok (.enter F caps) W)
  (hw:Calls Tryz.prog F caps (w.alloc (.cells #[.pointer (some ⟨b,0,none⟩)] 271)) fun e w'=>e = .returned (.tuple #[])∧R w') :
  Calls Tryz.prog 182 #[.pointer (some ⟨b,0,none⟩),.func (.func F) #[] caps] w fun e w'=>e = .returned (.tuple #[])∧R w':=by
 have hlt:=ab h1
 have hmf:=mf
 have Hw:=ae hw
 clear hw
 go_enter_defers Tryz.func182,Tryz.ntmps182
 go_wp2_with fail
 refine(aa Hw).mono ?_
 rintro e w' ⟨rfl,hR⟩
 go_wp2_with fail
 refine leaves_cons (f:=200) (args:=#[.pointer (some ⟨w.heap.size,0,none⟩)]) (by simp) (by simp[go_sem]) ?_
 refine(rH ⟨w.heap.size,0,none⟩ _).mono ?_
 rintro e u' w'' ⟨rfl,rfl,rfl⟩
 simp[Leaves,settle,results,Tryz.results182,go_sem]
 exact hR
theorem cM (b F:Nat) (caps:Array Value) (R:World→Addr→Prop) (w:World) (h1:w.cell? ⟨b,1,none⟩=some (.pointer none)) (he:∀ W,(callFunc F caps).run Tryz.prog W = .ok (.enter F caps) W)
  (hw:Calls Tryz.prog F caps (w.alloc (.cells #[.pointer (some ⟨b,0,none⟩)] 271)) fun e w'=>∃ fa,e = .panicked [aG fa]∧R w' fa)
  (hR:∀ w' fa,R w' fa→w'.cell? ⟨w.heap.size,0,none⟩=some (.pointer (some ⟨b,0,none⟩))∧w'.cell? ⟨b,1,none⟩=some (.pointer none)∧w'.frozen? ⟨b,1,none⟩=false) :
  Calls Tryz.prog 182 #[.pointer (some ⟨b,0,none⟩),.func (.func F) #[] caps] w fun e w'=>e = .returned (.tuple #[])∧∃ w1 fa,R w1 fa∧w'=w1.setCell ⟨b,1,none⟩ (.pointer (some fa)):=by
 have hlt:=ab h1
 have hmf:=mf
 have Hw:=ae hw
 have HR:=ae hR
 clear hw hR
 go_enter_defers Tryz.func182,Tryz.ntmps182
 go_wp2_with fail
 refine(aa Hw).mono ?_
 rintro e w' ⟨fa,rfl,hr⟩
 obtain⟨r1,r2,r3⟩:=aa HR _ _ hr
 go_wp2_with fail
 refine leaves_cons (f:=200) (args:=#[.pointer (some ⟨w.heap.size,0,none⟩)]) (by simp) (by simp[go_sem]) ?_
 refine(kG ⟨w.heap.size,0,none⟩ fa b _ w' r1 r2 r3).mono ?_
 rintro e u' w'' ⟨rfl,rfl,rfl⟩
 simp[Leaves,settle,results,Tryz.results182,go_sem]
 exact⟨w',fa,hr,rfl⟩
end Go.Proofs.YtdcopmkgmbiikaaGreatDoor
