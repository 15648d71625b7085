import Derived.Test.YtdcopmkgmbiikaaGreatDoorJBal
import Derived.LaidEql
import Derived.Stop.Asserts
import Derived.RowKitTokens
namespace Go.Proofs.YtdcopmkgmbiikaaGreatDoor
open Go.RowKit Go.Extern.Stop Go.Stop Go.Extern
def ty (n:Nat):Value:=.pointer (some ⟨9,n,none⟩)
theorem si (t:Addr) (w:World):(ReflectliteValue.unpack (.iface 80 (.pointer (some t)))).run Tryz.prog w
  = .ok (.agg #[.pointer (some ⟨9,80,none⟩),.pointer (some ⟨w.heap.size,0,none⟩),.int .u64 150]) (w.alloc (.cells #[.pointer (some t)] 80)):=by kernel_rfl
theorem qw (t:Addr) (w:World):(ReflectliteValue.unpack (.iface 78 (.pointer (some t)))).run Tryz.prog w
  = .ok (.agg #[.pointer (some ⟨9,78,none⟩),.pointer (some ⟨w.heap.size,0,none⟩),.int .u64 150]) (w.alloc (.cells #[.pointer (some t)] 78)):=by kernel_rfl
theorem zD (a : Addr) (w : World) : (ReflectliteValue.methodAny (ReflectliteValue.valueError "reflectlite.Value.Type" 0) (fun t _ _ _ => ReflectliteType.toType t) #[.agg #[.pointer (some ⟨9, 80, none⟩), .pointer (some a), .int .u64 150]]).run Tryz.prog w
  = .ok (.iface 163 (.agg #[.pointer (some ⟨9,80,none⟩)])) w:=by kernel_rfl
theorem wT (w:World):((ReflectliteType.abiMethod fun t=>(fun a:Nat=>Value.int IntKind.u8 (a:Int)) <$> Rtype.kind t) #[.pointer (some ⟨9,80,none⟩)]).run Tryz.prog w = .ok (.int .u8 22) w:=by kernel_rfl
theorem xj (w:World):((ReflectliteType.abiMethod fun t=>(fun a:Nat=>Value.int IntKind.u8 (a:Int)) <$> Rtype.kind t) #[.pointer (some ⟨9,78,none⟩)]).run Tryz.prog w = .ok (.int .u8 22) w:=by kernel_rfl
theorem zd (w:World):(ReflectliteType.method ReflectliteType.elem #[.agg #[.pointer (some ⟨9,80,none⟩)]]).run Tryz.prog w = .ok (.iface 163 (.agg #[.pointer (some ⟨9,78,none⟩)])) w:=by kernel_rfl
theorem Ap (w : World) : (ReflectliteType.relation "Implements" ReflectliteType.implements_ #[.agg #[.pointer (some ⟨9, 78, none⟩)], .iface 163 (.agg #[.pointer (some ⟨9, 49, none⟩)])]).run Tryz.prog w = .ok (.bool true) w := by kernel_rfl
theorem vP (v:Value) (w:World):(ReflectliteType.typeOf #[.iface 78 v]).run Tryz.prog w = .ok (.iface 163 (.agg #[.pointer (some ⟨9,78,none⟩)])) w:=by kernel_rfl
theorem vy (w : World) : (ReflectliteType.relation "AssignableTo" ReflectliteType.assignableTo #[.agg #[.pointer (some ⟨9, 78, none⟩)], .iface 163 (.agg #[.pointer (some ⟨9, 78, none⟩)])]).run Tryz.prog w = .ok (.bool true) w := by kernel_rfl
theorem wG (fuel : Nat) (h : Value) (w : World) : (Go.method (fuel + 1) 163 (.agg #[h]) "Kind").run Tryz.prog w = .ok (247, h) w := by kernel_rfl
theorem nL (a:Addr) (w:World):(ReflectliteValue.parts (.agg #[.pointer (some ⟨9,80,none⟩),.pointer (some a),.int .u64 150])).run Tryz.prog w = .ok (some (80,a,150)) w:=by kernel_rfl
theorem vS (a:Addr) (w:World):(ReflectliteValue.parts (.agg #[.pointer (some ⟨9,78,none⟩),.pointer (some a),.int .u64 150])).run Tryz.prog w = .ok (some (78,a,150)) w:=by kernel_rfl
theorem rD (a:Addr) (w:World):(ReflectliteValue.parts (.agg #[.pointer (some ⟨9,78,none⟩),.pointer (some a),.int .u64 406])).run Tryz.prog w = .ok (some (78,a,406)) w:=by kernel_rfl
theorem vf (w:World):(Rtype.elem? 80).run Tryz.prog w = .ok (some 78) w:=by kernel_rfl
theorem CJ (p:Addr) (w:World):(ReflectliteValue.mk 78 p ReflectliteValue.flagAddr).run Tryz.prog w = .ok (.agg #[.pointer (some ⟨9,78,none⟩),.pointer (some p),.int .u64 406]) w:=by kernel_rfl
theorem uF (w:World):(Rtype.directlyAssignable 78 78).run Tryz.prog w = .ok true w:=by kernel_rfl
theorem xH (a p:Addr) (W:World) (ha:W.cell? a=some (.pointer (some p))) :
  (ReflectliteValue.method (ReflectliteValue.valueError "reflectlite.Value.IsNil" 0) ReflectliteValue.isNil #[.agg #[.pointer (some ⟨9, 80, none⟩), .pointer (some a), .int .u64 150]]).run Tryz.prog W = .ok (.bool false) W := by
 change Sem.run Tryz.prog (ReflectliteValue.parts _ >>= _) W=_
 simp only[Array.getLit,List.getElem_toArray,List.getElem_cons_zero,Sem.run_bind,nL,Result.andThen]
 simp[Result.andThen,ReflectliteValue.isNil,loadVar,isAgg,underlying,Tryz.underlying80,ha]
theorem yu (a p:Addr) (W:World) (ha:W.cell? a=some (.pointer (some p))) :
  (ReflectliteValue.method (ReflectliteValue.valueError "reflectlite.Value.Elem" 0) ReflectliteValue.elem #[.agg #[.pointer (some ⟨9, 80, none⟩), .pointer (some a), .int .u64 150]]).run Tryz.prog W
   = .ok (.agg #[.pointer (some ⟨9,78,none⟩),.pointer (some p),.int .u64 406]) W:=by
 change Sem.run Tryz.prog (ReflectliteValue.parts _ >>= _) W=_
 simp only[Array.getLit,List.getElem_toArray,List.getElem_cons_zero,Sem.run_bind,nL,Result.andThen]
 simp[Result.andThen,ReflectliteValue.elem,loadVar,isAgg,underlying,Tryz.underlying80,ha,vf,CJ]
theorem BB (ta b e:Addr) (old:Value) (W:World) (hb:W.cell? b=some (.pointer (some e))) (ht:W.cell? ta=some old) (hf:W.frozen? ta=false) :
  (ReflectliteValue.set #[.agg #[.pointer (some ⟨9,78,none⟩),.pointer (some ta),.int .u64 406],.agg #[.pointer (some ⟨9,78,none⟩),.pointer (some b),.int .u64 150]]).run Tryz.prog W
   = .ok (.tuple #[]) (W.setCell ta (.pointer (some e))):=by
 change Sem.run Tryz.prog (ReflectliteValue.parts _ >>= _) W=_
 simp only[Array.getLit,List.getElem_toArray,List.getElem_cons_zero,List.getElem_cons_succ,Sem.run_bind,vS,rD,Result.andThen]
 simp[Result.andThen,ReflectliteValue.flagAddr,loadVar,isAgg,underlying,Tryz.underlying78,hb,uF,storeVar,Value.cells,storeCells,Addr.add]
 rw[run_store Tryz.prog W ta _ _ (by rfl)]
 simp[ht,hf]
end Go.Proofs.YtdcopmkgmbiikaaGreatDoor
