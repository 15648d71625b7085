import Derived.Test.YtdcopmkgmbiikaaGreatDoorJAsy
set_option maxRecDepth 100000
set_option maxHeartbeats 4000000
namespace Go.Proofs.YtdcopmkgmbiikaaGreatDoor
open Go.RowKit Go.Extern.Stop Go.Stop Go.Extern
theorem sD (v:Value) (w:World):(ReflectliteType.typeOf #[.iface 339 v]).run Tryz.prog w = .ok (.iface 163 (.agg #[.pointer (some ⟨9,339,none⟩)])) w:=by kernel_rfl
theorem yC (w:World):(callFunc 258 #[.agg #[.pointer (some ⟨9,339,none⟩)]]).run Tryz.prog w = .ok (.value (.bool true)) w:=by
 have h := @run_callFunc_extern Tryz.prog 258 _ (ReflectliteType.method fun t => do Rtype.noPackHeld "Comparable" t; pure (.bool (← typeInfo t).comparable)) Tryz.func258 (by kernel_rfl) (by kernel_rfl) (by kernel_rfl) (by kernel_rfl) #[.agg #[.pointer (some ⟨9, 339, none⟩)]] w
 exact h.trans (by kernel_rfl)
theorem qO:(Tryz.prog.info? 339).map (·.comparable)=some true:=by kernel_rfl
theorem qH:(Tryz.prog.info? 359).map (·.size)=some 1:=by kernel_rfl
theorem Aa (v:Value) (xT:TypeId) (w:World):(Instr.typeAssert (.iface 78 v) xT 165 true).run Tryz.prog w = .ok (.tuple #[.nilIface,.bool false]) w:=run_typeAssert_lacksB Tryz.underlying165 (by kernel_rfl) (by kernel_rfl) v xT w
theorem pa (v:Value) (xT:TypeId) (w:World):(Instr.typeAssert (.iface 78 v) xT 168 true).run Tryz.prog w = .ok (.tuple #[.iface 78 v,.bool true]) w:=run_typeAssert_hasB Tryz.underlying168 (by kernel_rfl) v xT w
theorem xy (fuel : Nat) (v : Value) (w : World) : (Go.method (fuel + 1) 78 v "Unwrap").run Tryz.prog w = .ok (251, v) w := by kernel_rfl
theorem xN (fb place:Nat) (what:ByteArray) (ea:Addr) (w:World) (hf:w.heap[fb]?=some (aJ what place ea)) :
  Calls Tryz.prog 20 #[.iface 78 (.pointer (some ⟨fb,0,none⟩)),.iface 339 (.pointer (some ea))] w fun ev w'=>ev = .returned (.bool true)∧w'=w:=by
 have h7:=@run_callFunc_extern Tryz.prog 45 _ ReflectliteType.typeOf Tryz.func45 (by kernel_rfl) (by kernel_rfl) (by kernel_rfl) (by kernel_rfl)
 have f8:=sD
 have m5:=yg
 obtain⟨i,hi,hcmp⟩:=Option.map_eq_some_iff.1 qO
 obtain⟨j,hj,hjs⟩:=Option.map_eq_some_iff.1 qH
 have f9:=yC
 have t1:=Aa
 have t2:=pa
 have m6:=xy
 have heq:=run_eql_iface_ptr_same (P:=Tryz.prog) w ea Tryz.underlying49 Tryz.underlying339 hi hcmp hj
 have c0:w.cell? ⟨fb,0,none⟩=some (.string what):=by simp[World.cell?,hf,aJ]
 have c1:w.cell? ⟨fb,1,none⟩=some (.int .i64 place):=by simp[World.cell?,hf,aJ]
 have c2:w.cell? ⟨fb,2,none⟩=some (.iface 339 (.pointer (some ea))):=by simp[World.cell?,hf,aJ]
 have hty:=run_eql_iface_types (P:=Tryz.prog) 78 339 (.pointer (some ⟨fb,0,none⟩)) (.pointer (some ea)) Tryz.underlying49 (by decide) w
 clear hf
 go_enter Tryz.func20,Tryz.ntmps20
 go_wp2
 refine wp_loop_rounds 2 ?_
 rw[rounds_succ]
 go_wp2
 rw[rounds_succ]
 go_wp2
 go_ret
 exact⟨rfl,rfl⟩
end Go.Proofs.YtdcopmkgmbiikaaGreatDoor
