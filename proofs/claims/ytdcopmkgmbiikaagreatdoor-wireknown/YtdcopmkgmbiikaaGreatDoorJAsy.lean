import Derived.Test.YtdcopmkgmbiikaaGreatDoorJAsx
set_option maxRecDepth 100000
set_option maxHeartbeats 4000000
namespace Go.Proofs.YtdcopmkgmbiikaaGreatDoor
open Go.RowKit Go.Extern.Stop Go.Stop Go.Extern
def Et (w:World):Prop:=w.cell? ⟨2,0,none⟩=some (.iface 163 (.agg #[.pointer (some ⟨9,49,none⟩)]))
theorem Et.fr {w w':World} {S:Nat→Prop} (h:Et w) (hf:Fr S w w') (hS:∀ k,S k→9≤k):Et w':=
 (hf.cell (ab h) (fun hs=>by have:=hS _ hs;simp at this)).trans h
theorem Et.aR {w w':World} (h:Et w) (hf:Fr (fun _=>False) w w'):Et w':=h.fr hf (fun _ h=>h.elim)
theorem yM (fuel : Nat) (h : Value) (w : World) : (Go.method (fuel + 1) 163 (.agg #[h]) "Elem").run Tryz.prog w = .ok (259, .agg #[h]) w := by kernel_rfl
theorem wJ (fuel : Nat) (h : Value) (w : World) : (Go.method (fuel + 1) 163 (.agg #[h]) "Implements").run Tryz.prog w = .ok (260, .agg #[h]) w := by kernel_rfl
theorem tG (fuel : Nat) (h : Value) (w : World) : (Go.method (fuel + 1) 163 (.agg #[h]) "AssignableTo").run Tryz.prog w = .ok (257, .agg #[h]) w := by kernel_rfl
theorem yg (fuel : Nat) (h : Value) (w : World) : (Go.method (fuel + 1) 163 (.agg #[h]) "Comparable").run Tryz.prog w = .ok (258, .agg #[h]) w := by kernel_rfl
theorem wo (e t:Addr) (old:Value) (w:World) (he:Et w) (ht:w.cell? t=some old) (hz:w.frozen? t=false) :
  Calls Tryz.prog 27 #[.iface 78 (.pointer (some e)),.iface 80 (.pointer (some t))] w fun ev w'=>ev = .returned (.bool true)∧w'.cell? t=some (.pointer (some e))∧Fr (fun k=>k=t.block) w w':=by
 have h1:=@run_callFunc_extern Tryz.prog 70 _ (fun args=>ReflectliteValue.unpack (args.getD 0 (.tuple #[]))) Tryz.func70 (by kernel_rfl) (by kernel_rfl) (by kernel_rfl) (by kernel_rfl)
 have h2 := @run_callFunc_extern Tryz.prog 71 _ (ReflectliteValue.methodAny (ReflectliteValue.valueError "reflectlite.Value.Type" 0) (fun t _ _ _ => ReflectliteType.toType t)) Tryz.func71 (by kernel_rfl) (by kernel_rfl) (by kernel_rfl) (by kernel_rfl)
 have h3 := @run_callFunc_extern Tryz.prog 72 _ (ReflectliteValue.method (ReflectliteValue.valueError "reflectlite.Value.IsNil" 0) ReflectliteValue.isNil) Tryz.func72 (by kernel_rfl) (by kernel_rfl) (by kernel_rfl) (by kernel_rfl)
 have h4:=@run_callFunc_extern Tryz.prog 247 _ (ReflectliteType.abiMethod fun t=>do pure (.int .u8 (← Rtype.kind t))) Tryz.func247 (by kernel_rfl) (by kernel_rfl) (by kernel_rfl) (by kernel_rfl)
 have h5:=@run_callFunc_extern Tryz.prog 259 _ (ReflectliteType.method ReflectliteType.elem) Tryz.func259 (by kernel_rfl) (by kernel_rfl) (by kernel_rfl) (by kernel_rfl)
 have h6 := @run_callFunc_extern Tryz.prog 260 _ (ReflectliteType.relation "Implements" ReflectliteType.implements_) Tryz.func260 (by kernel_rfl) (by kernel_rfl) (by kernel_rfl) (by kernel_rfl)
 have h7:=@run_callFunc_extern Tryz.prog 45 _ ReflectliteType.typeOf Tryz.func45 (by kernel_rfl) (by kernel_rfl) (by kernel_rfl) (by kernel_rfl)
 have h8 := @run_callFunc_extern Tryz.prog 257 _ (ReflectliteType.relation "AssignableTo" ReflectliteType.assignableTo) Tryz.func257 (by kernel_rfl) (by kernel_rfl) (by kernel_rfl) (by kernel_rfl)
 have h9 := @run_callFunc_extern Tryz.prog 117 _ (ReflectliteValue.method (ReflectliteValue.valueError "reflectlite.Value.Elem" 0) ReflectliteValue.elem) Tryz.func117 (by kernel_rfl) (by kernel_rfl) (by kernel_rfl) (by kernel_rfl)
 have h10:=@run_callFunc_extern Tryz.prog 118 _ ReflectliteValue.set Tryz.func118 (by kernel_rfl) (by kernel_rfl) (by kernel_rfl) (by kernel_rfl)
 have f1:=si
 have f2:=qw
 have f3:=zD
 have f4:=wT
 have f5:=xj
 have f6:=zd
 have f7:=Ap
 have f8:=vP
 have f9:=vy
 have m1:=wG
 have m2:=yM
 have m3:=wJ
 have m4:=tG
 have htl:=ab ht
 have hel:2<w.heap.size:=ab he
 have n1:∀ (W:World) (a:Addr),W.cell? a=some (.pointer (some t))→_:=fun W a h=>xH a t W h
 have n2:=yu ⟨w.heap.size,0,none⟩ t (((w.alloc (.cells #[.pointer (some t)] 80)).alloc (.cells #[.pointer (some ⟨9,80,none⟩),.pointer (some ⟨w.heap.size,0,none⟩),.int .u64 150] 150)).alloc (.cells #[.pointer (some ⟨9,80,none⟩),.pointer (some ⟨w.heap.size,0,none⟩),.int .u64 150] 150)) (lf _ _ _ _ _)
 have F4:Fr (fun _=>False) w ((((w.alloc (.cells #[.pointer (some t)] 80)).alloc (.cells #[.pointer (some ⟨9,80,none⟩),.pointer (some ⟨w.heap.size,0,none⟩),.int .u64 150] 150)).alloc (.cells #[.pointer (some ⟨9,80,none⟩),.pointer (some ⟨w.heap.size,0,none⟩),.int .u64 150] 150)).alloc (.cells #[.pointer (some e)] 78)):=(aI w _ _ _).alloc _
 have n3:=BB t ⟨w.heap.size+1+1+1,0,none⟩ e old ((((w.alloc (.cells #[.pointer (some t)] 80)).alloc (.cells #[.pointer (some ⟨9,80,none⟩),.pointer (some ⟨w.heap.size,0,none⟩),.int .u64 150] 150)).alloc (.cells #[.pointer (some ⟨9,80,none⟩),.pointer (some ⟨w.heap.size,0,none⟩),.int .u64 150] 150)).alloc (.cells #[.pointer (some e)] 78)) (by simpa using ua (((w.alloc (.cells #[.pointer (some t)] 80)).alloc (.cells #[.pointer (some ⟨9,80,none⟩),.pointer (some ⟨w.heap.size,0,none⟩),.int .u64 150] 150)).alloc (.cells #[.pointer (some ⟨9,80,none⟩),.pointer (some ⟨w.heap.size,0,none⟩),.int .u64 150] 150)) (.pointer (some e)) 78) ((F4.cell htl (fun h=>h)).trans ht) ((F4.frozen htl (fun h=>h)).trans hz)
 have HF4:=ae F4
 clear F4
 unfold Et at he
 go_enter Tryz.func27,Tryz.ntmps27
 go_wp2
 refine wp_loop_rounds 1 ?_
 rw[rounds_succ]
 go_wp2
 go_ret
 refine⟨rfl,World.cell?_setCell_same _ _ _ (((aa HF4).cell htl (fun h=>h)).trans ht),?_⟩
 exact Fr.setCell (S:=fun k=>k=t.block) ((aa HF4).mono (fun _ _ h=>h.elim)) (.inl rfl) _
end Go.Proofs.YtdcopmkgmbiikaaGreatDoor
