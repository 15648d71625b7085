import Derived.Test.YtikolmpgnpkdbaaDoorAsy
namespace Go.Proofs.YtikolmpgnpkdbaaDoor
open Go.RowKit Go.Extern.Stop Go.Stop Go.Extern

theorem rl_typeOfE (v : Value) (w : World) : (ReflectliteType.typeOf #[.iface 147 v]).run Tryd.prog w = .ok (.iface 133 (.agg #[.pointer (some ⟨9, 147, none⟩)])) w := by kernel_rfl

theorem rl_compE (w : World) : (callFunc 135 #[.agg #[.pointer (some ⟨9, 147, none⟩)]]).run Tryd.prog w = .ok (.value (.bool true)) w := by
  have h := @run_callFunc_extern Tryd.prog 135 _ (ReflectliteType.method fun t => do Rtype.noPackHeld "Comparable" t; pure (.bool (← typeInfo t).comparable)) Tryd.func135 (by kernel_rfl) (by kernel_rfl) (by kernel_rfl) (by kernel_rfl) #[.agg #[.pointer (some ⟨9, 147, none⟩)]] w
  exact h.trans (by kernel_rfl)
theorem rl_infoE : (Tryd.prog.info? 147).map (·.comparable) = some true := by kernel_rfl
theorem rl_sizeE : (Tryd.prog.info? 166).map (·.size) = some 1 := by kernel_rfl
theorem ta_noIs (v : Value) (xT : TypeId) (w : World) : (Instr.typeAssert (.iface 64 v) xT 144 true).run Tryd.prog w = .ok (.tuple #[.nilIface, .bool false]) w := run_typeAssert_lacksB Tryd.underlying144 (by kernel_rfl) (by kernel_rfl) v xT w
theorem ta_hasUnwrap (v : Value) (xT : TypeId) (w : World) : (Instr.typeAssert (.iface 64 v) xT 140 true).run Tryd.prog w = .ok (.tuple #[.iface 64 v, .bool true]) w := run_typeAssert_hasB Tryd.underlying140 (by kernel_rfl) v xT w
theorem m_unwrap (fuel : Nat) (v : Value) (w : World) : (Go.method (fuel + 1) 64 v "Unwrap").run Tryd.prog w = .ok (129, v) w := by kernel_rfl

set_option maxRecDepth 100000 in
set_option maxHeartbeats 4000000 in
theorem is_fault (fb place : Nat) (what : ByteArray) (ea : Addr) (w : World) (hf : w.heap[fb]? = some (faultObj what place ea)) :
    Calls Tryd.prog 69 #[.iface 64 (.pointer (some ⟨fb, 0, none⟩)), .iface 147 (.pointer (some ea))] w fun ev w' => ev = .returned (.bool true) ∧ w' = w := by
  have h7 := @run_callFunc_extern Tryd.prog 101 _ ReflectliteType.typeOf Tryd.func101 (by kernel_rfl) (by kernel_rfl) (by kernel_rfl) (by kernel_rfl)
  have f8 := rl_typeOfE
  have m5 := rl_mComp
  obtain ⟨i, hi, hcmp⟩ := Option.map_eq_some_iff.1 rl_infoE
  obtain ⟨j, hj, hjs⟩ := Option.map_eq_some_iff.1 rl_sizeE
  have f9 := rl_compE
  have t1 := ta_noIs
  have t2 := ta_hasUnwrap
  have m6 := m_unwrap
  have heq := run_eql_iface_ptr_same (P := Tryd.prog) w ea Tryd.underlying35 Tryd.underlying147 hi hcmp hj
  have c0 : w.cell? ⟨fb, 0, none⟩ = some (.string what) := by simp [World.cell?, hf, faultObj]
  have c1 : w.cell? ⟨fb, 1, none⟩ = some (.int .i64 place) := by simp [World.cell?, hf, faultObj]
  have c2 : w.cell? ⟨fb, 2, none⟩ = some (.iface 147 (.pointer (some ea))) := by simp [World.cell?, hf, faultObj]
  have hty := run_eql_iface_types (P := Tryd.prog) 64 147 (.pointer (some ⟨fb, 0, none⟩)) (.pointer (some ea)) Tryd.underlying35 (by decide) w
  clear hf
  go_enter Tryd.func69, Tryd.ntmps69
  go_wp2
  refine wp_loop_rounds 2 ?_
  rw [rounds_succ]
  go_wp2
  rw [rounds_succ]
  go_wp2
  go_ret
  exact ⟨rfl, rfl⟩
end Go.Proofs.YtikolmpgnpkdbaaDoor
