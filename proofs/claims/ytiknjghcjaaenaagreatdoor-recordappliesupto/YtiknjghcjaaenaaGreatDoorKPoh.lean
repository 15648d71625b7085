import Derived.Test.YtiknjghcjaaenaaGreatDoorKPog
namespace Go.Proofs.YtiknjghcjaaenaaGreatDoor
open Go.RowKit
set_option maxRecDepth 100000 in
theorem notAllowed_any (q : QM) (w : World) : Calls Tryz.prog 118 #[q.v] w fun e w' => e = .returned (.int .u8 5) ∧ Fr (fun _ => False) w w' := by
 simp only [QM.v]
 go_enter Tryz.func118, Tryz.ntmps118
 go_wp2_with fail
 go_ret
 exact ⟨rfl, (Fr.refl _ _).alloc _⟩
set_option maxHeartbeats 2000000 in
set_option maxRecDepth 100000 in
theorem mayBreak_any (q : QM) (w : World) :
  Calls Tryz.prog 121 #[q.v] w fun e w' => e = .returned (.bool (brF q)) ∧ Fr (fun _ => False) w w' := by
 have hP := QB.new w q
 simp only [QM.cs] at hP
 obtain ⟨c0, c1, c2, c3, c4, c5, c6, c7, c8, c9⟩ := hP.cells
 simp only [QM.v]
 go_enter Tryz.func121, Tryz.ntmps121
 rcases hr32 : q.role [3, 2] with _ | _
 ·go_wp2_with fail
  have hC := is2_B hP 3 2 hr32
  rw [show ∀ o, (w.alloc o).heap.size = w.heap.size + 1 from fun o => by simp] at hC
  clear hP c0 c1 c2 c3 c4 c5 c6 c7 c8 c9
  refine hC.mono ?_
  clear hC
  rintro e wq ⟨rfl, hP⟩
  obtain ⟨c0, c1, c2, c3, c4, c5, c6, c7, c8, c9⟩ := hP.cells
  go_wp2_with fail
  go_ret
  exact ⟨by simp [brF, hr32], hP.fr⟩
 ·go_wp2_with fail
  have hC := is2_B hP 3 2 hr32
  rw [show ∀ o, (w.alloc o).heap.size = w.heap.size + 1 from fun o => by simp] at hC
  clear hP c0 c1 c2 c3 c4 c5 c6 c7 c8 c9
  refine hC.mono ?_
  clear hC
  rintro e wq ⟨rfl, hP⟩
  obtain ⟨c0, c1, c2, c3, c4, c5, c6, c7, c8, c9⟩ := hP.cells
  go_wp2_with fail
  go_ret
  exact ⟨by simp [brF, hr32], hP.fr⟩
@[go_sem] theorem run_store_func (P : Program) (w : World) (a : Addr) (m : Mode) (f : Fn) (x y : Array _) : (store a (.func f x y) m).run P w = stored P w a (.func f x y) m := run_store P w a _ m rfl
@[go_sem] theorem run_store_nilFunc (P : Program) (w : World) (a : Addr) (m : Mode) : (store a .nilFunc m).run P w = stored P w a .nilFunc m := run_store P w a _ m rfl
theorem results_cell_mid {P : Program} {fn : Func} {p : Tmp} {ty : TypeId} (h : fn.results = #[.cell p ty]) (tmps : Array Value) (w : World) (b o : Nat) (cs : List Value) (d : TypeDesc)
  (hp : tmps.getD p undef = .pointer (some ⟨b, o, none⟩)) (hc : w.rangeAt b o cs)
  (hu : P.underlying ty = some d) (hd : d.isRow = true) (hi : (P.info? ty).map (·.size) = some cs.length) :
  (results fn tmps).run P w = .ok (.agg cs.toArray) w := by
 have hp' : tmps[p]?.getD undef = .pointer (some ⟨b, o, none⟩) := by simpa using hp
 simp [results, h, hp', asAddr, run_loadVar_mid w b o ty cs d hc hu hd hi]
def rulesL : List Value := [.nilFunc, .nilFunc, .func (.func 111) #[] #[], .func (.func 112) #[] #[], .func (.func 113) #[] #[], .func (.func 114) #[] #[], .func (.func 115) #[] #[], .func (.func 116) #[] #[], .func (.func 117) #[] #[], .func (.func 118) #[] #[], .func (.func 119) #[] #[], .func (.func 116) #[] #[], .func (.func 120) #[] #[], .func (.func 118) #[] #[], .func (.func 121) #[] #[], .func (.func 118) #[] #[]]
def rulesV : Value := .agg rulesL.toArray
set_option maxHeartbeats 2000000 in
set_option maxRecDepth 100000 in
theorem rules_any (w : World) : Calls Tryz.prog 103 #[] w fun e w' => e = .returned rulesV ∧ Fr (fun _ => False) w w' := by
 go_enter Tryz.func103, Tryz.ntmps103
 go_wp2_with fail
 refine bodyPost_ret (results_cell_mid rfl _ _ w.heap.size 0 rulesL _ rfl ?_ Tryz.underlying152 rfl (by kernel_rfl)) rfl ?_
 ·intro j v hv
  rw [World.cell?_alloc_at _ _ _ _ rfl, Nat.zero_add]
  show rulesL.toArray[j]? = some v
  rw [List.getElem?_toArray]
  exact hv
 ·exact ⟨rfl, (Fr.refl _ _).alloc _⟩
end Go.Proofs.YtiknjghcjaaenaaGreatDoor
