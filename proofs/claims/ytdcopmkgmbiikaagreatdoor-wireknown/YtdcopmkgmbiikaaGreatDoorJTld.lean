import Derived.Test.YtdcopmkgmbiikaaGreatDoorJIsx
set_option maxRecDepth 100000
set_option maxHeartbeats 2000000
namespace Go.Proofs.YtdcopmkgmbiikaaGreatDoor
open Go.RowKit
structure G7 (w:World) (E:Nat→Addr):Prop where
 gl:Gl w E
 e4:Rg w (E 4)
 e5:w.cell? ⟨5,0,none⟩=some (.iface 339 (.pointer (some (E 5))))
 e6:w.cell? ⟨6,0,none⟩=some (.iface 339 (.pointer (some (E 6))))
 e7:w.cell? ⟨7,0,none⟩=some (.iface 339 (.pointer (some (E 7))))
 et:Et w
theorem G7.fr {w w':World} {E:Nat→Addr} {S:Nat→Prop} (h:G7 w E) (hf:Fr S w w') (hS:∀ k,S k→9≤k):G7 w' E:=by
 have key:∀ (n:Nat) (v:Value),n<9→w.cell? ⟨n,0,none⟩=some v→w'.cell? ⟨n,0,none⟩=some v:=fun n v hn hv =>
  (hf.cell (ab hv) (fun hs=>by have:=hS _ hs;simp only at this;omega)).trans hv
 exact⟨h.gl.fr hf hS,h.e4.fr hf hS,key _ _ (by decide) h.e5,key _ _ (by decide) h.e6,key _ _ (by decide) h.e7,h.et.fr hf hS⟩
theorem lL (n:Nat) (E:Nat→Addr) (w:World) (hg:G7 w E) (h1:1≤n) (h7:n≤7) :
  Calls Tryz.prog 28 #[.int .i64 n] w fun e w'=>e = .returned (.iface 339 (.pointer (some (E n))))∧w'=w:=by
 obtain⟨⟨g1,g2,g3⟩,g4,g5,g6,g7,_⟩:=hg
 unfold Rg at g4
 have hn:n=1∨n=2∨n=3∨n=4∨n=5∨n=6∨n=7:=by omega
 rcases hn with rfl|rfl|rfl|rfl|rfl|rfl|rfl
 all_goals
  go_enter Tryz.func28,Tryz.ntmps28
  go_wp2
  go_ret
  exact⟨rfl,rfl⟩
theorem qb (what:ByteArray) (place:Int) (w:World) :
  Calls Tryz.prog 12 #[.nilIface,.agg #[.string what,.int .i64 place,.int .i64 0]] w fun e w'=>e = .returned (.bool true)∧Fr (fun _=>False) w w':=by
 go_enter Tryz.func12,Tryz.ntmps12
 go_wp2
 go_ret
 exact⟨rfl,al _ _⟩
theorem dV (n fb place:Nat) (what:ByteArray) (E:Nat→Addr) (w:World) (hg:G7 w E) (h1:1≤n) (h7:n≤7) (hf:w.heap[fb]?=some (aJ what place (E n))) :
  Calls Tryz.prog 12 #[.iface 78 (.pointer (some ⟨fb,0,none⟩)),.agg #[.string what,.int .i64 place,.int .i64 n]] w fun e w'=>e = .returned (.bool true)∧Fr (fun _=>False) w w':=by
 have hn0:((n:Int) == 0)=false:=by rw[beq_eq_false_iff_ne];omega
 have H:=ae (And.intro hg hf)
 clear hg hf
 go_enter Tryz.func12,Tryz.ntmps12
 go_wp2_with fail
 have hF:=aY w (.cells #[.string what,.int .i64 place,.int .i64 n] 55) (.cells #[.pointer none] 78)
 refine(wo ⟨fb,0,none⟩ ⟨w.heap.size+1,0,none⟩ (.pointer none) _ ((aa H).1.et.aR hF) (by simp) (by simp)).mono ?_
 rintro e w1 ⟨rfl,ct,hf1⟩
 have hA1:Fr (fun _=>False) w w1:=hF.trans hf1 (fun i hi h=>by have h':i=w.heap.size+1:=h;omega)
 have hg1:=(aa H).1.fr hA1 (fun _ h=>h.elim)
 have hlt:fb<w.heap.size:=by
  rcases Nat.lt_or_ge fb w.heap.size with h0|h0
  ·exact h0
  ·have:=(aa H).2;rw[Array.getElem?_eq_none h0] at this;cases this
 have ho1:w1.heap[fb]?=some (aJ what place (E n)):=(hA1.block fb hlt (fun h=>h)).trans (aa H).2
 have hbx:∀ i,w1.cell? ⟨w.heap.size,i,none⟩=((w.alloc (.cells #[.string what,.int .i64 place,.int .i64 n] 55)).alloc (.cells #[.pointer none] 78)).cell? ⟨w.heap.size,i,none⟩:=fun i=>hf1.cell (by simp;omega) (by show ¬ w.heap.size=w.heap.size+1;omega)
 have b0:w1.cell? ⟨w.heap.size,0,none⟩=some (.string what):=(hbx 0).trans (by simp)
 have b1:w1.cell? ⟨w.heap.size,1,none⟩=some (.int .i64 place):=(hbx 1).trans (by simp)
 have b2:w1.cell? ⟨w.heap.size,2,none⟩=some (.int .i64 n):=(hbx 2).trans (by simp)
 have c0:w1.cell? ⟨fb,0,none⟩=some (.string what):=by simp[World.cell?,ho1,aJ]
 have c1:w1.cell? ⟨fb,1,none⟩=some (.int .i64 place):=by simp[World.cell?,ho1,aJ]
 have c2:w1.cell? ⟨fb,2,none⟩=some (.iface 339 (.pointer (some (E n)))):=by simp[World.cell?,ho1,aJ]
 have H1:=ae (And.intro hA1 (And.intro hg1 ho1))
 clear hF hf1 hA1 hg1 ho1 hbx
 go_wp2_with fail
 refine(lL n E w1 (aa H1).2.1 h1 h7).mono ?_
 rintro e w2 ⟨rfl,rfl⟩
 go_wp2_with fail
 refine(xN fb place what (E n) w2 (aa H1).2.2).mono ?_
 rintro e w3 ⟨rfl,rfl⟩
 obtain⟨i,hi,hcmp⟩:=Option.map_eq_some_iff.1 qO
 obtain⟨j,hj,hjs⟩:=Option.map_eq_some_iff.1 qH
 have heq:∀ wx:World,(binOp .eql 49 (.iface 339 (.pointer (some (E n)))) (.iface 339 (.pointer (some (E n))))).run Tryz.prog wx = .ok (.bool true) wx:=fun wx=>run_eql_iface_ptr_same (P:=Tryz.prog) wx (E n) Tryz.underlying49 Tryz.underlying339 hi hcmp hj
 clear hi hcmp hj hjs
 go_wp2_with fail
 go_quiet ((go_at_call 28;exact Calls.quiet_of_same (lL n E _ ((aa H1).2.1.fr ((Fr.refl (fun _=>False) _).drewN _) (fun _ h=>h.elim)) h1 h7)))
 go_wp2_with fail
 go_ret
 exact⟨rfl,(aa H1).1.drewN _⟩
end Go.Proofs.YtdcopmkgmbiikaaGreatDoor
