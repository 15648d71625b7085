import Derived.Test.YtdcopmkgmbiikaaGreatDoorJWrk
set_option maxRecDepth 100000
namespace Go.Proofs.YtdcopmkgmbiikaaGreatDoor
open Go.RowKit
theorem br {P:Program} {w w':World} {ops:Array Oper} {rest:List Oper} {o:Oper} {a:Act} {Q:Exit→Act→World→Prop} (hgd:o.guard=none) (s x:Operand) (t u:TypeId)
  (ho:o.op = .call { callee:=.builtin .append,args:=#[s,x],argTypes:=#[t,u] }) (vs vx v':Value) (hs:a.eval s=vs) (hx:a.eval x=vx) (hr:(Builtin.append_ #[t,u] o.type #[vs,vx]).run P w = .ok v' w')
  (h:wpList P ops Q rest (a.put o.dst v') w'):wpList P ops Q (o::rest) a w:=by
 refine wpList_plain hgd fun K hK=>?_
 unfold Oper.wp execOp
 simp only[ho,resolve,invoke,builtin,Sem.run_bind,Sem.run_pure,Result.andThen_ok,List.map_toArray,List.map_cons,List.map_nil,hs,hx,hr]
 exact hK _ _ h
theorem Tryz.nn0 (w:World):(binOp .eql 23 (.slice none 0 0) (.slice none 0 0)).run Tryz.prog w = .ok (.bool true) w:=by kernel_rfl
theorem Tryz.nn1 (a:Addr) (n c:Nat) (w:World):(binOp .eql 23 (.slice (some a) n c) (.slice none 0 0)).run Tryz.prog w = .ok (.bool false) w:=by kernel_rfl
theorem jG (x:Value) (l:List Nat) (w:World) (hx:Src w x l) (hl:l.length≤140737488355328) :
  Calls Tryz.prog 116 #[x] w fun e w'=>∃ v,e = .returned v∧w'.ownsRow w.heap.size 5 1 v l.length (cellsOf l)∧Fr (fun _=>False) w w':=by
 obtain⟨rfl,rfl⟩|⟨a,c,rfl⟩:(x = .slice none 0 0∧l=[])∨∃ a c,x = .slice (some a) l.length c:=by
  rcases hx with h|⟨g,o,c,rfl,_⟩|⟨a,c,rfl,rfl⟩
  ·exact .inl h
  ·exact .inr ⟨_,c,rfl⟩
  ·exact .inr ⟨_,c,rfl⟩
 ·have n0:=Tryz.nn0
  go_enter Tryz.func116,Tryz.ntmps116
  go_wp2
  go_ret
  exact⟨_,rfl,World.ownsRow_nil _ _ _ _,Fr.refl _ _⟩
 ·have hx1:Src (w.alloc (.cells #[] 5)) (.slice (some a) l.length c) l:=hx.fr ((Fr.refl (fun _=>False) _).alloc _) (fun _ _ _ _ _ h=>h)
  obtain⟨ao,cap,w2,hr,hown,hgrow,hat⟩:=gb (w.alloc (.cells #[] 5)) 23 w.heap.size 0 (.slice (some ⟨w.heap.size,0,none⟩) 0 0) _ [] l (World.ownsRow_made w #[] 0 (Nat.le_refl _) (Nat.zero_le _) rfl) hx1 (by omega) (by simp)
  have HR:=ae hr
  have HA:=ae (And.intro hown hgrow)
  clear hr hown hgrow hat hx hx1
  have n1:=Tryz.nn1
  go_enter Tryz.func116,Tryz.ntmps116
  go_wp2_with (at_builtin;refine br rfl (.tmp 5) (.tmp 6) 23 23 rfl _ _ _ rfl rfl (aa HR) ?_)
  go_ret
  obtain⟨hown,hgrow⟩:=aa HA
  exact⟨_,rfl,by simpa using hown,((Fr.refl _ _).alloc _).grown hgrow (fun k hk=>.inr (by simp[Value.ownBlock] at hk;omega))⟩
theorem told_none (b:Nat) (w:World) (h1:w.cell? ⟨b,1,none⟩=some (.pointer none)) :
  Calls Tryz.prog 115 #[.pointer (some ⟨b,0,none⟩)] w fun e w'=>e = .returned .nilIface∧w'=w:=by
 go_enter Tryz.func115,Tryz.ntmps115
 go_wp2
 go_ret
 exact⟨rfl,rfl⟩
theorem nA (b fb place:Nat) (nm:ByteArray) (ea:Addr) (w:World) (h1:w.cell? ⟨b,1,none⟩=some (.pointer (some ⟨fb,0,none⟩))) (hf:w.heap[fb]?=some (aJ nm place ea)) :
  Calls Tryz.prog 115 #[.pointer (some ⟨b,0,none⟩)] w fun e w'=>e = .returned (.iface 78 (.pointer (some ⟨w.heap.size,0,none⟩)))∧w'=w.alloc (aJ nm place ea):=by
 have hc:∀ i,w.cell? ⟨fb,i,none⟩ = #[Value.string nm,.int .i64 place,.iface 339 (.pointer (some ea))][i]?:=fun i=>cell_of_row w fb i _ _ _ hf
 have c0:=hc 0
 have c1:=hc 1
 have c2:=hc 2
 simp at c0 c1 c2
 clear hc
 have HF:=ae hf
 clear hf
 go_enter Tryz.func115,Tryz.ntmps115
 go_wp2
 go_ret
 exact⟨rfl,rfl⟩
theorem W.src {w:World} {b:Nat} {F:Nat→Prop} {s:cL} (h:W w b F s) (hn:s.f=none):∃ sv,w.cell? ⟨b,2,none⟩=some sv∧Src w sv s.l:=by
 rcases h.st with ⟨h1,h2,sv,h3,h4,h5⟩|⟨what,place,ea,fb,h1,_⟩
 ·refine⟨sv,h3,?_⟩
  rcases h4.2 with ⟨rfl,e⟩|⟨g,cap,cur,rfl,hb,hg,hc⟩
  ·exact .inl ⟨rfl,List.eq_nil_of_length_eq_zero e⟩
  ·refine .inr (.inl ⟨g,0,cap,rfl,fun j v hv=>?_⟩)
   have:=h4.cells (g:=g) rfl j v hv
   have e:(⟨g,0,none⟩:Addr).add j=⟨g,0+j,none⟩:=by unfold Addr.add;split <;> simp_all
   rw[e] at this;exact this
 ·rw[hn] at h1;cases h1
theorem xb (b:Nat) (F:Nat→Prop) (s:cL) (w:World) (h:W w b F s) (hn:s.f=none) (hl:s.l.length≤140737488355328) :
  Calls Tryz.prog 69 #[.pointer (some ⟨b,0,none⟩)] w fun e w'=>∃ v,e = .returned (.tuple #[v,.nilIface])∧w'.ownsRow w.heap.size 5 1 v s.l.length (cellsOf s.l)∧Fr (fun _=>False) w w':=by
 obtain⟨sv,h2,hsrc⟩:=h.src hn
 have h1:w.cell? ⟨b,1,none⟩=some (.pointer none):=by
  rcases h.st with ⟨_,h2,_⟩|⟨what,place,ea,fb,h1,_⟩
  ·exact h2
  ·rw[hn] at h1;cases h1
 have HS:=ae hsrc
 clear hsrc hn h
 go_enter Tryz.func69,Tryz.ntmps69
 go_wp2_with (go_at_call 116;refine(jG sv s.l _ (aa HS) hl).mono ?_;rintro e w' ⟨v,rfl,hv,hf⟩)
 go_ret2
 exact⟨v,rfl,hv,hf⟩
theorem uM (b:Nat) (F:Nat→Prop) (s:cL) (what:ByteArray) (place:Nat) (ea:Addr) (w:World) (h:W w b F s) (hn:s.f=some (what,place,ea)) :
  Calls Tryz.prog 69 #[.pointer (some ⟨b,0,none⟩)] w fun e w'=>e = .returned (.tuple #[.slice none 0 0,.iface 78 (.pointer (some ⟨w.heap.size,0,none⟩))])∧w'=w.alloc (aJ what place ea):=by
 rcases h.st with ⟨h1,_⟩|⟨what',place',ea',fb,h1,h2,h3,h4⟩
 ·rw[hn] at h1;cases h1
 ·rw[hn] at h1
  cases h1
  have H4:=ae h4
  clear h4 h hn
  go_enter Tryz.func69,Tryz.ntmps69
  go_wp2_with (go_at_call 115;refine(nA b fb place what ea _ h2 (aa H4)).mono ?_;rintro e w' ⟨rfl,rfl⟩)
  go_ret2
  exact⟨rfl,rfl⟩
end Go.Proofs.YtdcopmkgmbiikaaGreatDoor
