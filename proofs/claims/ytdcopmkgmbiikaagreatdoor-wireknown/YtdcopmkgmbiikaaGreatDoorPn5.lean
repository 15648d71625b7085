import Derived.Test.YtdcopmkgmbiikaaGreatDoorPn4
import Derived.Test.YtdcopmkgmbiikaaGreatDoorPn2
import Derived.Laws.OwnMore
import Derived.Deep.MidRow
set_option maxRecDepth 100000
set_option maxHeartbeats 4000000
set_option linter.unusedSimpArgs false
namespace Go.Proofs.YtdcopmkgmbiikaaGreatDoor
open Go.RowKit
def n7 (v:cd):Bool:=(decide (v.kd≠1) && v.rq.is) || (decide (v.kd≠3) && v.an.is) || (decide (v.kd≠5) && v.ev.is) || (decide (v.kd≠6) && v.le != 0) || (decide (v.kd≠4) && v.co != 0) || (decide (v.kd≠2) && decide (v.kd≠4) && !(v.icl == 0 && v.inu == 0))
def zy (v:gr):List PT:=(C1 v.cl v.nu++[⟨fF,1,v.co,[],bC 0 10 5 v.co⟩,⟨dc,4,v.re,[],0⟩,⟨cg,4,v.ve,[],0⟩])++(tZ true false v.fs++CU v.hi)
def BJ (v:gw):List PT:=(⟨jA,4,v.pl,[],0⟩::rk v.rq)++[⟨fF,1,v.co,[],bC 0 10 5 v.co⟩,⟨fS,6,0,v.dg,cu 1 32 v.dg.length⟩]
def hD (v:cd):List PT:=if v.kd=1 then rk v.rq else if v.kd=2 then C1 v.icl v.inu else if v.kd=3 then zy v.an else if v.kd=4 then C1 v.icl v.inu++[⟨eW,1,v.co,[],bC 1 15 4 v.co⟩] else if v.kd=5 then BJ v.ev else if v.kd=6 then [⟨ck,4,v.le,[],0⟩] else []
def cJ (v:cd):List PT:=⟨ay,1,v.kd,[],if v.kd<1∨7<v.kd then 5 else if n7 v=true then 4 else 0⟩::hD v
theorem sG (n:Nat) (w:World) (hn:n≤8):∃ w',(Instr.makeSlice 23 (.int .i64 (n:Int)) (.int .i64 (n:Int))).run Tryz.prog w = .ok (.slice (some ⟨w.heap.size,0,none⟩) n n) w' ∧
  (∀ j,j<n→w'.cell? ⟨w.heap.size,j,none⟩=some (.int .u8 0))∧(∀ j,j<n→w'.frozen? ⟨w.heap.size,j,none⟩=false)∧Fr (fun _=>False) w w'∧∃ xs,w'.ownsRow w.heap.size 5 1 (.slice (some ⟨w.heap.size,0,none⟩) n n) n xs:=by
 have hz':(Tryz.prog.info? 5).bind (·.zero)=some (.int .u8 0):=by kernel_rfl
 have hs':(Tryz.prog.info? 5).map (·.size)=some 1:=by kernel_rfl
 have hb':(Tryz.prog.info? 5).map (·.bytes)=some 1:=by kernel_rfl
 obtain⟨i,hi,hz⟩:=Option.bind_eq_some_iff.1 hz'
 rw[hi] at hs' hb'
 have hs:i.size=1:=by simpa using hs'
 have hb:i.bytes=1:=by simpa using hb'
 obtain⟨w',hr,ho,hg⟩:=run_makeSlice_full (P:=Tryz.prog) w w.heap.size 23 5 i (.int .u8 0) 1 Tryz.underlying23 hi hz hs .i64 .i64 n (by omega) (by rw[hb];omega) (by simp only[maxLen];omega) (Nat.le_refl _)
 refine⟨w',hr,fun j hj=>?_,fun j hj=>?_,(Fr.refl _ _).grown hg (fun _ h=>by cases h),_,ho⟩
 ·have h:=ho.cells (g:=w.heap.size) rfl j (.int .u8 0) (by simp[madeCells,hj,Value.cells,Nat.mod_one])
  have e:(⟨w.heap.size,0,none⟩:Addr).add j=⟨w.heap.size,0+j,none⟩:=by unfold Addr.add;split <;> simp_all
  rw[e,Nat.zero_add] at h
  exact h
 ·exact ho.frozenAt j
def vd (w wr:World) (n v k:Nat):Prop:=
 (∀ j,j<n→wr.cell? ⟨w.heap.size,j,none⟩=some (if n - 1 - j<k then B (v / 256 ^ (n - 1 - j)) else .int .u8 0))∧(∀ j,j<n→wr.frozen? ⟨w.heap.size,j,none⟩=false)∧Fr (fun _=>False) w wr∧∃ xs,wr.ownsRow w.heap.size 5 1 (.slice (some ⟨w.heap.size,0,none⟩) n n) n xs
theorem vd.step {w wr:World} {m v k:Nat} (h:vd w wr (m+1+k) v k):vd w (wr.setCell ⟨w.heap.size,m,none⟩ (B (v / 256 ^ k))) (m+1+k) v (k+1):=by
 obtain⟨hc,hz,hf,xs,ho⟩:=h
 refine⟨fun j hj=>?_,fun j hj=>by rw[World.frozen?_setCell];exact hz j hj,Fr.setCell hf (.inr (Nat.le_refl _)) _,_,(ho.stored m _).1⟩
 by_cases e:j=m
 ·subst e
  rw[World.cell?_setCell_same _ _ _ (hc j hj),if_pos (by omega),show j+1+k - 1 - j=k from by omega]
 ·rw[World.cell?_setCell_other _ _ _ _ (by intro h;injection h with _ h2 _;exact e h2.symm),hc j hj]
  by_cases h1:m+1+k - 1 - j<k
  ·rw[if_pos h1,if_pos (by omega)]
  ·rw[if_neg h1,if_neg (by omega)]
theorem vd.own {w wr:World} {n v:Nat} (h:vd w wr n v n):wr.ownsRow w.heap.size 5 1 (.slice (some ⟨w.heap.size,0,none⟩) n n) n (cellsOf (be n v)):=by
 obtain⟨hc,_,_,xs,ho⟩:=h
 have hl:xs.length=n:=by simpa using ho.1
 have e:xs=cellsOf (be n v):=by
  apply List.ext_getElem (by rw[hl,eV,aS])
  intro j h1 h2
  have hlt:j<n:=by omega
  have a:=ho.cells (g:=w.heap.size) rfl j xs[j] (List.getElem?_eq_getElem h1)
  have e:(⟨w.heap.size,0,none⟩:Addr).add j=⟨w.heap.size,0+j,none⟩:=by unfold Addr.add;split <;> simp_all
  rw[e,Nat.zero_add,hc j hlt,if_pos (by omega)] at a
  rw[← Option.some.inj a]
  simp[cellsOf,be]
 rw[← e]
 exact ho
theorem p8 (v n:Nat) (w:World) (hn:n≤8) (hv:v<18446744073709551616):Calls Tryz.prog 49 #[.int .u64 v,.int .i64 n] w fun e w'=>e = .returned (.slice (some ⟨w.heap.size,0,none⟩) n n)∧w'.ownsRow w.heap.size 5 1 (.slice (some ⟨w.heap.size,0,none⟩) n n) n (cellsOf (be n v))∧Fr (fun _=>False) w w':=by
 obtain⟨w1,hmk,hc,hz,hf,ho⟩:=sG n w hn
 have H:=ae (And.intro hc (And.intro hz (And.intro hf ho)))
 clear hc hz hf ho
 have hwr:IntKind.i64.wrap ((n:Int) - 1)=(n:Int) - 1:=by rw[IntKind.wrap_i64];omega
 go_enter Tryz.func49,Tryz.ntmps49
 go_wp2_with fail
 go_loopw [0,6] (fun x i wr=>∃ k:Nat,k≤n∧i = .int .i64 ((n:Int) - 1 - k)∧x = .int .u64 ((v / 256 ^ k:Nat))∧vd w wr n v k) (fun _ i _=>(intOf i+1).toNat)
 case atStart=>exact⟨0,Nat.zero_le _,by simp,by simp,fun j hj=>by rw[if_neg (by omega)];exact(aa H).1 j hj,(aa H).2.1,(aa H).2.2.1,(aa H).2.2.2⟩
 case round =>
  obtain⟨k,hk,rfl,rfl,hI⟩:=hrel
  rename World=>wr
  by_cases hlt:k<n
  ·obtain⟨m,rfl⟩:∃ m,n=m+1+k:=⟨n - 1 - k,by omega⟩
   have hcell:wr.cell? ⟨w.heap.size,m,none⟩=some (.int .u8 0):=by rw[hI.1 m (by omega),if_neg (by omega)]
   have hfr:=hI.2.1 m (by omega)
   have hy:v / 256 ^ k<18446744073709551616:=Nat.lt_of_le_of_lt (Nat.div_le_self _ _) hv
   have hst:=hI.step
   have hnx:v / 256 ^ (k+1)=v / 256 ^ k / 256:=by rw[Nat.pow_succ,Nat.div_div_eq_div_mul]
   have HS:=ae (And.intro hst hnx)
   clear hst hnx hI
   have hix:((m+1+k:Nat):Int) - 1 - k=(m:Int):=by omega
   rw[hix]
   generalize hyy:v / 256 ^ k=y at *
   go_wp2
   refine⟨⟨k+1,by omega,congrArg (Value.int .i64) (by omega),congrArg (Value.int .u64) (by rw[(aa HS).2];omega),?_⟩,by simp[intOf]⟩
   have h:=(aa HS).1
   rw[show B y=Value.int .u8 ((y:Int) % 256) from by simp[B]] at h
   exact h
  ·have hkn:k=n:=by omega
   subst hkn
   go_wp2
   go_ret
   exact⟨rfl,hI.own,hI.2.2.1⟩
theorem gZ (v n:Nat) (w:World) (hn:n≤8) (hv:v<18446744073709551616):Calls Tryz.prog 49 #[.int .u64 v,.int .i64 n] w fun e w'=>∃ x,e = .returned x∧w'.ownsRow w.heap.size 5 1 x n (cellsOf (be n v))∧Fr (fun _=>False) w w':=
 (p8 v n w hn hv).mono (fun _ _ h=>⟨_,h.1,h.2.1,h.2.2⟩)
theorem iu {P:Program} {fn:Func} {p u:Tmp} {ty:TypeId} (h:fn.results = #[.tmp u,.cell p ty]) (tmps:Array Value) (w:World) (b o:Nat) (cs:List Value) (d:TypeDesc) (x:Value)
  (hp:tmps.getD p undef = .pointer (some ⟨b,o,none⟩)) (hx:tmps.getD u undef=x) (hc:w.rangeAt b o cs)
  (hu:P.underlying ty=some d) (hd:d.isRow=true) (hi:(P.info? ty).map (·.size)=some cs.length) :
  (results fn tmps).run P w = .ok (.tuple #[x,.agg cs.toArray]) w:=by
 have hp':tmps[p]?.getD undef = .pointer (some ⟨b,o,none⟩):=by simpa using hp
 have hx':tmps[u]?.getD undef=x:=by simpa using hx
 simp[results,h,hp',hx',asAddr,run_loadVar_mid w b o ty cs d hc hu hd hi]
theorem Tryz.jR:(Tryz.prog.info? 55).map (·.size)=some 3:=by kernel_rfl
def CV (f:Option (ByteArray × Nat × Nat)):List Value:=[.string (dn f).1,.int .i64 ((dn f).2.1:Nat),.int .i64 ((dn f).2.2:Nat)]
def j7 (L:List PT):Nat:=(L.map fun p=>8+p.b.length).sum
theorem ti (p:PT) (hk:p.k=1∨p.k=4∨p.k=5∨p.k=6):p.by.length≤8+p.b.length:=by
 unfold PT.by
 rcases hk with h|h|h|h <;> simp[h,be] <;> omega
theorem jv {P:Program} {w w':World} {ops:Array Oper} {op:Oper} {a:Act} {K:Act→World→Prop} {Q:Exit→Act→World→Prop} {E:Prop} (hgd:op.guard=none) (ty:TypeId) (x y:Operand) (ho:op.op = .store ty x y)
  (p v:Value) (hx:a.eval x=p) (hy:a.eval y=v) (hr:(Instr.storeAt ty p v).run P w = .ok () w')
  (h:K (a.put op.dst undef) w'):if Region.wanted op (yielded ops a.tmps)=true then Oper.wp P op a w K Q else E:=by
 have hw:Region.wanted op (yielded ops a.tmps)=true:=by simp[Region.wanted,hgd]
 rw[if_pos hw]
 unfold Oper.wp execOp
 simp only[ho,hx,hy,Sem.run_bind,hr,Result.andThen_ok,Sem.run_pure]
 exact h
theorem ja {w0 wr w3:World} {tv nx:Value} {out l:List Nat} (base:Nat) (hrow:wr.ownsRow base 5 1 tv out.length (cellsOf out)) (hf0:Fr (fun _=>False) w0 wr) (hbase:w0.heap.size≤base) (hf:Fr (fun _=>False) wr w3) (hs:Src w3 nx l) (hb:out.length+l.length≤140737488355328) (hb3:base≤wr.heap.size) :
  ∃ ao cap w4,(Builtin.append_ #[23,23] 23 #[tv,nx]).run Tryz.prog w3 = .ok (.slice ao (out.length+l.length) cap) w4∧w4.ownsRow base 5 1 (.slice ao (out.length+l.length) cap) (out++l).length (cellsOf (out++l))∧Fr (fun _=>False) w0 w4∧Fr (fun g=>tv.ownBlock=some g) w3 w4:=by
 have h3:=av (w':=w3) hrow (fun g hg=>hf.block g (hrow.lt g hg).2 (fun h=>h))
 obtain⟨ao,cap,w4,hr,hown,hgrow,_⟩:=gb w3 23 base out.length tv nx _ l h3 hs hb (Nat.le_trans hb3 hf.size)
 exact⟨ao,cap,w4,hr,by rw[List.length_append,eT];exact hown,(hf0.trans hf (fun _ _ h=>h)).grown hgrow (fun g hg=>.inr (Nat.le_trans hbase (hrow.lt g hg).1)),(Fr.refl _ w3).grown hgrow (fun g hg=>.inl hg)⟩
structure PI (w wr:World) (tv:Value) (i:Nat) (out:List Nat) (form:Nat) (L:List PT):Prop where
 row:wr.ownsRow (w.heap.size+1) 5 1 tv out.length (cellsOf out)
 eq:eH [form] L=eH out (L.drop i)
 ln:out.length≤1+j7 (L.take i)
 fr:Fr (fun _=>False) (w.alloc (.cells #[.string ⟨#[]⟩,.int .i64 0,.int .i64 0] 55)) wr
theorem xr (form:Nat) (hform:form<256) (xo:Option Addr) (xc:Nat) (L:List PV) (w:World) (hcap:L.length≤xc) (hc:∀ j u,(L.flatMap PV.cs)[j]?=some u→∃ g o,xo=some ⟨g,o,none⟩∧w.cell? ⟨g,o+j,none⟩=some u) (hin:∀ q∈L,q.In w)
  (hk:∀ q∈L,(q.p.k=1∨q.p.k=4∨q.p.k=5∨q.p.k=6)∧q.p.u<18446744073709551616∧q.p.b.length<9223372036854775808) (hb:j7 (L.map PV.p)≤100000000000000) (hl:L.length≤16777216) :
  Calls Tryz.prog 23 #[.int .i64 (form:Nat),.slice xo L.length xc] w fun e w'=>∃ x,e = .returned (.tuple #[x,.agg (CV (eH [form] (L.map PV.p)).2).toArray])∧w'.ownsRow w.heap.size 5 1 x (eH [form] (L.map PV.p)).1.length (cellsOf (eH [form] (L.map PV.p)).1)∧Fr (fun _=>False) w w':=by
 have hcf:IntKind.u8.wrap (form:Int)=(form:Int):=by rw[IntKind.wrap_u8];omega
 have HC:=ae (And.intro hcap (And.intro hc (And.intro hin (And.intro hk (And.intro hb hl)))))
 clear hcap hc hin hk hb
 go_enter Tryz.func23,Tryz.ntmps23
 go_wp2_with fail
 go_loopw [6,7] (fun tv iv wr=>∃ (i:Nat) (out:List Nat),i≤L.length∧iv = .int .i64 (i:Nat)∧PI w wr tv i out form (L.map PV.p)) (fun _ iv _=>L.length - (intOf iv).toNat)
 case atStart =>
  refine⟨0,[form],Nat.zero_le _,rfl,?_,rfl,by simp[j7],al _ _⟩
  have:=World.ownsRow_lit (base:=w.heap.size+1) (e:=5) (size:=1) (w.alloc (.cells #[.string ⟨#[]⟩,.int .i64 0,.int .i64 0] 55)) #[.int .u8 (form:Nat)] 1 (by simp) (by simp[maxLen]) rfl
  have e:cellsOf [form]=[.int .u8 (form:Nat)]:=by simp[cellsOf,B];omega
  rw[e]
  simpa using this
 case round =>
  obtain⟨i,out,hi,rfl,hI⟩:=hrel
  rename World=>wr
  have hw1:=Cw i (by omega)
  by_cases hlt:i<L.length
  ·obtain⟨q,hq⟩:∃ q,L[i]=q:=⟨_,rfl⟩
   have hgi:L[i]?=some q:=by rw[List.getElem?_eq_getElem hlt,hq]
   have hqm:q∈L:=List.mem_of_getElem? hgi
   have hin:=(aa HC).2.2.1 q hqm
   have hkk:=(aa HC).2.2.2.1 q hqm
   have hmap:(L.map PV.p)[i]?=some q.p:=by rw[List.getElem?_map,hgi];rfl
   have hdrop:(L.map PV.p).drop i=q.p::(L.map PV.p).drop (i+1):=by
    obtain⟨h1,h2⟩:=List.getElem?_eq_some_iff.1 hmap
    rw[List.drop_eq_getElem_cons h1,h2]
   have htk:j7 ((L.map PV.p).take (i+1))=j7 ((L.map PV.p).take i)+(8+q.p.b.length):=by
    rw[List.take_add_one,hmap,Option.toList_some]
    simp[j7]
   have hfw:Fr (fun _=>False) w wr:=(al w _).trans hI.fr (fun _ _ h=>h)
   obtain⟨g,o,exo,k0⟩:=(aa HC).2.1 (i * 5) _ (by have:=sH L i 0 q hgi (by omega);rw[Nat.add_zero] at this;exact this)
   subst exo
   have HRq:=ae (show wr.rangeAt g (o+i * 5) q.cs from fun j v hv=>by
    have hj:j<5:=(List.getElem?_eq_some_iff.1 hv).1
    obtain⟨g',o',e',kc⟩:=(aa HC).2.1 (i * 5+j) v (by rw[sH L i j q hgi hj];exact hv)
    cases e'
    rw[← Nat.add_assoc] at kc
    exact(hfw.cell (p:=⟨g,o+i * 5+j,none⟩) (ab kc) (fun h=>h)).trans kc)
   have hbt:j7 ((L.map PV.p).take (i+1))≤j7 (L.map PV.p):=by
    have:=congrArg j7 (List.take_append_drop (i+1) (L.map PV.p))
    have e2:∀ a b:List PT,j7 (a++b)=j7 a+j7 b:=fun a b=>by simp[j7]
    rw[e2] at this
    omega
   have hbl:=(aa HC).2.2.2.2.1
   have hol:out.length+8+q.p.b.length≤100000000000001:=by have:=hI.ln;omega
   have HQ:=ae (And.intro hdrop (And.intro htk (And.intro hin hfw)))
   obtain⟨⟨nm,k,u,b,wy⟩,x⟩:=q
   obtain⟨yo,yc,ex⟩:=hin.src.form
   simp only at ex
   subst ex
   have hcap2:(i:Int)<(xc:Int):=by have:=(aa HC).1;omega
   have hlt2:(i:Int)<(L.length:Int):=by omega
   obtain⟨hkk,hu,hbn⟩:=hkk
   simp only at hkk hu hbn hol
   have HI:=ae (And.intro hI hol)
   have hln:=(aa HI).1.row.1
   obtain⟨ta,tc,etv⟩:=di hI.row
   subst etv
   clear hI hgi hq hqm hin hmap hdrop htk hfw k0 hbt hbl hol hln
   by_cases hw:wy=0
   ·subst hw
    rcases hkk with rfl|rfl|rfl|rfl
    ·have HR:=ae (show wr.rangeAt g (o+i * 5) [.string nm,.int .i64 1,.int .u64 (u:Nat),.slice yo b.length yc,.int .i64 0] from aa HRq)
     clear HRq hcf
     go_wp2_with (refine wpList_load_mid rfl 110 (.tmp 20) rfl g (o+i * 5) rfl _ _ (aa HR) Tryz.underlying110 rfl Tryz.cX ?_)
     refine(gZ u 1 _ (by decide) hu).mono ?_
     rintro e w3 ⟨nx,rfl,hno,hnf⟩
     have hf3:Fr (fun _=>False) wr w3:=(al wr _).trans hnf (fun _ _ h=>h)
     have hsrc:Src w3 nx (be 1 u):=bR (by rw[aS];exact hno)
     obtain⟨ao,cap,w4,hr,hrow4,hf4,hg4⟩:=ja (w.heap.size+1) (aa HI).1.row (aa HI).1.fr (by simp) hf3 hsrc (by rw[aS];have:=(aa HI).2;omega) (by have:=(aa HI).1.fr.size;simpa using this)
     have hPI:PI w w4 (.slice ao (out.length+(be 1 u).length) cap) (i+1) (out++be 1 u) form (L.map PV.p):=⟨hrow4,by rw[(aa HI).1.eq,(aa HQ).1];rfl,by have:=(aa HI).1.ln;have h2:=(aa HQ).2.1;rw[List.length_append,aS];(try simp only at h2);omega,hf4⟩
     have HR4:=ae hr
     have HP4:=ae hPI
     clear hr hrow4 hf4 hPI hsrc hf3 hno hnf HR HI HQ
     go_wp2_with (at_builtin;refine br rfl (.tmp 54) (.tmp 59) 23 23 rfl _ _ _ (by simp[Act.eval]) (by simp[Act.eval]) (aa HR4) ?_)
     go_roundw
     case rel=>exact⟨i+1,_,by omega,by go_num,aa HP4⟩
     case measure=>simp[intOf];omega
    ·have HR:=ae (show wr.rangeAt g (o+i * 5) [.string nm,.int .i64 4,.int .u64 (u:Nat),.slice yo b.length yc,.int .i64 0] from aa HRq)
     clear HRq hcf
     go_wp2_with (refine wpList_load_mid rfl 110 (.tmp 20) rfl g (o+i * 5) rfl _ _ (aa HR) Tryz.underlying110 rfl Tryz.cX ?_)
     refine(gZ u 4 _ (by decide) hu).mono ?_
     rintro e w3 ⟨nx,rfl,hno,hnf⟩
     have hf3:Fr (fun _=>False) wr w3:=(al wr _).trans hnf (fun _ _ h=>h)
     have hsrc:Src w3 nx (be 4 u):=bR (by rw[aS];exact hno)
     obtain⟨ao,cap,w4,hr,hrow4,hf4,hg4⟩:=ja (w.heap.size+1) (aa HI).1.row (aa HI).1.fr (by simp) hf3 hsrc (by rw[aS];have:=(aa HI).2;omega) (by have:=(aa HI).1.fr.size;simpa using this)
     have hPI:PI w w4 (.slice ao (out.length+(be 4 u).length) cap) (i+1) (out++be 4 u) form (L.map PV.p):=⟨hrow4,by rw[(aa HI).1.eq,(aa HQ).1];rfl,by have:=(aa HI).1.ln;have h2:=(aa HQ).2.1;rw[List.length_append,aS];(try simp only at h2);omega,hf4⟩
     have HR4:=ae hr
     have HP4:=ae hPI
     clear hr hrow4 hf4 hPI hsrc hf3 hno hnf HR HI HQ
     go_wp2_with (at_builtin;refine br rfl (.tmp 54) (.tmp 59) 23 23 rfl _ _ _ (by simp[Act.eval]) (by simp[Act.eval]) (aa HR4) ?_)
     go_roundw
     case rel=>exact⟨i+1,_,by omega,by go_num,aa HP4⟩
     case measure=>simp[intOf];omega
    ·have HR:=ae (show wr.rangeAt g (o+i * 5) [.string nm,.int .i64 5,.int .u64 (u:Nat),.slice yo b.length yc,.int .i64 0] from aa HRq)
     clear HRq hcf
     go_wp2_with (refine wpList_load_mid rfl 110 (.tmp 20) rfl g (o+i * 5) rfl _ _ (aa HR) Tryz.underlying110 rfl Tryz.cX ?_)
     refine(gZ u 4 _ (by decide) hu).mono ?_
     rintro e w3 ⟨nx,rfl,hno,hnf⟩
     have hf3:Fr (fun _=>False) wr w3:=(al wr _).trans hnf (fun _ _ h=>h)
     have hsrc:Src w3 nx (be 4 u):=bR (by rw[aS];exact hno)
     obtain⟨ao,cap,w4,hr,hrow4,hf4,hg4⟩:=ja (w.heap.size+1) (aa HI).1.row (aa HI).1.fr (by simp) hf3 hsrc (by rw[aS];have:=(aa HI).2;omega) (by have:=(aa HI).1.fr.size;simpa using this)
     have hPI:PI w w4 (.slice ao (out.length+(be 4 u).length) cap) (i+1) (out++be 4 u) form (L.map PV.p):=⟨hrow4,by rw[(aa HI).1.eq,(aa HQ).1];rfl,by have:=(aa HI).1.ln;have h2:=(aa HQ).2.1;rw[List.length_append,aS];(try simp only at h2);omega,hf4⟩
     have HR4:=ae hr
     have HP4:=ae hPI
     clear hr hrow4 hf4 hPI hsrc hf3 hno hnf HR HI HQ
     go_wp2_with (at_builtin;refine br rfl (.tmp 49) (.tmp 52) 23 23 rfl _ _ _ (by simp[Act.eval]) (by simp[Act.eval]) (aa HR4) ?_)
     go_roundw
     case rel=>exact⟨i+1,_,by omega,by go_num,aa HP4⟩
     case measure=>simp[intOf];omega
    ·have HR:=ae (show wr.rangeAt g (o+i * 5) [.string nm,.int .i64 6,.int .u64 (u:Nat),.slice yo b.length yc,.int .i64 0] from aa HRq)
     have hcl:IntKind.u64.wrap (b.length:Int)=(b.length:Int):=by rw[IntKind.wrap_u64];omega
     clear HRq hcf
     go_wp2_with (refine wpList_load_mid rfl 110 (.tmp 20) rfl g (o+i * 5) rfl _ _ (aa HR) Tryz.underlying110 rfl Tryz.cX ?_)
     refine(gZ b.length 4 _ (by decide) (by omega)).mono ?_
     rintro e w3 ⟨nx,rfl,hno,hnf⟩
     have hf3:Fr (fun _=>False) wr w3:=(al wr _).trans hnf (fun _ _ h=>h)
     have hsrc:Src w3 nx (be 4 b.length):=bR (by rw[aS];exact hno)
     obtain⟨ao,cap,w4,hr,hrow4,hf4,hg4⟩:=ja (w.heap.size+1) (aa HI).1.row (aa HI).1.fr (by simp) hf3 hsrc (by rw[aS];have:=(aa HI).2;omega) (by have:=(aa HI).1.fr.size;simpa using this)
     have hs4:w.heap.size+1≤w4.heap.size:=by have:=hf4.size;simpa using this
     have hsx:Src w4 (.slice yo b.length yc) b:=((aa HQ).2.2.1.aR ((al w _).trans hf4 (fun _ _ h=>h))).src
     obtain⟨ao2,cap2,w5,hr2,hrow5,hf5,_⟩:=ja (w.heap.size+1) hrow4 hf4 (by simp) (Fr.refl _ w4) hsx (by rw[List.length_append,aS];have:=(aa HI).2;omega) hs4
     have hPI:PI w w5 (.slice ao2 ((out++be 4 b.length).length+b.length) cap2) (i+1) (out++be 4 b.length++b) form (L.map PV.p):=⟨hrow5,by rw[(aa HI).1.eq,(aa HQ).1,List.append_assoc];rfl,by have:=(aa HI).1.ln;have h2:=(aa HQ).2.1;rw[List.length_append,List.length_append,aS];(try simp only at h2);omega,hf5⟩
     rw[List.length_append] at hr2 hPI
     have HR4:=ae hr
     have HR5:=ae hr2
     have HP4:=ae hPI
     have c83:w4.cell? ⟨wr.heap.size,3,none⟩=some (.slice yo b.length yc):=by
      have h0:=(hnf.block wr.heap.size (by simp) (fun h=>h)).trans (heap_alloc_new wr (.cells #[.string nm,.int .i64 6,.int .u64 (u:Nat),.slice yo b.length yc,.int .i64 0] 110))
      exact ag ((hg4.block wr.heap.size (lt_of_block h0) (fun e=>by have:=((aa HI).1.row.lt _ e).2;omega)).trans h0) rfl
     clear hr hr2 hrow4 hrow5 hf4 hf5 hPI hsrc hsx hf3 hno hnf HR HI HQ
     go_wp2_with (at_builtin;first|refine br rfl (.tmp 35) (.tmp 40) 23 23 rfl _ _ _ (by simp[Act.eval]) (by simp[Act.eval]) (aa HR4) ?_|refine br rfl (.tmp 42) (.tmp 44) 23 23 rfl _ _ _ (by simp[Act.eval]) (by simp[Act.eval]) (aa HR5) ?_)
     go_roundw
     case rel=>exact⟨i+1,_,by omega,by go_num,aa HP4⟩
     case measure=>simp[intOf];omega
   ·have hwb:((wy:Int) != 0)=true:=by simp[hw]
    have HR:=ae (show wr.rangeAt g (o+i * 5) [.string nm,.int .i64 (k:Nat),.int .u64 (u:Nat),.slice yo b.length yc,.int .i64 (wy:Nat)] from aa HRq)
    clear HRq hcf
    go_wp2_with (refine wpList_load_mid rfl 110 (.tmp 20) rfl g (o+i * 5) rfl _ _ (aa HR) Tryz.underlying110 rfl Tryz.cX ?_)
    have hW2:Fr (fun _=>False) wr (wr.alloc (.cells #[.string nm,.int .i64 (k:Nat),.int .u64 (u:Nat),.slice yo b.length yc,.int .i64 (wy:Nat)] 110)):=al wr _
    have hbq:=heap_alloc_new wr (.cells #[.string nm,.int .i64 (k:Nat),.int .u64 (u:Nat),.slice yo b.length yc,.int .i64 (wy:Nat)] 110)
    obtain⟨W2,hW⟩:∃ W2,wr.alloc (.cells #[.string nm,.int .i64 (k:Nat),.int .u64 (u:Nat),.slice yo b.length yc,.int .i64 (wy:Nat)] 110)=W2:=⟨_,rfl⟩
    rw[hW] at hW2 hbq
    rw[hW]
    have HS:Hid (∀ W',Fr (fun _=>False) W2 W'→W'.cell? ⟨wr.heap.size,0,none⟩=some (.string nm)∧W'.cell? ⟨wr.heap.size,4,none⟩=some (.int .i64 (wy:Nat))):=ae (fun W' hf=>by
     have hb:=(hf.block _ (lt_of_block hbq) (fun h=>h)).trans hbq
     exact⟨ag hb rfl,ag hb rfl⟩)
    have hfW:Fr (fun _=>False) (w.alloc (.cells #[.string ⟨#[]⟩,.int .i64 0,.int .i64 0] 55)) W2.drew:=((aa HI).1.fr.trans hW2 (fun _ _ h=>h)).drew
    have hb0:=(hfW.block w.heap.size (by simp) (fun h=>h)).trans (heap_alloc_new w (.cells #[.string ⟨#[]⟩,.int .i64 0,.int .i64 0] 55))
    obtain⟨W4,hst,hb4,hf4⟩:=bz (P:=Tryz.prog) (ty:=55) [.string ⟨#[]⟩,.int .i64 0,.int .i64 0] [.string nm,.int .i64 (out.length:Nat),.int .i64 (wy:Nat)] hb0 rfl Tryz.jR (by simp[Value.oneCell'])
    have hfin:Fr (fun _=>False) w W4:=fW ((al w _).trans hfW (fun _ _ h=>h)) hf4 (fun i hi=>by rw[hi];exact Nat.le_refl _)
    have he:eH [form] (L.map PV.p)=([],some (nm,out.length,wy)):=by
     rw[(aa HI).1.eq,(aa HQ).1]
     unfold eH
     rw[if_pos hw]
    have HS4:Hid (W4.cell? ⟨wr.heap.size,0,none⟩=some (.string nm)∧W4.cell? ⟨wr.heap.size,4,none⟩=some (.int .i64 (wy:Nat))):=ae (by
     have hb:=(hf4.block wr.heap.size (by have:=lt_of_block hbq;simpa using this) (fun e=>by have:=(aa HI).1.fr.size;simp at this;omega)).trans (show W2.drew.heap[wr.heap.size]?=_ from hbq)
     exact⟨ag hb rfl,ag hb rfl⟩)
    have HST:=ae hst
    have HX:=ae (And.intro he (And.intro hfin hb4))
    clear hst hb4 hf4 hfin he hb0 hfW hW2 hbq hW
    refine wp_region_held_drew (S:=(fun W:World=>W.cell? ⟨wr.heap.size,0,none⟩=some (.string nm)∧W.cell? ⟨wr.heap.size,4,none⟩=some (.int .i64 (wy:Nat)))) (by kernel_rfl) ((aa HS) _ (Fr.refl _ _).drew) (fun hHeld=>?_)
    refine gA (i:=0) rfl hHeld ?_
    (try simp only[Act.put,bd])
    refine gA (i:=1) rfl hHeld ?_
    (try simp only[Act.put,bd])
    refine gA (i:=2) rfl hHeld ?_
    (try simp only[Act.put,bd])
    refine gA (i:=3) rfl hHeld ?_
    (try simp only[Act.put,bd])
    refine gA (i:=4) rfl hHeld ?_
    (try simp only[Act.put,bd])
    refine gA (i:=5) rfl hHeld ?_
    (try simp only[Act.put,bd])
    refine gA (i:=6) rfl hHeld ?_
    (try simp only[Act.put,bd])
    refine gA (i:=7) rfl hHeld ?_
    (try simp only[Act.put,bd])
    refine wpAnyH_ready (rs:=[8]) (by kernel_rfl) (by simp) (AllReadyH.cons rfl (fun K hK=>?_) AllReadyH.nil)
    refine jv rfl 55 (.tmp 5) (.tmp 31) rfl _ _ (by simp[Act.eval]) (by simp[Act.eval]) (aa HST) ?_
    refine hK.out _ _ (aa HS4) (fun hHeld=>?_)
    clear hK K
    (try simp only[Act.put,bd])
    refine wpAnyH_done (by kernel_rfl) ?_ _
    clear hHeld
    go_wp2_with fail
    rw[(aa HX).1]
    exact bodyPost_ret (iu rfl _ _ w.heap.size 0 [.string nm,.int .i64 (out.length:Nat),.int .i64 (wy:Nat)] _ _ rfl rfl (af (aa HX).2.2) Tryz.underlying55 rfl Tryz.jR) rfl ⟨_,rfl,World.ownsRow_nil _ _ _ _,(aa HX).2.1⟩
  ·obtain rfl:i=L.length:=by omega
   have hb0:=(hI.fr.block w.heap.size (by simp) (fun h=>h)).trans (heap_alloc_new w (.cells #[.string ⟨#[]⟩,.int .i64 0,.int .i64 0] 55))
   obtain⟨W4,hst,hb4,hf4⟩:=bz (P:=Tryz.prog) (ty:=55) [.string ⟨#[]⟩,.int .i64 0,.int .i64 0] [.string ⟨#[]⟩,.int .i64 0,.int .i64 0] hb0 rfl Tryz.jR (by simp[Value.oneCell'])
   have hfin:Fr (fun _=>False) w W4:=fW ((al w _).trans hI.fr (fun _ _ h=>h)) hf4 (fun i hi=>by rw[hi];exact Nat.le_refl _)
   have hrow:W4.ownsRow (w.heap.size+1) 5 1 _ out.length (cellsOf out):=av hI.row (fun g hg=>hf4.block g (hI.row.lt g hg).2 (fun e=>by have:=(hI.row.lt g hg).1;omega))
   have he:eH [form] (L.map PV.p)=(out,none):=by
    rw[hI.eq,List.drop_eq_nil_of_le (by simp)]
    rfl
   have HST:=ae hst
   have HX:=ae (And.intro hrow (And.intro he (And.intro hfin hb4)))
   clear hst hb4 hf4 hfin hrow he hb0 hI
   go_wp2_with (refine aA rfl 55 (.tmp 5) (.tmp 62) rfl _ _ rfl rfl (aa HST) ?_)
   rw[(aa HX).2.1]
   refine bodyPost_ret (iu rfl _ _ w.heap.size 0 [.string ⟨#[]⟩,.int .i64 0,.int .i64 0] _ _ rfl rfl (af (aa HX).2.2.2) Tryz.underlying55 rfl Tryz.jR) rfl ⟨_,rfl,aH (aa HX).1 (by omega),(aa HX).2.2.1⟩
theorem CE {n:Nat} (h:n<18446744073709551616):IntKind.u64.wrap ((n:Nat):Int)=(n:Int):=by rw[IntKind.wrap_u64];omega
theorem Tryz.kU:(Tryz.prog.info? 30).map (·.size)=some 10:=by kernel_rfl
theorem Bl.one {B lo:Nat} {p:PT} : Bl B lo [⟨p,.slice none 0 0⟩]:=Bl.Dq _ _ (fun q hq=>by obtain rfl:=List.mem_singleton.1 hq;rfl)
theorem ny (m:Nat):(((m:Nat):Int) == 0) = !(m != 0):=by
 rw[Bool.eq_iff_iff]
 simp
theorem ft (v:dv) (xo:Option Addr) (xc:Nat) (w:World) (hv:v.ok) (hn:v.fs.length<9223372036854775808):Calls Tryz.prog 122 #[.agg (v.aL (.slice xo v.fs.length xc))] w fun e w'=>e = .returned (.bool (!v.is))∧Fr (fun _=>False) w w':=by
 obtain⟨cl,nu,ac,op,re,ve,wa,ow,fs,rs⟩:=v
 obtain⟨h1,h2,h3,h4,h5,h6,h7,h8,h9⟩:=hv
 simp only[dv.aL] at *
 obtain⟨n,hfs⟩:∃ n,fs.length=n:=⟨_,rfl⟩
 rw[hfs] at hn ⊢
 go_enter Tryz.func122,Tryz.ntmps122
 go_wp2_with fail
 all_goals
  go_ret
  refine⟨?_,al _ _⟩
  simp_all [dv.is]
theorem jP (v:gr) (xo:Option Addr) (xc:Nat) (yo:Option Addr) (yc:Nat) (w:World) (hv:v.ok) (hn:v.fs.length<9223372036854775808) (hm:v.hi.length<9223372036854775808):Calls Tryz.prog 123 #[.agg (v.aL (.slice xo v.fs.length xc) (.slice yo v.hi.length yc))] w fun e w'=>e = .returned (.bool (!v.is))∧Fr (fun _=>False) w w':=by
 obtain⟨cl,nu,co,re,ve,fs,hi⟩:=v
 obtain⟨h1,h2,h3,h4,h5⟩:=hv
 simp only[gr.aL] at *
 obtain⟨n,hfs⟩:∃ n,fs.length=n:=⟨_,rfl⟩
 obtain⟨m,hhi⟩:∃ m,hi.length=m:=⟨_,rfl⟩
 rw[hfs] at hn ⊢
 rw[hhi] at hm ⊢
 go_enter Tryz.func123,Tryz.ntmps123
 go_wp2_with fail
 all_goals
  go_ret
  refine⟨?_,al _ _⟩
  simp_all [gr.is,ny]
theorem ks (v:gw) (xo:Option Addr) (xc:Nat) (yo:Option Addr) (yc:Nat) (w:World) (hv:v.ok) (hn:v.rq.fs.length<9223372036854775808) (hm:v.dg.length<9223372036854775808):Calls Tryz.prog 124 #[.agg (v.aL (.slice xo v.rq.fs.length xc) (.slice yo v.dg.length yc))] w fun e w'=>e = .returned (.bool (!v.is))∧Fr (fun _=>False) w w':=by
 obtain⟨pl,rq,co,dg⟩:=v
 obtain⟨h1,h2,h3⟩:=hv
 simp only at h1 h2 h3 hn hm
 have HR:Hid (∀ wx,Calls Tryz.prog 122 #[.agg (rq.aL (.slice xo rq.fs.length xc))] wx fun e w'=>e = .returned (.bool (!rq.is))∧Fr (fun _=>False) wx w'):=fun wx=>ft rq xo xc wx h2 hn
 obtain⟨B,hB⟩:∃ B,rq.is=B:=⟨_,rfl⟩
 simp only[dv.aL,hB] at HR
 have HB:=ae hB
 clear hB
 simp only[gw.aL]
 obtain⟨m,hdg⟩:∃ m,dg.length=m:=⟨_,rfl⟩
 rw[hdg] at hm ⊢
 go_enter Tryz.func124,Tryz.ntmps124
 go_wp2_with (go_at_call 122;refine((aa HR) _).mono ?_;rintro e w1 ⟨rfl,hf1⟩;have HF:=ae ((al w _).trans hf1 (fun _ _ h=>h));clear hf1)
 all_goals
  go_ret
  refine⟨?_,?_⟩
  ·have hB:=aa HB
   clear HB HR
   simp_all [gw.is,ny]
  ·first|exact aa HF|exact al _ _
theorem Tryz.ie:(Tryz.prog.info? 42).map (·.size)=some 35:=by kernel_rfl
structure Bb (w:World) (g:Nat) (v:cd) (x0 x1 x2 x3 x4:Value):Prop where
 c0:w.cell? ⟨g,0,none⟩=some (.int .u8 (v.kd:Nat))
 r:ou w g 1 v.rq x0
 c11:w.cell? ⟨g,11,none⟩=some (.int .u32 (v.icl:Nat))
 c12:w.cell? ⟨g,12,none⟩=some (.int .u32 (v.inu:Nat))
 a:yN w g 13 v.an x1 x2
 c20:w.cell? ⟨g,20,none⟩=some (.int .u8 (v.co:Nat))
 e:rA w g 21 v.ev x3 x4
 c34:w.cell? ⟨g,34,none⟩=some (.int .u32 (v.le:Nat))
theorem Bb.range {w:World} {g:Nat} {v:cd} {x0 x1 x2 x3 x4:Value} (h:Bb w g v x0 x1 x2 x3 x4):w.rangeAt g 0 (v.aL x0 x1 x2 x3 x4).toList:=by
 intro j u hu
 rw[Nat.zero_add]
 have hj:j<35:=(List.getElem?_eq_some_iff.1 hu).1
 match j,hj with
 | 0,_=>exact(Option.some.inj hu) ▸ h.c0
 | 1,_=>exact(Option.some.inj hu) ▸ h.r.c0
 | 2,_=>exact(Option.some.inj hu) ▸ h.r.c1
 | 3,_=>exact(Option.some.inj hu) ▸ h.r.c2
 | 4,_=>exact(Option.some.inj hu) ▸ h.r.c3
 | 5,_=>exact(Option.some.inj hu) ▸ h.r.c4
 | 6,_=>exact(Option.some.inj hu) ▸ h.r.c5
 | 7,_=>exact(Option.some.inj hu) ▸ h.r.c6
 | 8,_=>exact(Option.some.inj hu) ▸ h.r.c7
 | 9,_=>exact(Option.some.inj hu) ▸ h.r.c8
 | 10,_=>exact(Option.some.inj hu) ▸ h.r.c9
 | 11,_=>exact(Option.some.inj hu) ▸ h.c11
 | 12,_=>exact(Option.some.inj hu) ▸ h.c12
 | 13,_=>exact(Option.some.inj hu) ▸ h.a.c0
 | 14,_=>exact(Option.some.inj hu) ▸ h.a.c1
 | 15,_=>exact(Option.some.inj hu) ▸ h.a.c2
 | 16,_=>exact(Option.some.inj hu) ▸ h.a.c3
 | 17,_=>exact(Option.some.inj hu) ▸ h.a.c4
 | 18,_=>exact(Option.some.inj hu) ▸ h.a.c5
 | 19,_=>exact(Option.some.inj hu) ▸ h.a.c6
 | 20,_=>exact(Option.some.inj hu) ▸ h.c20
 | 21,_=>exact(Option.some.inj hu) ▸ h.e.c0
 | 22,_=>exact(Option.some.inj hu) ▸ h.e.r.c0
 | 23,_=>exact(Option.some.inj hu) ▸ h.e.r.c1
 | 24,_=>exact(Option.some.inj hu) ▸ h.e.r.c2
 | 25,_=>exact(Option.some.inj hu) ▸ h.e.r.c3
 | 26,_=>exact(Option.some.inj hu) ▸ h.e.r.c4
 | 27,_=>exact(Option.some.inj hu) ▸ h.e.r.c5
 | 28,_=>exact(Option.some.inj hu) ▸ h.e.r.c6
 | 29,_=>exact(Option.some.inj hu) ▸ h.e.r.c7
 | 30,_=>exact(Option.some.inj hu) ▸ h.e.r.c8
 | 31,_=>exact(Option.some.inj hu) ▸ h.e.r.c9
 | 32,_=>exact(Option.some.inj hu) ▸ h.e.c11
 | 33,_=>exact(Option.some.inj hu) ▸ h.e.c12
 | 34,_=>exact(Option.some.inj hu) ▸ h.c34
structure wM (w w':World) (cb b g:Nat) (F F':Nat→Prop) (c:CS) (E:Nat→Addr) (r:CS × cd) (x0 x1 x2 x3 y0 y1 y2 y3 y4:Value):Prop where
 C:Cd w' cb b F' r.1 E
 m:Bb w' g r.2 y0 y1 y2 y3 y4
 o0:kg w w' c x0 y0 r.2.rq.fs F'
 o1:kg w w' c x1 y1 r.2.an.fs F'
 o2:yO w w' c x2 y2 r.2.an.hi F'
 o3:kg w w' c x3 y3 r.2.ev.rq.fs F'
 o4:BO w w' c y4 r.2.ev.dg F' g
 s:ar w w' F F' (aC g 0 35)
theorem jF.same {w w':World} {c:CS} {x:Value} {l:List cj} {F F':Nat→Prop} {g:Nat} (h:jF w c x l F g):kg w w' c x x l F':=⟨fun _ _=>rfl,fun q e=>by obtain⟨rfl,rfl⟩:=h.rd q e;exact fH.nil _ _ _⟩
theorem tb.same {w w':World} {c:CS} {x:Value} {l:List dB} {F F':Nat→Prop} {g:Nat} (h:tb w c x l F g):yO w w' c x x l F':=⟨fun _ _=>rfl,fun q e=>by obtain⟨rfl,rfl⟩:=h.rd q e;exact⟨fun _ h=>(by cases h),⟨rfl,.inl ⟨rfl,rfl⟩⟩,fun _ h=>(by cases h)⟩⟩
theorem n5.same {w w':World} {c:CS} {x:Value} {l:List Nat} {F F':Nat→Prop} {P:Nat→Nat→Prop} {g:Nat} (h:n5 w x l F g) (hr:∀ q,c = .rd q→x = .slice none 0 0∧l=[]) (hs:ar w w' F F' P) (hP:∀ k i,k<w.heap.size→P k i→k=g):BO w w' c x l F' g:=⟨h.aP hs hP,fun q e=>by obtain⟨rfl,rfl⟩:=hr q e;exact⟨rfl,.inl ⟨rfl,rfl⟩⟩⟩
structure lI (w w':World) (cb b g:Nat) (F F':Nat→Prop) (c c1:CS) (E:Nat→Addr) (v:cd) (kd:Nat) (x0 x1 x2 x3 x4:Value):Prop where
 C:Cd w' cb b F' c1 E
 m:Bb w' g { v with kd:=kd } x0 x1 x2 x3 x4
 X0:jF w c x0 v.rq.fs F g
 X1:jF w c x1 v.an.fs F g
 X2:tb w c x2 v.an.hi F g
 X3:jF w c x3 v.ev.rq.fs F g
 X4:n5 w x4 v.ev.dg F g
 R4:∀ q,c = .rd q→x4 = .slice none 0 0∧v.ev.dg=[]
 L:∀ i,Loc w cb F g i
 s:ar w w' F F' (aC g 0 1)
 sm:c.sm c1
 ok:v.ok
 room:c1.room 500
section
variable {w w' w2:World} {cb b g:Nat} {F F' F2:Nat→Prop} {c c1 c2:CS} {E:Nat→Addr} {v:cd} {kd:Nat} {x0 x1 x2 x3 x4:Value}
theorem lI.lt (h:lI w w' cb b g F F' c c1 E v kd x0 x1 x2 x3 x4):g<w'.heap.size:=Nat.lt_of_lt_of_le (h.L 0).lt h.s.size
theorem lI.nF (h:lI w w' cb b g F F' c c1 E v kd x0 x1 x2 x3 x4):¬ F' g:=h.s.nF (h.L 0).lt (h.L 0).nF
theorem lI.st (h:lI w w' cb b g F F' c c1 E v kd x0 x1 x2 x3 x4) {o n:Nat} (hs:ar w' w2 F' F2 (aC g o n)) (ho:o+n≤35):ar w w2 F F2 (aC g 0 35):=
 (h.s.mono (P':=aC g 0 35) (fun k j _ e=>⟨e.1,by omega,by have:=e.2;omega⟩)).trans hs (fun k j _ e=>⟨e.1,by omega,by have:=e.2;omega⟩)
theorem lI.C3 (h:lI w w' cb b g F F' c c1 E v kd x0 x1 x2 x3 x4):wM w w' cb b g F F' c E (c1,{ v with kd:=kd }) x0 x1 x2 x3 x0 x1 x2 x3 x4:=
 ⟨h.C,h.m,h.X0.same,h.X1.same,h.X2.same,h.X3.same,h.X4.same h.R4 h.s (fun k j _ e=>e.1),h.s.mono (fun k j _ e=>⟨e.1,by omega,by have:=e.2;omega⟩)⟩
theorem lI.Dj (h:lI w w' cb b g F F' c c1 E v kd x0 x1 x2 x3 x4) (hk:kd=1) {y:Value} (hC:Cd w2 cb b F2 (c1.aZ v.rq).1 E) (hr:ou w2 g 1 { (c1.aZ v.rq).2 with fs:=v.rq.fs } y) (hO:kg w' w2 c1 x0 y (c1.aZ v.rq).2.fs F2) (hs:ar w' w2 F' F2 (aC g 1 10)):wM w w2 cb b g F F2 c E (c1.pM kd v) x0 x1 x2 x3 y x1 x2 x3 x4:=by
 subst hk
 unfold CS.pM
 rw[if_pos rfl]
 exact⟨hC,⟨(hs.oth g 0 h.lt h.nF (fun e=>by have:=e.2;omega)).trans h.m.c0,ou.fs _ _ hr,(hs.oth g 11 h.lt h.nF (fun e=>by have:=e.2;omega)).trans h.m.c11,(hs.oth g 12 h.lt h.nF (fun e=>by have:=e.2;omega)).trans h.m.c12,h.m.a.aP hs h.nF (fun i hi e=>by have:=e.2;omega),(hs.oth g 20 h.lt h.nF (fun e=>by have:=e.2;omega)).trans h.m.c20,h.m.e.aP hs h.nF (fun i hi e=>by have:=e.2;omega),(hs.oth g 34 h.lt h.nF (fun e=>by have:=e.2;omega)).trans h.m.c34⟩,hO.of h.sm h.s.size,h.X1.same,h.X2.same,h.X3.same,h.X4.same h.R4 (h.st hs (by decide)) (fun k j _ e=>e.1),h.st hs (by decide)⟩
theorem lI.C5 (h:lI w w' cb b g F F' c c1 E v kd x0 x1 x2 x3 x4) (hk:kd=2) (hC:Cd w2 cb b F2 (c1.ky (v.icl,v.inu)).1 E) (h1:w2.cell? ⟨g,11,none⟩=some (.int .u32 ((c1.ky (v.icl,v.inu)).2.1:Nat))) (h2:w2.cell? ⟨g,12,none⟩=some (.int .u32 ((c1.ky (v.icl,v.inu)).2.2:Nat))) (hs:ar w' w2 F' F2 (aC g 11 2)):wM w w2 cb b g F F2 c E (c1.pM kd v) x0 x1 x2 x3 x0 x1 x2 x3 x4:=by
 subst hk
 unfold CS.pM
 rw[if_neg (by decide),if_pos rfl]
 exact⟨hC,⟨(hs.oth g 0 h.lt h.nF (fun e=>by have:=e.2;omega)).trans h.m.c0,h.m.r.aP hs h.nF (fun i hi e=>by have:=e.2;omega),h1,h2,h.m.a.aP hs h.nF (fun i hi e=>by have:=e.2;omega),(hs.oth g 20 h.lt h.nF (fun e=>by have:=e.2;omega)).trans h.m.c20,h.m.e.aP hs h.nF (fun i hi e=>by have:=e.2;omega),(hs.oth g 34 h.lt h.nF (fun e=>by have:=e.2;omega)).trans h.m.c34⟩,h.X0.same,h.X1.same,h.X2.same,h.X3.same,h.X4.same h.R4 (h.st hs (by decide)) (fun k j _ e=>e.1),h.st hs (by decide)⟩
theorem lI.Dp (h:lI w w' cb b g F F' c c1 E v kd x0 x1 x2 x3 x4) (hk:kd=3) {y z:Value} (hC:Cd w2 cb b F2 (c1.bp v.an).1 E) (hr:yN w2 g 13 (c1.bp v.an).2 y z) (hO:kg w' w2 c1 x1 y (c1.bp v.an).2.fs F2) (hZ:yO w' w2 c1 x2 z (c1.bp v.an).2.hi F2) (hs:ar w' w2 F' F2 (aC g 13 7)):wM w w2 cb b g F F2 c E (c1.pM kd v) x0 x1 x2 x3 x0 y z x3 x4:=by
 subst hk
 unfold CS.pM
 rw[if_neg (by decide),if_neg (by decide),if_pos rfl]
 exact⟨hC,⟨(hs.oth g 0 h.lt h.nF (fun e=>by have:=e.2;omega)).trans h.m.c0,h.m.r.aP hs h.nF (fun i hi e=>by have:=e.2;omega),(hs.oth g 11 h.lt h.nF (fun e=>by have:=e.2;omega)).trans h.m.c11,(hs.oth g 12 h.lt h.nF (fun e=>by have:=e.2;omega)).trans h.m.c12,hr,(hs.oth g 20 h.lt h.nF (fun e=>by have:=e.2;omega)).trans h.m.c20,h.m.e.aP hs h.nF (fun i hi e=>by have:=e.2;omega),(hs.oth g 34 h.lt h.nF (fun e=>by have:=e.2;omega)).trans h.m.c34⟩,h.X0.same,hO.of h.sm h.s.size,hZ.of h.sm h.s.size,h.X3.same,h.X4.same h.R4 (h.st hs (by decide)) (fun k j _ e=>e.1),h.st hs (by decide)⟩
theorem lI.Di (h:lI w w' cb b g F F' c c1 E v kd x0 x1 x2 x3 x4) (hk:kd=4) (hC:Cd w2 cb b F2 ((c1.ky (v.icl,v.inu)).1.fe eW [bC 1 15 4] v.co).1 E) (h1:w2.cell? ⟨g,11,none⟩=some (.int .u32 ((c1.ky (v.icl,v.inu)).2.1:Nat))) (h2:w2.cell? ⟨g,12,none⟩=some (.int .u32 ((c1.ky (v.icl,v.inu)).2.2:Nat))) (h3:w2.cell? ⟨g,20,none⟩=some (.int .u8 (((c1.ky (v.icl,v.inu)).1.fe eW [bC 1 15 4] v.co).2:Nat)))
  (hs:ar w' w2 F' F2 (fun k j=>aC g 11 2 k j∨(k=g∧j=20))):wM w w2 cb b g F F2 c E (c1.pM kd v) x0 x1 x2 x3 x0 x1 x2 x3 x4:=by
 subst hk
 have hst:ar w w2 F F2 (aC g 0 35):=(h.s.mono (P':=aC g 0 35) (fun k j _ e=>⟨e.1,by omega,by have:=e.2;omega⟩)).trans hs (fun k j _ e=>by
  rcases e with e|e
  ·exact⟨e.1,by omega,by have:=e.2;omega⟩
  ·exact⟨e.1,by omega,by omega⟩)
 have hn:∀ j,(j<11∨12<j)→j≠20→¬ (aC g 11 2 g j∨(g=g∧j=20)):=fun j h1 h2 e=>by
  rcases e with e|e
  ·have:=e.2;omega
  ·omega
 unfold CS.pM
 rw[if_neg (by decide),if_neg (by decide),if_neg (by decide),if_pos rfl]
 exact⟨hC,⟨(hs.oth g 0 h.lt h.nF (hn 0 (by omega) (by omega))).trans h.m.c0,h.m.r.aP hs h.nF (fun i hi=>hn _ (by omega) (by omega)),h1,h2,h.m.a.aP hs h.nF (fun i hi=>hn _ (by omega) (by omega)),h3,h.m.e.aP hs h.nF (fun i hi=>hn _ (by omega) (by omega)),(hs.oth g 34 h.lt h.nF (hn 34 (by omega) (by omega))).trans h.m.c34⟩,h.X0.same,h.X1.same,h.X2.same,h.X3.same,h.X4.same h.R4 hst (fun k j _ e=>e.1),hst⟩
theorem lI.Dg (h:lI w w' cb b g F F' c c1 E v kd x0 x1 x2 x3 x4) (hk:kd=5) {y z:Value} (hC:Cd w2 cb b F2 (c1.bD v.ev).1 E) (hr:rA w2 g 21 { (c1.bD v.ev).2 with rq:={ (c1.bD v.ev).2.rq with fs:=v.ev.rq.fs } } y z) (hO:kg w' w2 c1 x3 y (c1.bD v.ev).2.rq.fs F2) (hZ:BO w' w2 c1 z (c1.bD v.ev).2.dg F2 g) (hs:ar w' w2 F' F2 (aC g 21 13)):wM w w2 cb b g F F2 c E (c1.pM kd v) x0 x1 x2 x3 x0 x1 x2 y z:=by
 subst hk
 have hmd:∀ q,c = .rd q→∃ q',c1 = .rd q':=fun q hq=>by
  cases hm:c1 with
  | wr s'=>obtain⟨_,e'⟩:=h.sm.1 s' hm;rw[hq] at e';cases e'
  | rd q'=>exact⟨q',rfl⟩
 unfold CS.pM
 rw[if_neg (by decide),if_neg (by decide),if_neg (by decide),if_neg (by decide),if_pos rfl]
 exact⟨hC,⟨(hs.oth g 0 h.lt h.nF (fun e=>by have:=e.2;omega)).trans h.m.c0,h.m.r.aP hs h.nF (fun i hi e=>by have:=e.2;omega),(hs.oth g 11 h.lt h.nF (fun e=>by have:=e.2;omega)).trans h.m.c11,(hs.oth g 12 h.lt h.nF (fun e=>by have:=e.2;omega)).trans h.m.c12,h.m.a.aP hs h.nF (fun i hi e=>by have:=e.2;omega),(hs.oth g 20 h.lt h.nF (fun e=>by have:=e.2;omega)).trans h.m.c20,rA.fs _ _ hr,(hs.oth g 34 h.lt h.nF (fun e=>by have:=e.2;omega)).trans h.m.c34⟩,h.X0.same,h.X1.same,h.X2.same,hO.of h.sm h.s.size,hZ.mode h.s.size hmd,h.st hs (by decide)⟩
theorem lI.C8 (h:lI w w' cb b g F F' c c1 E v kd x0 x1 x2 x3 x4) (hk:kd=6) (hC:Cd w2 cb b F2 (c1.bL ck [] v.le).1 E) (h1:w2.cell? ⟨g,34,none⟩=some (.int .u32 ((c1.bL ck [] v.le).2:Nat))) (hs':ar w' w2 F' F2 (fun k j=>k=g∧j=34)):wM w w2 cb b g F F2 c E (c1.pM kd v) x0 x1 x2 x3 x0 x1 x2 x3 x4:=by
 subst hk
 have hs:ar w' w2 F' F2 (aC g 34 1):=hs'.mono (fun k j _ e=>⟨e.1,by omega,by omega⟩)
 unfold CS.pM
 rw[if_neg (by decide),if_neg (by decide),if_neg (by decide),if_neg (by decide),if_neg (by decide),if_pos rfl]
 exact⟨hC,⟨(hs.oth g 0 h.lt h.nF (fun e=>by have:=e.2;omega)).trans h.m.c0,h.m.r.aP hs h.nF (fun i hi e=>by have:=e.2;omega),(hs.oth g 11 h.lt h.nF (fun e=>by have:=e.2;omega)).trans h.m.c11,(hs.oth g 12 h.lt h.nF (fun e=>by have:=e.2;omega)).trans h.m.c12,h.m.a.aP hs h.nF (fun i hi e=>by have:=e.2;omega),(hs.oth g 20 h.lt h.nF (fun e=>by have:=e.2;omega)).trans h.m.c20,h.m.e.aP hs h.nF (fun i hi e=>by have:=e.2;omega),h1⟩,h.X0.same,h.X1.same,h.X2.same,h.X3.same,h.X4.same h.R4 (h.st hs (by decide)) (fun k j _ e=>e.1),h.st hs (by decide)⟩
theorem lI.Ds (h:lI w w' cb b g F F' c c1 E v kd x0 x1 x2 x3 x4) (hk:kd<1∨6<kd):wM w w' cb b g F F' c E (c1.pM kd v) x0 x1 x2 x3 x0 x1 x2 x3 x4:=by
 unfold CS.pM
 rw[if_neg (by omega),if_neg (by omega),if_neg (by omega),if_neg (by omega),if_neg (by omega),if_neg (by omega)]
 exact h.C3
end
theorem rr (c:CS) (v:cd) (a0 a1 a2 a3 a4:Option Addr) (n0 n1 n2 n3 n4:Nat) (x0 x1 x2 x3 x4:Value) (cb b g:Nat) (F:Nat→Prop) (E:Nat→Addr) (w:World) (h:Cd w cb b F c E) (hp:Bb w g v x0 x1 x2 x3 x4)
  (e0:x0 = .slice a0 v.rq.fs.length n0) (e1:x1 = .slice a1 v.an.fs.length n1) (e2:x2 = .slice a2 v.an.hi.length n2) (e3:x3 = .slice a3 v.ev.rq.fs.length n3) (e4:x4 = .slice a4 v.ev.dg.length n4)
  (hX0:jF w c x0 v.rq.fs F g) (hX1:jF w c x1 v.an.fs F g) (hX2:tb w c x2 v.an.hi F g) (hX3:jF w c x3 v.ev.rq.fs F g) (hX4:n5 w x4 v.ev.dg F g) (hR4:∀ q,c = .rd q→x4 = .slice none 0 0∧v.ev.dg=[]) (hL:∀ i,Loc w cb F g i) (hv:v.ok) (hroom:c.room 501) :
  Calls Tryz.prog 114 #[.pointer (some ⟨cb,0,none⟩),.pointer (some ⟨g,0,none⟩)] w fun e w'=>e = .returned (.tuple #[])∧∃ F' y0 y1 y2 y3 y4,wM w w' cb b g F F' c E (c.cZ v) x0 x1 x2 x3 y0 y1 y2 y3 y4:=by
 have hn:v.lens:=⟨hX0.n,hX1.n,hX2.n,hX3.n,hX4.len⟩
 have k5:=h.g7.k5
 have hsf:=cO
 have HK:=ae (fun (V:World) (hv:Fr (fun _=>False) w V)=>aq hv k5)
 have HM:Hid (∀ V:World,Fr (fun _=>False) w V→V.rangeAt g 0 (v.aL x0 x1 x2 x3 x4).toList):=ae (fun V hv j u hu=>aq hv (hp.range j u hu))
 have hBS:=fun (V:World)=>sR v a0 a1 a2 a3 a4 n0 n1 n2 n3 n4 V hv hn
 rw[← e0,← e1,← e2,← e3,← e4] at hBS
 have HB:=ae hBS
 clear hBS e0 e1 e2 e3 e4
 have hm0:=hp.c0
 have HN:Hid (∀ (w3:World) (f1 f2:Value) (T:TypeId),Fr (fun _=>False) w w3→RR dP w w3 E f1 (bC 1 7 5)→RR dP w w3 E f2 (gh v.beside)→Calls Tryz.prog 127 #[.pointer (some ⟨cb,0,none⟩),.string ay,.pointer (some ⟨g,0,none⟩),.slice (some ⟨w3.heap.size,0,none⟩) 2 2] (w3.alloc (.cells #[f1,f2] T)) fun e w'=>e = .returned (.tuple #[])∧∃ F',Cd w' cb b F' (c.fe ay [bC 1 7 5,gh v.beside] v.kd).1 E∧w'.cell? ⟨g,0,none⟩=some (.int .u8 ((c.fe ay [bC 1 7 5,gh v.beside] v.kd).2:Nat))∧ar w w' F F' (fun k j=>k=g∧j=0)):=fun w3 f1 f2 T hf3 h1 h2=>by
  have hf2:=hf3.trans (al w3 (.cells #[f1,f2] T)) (fun _ _ h=>h)
  refine(fI c ay [bC 1 7 5,gh v.beside] v.kd cb b g 0 F E _ _ (h.aR hf2) (aq hf2 hm0) ((hL 0).aR hf2) hv.kd (tU T h (hL 0) hf3 h1 h2) (by simp only[CS.room] at *;omega)).mono ?_
  rintro e w' ⟨rfl,F',hC,hc,hs⟩
  exact⟨rfl,F',hC,hc,(ar.bh hf2 F _).trans hs (fun _ _ _ h=>h)⟩
 have HG:=ae h.g7
 obtain⟨c1,hc1⟩:∃ c1,(c.fe ay [bC 1 7 5,gh v.beside] v.kd).1=c1:=⟨_,rfl⟩
 obtain⟨kd,hkd⟩:∃ kd,(c.fe ay [bC 1 7 5,gh v.beside] v.kd).2=kd:=⟨_,rfl⟩
 have hP:c.cZ v=c1.pM kd v:=by rw[← hc1,← hkd];rfl
 rw[hP]
 have hkl:kd<256:=by rw[← hkd];exact CS.rZ c ay [bC 1 7 5,gh v.beside] v.kd hv.kd
 have HT:Hid (∀ (w4:World) (F4:Nat→Prop),Cd w4 cb b F4 c1 E→w4.cell? ⟨g,0,none⟩=some (.int .u8 (kd:Nat))→ar w w4 F F4 (fun k j=>k=g∧j=0)→lI w w4 cb b g F F4 c c1 E v kd x0 x1 x2 x3 x4):=ae (fun w4 F4 hC hc hs=>by
  have hg:=(hL 0).lt
  have hgF:=(hL 0).nF
  refine⟨hC,⟨hc,hp.r.aP hs hgF (fun i hi e=>by omega),(hs.oth g 11 hg hgF (fun e=>by omega)).trans hp.c11,(hs.oth g 12 hg hgF (fun e=>by omega)).trans hp.c12,hp.a.aP hs hgF (fun i hi e=>by omega),(hs.oth g 20 hg hgF (fun e=>by omega)).trans hp.c20,hp.e.aP hs hgF (fun i hi e=>by omega),(hs.oth g 34 hg hgF (fun e=>by omega)).trans hp.c34⟩,hX0,hX1,hX2,hX3,hX4,hR4,hL,hs.mono (fun k j _ e=>⟨e.1,by omega,by omega⟩),by rw[← hc1];exact CS.dL _ _ _ _,hv,by rw[← hc1];exact CS.ch hroom _ _ _⟩)
 rw[hc1,hkd] at HN
 clear h hp hX0 hX1 hX2 hX3 hX4 hR4 hL hv hroom hn hP hc1 hkd k5 hm0
 go_enter Tryz.func114,Tryz.ntmps114
 go_wp2_with fail
 refine bj (n:=12) (m:=12) (S:=fun V=>Fr (fun _=>False) w V) (by kernel_rfl) rfl rfl rfl (by kernel_rfl) (by kernel_rfl) ((Fr.refl _ _).drew) (fun hHeld=>?_)
 refine cK (i:=0) (v:=?_) rfl (Or.inl ⟨by rfl,?_⟩) hHeld ?_
 rotate_left
 ·intro V hSw;(try dsimp only at hSw);have q0:=(aa HK) V hSw;go_simp;(try with_reducible rfl)
 (try simp only[Act.put,bd])
 refine cK (i:=1) (v:=?_) rfl (Or.inl ⟨by rfl,?_⟩) hHeld ?_
 rotate_left
 ·intro V hSw;(try dsimp only at hSw);have q0:=(aa HK) V hSw;go_simp;(try with_reducible rfl)
 (try simp only[Act.put,bd])
 refine cK (i:=2) (v:=?_) rfl (Or.inl ⟨by rfl,?_⟩) hHeld ?_
 rotate_left
 ·intro V hSw;(try dsimp only at hSw);have q0:=(aa HK) V hSw;go_simp;(try with_reducible rfl)
 (try simp only[Act.put,bd])
 refine cK (i:=3) (v:=?_) rfl (Or.inl ⟨by rfl,?_⟩) hHeld ?_
 rotate_left
 ·intro V hSw;(try dsimp only at hSw);have q0:=(aa HK) V hSw;go_simp;(try with_reducible rfl)
 (try simp only[Act.put,bd])
 refine cK (i:=4) (v:=?_) rfl (Or.inl ⟨by rfl,?_⟩) hHeld ?_
 rotate_left
 ·intro V hSw;(try dsimp only at hSw);have q0:=(aa HK) V hSw;go_simp;(try with_reducible rfl)
 (try simp only[Act.put,bd])
 refine cK (i:=6) (v:=?_) rfl (Or.inl ⟨by rfl,?_⟩) hHeld ?_
 rotate_left
 ·intro V hSw;(try dsimp only at hSw);have q0:=(aa HK) V hSw;go_simp;(try with_reducible rfl)
 (try simp only[Act.put,bd])
 refine cK (i:=7) (v:=?_) rfl (Or.inl ⟨by rfl,?_⟩) hHeld ?_
 rotate_left
 ·intro V hSw;(try dsimp only at hSw);have q0:=(aa HK) V hSw;go_simp;(try with_reducible rfl)
 (try simp only[Act.put,bd])
 refine cK (i:=8) rfl (yieldsIf_load_mid rfl 42 (.tmp 11) rfl g 0 rfl (v.aL x0 x1 x2 x3 x4).toList _ (fun V hSw=>(aa HM) V hSw) Tryz.underlying42 rfl Tryz.ie) hHeld ?_
 (try simp only[Act.put,bd])
 refine wpAnyH_ready (rs:=[5]) (by kernel_rfl) (by simp) (AllReadyH.cons rfl (fun K hK=>?_) AllReadyH.nil)
 go_simp
 refine(dA 1 7 5 E _ (by decide)).mono ?_
 rintro e w1 ⟨fv1,rfl,K1,hF1,hf1,hK1⟩
 have H1:=ae (And.intro (show RR dP w w1 E fv1 (bC 1 7 5) from⟨K1,hF1,hK1.mono (Nat.le_refl _)⟩) ((Fr.refl _ _).drew.trans hf1 (fun _ _ h=>h)))
 obtain⟨Fc1,caps1,rfl,_⟩:=hF1.ex
 clear hF1 hf1 hK1
 go_simp
 refine hK.out _ _ ((aa H1).2) (fun hHeld=>?_)
 clear hK K
 (try simp only[Act.put,bd])
 refine wpAnyH_ready (rs:=[9]) (by kernel_rfl) (by simp) (AllReadyH.cons rfl (fun K hK=>?_) AllReadyH.nil)
 go_simp
 refine((aa HB) _).mono ?_
 rintro e w2 ⟨rfl,hf2⟩
 have H2:=ae (And.intro ((aa H1).1.fr hf2) ((aa H1).2.trans hf2 (fun _ _ h=>h)))
 clear hf2 H1
 go_simp
 refine hK.out _ _ ((aa H2).2) (fun hHeld=>?_)
 clear hK K
 (try simp only[Act.put,bd])
 refine wpAnyH_ready (rs:=[10]) (by kernel_rfl) (by simp) (AllReadyH.cons rfl (fun K hK=>?_) AllReadyH.nil)
 go_simp
 refine(lW v.beside E _ ((aa HG).fr (aa H2).2 (fun _ h=>h.elim))).mono ?_
 rintro e w3 ⟨fv3,rfl,K3,hF3,hf3,hK3⟩
 have H3:=ae (And.intro ((aa H2).1.fr hf3) (And.intro (show RR dP w w3 E fv3 (gh v.beside) from⟨K3,hF3,hK3.mono (aa H2).2.size⟩) ((aa H2).2.trans hf3 (fun _ _ h=>h))))
 obtain⟨Fc3,caps3,rfl,_⟩:=hF3.ex
 clear hF3 hf3 hK3 H2
 go_simp
 refine hK.out _ _ ((aa H3).2.2) (fun hHeld=>?_)
 clear hK K
 (try simp only[Act.put,bd])
 refine wpAnyH_ready (rs:=[11]) (by kernel_rfl) (by simp) (AllReadyH.cons rfl (fun K hK=>?_) AllReadyH.nil)
 go_simp
 refine hK.out _ _ ((aa H3).2.2.alloc _) (fun hHeld=>?_)
 clear hK K
 (try simp only[Act.put,bd])
 refine wpAnyH_done (by kernel_rfl) ?_ _
 simp only[fB]
 go_simp
 refine((aa HN) w3 _ _ _ (aa H3).2.2 (aa H3).1 (aa H3).2.1).mono ?_
 rintro e w4 ⟨rfl,F4,hC4,hk4,hs4⟩
 have HT4:=ae ((aa HT) w4 F4 hC4 hk4 hs4)
 clear hC4 hs4 H3 HN HT HK HM HB HG
 have hL4:=fun i=>((aa HT4).L i).aP (aa HT4).s
 have HL:=ae hL4
 clear hL4
 by_cases k1:kd=1
 ·subst k1
  have HQ:=ae (gL c1 v.rq x0 cb b g 1 F4 E w4 (aa HT4).C (aa HT4).m.r ((aa HT4).X0.aP (aa HT4).s (fun k j _ e=>e.1) (aa HT4).sm.1 (aa HT4).sm.2) (aa HL) (aa HT4).ok.rq (CS.room_le (aa HT4).room (by decide)))
  go_wp2_with fail
  refine(aa HQ).mono ?_
  rintro e w5 ⟨rfl,F5,y,hC5,hr5,hO5,hs5⟩
  have HE:=ae ((aa HT4).Dj rfl hC5 hr5 hO5 hs5)
  clear hC5 hr5 hO5 hs5 HQ
  go_wp2_with fail
  go_end0
  exact⟨rfl,F5,_,_,_,_,_,aa HE⟩
 by_cases k2:kd=2
 ·subst k2
  have HQ:=ae (oB c1 (v.icl,v.inu) cb b g 11 F4 E w4 (aa HT4).C (aa HT4).m.c11 (aa HT4).m.c12 (aa HL) (aa HT4).ok.icl (aa HT4).ok.inu (CS.room_le (aa HT4).room (by decide)))
  go_wp2_with fail
  refine(aa HQ).mono ?_
  rintro e w5 ⟨rfl,F5,hC5,h1,h2,hs5⟩
  have HE:=ae ((aa HT4).C5 rfl hC5 h1 h2 hs5)
  clear hC5 h1 h2 hs5 HQ
  go_wp2_with fail
  go_end0
  exact⟨rfl,F5,_,_,_,_,_,aa HE⟩
 by_cases k3:kd=3
 ·subst k3
  have HQ:=ae (lg c1 v.an x1 x2 cb b g 13 F4 E w4 (aa HT4).C (aa HT4).m.a ((aa HT4).X1.aP (aa HT4).s (fun k j _ e=>e.1) (aa HT4).sm.1 (aa HT4).sm.2) ((aa HT4).X2.aP (aa HT4).s (fun k j _ e=>e.1) (aa HT4).sm) (aa HL) (aa HT4).ok.an (aa HT4).room)
  go_wp2_with fail
  refine(aa HQ).mono ?_
  rintro e w5 ⟨rfl,F5,y,z,hC5,hr5,hO5,hZ5,hs5⟩
  have HE:=ae ((aa HT4).Dp rfl hC5 hr5 hO5 hZ5 hs5)
  clear hC5 hr5 hO5 hZ5 hs5 HQ
  go_wp2_with fail
  go_end0
  exact⟨rfl,F5,_,_,_,_,_,aa HE⟩
 by_cases k4:kd=4
 ·subst k4
  have HQ:=ae (oB c1 (v.icl,v.inu) cb b g 11 F4 E w4 (aa HT4).C (aa HT4).m.c11 (aa HT4).m.c12 (aa HL) (aa HT4).ok.icl (aa HT4).ok.inu (CS.room_le (aa HT4).room (by decide)))
  go_wp2_with fail
  refine(aa HQ).mono ?_
  rintro e w5 ⟨rfl,F5,hC5,h1,h2,hs5⟩
  have hL5:=fun i=>((aa HL) i).aP hs5
  have r5:(c1.ky (v.icl,v.inu)).1.room 1:=CS.ej (n:=1) (CS.room_le (aa HT4).room (by decide)) _
  have c20:w5.cell? ⟨g,20,none⟩=some (.int .u8 (v.co:Nat)):=(hs5.oth g 20 (aa HT4).lt (aa HT4).nF (fun e=>by have:=e.2;omega)).trans (aa HT4).m.c20
  have H5:=ae (And.intro hC5 (And.intro h1 (And.intro h2 (And.intro hs5 (And.intro hL5 (And.intro r5 c20))))))
  have k4:=hC5.g7.k4
  have HK5:=ae (fun (V:World) (hv:Fr (fun _=>False) w5 V)=>aq hv k4)
  clear hC5 h1 h2 hs5 hL5 r5 c20 HQ k4
  go_wp2_with fail
  refine bj (n:=7) (m:=7) (S:=fun V=>Fr (fun _=>False) w5 V) (by kernel_rfl) rfl rfl rfl (by kernel_rfl) (by kernel_rfl) ((Fr.refl _ _).drew) (fun hHeld=>?_)
  refine cK (i:=0) (v:=?_) rfl (Or.inl ⟨by rfl,?_⟩) hHeld ?_
  rotate_left
  ·intro V hSw;(try dsimp only at hSw);have q0:=(aa HK5) V hSw;go_simp;(try with_reducible rfl)
  (try simp only[Act.put,bd])
  refine cK (i:=1) (v:=?_) rfl (Or.inl ⟨by rfl,?_⟩) hHeld ?_
  rotate_left
  ·intro V hSw;(try dsimp only at hSw);have q0:=(aa HK5) V hSw;go_simp;(try with_reducible rfl)
  (try simp only[Act.put,bd])
  refine cK (i:=2) (v:=?_) rfl (Or.inl ⟨by rfl,?_⟩) hHeld ?_
  rotate_left
  ·intro V hSw;(try dsimp only at hSw);have q0:=(aa HK5) V hSw;go_simp;(try with_reducible rfl)
  (try simp only[Act.put,bd])
  refine cK (i:=3) (v:=?_) rfl (Or.inl ⟨by rfl,?_⟩) hHeld ?_
  rotate_left
  ·intro V hSw;(try dsimp only at hSw);have q0:=(aa HK5) V hSw;go_simp;(try with_reducible rfl)
  (try simp only[Act.put,bd])
  refine cK (i:=4) (v:=?_) rfl (Or.inl ⟨by rfl,?_⟩) hHeld ?_
  rotate_left
  ·intro V hSw;(try dsimp only at hSw);have q0:=(aa HK5) V hSw;go_simp;(try with_reducible rfl)
  (try simp only[Act.put,bd])
  refine wpAnyH_ready (rs:=[5]) (by kernel_rfl) (by simp) (AllReadyH.cons rfl (fun K hK=>?_) AllReadyH.nil)
  go_simp
  refine(dA 1 15 4 E _ (by decide)).mono ?_
  rintro e w6 ⟨fv1,rfl,K1,hF1,hf1,hK1⟩
  have H6:=ae (And.intro (show RR dP w5 w6 E fv1 (bC 1 15 4) from⟨K1,hF1,hK1.mono (Nat.le_refl _)⟩) ((Fr.refl _ _).drew.trans hf1 (fun _ _ h=>h)))
  obtain⟨Fc1,caps1,rfl,_⟩:=hF1.ex
  clear hF1 hf1 hK1
  go_simp
  refine hK.out _ _ ((aa H6).2) (fun hHeld=>?_)
  clear hK K
  (try simp only[Act.put,bd])
  refine wpAnyH_ready (rs:=[6]) (by kernel_rfl) (by simp) (AllReadyH.cons rfl (fun K hK=>?_) AllReadyH.nil)
  go_simp
  refine hK.out _ _ ((aa H6).2.alloc _) (fun hHeld=>?_)
  clear hK K
  (try simp only[Act.put,bd])
  refine wpAnyH_done (by kernel_rfl) ?_ _
  simp only[fB]
  go_simp
  refine(qT (nm:=eW) _ (aa H5).1 (aa H5).2.2.2.2.2.2 ((aa H5).2.2.2.2.1 _) (aa HT4).ok.co (aa H6).1 (aa H6).2 (aa H5).2.2.2.2.2.1).mono ?_
  rintro e w7 ⟨rfl,F7,hC7,hc7,hs7⟩
  obtain⟨hC5,h1,h2,hs5,hL5,r5,c20⟩:=aa H5
  have hg5:=(hL5 0).lt
  have hgF5:=(hL5 0).nF
  have HE:=ae ((aa HT4).Di rfl hC7 ((hs7.oth g 11 hg5 hgF5 (fun e=>by omega)).trans h1) ((hs7.oth g 12 hg5 hgF5 (fun e=>by omega)).trans h2) hc7 ((hs5.mono (P':=fun k j=>aC g 11 2 k j∨(k=g∧j=20)) (fun k j _ e=>.inl e)).trans hs7 (fun k j _ e=>.inr e)))
  clear hC5 h1 h2 hs5 hL5 r5 c20 hC7 hc7 hs7 hg5 hgF5 H5 H6 HK5
  go_wp2_with fail
  go_end0
  exact⟨rfl,F7,_,_,_,_,_,aa HE⟩
 by_cases k5:kd=5
 ·subst k5
  have HQ:=ae (nZ c1 v.ev x3 x4 cb b g 21 F4 E w4 (aa HT4).C (aa HT4).m.e ((aa HT4).X3.aP (aa HT4).s (fun k j _ e=>e.1) (aa HT4).sm.1 (aa HT4).sm.2) ((aa HT4).X4.aP (aa HT4).s (fun k j _ e=>e.1)) (aa HL) (aa HT4).ok.ev (CS.room_le (aa HT4).room (by decide)))
  go_wp2_with fail
  refine(aa HQ).mono ?_
  rintro e w5 ⟨rfl,F5,y,z,hC5,hr5,hO5,hZ5,hs5⟩
  have HE:=ae ((aa HT4).Dg rfl hC5 hr5 hO5 hZ5 hs5)
  clear hC5 hr5 hO5 hZ5 hs5 HQ
  go_wp2_with fail
  go_end0
  exact⟨rfl,F5,_,_,_,_,_,aa HE⟩
 by_cases k6:kd=6
 ·subst k6
  have HQ:=ae (bJ c1 ck [] v.le cb b g 34 F4 E (.slice none 0 0) w4 (aa HT4).C (aa HT4).m.c34 ((aa HL) _) (aa HT4).ok.le (ij.nil _ w4 F4 g E) (CS.room_le (aa HT4).room (by decide)))
  go_wp2_with fail
  refine(aa HQ).mono ?_
  rintro e w5 ⟨rfl,F5,hC5,h1,hs5⟩
  have HE:=ae ((aa HT4).C8 rfl hC5 h1 hs5)
  clear hC5 h1 hs5 HQ
  go_wp2_with fail
  go_end0
  exact⟨rfl,F5,_,_,_,_,_,aa HE⟩
 have m1:((kd:Int) == 1)=false:=by simp;omega
 have m2:((kd:Int) == 2)=false:=by simp;omega
 have m3:((kd:Int) == 3)=false:=by simp;omega
 have m4:((kd:Int) == 4)=false:=by simp;omega
 have m5:((kd:Int) == 5)=false:=by simp;omega
 have m6:((kd:Int) == 6)=false:=by simp;omega
 have HE:=ae ((aa HT4).Ds (by omega))
 clear k1 k2 k3 k4 k5 k6
 go_wp2_with fail
 go_end0
 exact⟨rfl,F4,_,_,_,_,_,aa HE⟩
theorem iq {P:Program} {fn:Func} {p u:Tmp} {ty:TypeId} (h:fn.results = #[.cell p ty,.tmp u]) (tmps:Array Value) (w:World) (b o:Nat) (cs:List Value) (d:TypeDesc) (x:Value)
  (hp:tmps.getD p undef = .pointer (some ⟨b,o,none⟩)) (hx:tmps.getD u undef=x) (hc:w.rangeAt b o cs)
  (hu:P.underlying ty=some d) (hd:d.isRow=true) (hi:(P.info? ty).map (·.size)=some cs.length) :
  (results fn tmps).run P w = .ok (.tuple #[.agg cs.toArray,x]) w:=by
 have hp':tmps[p]?.getD undef = .pointer (some ⟨b,o,none⟩):=by simpa using hp
 have hx':tmps[u]?.getD undef=x:=by simpa using hx
 simp[results,h,hp',hx',asAddr,run_loadVar_mid w b o ty cs d hc hu hd hi]
theorem iU (g t:Nat):∀ (vs fs:List Value) (o:Nat) (w:World),w.heap[g]?=some (.cells fs.toArray t)→o+vs.length≤fs.length→∃ fs',(w.setCells g o vs).heap[g]?=some (.cells (List.toArray fs') t)∧fs'.length=fs.length∧(∀ i v,vs[i]?=some v→fs'[o+i]?=some v)∧∀ j,(j<o∨o+vs.length≤j)→fs'[j]?=fs[j]?
 | [],fs,o,w,h,_=>⟨fs,h,rfl,by simp,fun _ _=>rfl⟩
 | v::vs,fs,o,w,h,hl=>by
  rw[World.setCells]
  have hl2:o+(vs.length+1)≤fs.length:=hl
  obtain⟨fs',a1,a2,a3,a4⟩:=iU g t vs (fs.set o v) (o+1) (w.setCell ⟨g,o,none⟩ v) (by rw[iM h];simp) (by rw[List.length_set];omega)
  refine⟨fs',a1,by rw[a2,List.length_set],fun i u hu=>?_,fun j hj=>?_⟩
  ·cases i with
   | zero =>
    simp only[List.getElem?_cons_zero,Option.some.injEq] at hu
    subst hu
    rw[Nat.add_zero,a4 o (by omega),List.getElem?_set_self (by omega)]
   | succ i =>
    have:=a3 i u (by simpa using hu)
    rw[← this]
    congr 1
    omega
  ·have hj2:j<o∨o+(vs.length+1)≤j:=hj
   rw[a4 j (by omega),List.getElem?_set_ne (by omega)]
theorem wz {P:Program} {W:World} {g t ty o:Nat} (fs news:List Value) (hb:W.heap[g]?=some (.cells fs.toArray t)) (hl:o+news.length≤fs.length) (hi:(P.info? ty).map (·.size)=some news.length) (h1:∀ v∈news,v.oneCell'=true) :
  ∃ W8,(Instr.storeAt ty (.pointer (some ⟨g,o,none⟩)) (.agg news.toArray)).run P W = .ok () W8∧(∃ fs',W8.heap[g]?=some (.cells (List.toArray fs') t)∧fs'.length=fs.length∧(∀ i v,news[i]?=some v→fs'[o+i]?=some v)∧∀ j,(j<o∨o+news.length≤j)→fs'[j]?=fs[j]?)∧Fr (fun k=>k=g) W W8:=by
 refine⟨W.setCells g o news,run_storeAt_mid W g o ty news.toArray (fun j hj=>?_) (by simpa using hi) (all_oneCell_toArray h1),iU g t news fs o W hb hl,fu g news o W⟩
 have hj:j<news.length:=by simpa using hj
 have hj2:o+j<fs.length:=by omega
 refine⟨?_,by simp[World.frozen?,hb]⟩
 simp[World.cell?,hb,hj2]
theorem BP {pre olds vs post fs':List Value} (hl:olds.length=vs.length) (h2:∀ i v,vs[i]?=some v→fs'[pre.length+i]?=some v) (h3:∀ j,j<pre.length∨pre.length+vs.length≤j→fs'[j]?=(pre++(olds++post))[j]?):fs'=pre++(vs++post):=by
 apply List.ext_getElem?
 intro j
 by_cases a:j<pre.length
 ·rw[h3 j (.inl a),List.getElem?_append_left a,List.getElem?_append_left a]
 ·by_cases b:j<pre.length+vs.length
  ·rw[List.getElem?_append_right (by omega),List.getElem?_append_left (by omega)]
   have hv:vs[j - pre.length]?=some (vs[j - pre.length]'(by omega)):=List.getElem?_eq_getElem (by omega)
   have:=h2 _ _ hv
   rw[show pre.length+(j - pre.length)=j by omega] at this
   rw[this,hv]
  ·rw[h3 j (.inr (by omega)),List.getElem?_append_right (by omega),List.getElem?_append_right (by omega),List.getElem?_append_right (by omega),List.getElem?_append_right (by omega),hl]
theorem mw (c:CS) (v:cd) (a0 a1 a2 a3 a4:Option Addr) (n0 n1 n2 n3 n4:Nat) (x0 x1 x2 x3 x4:Value) (cb b g:Nat) (F:Nat→Prop) (E:Nat→Addr) (w:World) (h:Cd w cb b F c E) (hp:Bb w g v x0 x1 x2 x3 x4)
  (e0:x0 = .slice a0 v.rq.fs.length n0) (e1:x1 = .slice a1 v.an.fs.length n1) (e2:x2 = .slice a2 v.an.hi.length n2) (e3:x3 = .slice a3 v.ev.rq.fs.length n3) (e4:x4 = .slice a4 v.ev.dg.length n4)
  (hX0:jF w c x0 v.rq.fs F g) (hX1:jF w c x1 v.an.fs F g) (hX2:tb w c x2 v.an.hi F g) (hX3:jF w c x3 v.ev.rq.fs F g) (hX4:n5 w x4 v.ev.dg F g) (hR4:∀ q,c = .rd q→x4 = .slice none 0 0∧v.ev.dg=[]) (hL:∀ i,Loc w cb F g i) (hv:v.ok) (hroom:c.room 502) :
  Calls Tryz.prog 68 #[.pointer (some ⟨cb,0,none⟩),.iface 145 (.pointer (some ⟨g,0,none⟩))] w fun e w'=>e = .returned (.tuple #[])∧∃ F' y0 y1 y2 y3 y4,wM w w' cb b g F F' c E ((c.aE 7).cZ v) x0 x1 x2 x3 y0 y1 y2 y3 y4:=by
 have t0:=Tryz.tr
 have t1:=Tryz.iO
 have t2:=Tryz.je
 have t3:=Tryz.jU
 have t4:=Tryz.kD
 have t5:=Tryz.jk
 have t6:=Tryz.jK
 have HF:=ae (eZ c 7 cb b F E w h (by decide) (by simp only[CS.room] at *;omega))
 have hgF:=(hL 0).nF
 have hM:=c.db 7
 have H:=ae (And.intro hp (And.intro hL (And.intro hX0 (And.intro hX1 (And.intro hX2 (And.intro hX3 (And.intro hX4 hR4)))))))
 clear h hp hL hX0 hX1 hX2 hX3 hX4 hR4
 go_enter Tryz.func68,Tryz.ntmps68
 go_wp2_with fail
 refine(aa HF).mono ?_
 rintro e w1 ⟨rfl,F1,hC1,hs1⟩
 obtain⟨hp,hL,hX0,hX1,hX2,hX3,hX4,hR4⟩:=aa H
 have hg:=(hL 0).lt
 have hm1:Bb w1 g v x0 x1 x2 x3 x4:=⟨(hs1.oth g 0 hg hgF (fun h=>h)).trans hp.c0,hp.r.aP hs1 hgF (fun _ _ h=>h),(hs1.oth g 11 hg hgF (fun h=>h)).trans hp.c11,(hs1.oth g 12 hg hgF (fun h=>h)).trans hp.c12,hp.a.aP hs1 hgF (fun _ _ h=>h),(hs1.oth g 20 hg hgF (fun h=>h)).trans hp.c20,hp.e.aP hs1 hgF (fun _ _ h=>h),(hs1.oth g 34 hg hgF (fun h=>h)).trans hp.c34⟩
 have HH:=ae (rr (c.aE 7) v a0 a1 a2 a3 a4 n0 n1 n2 n3 n4 x0 x1 x2 x3 x4 cb b g F1 E w1 hC1 hm1 e0 e1 e2 e3 e4 (hX0.aP (c':=c.aE 7) hs1 (fun _ _ _ h=>h.elim) hM.1 hM.2) (hX1.aP (c':=c.aE 7) hs1 (fun _ _ _ h=>h.elim) hM.1 hM.2) (hX2.aP (c':=c.aE 7) hs1 (fun _ _ _ h=>h.elim) hM) (hX3.aP (c':=c.aE 7) hs1 (fun _ _ _ h=>h.elim) hM.1 hM.2) (hX4.aP hs1 (fun _ _ _ h=>h.elim)) (fun q e=>by obtain⟨q',e'⟩:=hM.2 q e;exact hR4 q' e') (fun i=>(hL i).aP hs1) hv (CS.cA (by simp only[CS.room] at *;omega) 7))
 have H1:=ae (And.intro hs1 hX4)
 clear hC1 hs1 hp hL hX0 hX1 hX2 hX3 hX4 hR4 hm1 e0 e1 e2 e3 e4
 go_wp2_with fail
 refine(aa HH).mono ?_
 rintro e w2 ⟨rfl,F2,y0,y1,y2,y3,y4,hO⟩
 have hmd:∀ q,c = .rd q→∃ q',c.aE 7 = .rd q':=by rintro q rfl;exact⟨_,rfl⟩
 have H2:Hid (wM w w2 cb b g F F2 c E ((c.aE 7).cZ v) x0 x1 x2 x3 y0 y1 y2 y3 y4):=ae ⟨hO.C,hO.m,hO.o0.of hM (aa H1).1.size,hO.o1.of hM (aa H1).1.size,hO.o2.of hM (aa H1).1.size,hO.o3.of hM (aa H1).1.size,hO.o4.mode (aa H1).1.size hmd,((aa H1).1.mono (fun _ _ _ h=>h.elim)).trans hO.s (fun _ _ _ h=>h)⟩
 clear hO hmd
 go_wp2_with fail
 go_end0
 exact⟨rfl,F2,y0,y1,y2,y3,y4,aa H2⟩
theorem CS.Co (c:CS) (k:Nat) (v:cd):c.sm (c.pM k v).1:=by
 unfold CS.pM
 split
 ·exact CS.ef _ _
 split
 ·exact CS.gO _ _
 split
 ·exact CS.lC _ _
 split
 ·exact CS.ax (CS.gO _ _) (CS.dL _ _ _ _)
 split
 ·exact CS.nQ _ _
 split
 ·exact CS.bo _ _ _ _
 ·exact CS.o8 _
theorem CS.qD (c:CS) (v:cd):c.sm (c.cZ v).1:=CS.ax (CS.dL _ _ _ _) (CS.Co _ _ _)
theorem CS.yZ (s:Wq) (h:(CS.wr s).room 500) (k:Nat) (v:cd):((CS.wr s).pM k v).1.room 0:=by
 unfold CS.pM
 split
 ·exact CS.dX (n:=0) (CS.room_le h (by decide)) _
 split
 ·exact CS.ej (n:=0) (CS.room_le h (by decide)) _
 split
 ·have R1:((CS.wr s).a1 v.an).1.room 498:=CS.ej h _
  have R2:((CS.wr s).a2 v.an).1.room 497:=CS.ch R1 _ _ _
  have R3:((CS.wr s).a3 v.an).1.room 496:=CS.aF R2 _ _ _
  have R4:((CS.wr s).a4 v.an).1.room 495:=CS.aF R3 _ _ _
  have R5:((CS.wr s).a5 v.an).1.room 366:=CS.dN R4 _ _ _
  have M5:(CS.wr s).sm ((CS.wr s).a5 v.an).1:=CS.ax (CS.ax (CS.ax (CS.ax (CS.gO _ _) (CS.dL _ _ _ _)) (CS.bo _ _ _ _)) (CS.bo _ _ _ _)) (CS.eQ _ _ _ _)
  have e:=nB M5
  show(((CS.wr s).a5 v.an).1.jo v.an.hi).1.room 0
  rw[e] at R5 ⊢
  exact CS.l9 _ (CS.room_le R5 (by decide)) _
 split
 ·exact CS.ch (CS.ej (n:=1) (CS.room_le h (by decide)) _) _ _ _
 split
 ·exact CS.lu (CS.ch (CS.dX (n:=2) (CS.aF (n:=142) (CS.room_le h (by decide)) _ _ _) _) _ _ _) _ _
 split
 ·exact CS.aF (n:=0) (CS.room_le h (by decide)) _ _ _
 ·exact CS.room_le h (by decide)
theorem ko (v:cd):((gV.aE 7).cZ v).1 = .wr (cy v):=nB (CS.ax (CS.db gV 7) (CS.qD _ _))
theorem nb (v:cd):(CS.wr (cy v)).room 0:=by
 rw[← ko]
 have R0:(gV.aE 7).room 501:=CS.cA (ew 502 (by decide)) 7
 have R1:((gV.aE 7).m1 v).1.room 500:=CS.ch R0 _ _ _
 have e:=nB (CS.ax (CS.db gV 7) (CS.dL (gV.aE 7) ay [bC 1 7 5,gh v.beside] v.kd))
 show(((gV.aE 7).m1 v).1.pM ((gV.aE 7).m1 v).2 v).1.room 0
 have e':((gV.aE 7).m1 v).1 = .wr ((gV.aE 7).m1 v).1.wq:=e
 rw[e'] at R1 ⊢
 exact CS.yZ _ R1 _ _
theorem mL (vs:List Value) (hl:vs.length=35) (w:World) (Q:Ending→World→Prop) (h:Calls Tryz.prog 26 #[.agg vs.toArray] (w.alloc (.cells vs.toArray 42)) fun e w'=>(∃ v err,e = .returned (.tuple #[v,err]))∧Q e w'):Calls Tryz.prog 10 #[.agg vs.toArray] w fun e w'=>(∃ v err,e = .returned (.tuple #[v,err]))∧Q e w':=by
 have H:=ae h
 have HR:Hid ((w.alloc (.cells vs.toArray 42)).rangeAt w.heap.size 0 vs):=ae (af (heap_alloc_new w _))
 have HZ:Hid ((Tryz.prog.info? 42).map (·.size)=some vs.length):=ae (by rw[hl];exact Tryz.ie)
 clear h hl
 go_enter Tryz.func10,Tryz.ntmps10
 go_wp2_with (refine wpList_load_mid rfl 42 (.tmp 1) rfl w.heap.size 0 rfl _ _ (aa HR) Tryz.underlying42 rfl (aa HZ) ?_)
 refine(aa H).mono ?_
 rintro e w' ⟨⟨v,err,rfl⟩,hr⟩
 have HR:=ae hr
 clear hr
 go_wp2_with fail
 go_ret2
 exact⟨⟨v,err,rfl⟩,aa HR⟩
structure AP (w:World) (v:cd) (x0 x1 x2 x3 x4:Value):Prop where
 i0:kz w x0 v.rq.fs
 i1:kz w x1 v.an.fs
 i2:ue w x2 v.an.hi
 i3:kz w x3 v.ev.rq.fs
 i4:nG w x4 v.ev.dg
theorem AP.aR {w w1:World} {v:cd} {x0 x1 x2 x3 x4:Value} (h:AP w v x0 x1 x2 x3 x4) (hf:Fr (fun _=>False) w w1):AP w1 v x0 x1 x2 x3 x4:=⟨h.i0.aR hf,h.i1.aR hf,h.i2.aR hf,h.i3.aR hf,h.i4.aR hf⟩
theorem jF.form {w:World} {s:Wq} {x:Value} {l:List cj} {F:Nat→Prop} {g:Nat} (h:jF w (.wr s) x l F g):∃ a n,x = .slice a l.length n:=by obtain⟨xo,xc,e,_⟩:=h.wr s rfl;exact⟨xo,xc,e⟩
theorem tb.form {w:World} {s:Wq} {x:Value} {l:List dB} {F:Nat→Prop} {g:Nat} (h:tb w (.wr s) x l F g):∃ a n,x = .slice a l.length n:=by obtain⟨xo,xc,e,_⟩:=h.wr s rfl;exact⟨xo,xc,e⟩
theorem iK (v:cd) (x0 x1 x2 x3 x4:Value) (E:Nat→Addr) (w:World) (hg:G6 w E) (hw:9≤w.heap.size) (hx:AP w v x0 x1 x2 x3 x4) (hv:v.ok) :
  Calls Tryz.prog 10 #[.agg (v.aL x0 x1 x2 x3 x4)] w fun e w'=>cH w w' e (cy v) E:=by
 have hr:=nb v
 obtain⟨wb,hwb⟩:∃ wb,w.alloc (.cells (v.aL x0 x1 x2 x3 x4) 42)=wb:=⟨_,rfl⟩
 have hbx:Fr (fun _=>False) w wb:=by rw[← hwb];exact al _ _
 have hx':=hx.aR hbx
 have hp:=pY (v.aL x0 x1 x2 x3 x4) (cy v) E wb (hg.fr hbx (fun _ h=>h.elim)) (by have:=hbx.size;omega) (fun w1 cb b F hC hcs hL hF hf=>by
  have hF':∀ k,F k→wb.heap.size≤k:=fun k hk=>by have:=hF k hk;omega
  have X0:=hx'.i0.CD (s:=⟨ByteArray.empty,[],none⟩) hf hF' wb.heap.size (Nat.le_refl _)
  have X1:=hx'.i1.CD (s:=⟨ByteArray.empty,[],none⟩) hf hF' wb.heap.size (Nat.le_refl _)
  have X2:=hx'.i2.sux (s:=⟨ByteArray.empty,[],none⟩) hf hF' wb.heap.size (Nat.le_refl _)
  have X3:=hx'.i3.CD (s:=⟨ByteArray.empty,[],none⟩) hf hF' wb.heap.size (Nat.le_refl _)
  have X4:=hx'.i4.bvg hf hF' wb.heap.size (Nat.le_refl _)
  obtain⟨a0,n0,e0⟩:=X0.form
  obtain⟨a1,n1,e1⟩:=X1.form
  obtain⟨a2,n2,e2⟩:=X2.form
  obtain⟨a3,n3,e3⟩:=X3.form
  obtain⟨a4,n4,e4⟩:=X4.bv.src.form
  refine(mw gV v a0 a1 a2 a3 a4 n0 n1 n2 n3 n4 x0 x1 x2 x3 x4 cb b wb.heap.size F E w1 hC ⟨hcs 0 _ rfl,⟨hcs 1 _ rfl,hcs 2 _ rfl,hcs 3 _ rfl,hcs 4 _ rfl,hcs 5 _ rfl,hcs 6 _ rfl,hcs 7 _ rfl,hcs 8 _ rfl,hcs 9 _ rfl,hcs 10 _ rfl⟩,hcs 11 _ rfl,hcs 12 _ rfl,⟨hcs 13 _ rfl,hcs 14 _ rfl,hcs 15 _ rfl,hcs 16 _ rfl,hcs 17 _ rfl,hcs 18 _ rfl,hcs 19 _ rfl⟩,hcs 20 _ rfl,⟨hcs 21 _ rfl,⟨hcs 22 _ rfl,hcs 23 _ rfl,hcs 24 _ rfl,hcs 25 _ rfl,hcs 26 _ rfl,hcs 27 _ rfl,hcs 28 _ rfl,hcs 29 _ rfl,hcs 30 _ rfl,hcs 31 _ rfl⟩,hcs 32 _ rfl,hcs 33 _ rfl⟩,hcs 34 _ rfl⟩ e0 e1 e2 e3 e4 X0 X1 X2 X3 X4 (fun q e=>by cases e) hL hv (ew 502 (by decide))).mono ?_
  rintro e w' ⟨rfl,F',_,_,_,_,_,hO⟩
  exact⟨rfl,F',by rw[← ko];exact hO.C,hO.s.mono (fun k j _ h=>h.1)⟩) (jm hr)
 refine(mL (v.aL x0 x1 x2 x3 x4).toList rfl w (fun e w'=>cH w w' e (cy v) E) ?_).mono (fun e w' h=>h.2)
 show Calls Tryz.prog 26 #[.agg (v.aL x0 x1 x2 x3 x4)] (w.alloc (.cells (v.aL x0 x1 x2 x3 x4) 42)) _
 rw[hwb]
 exact hp.mono (fun e w' h=>by rw[← hwb] at h;exact cH.box h)
def rB:List Value:=[.int .u8 0,.int .u32 0,.int .u32 0,.int .u32 0,.int .u8 0,.int .u32 0,.int .u32 0,.int .u32 0,.int .u32 0,.slice none 0 0,.string ⟨#[]⟩,.int .u32 0,.int .u32 0,.int .u32 0,.int .u32 0,.int .u8 0,.int .u32 0,.int .u32 0,.slice none 0 0,.slice none 0 0,.int .u8 0,.int .u32 0,.int .u32 0,.int .u32 0,.int .u32 0,.int .u8 0,.int .u32 0,.int .u32 0,.int .u32 0,.int .u32 0,.slice none 0 0,.string ⟨#[]⟩,.int .u8 0,.slice none 0 0,.int .u32 0]
theorem ar.box {w w':World} {F:Nat→Prop} {g t t':Nat} {vs vs':Array Value} (hf:Fr (fun k=>k=g) w w') (hb:w.heap[g]?=some (.cells vs t)) (hb':w'.heap[g]?=some (.cells vs' t')):ar w w' F F (fun k _=>k=g):=by
 refine⟨hf.mono (fun k _ h=>.inr ⟨0,h⟩),fun _ h=>.inl h,fun k i hk _ hp=>hf.cell (p:=⟨k,i,none⟩) hk hp,fun k i hk _=>?_⟩
 by_cases e:k=g
 ·subst e
  simp[World.frozen?,hb,hb']
 ·exact hf.frozen (p:=⟨k,i,none⟩) hk e
structure AW (w:World) (base:Nat) (v:cd) (y0 y1 y2 y3 y4:Value) (F:Nat→Prop):Prop where
 o0:fH w base y0 v.rq.fs F
 o1:fH w base y1 v.an.fs F
 o2:jN w base y2 v.an.hi F
 o3:fH w base y3 v.ev.rq.fs F
 o4:uG w base y4 v.ev.dg F
theorem AW.aP {w w':World} {base:Nat} {v:cd} {y0 y1 y2 y3 y4:Value} {F F':Nat→Prop} {P:Nat→Nat→Prop} (h:AW w base v y0 y1 y2 y3 y4 F) (hs:ar w w' F F' P) (hP:∀ k j,base≤k→k<w.heap.size→¬ P k j):AW w' base v y0 y1 y2 y3 y4 F':=⟨h.o0.aP hs hP,h.o1.aP hs hP,h.o2.aP hs hP,h.o3.aP hs hP,h.o4.aP hs hP⟩
theorem AW.fin {w:World} {b b':Nat} {v:cd} {y0 y1 y2 y3 y4:Value} {F:Nat→Prop} (h:AW w b v y0 y1 y2 y3 y4 F) (hb:b'≤b):AW w b' v y0 y1 y2 y3 y4 (fun _=>False):=⟨h.o0.fin hb,h.o1.fin hb,h.o2.fin hb,h.o3.fin hb,h.o4.fin hb⟩
theorem AW.one {w:World} {b:Nat} {v:cd} {y0 y1 y2 y3 y4:Value} {F:Nat→Prop} (h:AW w b v y0 y1 y2 y3 y4 F):∀ u∈(v.aL y0 y1 y2 y3 y4).toList,u.oneCell'=true:=by
 have h0:=cW h.o0.row
 have h1:=cW h.o1.row
 have h2:=cW h.o2.row
 have h3:=cW h.o3.row
 have h4:=cW h.o4.row
 exact List.all_eq_true.1 (show List.all (v.aL y0 y1 y2 y3 y4).toList (fun v=>v.oneCell')=true by simp[cd.aL,Value.oneCell'];exact⟨h0,h1,h2,h3,h4⟩)
def cx:List Value:=[.int .u32 0,.int .u32 0,.int .u32 0,.int .u8 0,.int .u32 0,.int .u32 0,.int .u32 0,.int .u32 0,.slice none 0 0,.string ⟨#[]⟩,.int .u32 0,.int .u32 0,.int .u8 0,.int .u32 0,.int .u32 0,.slice none 0 0,.slice none 0 0,.int .u32 0,.int .u32 0,.int .u32 0,.int .u32 0,.int .u8 0,.int .u32 0,.int .u32 0,.int .u32 0,.int .u32 0,.slice none 0 0,.string ⟨#[]⟩,.int .u8 0,.slice none 0 0,.int .u32 0,.slice none 0 0,.int .u32 0,.slice none 0 0,.int .u32 0,.slice none 0 0,.slice none 0 0,.int .u8 0,.int .u32 0,.int .u32 0,.int .u32 0,.int .u8 0,.int .u32 0,.int .u32 0,.int .u32 0,.int .u32 0,.slice none 0 0,.string ⟨#[]⟩,.int .u32 0,.int .u32 0,.int .u32 0,.int .u32 0,.int .u8 0,.int .u32 0,.int .u32 0,.slice none 0 0,.slice none 0 0,.int .u8 0,.int .u32 0,.int .u32 0,.int .u32 0,.int .u32 0,.int .u8 0,.int .u32 0,.int .u32 0,.int .u32 0,.int .u32 0,.slice none 0 0,.string ⟨#[]⟩,.int .u8 0,.slice none 0 0,.int .u32 0]
theorem Tryz.cG:(Tryz.prog.info? 44).map (·.size)=some 72:=by kernel_rfl
theorem jz:∀ v∈cx,v.oneCell'=true:=List.all_eq_true.1 (show List.all cx (fun v=>v.oneCell')=true from rfl)
def bu (o:Nat) (vs:List Value):List Value:=cx.take o++(vs++cx.drop (o+vs.length))
theorem cU {o n:Nat} {vs:List Value} (hl:vs.length=n) (ho:o+n≤72):(bu o vs).length=72:=by
 have:cx.length=72:=rfl
 simp only[bu,List.length_append,List.length_take,List.length_drop,hl,this]
 omega
theorem fT {o:Nat} {vs:List Value} (h:∀ v∈vs,v.oneCell'=true):∀ v∈bu o vs,v.oneCell'=true:=fun v hv=>by
 rcases List.mem_append.1 hv with hv|hv
 ·exact jz v (List.mem_of_mem_take hv)
 ·rcases List.mem_append.1 hv with hv|hv
  ·exact h v hv
  ·exact jz v (List.mem_of_mem_drop hv)
theorem ji {o:Nat} {vs:List Value} (ho:o+vs.length≤72):∀ (i:Nat) v,vs[i]?=some v→(bu o vs)[o+i]?=some v:=fun i v hv=>by
 have hz:cx.length=72:=rfl
 have hi:=(List.getElem?_eq_some_iff.1 hv).1
 unfold bu
 rw[List.getElem?_append_right (by simp[hz];omega),List.getElem?_append_left (by simp[hz];omega)]
 simp only[List.length_take,hz]
 rw[show o+i - min o 72=i by omega]
 exact hv
theorem ux {o n:Nat} {vs fs':List Value} (hl:vs.length=n) (ho:o+n≤72) (h2:∀ i v,vs[i]?=some v→fs'[o+i]?=some v) (h3:∀ j,j<o∨o+vs.length≤j→fs'[j]?=cx[j]?):fs'=bu o vs:=by
 have hz:cx.length=72:=rfl
 have hp:(cx.take o).length=o:=by simp[hz];omega
 have e:cx=cx.take o++((cx.drop o).take n++cx.drop (o+n)):=by
  rw[← List.drop_drop,List.take_append_drop,List.take_append_drop]
 unfold bu
 rw[hl]
 refine BP (pre:=cx.take o) (olds:=(cx.drop o).take n) ?_ (fun i v hv=>by rw[hp];exact h2 i v hv) (fun j hj=>?_)
 ·simp[hz,hl];omega
 ·rw[hp] at hj
  rw[h3 j hj,← e]
theorem xG {o n:Nat} (ho:o+n≤72):bu o ((cx.drop o).take n)=cx:=by
 have hz:cx.length=72:=rfl
 unfold bu
 rw[show((cx.drop o).take n).length=n by simp[hz];omega,← List.drop_drop,List.take_append_drop,List.take_append_drop]
theorem Tryz.bV:(Tryz.prog.info? 30).map (·.size)=some 10:=by kernel_rfl
theorem Tryz.dk:(Tryz.prog.info? 33).map (·.size)=some 7:=by kernel_rfl
theorem Tryz.dF:(Tryz.prog.info? 35).map (·.size)=some 13:=by kernel_rfl
theorem Tryz.bO:(Tryz.prog.info? 25).map (·.size)=some 2:=by kernel_rfl
theorem pw (xo:Option Addr) (n xc:Nat) (w:World) (Q:World→List Value→Value→Prop) (h:Calls Tryz.prog 22 #[.slice xo n xc] ((w.alloc (.cells cx.toArray 44)).alloc (.cells cx.toArray 44)) fun e w'=>∃ vs err,e = .returned (.tuple #[.agg (List.toArray vs),err])∧vs.length=2∧(∀ v∈vs,v.oneCell'=true)∧Fr (fun _=>False) ((w.alloc (.cells cx.toArray 44)).alloc (.cells cx.toArray 44)) w'∧Q w' vs err) :
  Calls Tryz.prog 17 #[.int .i64 4,.slice xo n xc] w fun e w'=>∃ vs err,e = .returned (.tuple #[.agg (List.toArray (bu 30 vs)),err])∧vs.length=2∧(∀ v∈vs,v.oneCell'=true)∧∃ w2,Q w2 vs err∧Fr (fun g=>g=w.heap.size∨g=w.heap.size+1) w2 w'∧(∀ F,ar w2 w' F F (fun g _=>g=w.heap.size∨g=w.heap.size+1))∧Fr (fun _=>False) w w'∧w2.heap[w.heap.size]?=some (.cells cx.toArray 44)∧w2.heap[w.heap.size+1]?=some (.cells cx.toArray 44):=by
 have H:=ae h
 clear h
 go_enter Tryz.func17,Tryz.ntmps17
 go_wp2_with fail
 refine(aa H).mono ?_
 rintro e w5 ⟨vs,err,rfl,hln,hone,hf5,hq⟩
 have hs1:(w.alloc (.cells cx.toArray 44)).heap.size=w.heap.size+1:=by simp
 have hb4:w5.heap[w.heap.size]?=some (.cells cx.toArray 44):=(hf5.block w.heap.size (by simp;omega) (fun h=>h)).trans ((Below.heap_alloc _ _ _ (by simp)).trans (heap_alloc_new _ _))
 have hb6:w5.heap[w.heap.size+1]?=some (.cells cx.toArray 44):=(hf5.block (w.heap.size+1) (by simp) (fun h=>h)).trans (by rw[← hs1];exact heap_alloc_new _ _)
 have hf05:Fr (fun _=>False) w w5:=((al w _).trans (al _ _) (fun _ _ h=>h)).trans hf5 (fun _ _ h=>h)
 have hs5:=hf5.size
 obtain⟨W6,hst6,⟨fs',hb6',hl6,h3,h4⟩,hf6⟩:=wz (P:=Tryz.prog) (ty:=25) (o:=30) cx vs hb6 (by rw[hln];decide) (by rw[hln];exact Tryz.bO) hone
 have e6:fs'=bu 30 vs:=ux hln (by decide) h3 h4
 subst e6
 have hb46:=(hf6.block w.heap.size (by simp at hs5;omega) (fun e=>by omega)).trans hb4
 obtain⟨W7,hst7,hb7,hf7⟩:=bz (P:=Tryz.prog) (ty:=44) cx (bu 30 vs) hb46 (by rw[cU hln (by decide)];rfl) (by rw[cU hln (by decide)];exact Tryz.cG) (fT hone)
 have HS6:=ae hst6
 have HS7:=ae hst7
 have HR6:Hid (W6.rangeAt (w.heap.size+1) 0 (bu 30 vs)):=ae (af hb6')
 have HZ:Hid ((Tryz.prog.info? 44).map (·.size)=some (bu 30 vs).length):=ae (by rw[cU hln (by decide)];exact Tryz.cG)
 have hf67:Fr (fun g=>g=w.heap.size∨g=w.heap.size+1) w5 W7:=(hf6.mono (fun _ _ e=>.inr e)).trans (hf7.mono (fun _ _ e=>.inl e)) (fun _ _ h=>h)
 have hst:∀ F,ar w5 W7 F F (fun g _=>g=w.heap.size∨g=w.heap.size+1):=fun F=>((ar.box (F:=F) hf6 hb6 hb6').mono (fun _ _ _ e=>.inr e)).trans ((ar.box (F:=F) hf7 hb46 hb7).mono (P':=fun g _=>g=w.heap.size∨g=w.heap.size+1) (fun _ _ _ e=>.inl e)) (fun _ _ _ h=>h)
 have hf07:Fr (fun _=>False) w W7:=hf05.trans hf67 (fun k hk e=>by omega)
 have H5:=ae (And.intro hb7 (And.intro hln (And.intro hone (And.intro hq (And.intro hf67 (And.intro hst (And.intro hf07 (And.intro hb4 hb6))))))))
 clear hf5 hq hone hln hb4 hb6 hf05 hst6 hb6' hl6 h3 h4 hf6 hb46 hst7 hb7 hf7 hf67 hst hf07 hs5 hs1
 go_wp2_with (first|refine aA rfl 25 (.tmp 46) (.tmp 44) rfl _ _ rfl rfl (aa HS6) ?_|refine wpList_load_mid rfl 44 (.tmp 6) rfl (w.heap.size+1) 0 rfl _ _ (aa HR6) Tryz.underlying44 rfl (aa HZ) ?_|refine aA rfl 44 (.tmp 4) (.tmp 63) rfl _ _ rfl rfl (aa HS7) ?_)
 refine bodyPost_ret (iq rfl _ _ w.heap.size 0 (bu 30 vs) _ _ rfl rfl (af (aa H5).1) Tryz.underlying44 rfl (aa HZ)) rfl ?_
 obtain⟨_,hln,hone,hq,hf67,hst,hf07,hb4,hb6⟩:=aa H5
 exact⟨vs,err,rfl,hln,hone,w5,hq,hf67,hst,hf07,hb4,hb6⟩
theorem Tryz.pP:(Tryz.prog.info? 40).map (·.size)=some 1:=by kernel_rfl
theorem mS (xo:Option Addr) (n xc:Nat) (w:World) (Q:World→List Value→Value→Prop) (h:Calls Tryz.prog 38 #[.slice xo n xc] ((w.alloc (.cells cx.toArray 44)).alloc (.cells cx.toArray 44)) fun e w'=>∃ vs err,e = .returned (.tuple #[.agg (List.toArray vs),err])∧vs.length=1∧(∀ v∈vs,v.oneCell'=true)∧Fr (fun _=>False) ((w.alloc (.cells cx.toArray 44)).alloc (.cells cx.toArray 44)) w'∧Q w' vs err) :
  Calls Tryz.prog 17 #[.int .i64 6,.slice xo n xc] w fun e w'=>∃ vs err,e = .returned (.tuple #[.agg (List.toArray (bu 36 vs)),err])∧vs.length=1∧(∀ v∈vs,v.oneCell'=true)∧∃ w2,Q w2 vs err∧Fr (fun g=>g=w.heap.size∨g=w.heap.size+1) w2 w'∧(∀ F,ar w2 w' F F (fun g _=>g=w.heap.size∨g=w.heap.size+1))∧Fr (fun _=>False) w w'∧w2.heap[w.heap.size]?=some (.cells cx.toArray 44)∧w2.heap[w.heap.size+1]?=some (.cells cx.toArray 44):=by
 have H:=ae h
 clear h
 go_enter Tryz.func17,Tryz.ntmps17
 go_wp2_with fail
 refine(aa H).mono ?_
 rintro e w5 ⟨vs,err,rfl,hln,hone,hf5,hq⟩
 have hs1:(w.alloc (.cells cx.toArray 44)).heap.size=w.heap.size+1:=by simp
 have hb4:w5.heap[w.heap.size]?=some (.cells cx.toArray 44):=(hf5.block w.heap.size (by simp;omega) (fun h=>h)).trans ((Below.heap_alloc _ _ _ (by simp)).trans (heap_alloc_new _ _))
 have hb6:w5.heap[w.heap.size+1]?=some (.cells cx.toArray 44):=(hf5.block (w.heap.size+1) (by simp) (fun h=>h)).trans (by rw[← hs1];exact heap_alloc_new _ _)
 have hf05:Fr (fun _=>False) w w5:=((al w _).trans (al _ _) (fun _ _ h=>h)).trans hf5 (fun _ _ h=>h)
 have hs5:=hf5.size
 obtain⟨W6,hst6,⟨fs',hb6',hl6,h3,h4⟩,hf6⟩:=wz (P:=Tryz.prog) (ty:=40) (o:=36) cx vs hb6 (by rw[hln];decide) (by rw[hln];exact Tryz.pP) hone
 have e6:fs'=bu 36 vs:=ux hln (by decide) h3 h4
 subst e6
 have hb46:=(hf6.block w.heap.size (by simp at hs5;omega) (fun e=>by omega)).trans hb4
 obtain⟨W7,hst7,hb7,hf7⟩:=bz (P:=Tryz.prog) (ty:=44) cx (bu 36 vs) hb46 (by rw[cU hln (by decide)];rfl) (by rw[cU hln (by decide)];exact Tryz.cG) (fT hone)
 have HS6:=ae hst6
 have HS7:=ae hst7
 have HR6:Hid (W6.rangeAt (w.heap.size+1) 0 (bu 36 vs)):=ae (af hb6')
 have HZ:Hid ((Tryz.prog.info? 44).map (·.size)=some (bu 36 vs).length):=ae (by rw[cU hln (by decide)];exact Tryz.cG)
 have hf67:Fr (fun g=>g=w.heap.size∨g=w.heap.size+1) w5 W7:=(hf6.mono (fun _ _ e=>.inr e)).trans (hf7.mono (fun _ _ e=>.inl e)) (fun _ _ h=>h)
 have hst:∀ F,ar w5 W7 F F (fun g _=>g=w.heap.size∨g=w.heap.size+1):=fun F=>((ar.box (F:=F) hf6 hb6 hb6').mono (fun _ _ _ e=>.inr e)).trans ((ar.box (F:=F) hf7 hb46 hb7).mono (P':=fun g _=>g=w.heap.size∨g=w.heap.size+1) (fun _ _ _ e=>.inl e)) (fun _ _ _ h=>h)
 have hf07:Fr (fun _=>False) w W7:=hf05.trans hf67 (fun k hk e=>by omega)
 have H5:=ae (And.intro hb7 (And.intro hln (And.intro hone (And.intro hq (And.intro hf67 (And.intro hst (And.intro hf07 (And.intro hb4 hb6))))))))
 clear hf5 hq hone hln hb4 hb6 hf05 hst6 hb6' hl6 h3 h4 hf6 hb46 hst7 hb7 hf7 hf67 hst hf07 hs5 hs1
 go_wp2_with (first|refine aA rfl 40 (.tmp 62) (.tmp 60) rfl _ _ rfl rfl (aa HS6) ?_|refine wpList_load_mid rfl 44 (.tmp 6) rfl (w.heap.size+1) 0 rfl _ _ (aa HR6) Tryz.underlying44 rfl (aa HZ) ?_|refine aA rfl 44 (.tmp 4) (.tmp 63) rfl _ _ rfl rfl (aa HS7) ?_)
 refine bodyPost_ret (iq rfl _ _ w.heap.size 0 (bu 36 vs) _ _ rfl rfl (af (aa H5).1) Tryz.underlying44 rfl (aa HZ)) rfl ?_
 obtain⟨_,hln,hone,hq,hf67,hst,hf07,hb4,hb6⟩:=aa H5
 exact⟨vs,err,rfl,hln,hone,w5,hq,hf67,hst,hf07,hb4,hb6⟩
theorem Tryz.dr:(Tryz.prog.info? 42).map (·.size)=some 35:=by kernel_rfl
end Go.Proofs.YtdcopmkgmbiikaaGreatDoor
