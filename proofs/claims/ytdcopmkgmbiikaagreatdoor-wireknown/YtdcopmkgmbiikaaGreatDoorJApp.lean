import Derived.Test.YtdcopmkgmbiikaaGreatDoorJWri
import Derived.Lib.AppendStr
import Derived.Laws.OwnMore
namespace Go.Proofs.YtdcopmkgmbiikaaGreatDoor
open Go.RowKit
def bytesOf (s:ByteArray):List Nat:=s.data.toList.map UInt8.toNat
theorem lJ (s:ByteArray):(bytesOf s).length=s.size:=by simp[bytesOf]
theorem ku (s:ByteArray):cellsOf (bytesOf s)=Lib.strCells s:=by
 simp only[cellsOf,bytesOf,Lib.strCells,List.map_map]
 apply List.map_congr_left
 intro c _
 have:c.toNat<256:=c.toNat_lt
 simp[B,Nat.mod_eq_of_lt this]
theorem eT (a b:List Nat):cellsOf (a++b)=cellsOf a++cellsOf b:=by simp[cellsOf]
theorem eV (a:List Nat):(cellsOf a).length=a.length:=by simp[cellsOf]
theorem qm (a:List Nat):∀ u∈cellsOf a,u.oneCell'=true:=by
 intro u hu
 simp only[cellsOf,List.mem_map] at hu
 obtain⟨c,_,rfl⟩:=hu
 rfl
def Src (w:World) (x:Value) (l:List Nat):Prop:=
 (x = .slice none 0 0∧l=[])∨(∃ g o c,x = .slice (some ⟨g,o,none⟩) l.length c∧∀ j v,(cellsOf l)[j]?=some v→w.cell? ⟨g,o+j,none⟩=some v)∨∃ a c,x = .slice (some a) 0 c∧l=[]
theorem Src.fr {w w':World} {x:Value} {l:List Nat} {S:Nat→Prop} (h:Src w x l) (hf:Fr S w w') (hS:∀ g o m c,x = .slice (some ⟨g,o,none⟩) m c→¬ S g):Src w' x l:=by
 rcases h with h|⟨g,o,c,hx,hc⟩|h
 ·exact .inl h
 ·exact .inr (.inl ⟨g,o,c,hx,fun j v hv=>(hf.cell (p:=⟨g,o+j,none⟩) (ab (hc j v hv)) (hS g o _ c hx)).trans (hc j v hv)⟩)
 ·exact .inr (.inr h)
theorem Src.form {w:World} {x:Value} {l:List Nat} (h:Src w x l):∃ xo xc,x = .slice xo l.length xc:=by
 rcases h with ⟨rfl,rfl⟩|⟨g,o,c,rfl,_⟩|⟨a,c,rfl,rfl⟩
 ·exact⟨none,0,rfl⟩
 ·exact⟨_,c,rfl⟩
 ·exact⟨_,c,rfl⟩
theorem pB {w:World} {xo:Option Addr} {n xc:Nat} {a:List Nat} (h:Src w (.slice xo n xc) a) (k:Nat) (hk:k<a.length):∃ g o,xo=some ⟨g,o,none⟩∧w.cell? ⟨g,o+k,none⟩=some (.int .u8 ((a[k] % 256:Nat):Int)):=by
 rcases h with ⟨_,e⟩|⟨g,o,c,hx,hc⟩|⟨_,_,_,e⟩
 ·subst e;simp at hk
 ·simp only[Value.slice.injEq] at hx
  exact⟨g,o,hx.1,hc k _ (by simp[cellsOf,hk,B])⟩
 ·subst e;simp at hk
theorem di {w:World} {base n:Nat} {v:Value} {xs:List Value} (h:w.ownsRow base 5 1 v n xs):∃ ao cap,v = .slice ao n cap:=by
 rcases h.2 with ⟨rfl,rfl⟩|⟨g,cap,cur,rfl,_⟩
 ·exact⟨none,0,rfl⟩
 ·exact⟨some ⟨g,0,none⟩,cap,rfl⟩
theorem gb (w:World) (ty base n:Nat) (v x:Value) (xs:List Value) (l:List Nat) (hown:w.ownsRow base 5 1 v n xs) (hx:Src w x l) (hb:n+l.length≤140737488355328) (hbase:base≤w.heap.size) :
  ∃ ao cap w',(Builtin.append_ #[23,23] ty #[v,x]).run Tryz.prog w = .ok (.slice ao (n+l.length) cap) w'∧w'.ownsRow base 5 1 (.slice ao (n+l.length) cap) (n+l.length) (xs++cellsOf l)∧w.grownBy w' v.ownBlock ∧
   ((Value.slice ao (n+l.length) cap).ownBlock=v.ownBlock∨(Value.slice ao (n+l.length) cap).ownBlock=some w.heap.size):=by
 obtain⟨i0,hi,hz0,hz1,hz2⟩:=info_parts Tryz.yy
 rcases hx with ⟨rfl,rfl⟩|⟨g,o,c,rfl,hc⟩|⟨ad,c,rfl,rfl⟩
 ·have hr:=run_append_owned_none (P:=Tryz.prog) w base 23 ty 5 i0 1 Tryz.underlying23 hi v n xs hown
  obtain⟨ao,cap,rfl⟩:=di hown
  exact⟨ao,cap,w,by simpa using hr,by simpa[cellsOf] using hown,⟨rfl,rfl,rfl,Nat.le_refl _,fun _ _ _=>rfl⟩,.inl rfl⟩
 ·obtain⟨v',w',hr,h2,h3,_,h5⟩:=run_append_own_at (P:=Tryz.prog) w base 23 ty 5 i0 (.int .u8 0) 1 1 Tryz.underlying23 hi hz0 hz1 hz2 rfl (by decide) v n xs hown ⟨g,o,none⟩ l.length c (cellsOf l) (by simp[eV]) (fun j u hu=>by
    have e:(⟨g,o,none⟩:Addr).add j=⟨g,o+j,none⟩:=by unfold Addr.add;split <;> simp_all
    rw[e];exact hc j u hu) (qm l) (by simp only[maxLen];omega) (by omega) hbase
  obtain⟨ao,cap,rfl⟩:=di h2
  exact⟨ao,cap,w',hr,h2,h3,h5⟩
 ·obtain⟨v',w',hr,h2,h3,_,h5⟩:=run_append_own_at (P:=Tryz.prog) w base 23 ty 5 i0 (.int .u8 0) 1 1 Tryz.underlying23 hi hz0 hz1 hz2 rfl (by decide) v n xs hown ad 0 c [] rfl (fun j u hu=>by simp at hu) (fun u hu=>by simp at hu) (by simp only[maxLen];simp at hb;omega) (by simp at hb;omega) hbase
  obtain⟨ao,cap,rfl⟩:=di h2
  exact⟨ao,cap,w',hr,h2,h3,h5⟩
theorem qF (w:World) (ty base n:Nat) (v:Value) (xs:List Value) (s:ByteArray) (hown:w.ownsRow base 5 1 v n xs) (hb:n+s.size≤140737488355328) (hbase:base≤w.heap.size) :
  ∃ ao cap w',(Builtin.append_ #[23,9] ty #[v,.string s]).run Tryz.prog w = .ok (.slice ao (n+s.size) cap) w'∧w'.ownsRow base 5 1 (.slice ao (n+s.size) cap) (n+s.size) (xs++cellsOf (bytesOf s))∧w.grownBy w' v.ownBlock ∧
   ((Value.slice ao (n+s.size) cap).ownBlock=v.ownBlock∨(Value.slice ao (n+s.size) cap).ownBlock=some w.heap.size):=by
 obtain⟨i0,hi,hz0,hz1,hz2⟩:=info_parts Tryz.yy
 obtain⟨v',w',hr,h2,h3,h4⟩:=Lib.run_append_own_string (P:=Tryz.prog) w base 23 9 ty 5 i0 Tryz.underlying23 Tryz.underlying9 hi hz0 hz1 hz2 v n xs hown s (by simp only[maxLen];omega) hb hbase
 have h5:v'.ownBlock=v.ownBlock∨v'.ownBlock=some w.heap.size:=by
  have hxl:xs.length=n:=by simpa using hown.1
  rcases hown.2 with ⟨rfl,rfl⟩|⟨g,cap,cur,rfl,hbg,hg,hnc,hcm,hcs,htake⟩
  ·by_cases hm:s.size=0
   ·exact .inl (by rw[h4.2 ⟨rfl,hm⟩])
   ·have hr0:=run_append_nil_string (P:=Tryz.prog) w 23 9 ty 5 i0 (.int .u8 0) Tryz.underlying23 Tryz.underlying9 hi hz0 s (by omega) (by omega) (by rw[hz2];omega)
    rw[hr] at hr0
    injection hr0 with e1 _
    exact .inr (by rw[e1];rfl)
  ·by_cases hroom:n+s.size≤cap
   ·have hr0:=Lib.run_append_room_string (P:=Tryz.prog) w 23 9 ty 5 i0 Tryz.underlying23 Tryz.underlying9 hi hz1 g n cap cur hg s hroom (by omega)
    rw[hr] at hr0
    injection hr0 with e1 _
    exact .inl (by rw[e1];rfl)
   ·have hr0:=Lib.run_append_grow_string (P:=Tryz.prog) w 23 9 ty 5 i0 (.int .u8 0) Tryz.underlying23 Tryz.underlying9 hi hz0 ⟨g,0,none⟩ n cap xs (by rw[hz1];simpa using hxl) (hown.cells (g:=g) rfl) s (by omega) (by omega) (by rw[hz2];exact growslice_fits (by omega) (by omega))
    rw[hr] at hr0
    injection hr0 with e1 _
    exact .inr (by rw[e1];rfl)
 obtain⟨ao,cap,rfl⟩:=di h2
 exact⟨ao,cap,w',hr,by rw[ku];exact h2,h3,h5⟩
theorem gB {P:Program} {w w':World} {ops:Array Oper} {o:Oper} {a:Act} {K:Act→World→Prop} {Q:Exit→Act→World→Prop} {E:Prop} (hgd:o.guard=none) (s x:Operand) (t u:TypeId)
  (ho:o.op = .call { callee:=.builtin .append,args:=#[s,x],argTypes:=#[t,u] }) (vs vx v':Value) (hs:a.eval s=vs) (hx:a.eval x=vx) (hr:(Builtin.append_ #[t,u] o.type #[vs,vx]).run P w = .ok v' w')
  (h:K (a.put o.dst v') w'):if Region.wanted o (yielded ops a.tmps)=true then Oper.wp P o a w K Q else E:=by
 have hw:Region.wanted o (yielded ops a.tmps)=true:=by simp[Region.wanted,hgd]
 rw[if_pos hw]
 unfold Oper.wp execOp
 simp only[ho,resolve,invoke,builtin,Sem.run_bind,Sem.run_pure,Result.andThen_ok,List.map_toArray,List.map_cons,List.map_nil,hs,hx,hr]
 exact h
theorem ik.AL {w wr wa w1:World} {b o n:Nat} {sv sv1 v':Value} {l1 l2:List Nat} {xs:List Value} (had:ik w wr b o sv sv1 l1) (ha:Fr (fun _=>False) wr wa) (hgrow:wa.grownBy w1 sv1.ownBlock)
  (hown:w1.ownsRow (b+1) 5 1 v' n xs) (hxs:xs=cellsOf l2) (hat:v'.ownBlock=sv1.ownBlock∨v'.ownBlock=some wa.heap.size) :
  ik w (w1.setCell ⟨b,o,none⟩ v') b o sv v' l2:=by
 have hn:n=l2.length:=by have:=hown.1;rw[hxs] at this;simpa[cellsOf] using this.symm
 subst hxs
 have hb1:b<wr.heap.size:=ab had.c2
 have hne:some b≠sv1.ownBlock:=fun e=>by have:=had.own.lt b e.symm;omega
 have hba:b<wa.heap.size:=Nat.lt_of_lt_of_le hb1 ha.size
 have hcell:∀ i,w1.cell? ⟨b,i,none⟩=wr.cell? ⟨b,i,none⟩:=fun i=>(hgrow.cell_far ⟨b,i,none⟩ hba hne).trans (ha.cell hb1 (fun h=>h))
 have hfz:∀ i,w1.frozen? ⟨b,i,none⟩=wr.frozen? ⟨b,i,none⟩:=fun i=>(hgrow.frozen_far ⟨b,i,none⟩ hba hne).trans (ha.frozen hb1 (fun h=>h))
 refine⟨?_,?_,?_,?_,?_,?_⟩
 ·refine Fr.setCell (Fr.grown (had.fr.trans ha (fun _ _ h=>h.elim)) hgrow had.row) (.inl (.inl rfl)) _
 ·exact World.cell?_setCell_same _ _ _ ((hcell o).trans had.c2)
 ·rw[← hn];exact ownsRow_setCell_below hown (Nat.lt_succ_self b) _
 ·intro i hi
  rw[World.cell?_setCell_other _ _ _ _ (by intro h;injection h with _ h2 _;exact hi h2.symm),hcell,had.cs i hi]
 ·intro i;rw[World.frozen?_setCell,hfz,had.fz]
 ·rcases hat with e|e
  ·rcases had.at_ with e2|⟨g2,e2,hg2⟩
   ·exact .inl (e.trans e2)
   ·exact .inr ⟨g2,e.trans e2,hg2⟩
  ·exact .inr ⟨_,e,Nat.le_trans had.fr.size ha.size⟩
end Go.Proofs.YtdcopmkgmbiikaaGreatDoor
