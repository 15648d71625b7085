import Derived.Test.YtdcopmkgmbiikaaGreatDoorPn6
import Derived.Test.YtdcopmkgmbiikaaGreatDoorPn3
import Derived.Test.YtdcopmkgmbiikaaGreatDoorPn2
import Derived.Deep.CutRange
import Derived.Laws.StructEq
import Derived.Test.YtdcopmkgmbiikaaGreatDoorPn5
import Derived.Test.YtdcopmkgmbiikaaGreatDoorJTld
import Derived.Test.YtdcopmkgmbiikaaGreatDoorPn4
import Derived.Lib.AppendStr
set_option maxRecDepth 100000
set_option maxHeartbeats 8000000
set_option linter.unusedSimpArgs false
namespace Go.Proofs.YtdcopmkgmbiikaaGreatDoor
open Go.RowKit
theorem wV (w:World) (a b c:Obj):(((w.alloc a).alloc b).alloc c).heap[w.heap.size]?=some a∧(((w.alloc a).alloc b).alloc c).heap[w.heap.size+1]?=some b∧(((w.alloc a).alloc b).alloc c).heap[w.heap.size+1+1]?=some c∧(((w.alloc a).alloc b).alloc c).heap.size=w.heap.size+3:=by
 have h3:=vI w a b c
 have s2:((w.alloc a).alloc b).heap.size=w.heap.size+1+1:=by simp
 refine⟨h3.1,h3.2.1,?_,h3.2.2⟩
 rw[← s2]
 exact heap_alloc_new _ c
def Q.cE (q:Q) (nm:ByteArray) (k:Int):Q × Nat:=(((q.aj nm).go k 0).1,((q.aj nm).go k 0).2.1)
def Q.gid (q:Q):Q × Nat × Nat:=(((q.cE cV 4).1.cE ep 4).1,(q.cE cV 4).2,((q.cE cV 4).1.cE ep 4).2)
theorem Ai (q:Q) (xo:Option Addr) (len xc last:Nat) (so:Bool) (n:Nat) (w:World) (hlen:q.all.length=len) (hq:q.ok) (hn:1≤n) (hla:q.f=none→last=q.part) :
  Calls Tryz.prog 99 #[.agg (q.rv xo len xc last),.bool so,.int .i64 (n:Nat)] w fun e w'=>∃ last':Nat,e = .returned (.agg ((q.ah (if so then n else 0)).rv xo len xc last'))∧((q.ah (if so then n else 0)).f=none→last'=(q.ah (if so then n else 0)).part)∧Fr (fun _=>False) w w':=by
 subst hlen
 have hg:=pX q xo xc last so n w hq hn hla
 rw[Q.jX rfl] at hg
 refine hg.mono ?_
 rintro e w'' ⟨last',rfl,h1,h2⟩
 exact⟨last',by rw[Q.jX (show(q.ah (if so then n else 0)).all.length=q.all.length by rw[Q.dj])],h1,h2⟩
def Q.pL (q:Q):Q × Nat:=((q.cE fF 1).1.ah (if 10<(q.cE fF 1).2 then 5 else 0),(q.cE fF 1).2)
def Q.jb (q:Q) (nm:ByteArray) (used:Bool):Q × Nat:=((q.cE nm 4).1.ah (if used=false∧(q.cE nm 4).2≠0 then 4 else 0),(q.cE nm 4).2)
def Q.oM (q:Q):Q × (Nat × List Nat) × Nat × List Nat:=(((q.cN.1.cE fQ 4).1.many bW 0 32768).1,q.cN.2,(q.cN.1.cE fQ 4).2,((q.cN.1.cE fQ 4).1.many bW 0 32768).2)
theorem bG {P:Program} {ops:Array Oper} {Q:Exit→Act→World→Prop} {a:Act} {w:World} {rest:List Oper} (k:Nat) {x1 x2 x3 x4 x5} (h:wpList P ops Q (Oper.mk (some k) x1 x2 x3 x4 x5::rest) a w):wpList P ops Q (Oper.mk (some k) x1 x2 x3 x4 x5::rest) a w:=h
theorem bS {P:Program} {ops:Array Oper} {Q:Exit→Act→World→Prop} {a:Act} {w:World} {rest:List Oper} {x1 x2 x3 x4 x5} (h:wpList P ops Q (Oper.mk none x1 x2 x3 x4 x5::rest) a w):wpList P ops Q (Oper.mk none x1 x2 x3 x4 x5::rest) a w:=h
theorem fJ {P:Program} {w w':World} {ops:Array Oper} {op:Oper} {a:Act} {K:Act→World→Prop} {Q:Exit→Act→World→Prop} {E:Prop} (hgd:op.guard=none) (ty:TypeId) (x y:Operand) (ho:op.op = .store ty x y)
  (p v:Value) (hx:a.eval x=p) (hy:a.eval y=v) (hr:(Instr.storeAt ty p v).run P w = .ok () w')
  (h:K (a.put op.dst undef) w'):if Region.wanted op (yielded ops a.tmps)=true then Oper.wp P op a w K Q else E:=by
 have hw:Region.wanted op (yielded ops a.tmps)=true:=by simp[Region.wanted,hgd]
 rw[if_pos hw]
 unfold Oper.wp execOp
 simp only[ho,hx,hy,Sem.run_bind,hr,Result.andThen_ok,Sem.run_pure]
 exact h
theorem Tryz.bw:(Tryz.prog.info? 120).map (·.size)=some 7:=by kernel_rfl
def ru:List Value:=[.slice none 0 0,.int .i64 0,.int .i64 0,.string ⟨#[]⟩,.string ⟨#[]⟩,.int .i64 0,.int .i64 0]
structure u3 (w:World) (xo:Option Addr) (len xc:Nat) (all:List Nat):Prop where
 hx:Src w (.slice xo len xc) all
 hl:all.length=len
 hc:len≤xc
 hb:len≤16777216
def QS (q:Q) (xo:Option Addr) (len xc:Nat) (all:List Nat) (R:List Value):Prop:=q.all=all∧q.ok∧∃ last:Nat,R=(q.rv xo len xc last).toList∧(q.f=none→last=q.part)
theorem QS.len {q:Q} {xo:Option Addr} {len xc:Nat} {all:List Nat} {R:List Value} (h:QS q xo len xc all R):R.length=7:=by obtain⟨_,_,last,rfl,_⟩:=h;rfl
theorem QS.one {q:Q} {xo:Option Addr} {len xc:Nat} {all:List Nat} {R:List Value} (h:QS q xo len xc all R):∀ v∈R,v.oneCell'=true:=by
 obtain⟨_,_,last,rfl,_⟩:=h
 intro v hv
 simp only[Q.rv,List.mem_cons,List.not_mem_nil,or_false] at hv
 rcases hv with rfl|rfl|rfl|rfl|rfl|rfl|rfl <;> rfl
theorem gv (q:Q) (xo:Option Addr) (len xc last:Nat):(q.rv xo len xc last).toList.toArray=q.rv xo len xc last:=by simp
theorem Ba {w':World} {xo:Option Addr} {len xc:Nat} {all:List Nat} {R:List Value} {q:Q} (hl:all.length=len) (h:QS q xo len xc all R) (so:Bool) (n m:Nat) (hn:1≤n) (hn7:n≤7) (hm:(if so=true then n else 0)=m) :
  Calls Tryz.prog 99 #[.agg R.toArray,.bool so,.int .i64 (n:Nat)] w' fun e w''=>∃ R',e = .returned (.agg R'.toArray)∧QS (q.ah m) xo len xc all R'∧Fr (fun _=>False) w' w'':=by
 obtain⟨ha,ho,last,rfl,hla⟩:=h
 subst ha hm
 rw[gv]
 refine(Ai q xo len xc last so n w' hl ho hn hla).mono ?_
 rintro e w2 ⟨l2,rfl,h1,h2⟩
 exact⟨((q.ah (if so=true then n else 0)).rv xo len xc l2).toList,by rw[gv],⟨Q.dj _ _,Q.bH ho _ (by split <;> omega),l2,rfl,h1⟩,h2⟩
theorem u3.aR {w w':World} {xo:Option Addr} {len xc:Nat} {all:List Nat} (h:u3 w xo len xc all) (hf:Fr (fun _=>False) w w'):u3 w' xo len xc all:=⟨h.hx.fr hf (fun _ _ _ _ _ h=>h),h.hl,h.hc,h.hb⟩
theorem lv {w':World} {xo:Option Addr} {len xc:Nat} {all:List Nat} {R:List Value} {q:Q} (h:QS q xo len xc all R) :
  Calls Tryz.prog 58 #[.agg R.toArray] w' fun e w''=>e = .returned (.bool (decide (q.f=none)))∧Fr (fun _=>False) w' w'':=by
 obtain⟨ha,ho,last,rfl,hla⟩:=h
 rw[gv]
 refine(eX xo len xc (q.at_:Nat) (last:Nat) ((dn q.f).2.1:Nat) ((dn q.f).2.2:Nat) q.nm (dn q.f).1 w').mono ?_
 rintro e w2 ⟨rfl,rfl⟩
 refine⟨?_,al _ _⟩
 have e1:((((dn q.f).2.2:Nat):Int) == 0)=decide (q.f=none):=by
  have:=jf ho
  by_cases hq:q.f=none
  ·have h0:=this.2 hq
   rw[h0]
   simp[hq]
  ·have h0:¬ (dn q.f).2.2=0:=fun h=>hq (this.1 h)
   have h1:¬ (((dn q.f).2.2:Nat):Int)=0:=by omega
   rw[decide_eq_false hq]
   exact beq_eq_false_iff_ne.2 h1
 rw[e1]
def Q.bZ (q:Q) (nm:ByteArray) (most:Int):Q × Nat:=(((q.aj nm).go 7 most).1,((q.aj nm).go 7 most).2.1)
theorem Q.zc (q:Q) (nm:ByteArray) (most:Int):(q.bZ nm most).2<4294967296:=Q.go_lt (q.aj nm) 7 most
theorem QS.c3 {q:Q} {xo:Option Addr} {len xc:Nat} {all:List Nat} {R:List Value} (h:QS q xo len xc all R):R[3]?=some (.string q.nm):=by obtain⟨_,_,last,rfl,_⟩:=h;rfl
theorem QS.named {q:Q} {xo:Option Addr} {len xc:Nat} {all:List Nat} {R:List Value} (h:QS q xo len xc all R) (hf:q.f=none) (nm:ByteArray):QS (q.aj nm) xo len xc all (R.set 3 (.string nm)):=by
 obtain⟨ha,ho,last,rfl,hl⟩:=h
 have e:q.aj nm=q.named nm:=by unfold Q.aj;rw[if_pos hf]
 rw[e]
 exact⟨ha,Q.bt ho nm,last,rfl,hl⟩
theorem QS.rX {q:Q} {xo:Option Addr} {len xc:Nat} {all:List Nat} {R:List Value} (h:QS q xo len xc all R) (hf:q.f≠none) (nm:ByteArray):QS (q.aj nm) xo len xc all R:=by
 have e:q.aj nm=q:=by unfold Q.aj;rw[if_neg hf]
 rw[e]
 exact h
structure B2 (w W:World) (R:List Value):Prop where
 b0:W.heap[w.heap.size]?=some (.cells R.toArray 120)
 b1:W.heap[w.heap.size+1]?=some (.cells ru.toArray 120)
 fr:Fr (fun _=>False) w W
 n:R.length=7
section
variable {w W W':World} {R R':List Value} {q:Q} {xo:Option Addr} {len xc:Nat} {all:List Nat}
theorem B2.lt (h:B2 w W R):w.heap.size+1<W.heap.size:=lt_of_block h.b1
theorem B2.aR (h:B2 w W R) (hf:Fr (fun _=>False) W W'):B2 w W' R:=by
 have hl:=h.lt
 exact⟨(hf.block _ (by omega) (fun h=>h)).trans h.b0,(hf.block _ (by omega) (fun h=>h)).trans h.b1,h.fr.trans hf (fun _ _ h=>h),h.n⟩
theorem B2.lq (h:B2 w W R) (hR:QS q xo len xc all R'):∃ W',(Instr.storeAt 120 (.pointer (some ⟨w.heap.size,0,none⟩)) (.agg R'.toArray)).run Tryz.prog W = .ok () W'∧B2 w W' R'∧Fr (fun k=>k=w.heap.size) W W':=by
 have hl:=h.lt
 obtain⟨W',h1,h2,h3⟩:=bz (P:=Tryz.prog) (ty:=120) R R' h.b0 (by rw[h.n,hR.len]) (by rw[hR.len];exact Tryz.bw) hR.one
 exact⟨W',h1,⟨h2,(h3.block _ (by omega) (fun h=>by omega)).trans h.b1,h.fr.trans h3 (fun k hk e=>by omega),hR.len⟩,h3⟩
theorem B2.cell (h:B2 w W R) (i:Nat) (v:Value) (hv:R[i]?=some v):W.cell? ⟨w.heap.size,i,none⟩=some v:=af h.b0 i v hv |> fun h=>by simpa using h
theorem B2.A4 (h:B2 w W R) (i:Nat):W.frozen? ⟨w.heap.size,i,none⟩=false:=by simp[World.frozen?,h.b0]
theorem B2.BA (h:B2 w W R) (i:Nat) (v:Value):B2 w (W.setCell ⟨w.heap.size,i,none⟩ v) (R.set i v):=by
 have hl:=h.lt
 have h3:Fr (fun k=>k=w.heap.size) W (W.setCell ⟨w.heap.size,i,none⟩ v):=(Fr.refl (fun k=>k=w.heap.size) W).setCell (p:=⟨w.heap.size,i,none⟩) (.inl rfl) v
 refine⟨?_,(h3.block _ (by omega) (fun h=>by omega)).trans h.b1,h.fr.trans h3 (fun k hk e=>by omega),by rw[List.length_set];exact h.n⟩
 rw[iM h.b0]
 simp
theorem B2.start (w:World) (R:List Value) (hR:R.length=7):B2 w ((w.alloc (.cells R.toArray 120)).alloc (.cells ru.toArray 120)) R:=
 ⟨(xn w _ _).1,(xn w _ _).2.1,((Fr.refl _ w).alloc _).alloc _,hR⟩
theorem B2.fin (h:B2 w W R) (hR:QS q xo len xc all R'):∃ W',(Instr.storeAt 120 (.pointer (some ⟨w.heap.size+1,0,none⟩)) (.agg R'.toArray)).run Tryz.prog W = .ok () W'∧(loadVar 120 ⟨w.heap.size+1,0,none⟩).run Tryz.prog W' = .ok (.agg R'.toArray) W'∧Fr (fun k=>k=w.heap.size+1) W W'∧Fr (fun _=>False) w W':=by
 obtain⟨W',h1,h2,h3⟩:=bz (P:=Tryz.prog) (ty:=120) ru R' h.b1 (by rw[hR.len];rfl) (by rw[hR.len];exact Tryz.bw) hR.one
 exact⟨W',h1,run_loadVar_mid (P:=Tryz.prog) W' (w.heap.size+1) 0 120 R' _ (af h2) Tryz.underlying120 rfl (by rw[hR.len];exact Tryz.bw),h3,h.fr.trans h3 (fun k hk e=>by omega)⟩
end
theorem oL {w w':World} {xo:Option Addr} {len xc:Nat} {all:List Nat} {R:List Value} {q:Q} (A:u3 w xo len xc all) (hf:Fr (fun _=>False) w w') (h:QS q xo len xc all R) (k m:Int) (hk:k∈kinds) (h9:k≠9) (hm:m<9223372036854775808) :
  Calls Tryz.prog 125 #[.agg R.toArray,.agg #[.int .i64 k,.int .u64 0,.string ⟨#[]⟩,.int .i64 0,.int .i64 m]] w' fun e w''=>∃ R' sx sc,e = .returned (.tuple #[.agg R'.toArray,.int .u64 ((q.go k m).2.1:Nat),.slice sx (q.go k m).2.2.length sc])∧QS (q.go k m).1 xo len xc all R'∧Src w'' (.slice sx (q.go k m).2.2.length sc) (q.go k m).2.2∧(∀ g o a c,Value.slice sx (q.go k m).2.2.length sc = .slice (some ⟨g,o,none⟩) a c→w'.heap.size≤g)∧Fr (fun _=>False) w' w'':=by
 obtain⟨ha,ho,last,rfl,hla⟩:=h
 obtain⟨hx,hl,hc,hb⟩:=A.aR hf
 subst ha hl
 rw[gv,← Q.jX rfl]
 refine(nY q ⟨k,0,ByteArray.empty,0,m⟩ xo xc last w' ho hx hc hb hk (fun h=>absurd h h9) hm hla).mono ?_
 rintro e w2 ⟨l2,v,rfl,h1,h2,h3,h4⟩
 obtain⟨sx,sc,rfl⟩:=h1.form
 exact⟨((q.go k m).1.rv xo q.all.length xc l2).toList,sx,sc,by rw[gv,← Q.jX (by rw[Q.go_all])];rfl,⟨Q.go_all _ _ _,Q.go_ok ho _ _,l2,rfl,h3⟩,h1,h2,h4⟩
theorem Bn {w w':World} {xo:Option Addr} {len xc:Nat} {all:List Nat} {R:List Value} {q:Q} (A:u3 w xo len xc all) (hf:Fr (fun _=>False) w w') (h:QS q xo len xc all R) (nm:ByteArray) (k:Int) (hk:k=1∨k=4∨k=5) :
  Calls Tryz.prog 98 #[.agg R.toArray,.string nm,.int .i64 k] w' fun e w''=>∃ R',e = .returned (.tuple #[.agg R'.toArray,.int .u64 ((q.cE nm k).2:Nat)])∧QS (q.cE nm k).1 xo len xc all R'∧Fr (fun _=>False) w' w'':=by
 have hk2:k∈kinds∧k≠9:=by rcases hk with rfl|rfl|rfl <;> decide
 have HA:=ae (A.aR hf)
 have HQ:=ae h
 obtain⟨r,hr⟩:∃ r,(q.aj nm).go k 0=r:=⟨_,rfl⟩
 have HRD:=ae (fun W R1 (hw:Fr (fun _=>False) w' W) (h1:QS (q.aj nm) xo len xc all R1)=>oL (aa HA) hw h1 k 0 hk2.1 hk2.2 (by decide))
 rw[hr] at HRD
 have HR:=ae hr
 have HB0:=ae (B2.start w' R h.len)
 clear A hf h hr
 clear hk hk2
 go_enter Tryz.func98,Tryz.ntmps98
 go_wp2_with (first|((with_reducible refine bG 10 ?_);refine wpList_load_mid rfl 120 (.tmp 3) rfl w'.heap.size 0 rfl _ _ (af (aa HB0).b0) Tryz.underlying120 rfl (by rw[(aa HB0).n];exact Tryz.bw) ?_))
 refine(lv (aa HQ)).mono ?_
 rintro e w1 ⟨rfl,hf1⟩
 have HB1:=ae ((aa HB0).aR hf1)
 clear hf1 HB0
 go_upto_if 11 with fail
 go_cut [] from 10 to 13 (fun wx=>∃ R1,QS (q.aj nm) xo len xc all R1∧B2 w' wx R1)
 case first =>
  by_cases hg:q.f=none
  ·rw[decide_eq_true hg]
   have r3:=(aa HB1).cell 3 _ (aa HQ).c3
   have z3:=(aa HB1).A4 3
   have l3:=ab r3
   have HX:=ae (And.intro ((aa HQ).named hg nm) ((aa HB1).BA 3 (.string nm)))
   clear hg
   go_wp2_with fail
   go_meet
   case rel=>exact⟨R.set 3 (.string nm),(aa HX).1,(aa HX).2⟩
  ·rw[decide_eq_false hg]
   have HX:=ae ((aa HQ).rX hg nm)
   clear hg
   go_wp2_with fail
   go_meet
   case rel=>exact⟨R,aa HX,aa HB1⟩
 case rest =>
  obtain⟨R1,hQ1,hB1⟩:=hcut
  rename World=>w2
  have HB2:=ae hB1
  have HQ2:=ae hQ1
  clear hQ1 hB1 HB1 HQ
  go_wp2_with (first|((with_reducible refine bG 15 ?_);refine wpList_load_mid rfl 120 (.tmp 3) rfl w'.heap.size 0 rfl _ _ (af (aa HB2).b0) Tryz.underlying120 rfl (by rw[(aa HB2).n];exact Tryz.bw) ?_))
  refine((aa HRD) _ _ (aa HB2).fr (aa HQ2)).mono ?_
  rintro e w3 ⟨R3,sx,sc,rfl,hQ3,hS3,hn3,hf3⟩
  obtain⟨w4,hst,hB4,hf4⟩:=((aa HB2).aR hf3).lq hQ3
  obtain⟨w5,hst5,hld,hf5,hf05⟩:=hB4.fin hQ3
  have HST:=ae hst
  have HST5:=ae hst5
  have HB4:=ae hB4
  have HX:=ae (And.intro hQ3 hf05)
  clear hst hst5 hf5 hf05 hS3 hn3 hf3 hf4 hB4 HB2 HQ2 hQ3 HRD
  go_wp2_with (first|((with_reducible refine bS ?_);refine aA rfl 120 (.tmp 3) (.tmp 19) rfl _ _ rfl rfl (aa HST) ?_)|((with_reducible refine bG 22 ?_);refine wpList_load_mid rfl 120 (.tmp 3) rfl w'.heap.size 0 rfl _ _ (af (aa HB4).b0) Tryz.underlying120 rfl (by rw[(aa HB4).n];exact Tryz.bw) ?_)|((with_reducible refine bS ?_);refine aA rfl 120 (.tmp 6) (.tmp 22) rfl _ _ rfl rfl (aa HST5) ?_))
  refine bodyPost_ret (v:=.tuple #[.agg R3.toArray,.int .u64 (r.2.1:Nat)]) (by simp[results,Tryz.results98,asAddr,hld]) rfl ?_
  have e:q.cE nm k=(r.1,r.2.1):=by unfold Q.cE;rw[aa HR]
  rw[e]
  exact⟨R3,rfl,(aa HX).1,(aa HX).2⟩
theorem B6 {w w':World} {xo:Option Addr} {len xc:Nat} {all:List Nat} {R:List Value} {q:Q} (A:u3 w xo len xc all) (hf:Fr (fun _=>False) w w') (h:QS q xo len xc all R) (nm:ByteArray) (most:Int) (hk:most<9223372036854775808) :
  Calls Tryz.prog 105 #[.agg R.toArray,.string nm,.int .i64 most] w' fun e w''=>∃ R',e = .returned (.tuple #[.agg R'.toArray,.int .i64 ((q.bZ nm most).2:Nat)])∧QS (q.bZ nm most).1 xo len xc all R'∧Fr (fun _=>False) w' w'':=by
 have hlt:=Q.zc q nm most
 have HA:=ae (A.aR hf)
 have HQ:=ae h
 obtain⟨r,hr⟩:∃ r,(q.aj nm).go 7 most=r:=⟨_,rfl⟩
 have HRD:=ae (fun W R1 (hw:Fr (fun _=>False) w' W) (h1:QS (q.aj nm) xo len xc all R1)=>oL (aa HA) hw h1 7 most (by decide) (by decide) hk)
 rw[hr] at HRD
 have HR:=ae hr
 have HB0:=ae (B2.start w' R h.len)
 clear A hf h hr
 have e:q.bZ nm most=(r.1,r.2.1):=by unfold Q.bZ;rw[aa HR]
 rw[e] at hlt ⊢
 have hw1:wrap64 ((r.2.1:Nat):Int)=(r.2.1:Int):=by unfold wrap64;dsimp only at hlt;omega
 have HW:=ae hw1
 clear hk hlt e hw1
 go_enter Tryz.func105,Tryz.ntmps105
 go_wp2_with (first|((with_reducible refine bG 10 ?_);refine wpList_load_mid rfl 120 (.tmp 3) rfl w'.heap.size 0 rfl _ _ (af (aa HB0).b0) Tryz.underlying120 rfl (by rw[(aa HB0).n];exact Tryz.bw) ?_))
 refine(lv (aa HQ)).mono ?_
 rintro e w1 ⟨rfl,hf1⟩
 have HB1:=ae ((aa HB0).aR hf1)
 clear hf1 HB0
 go_upto_if 11 with fail
 go_cut [] from 10 to 13 (fun wx=>∃ R1,QS (q.aj nm) xo len xc all R1∧B2 w' wx R1)
 case first =>
  by_cases hg:q.f=none
  ·rw[decide_eq_true hg]
   have r3:=(aa HB1).cell 3 _ (aa HQ).c3
   have z3:=(aa HB1).A4 3
   have l3:=ab r3
   have HX:=ae (And.intro ((aa HQ).named hg nm) ((aa HB1).BA 3 (.string nm)))
   clear hg
   go_wp2_with fail
   go_meet
   case rel=>exact⟨R.set 3 (.string nm),(aa HX).1,(aa HX).2⟩
  ·rw[decide_eq_false hg]
   have HX:=ae ((aa HQ).rX hg nm)
   clear hg
   go_wp2_with fail
   go_meet
   case rel=>exact⟨R,aa HX,aa HB1⟩
 case rest =>
  obtain⟨R1,hQ1,hB1⟩:=hcut
  rename World=>w2
  have HB2:=ae hB1
  have HQ2:=ae hQ1
  clear hQ1 hB1 HB1 HQ
  go_wp2_with (first|((with_reducible refine bG 15 ?_);refine wpList_load_mid rfl 120 (.tmp 3) rfl w'.heap.size 0 rfl _ _ (af (aa HB2).b0) Tryz.underlying120 rfl (by rw[(aa HB2).n];exact Tryz.bw) ?_))
  refine((aa HRD) _ _ (aa HB2).fr (aa HQ2)).mono ?_
  rintro e w3 ⟨R3,sx,sc,rfl,hQ3,hS3,hn3,hf3⟩
  obtain⟨w4,hst,hB4,hf4⟩:=((aa HB2).aR hf3).lq hQ3
  obtain⟨w5,hst5,hld,hf5,hf05⟩:=hB4.fin hQ3
  have HST:=ae hst
  have HST5:=ae hst5
  have HB4:=ae hB4
  have HX:=ae (And.intro hQ3 hf05)
  clear hst hst5 hf5 hf05 hS3 hn3 hf3 hf4 hB4 HB2 HQ2 hQ3 HRD
  have hw1:=aa HW
  go_wp2_with (first|((with_reducible refine bS ?_);refine aA rfl 120 (.tmp 3) (.tmp 19) rfl _ _ rfl rfl (aa HST) ?_)|((with_reducible refine bG 22 ?_);refine wpList_load_mid rfl 120 (.tmp 3) rfl w'.heap.size 0 rfl _ _ (af (aa HB4).b0) Tryz.underlying120 rfl (by rw[(aa HB4).n];exact Tryz.bw) ?_)|((with_reducible refine bS ?_);refine aA rfl 120 (.tmp 6) (.tmp 22) rfl _ _ rfl rfl (aa HST5) ?_))
  refine bodyPost_ret (v:=.tuple #[.agg R3.toArray,.int .i64 (r.2.1:Nat)]) (by simp[results,Tryz.results105,asAddr,hld]) rfl ?_
  exact⟨R3,rfl,(aa HX).1,(aa HX).2⟩
theorem ug {w w':World} {xo:Option Addr} {len xc:Nat} {all:List Nat} {R:List Value} {q:Q} (A:u3 w xo len xc all) (hf:Fr (fun _=>False) w w') (h:QS q xo len xc all R) (nm:ByteArray) (least most:Int) (hk:most<9223372036854775808) :
  Calls Tryz.prog 103 #[.agg R.toArray,.string nm,.int .i64 least,.int .i64 most] w' fun e w''=>∃ R' sx sn sc,e = .returned (.tuple #[.agg R'.toArray,.slice sx sn sc])∧QS (q.many nm least most).1 xo len xc all R'∧Src w'' (.slice sx sn sc) (q.many nm least most).2∧(∀ g o m c,Value.slice sx sn sc = .slice (some ⟨g,o,none⟩) m c→w'.heap.size≤g)∧Fr (fun _=>False) w' w'':=by
 have HA:=ae (A.aR hf)
 have HQ:=ae h
 obtain⟨r,hr⟩:∃ r,(q.aj nm).go 6 most=r:=⟨_,rfl⟩
 have HRD:=ae (fun W R1 (hw:Fr (fun _=>False) w' W) (h1:QS (q.aj nm) xo len xc all R1)=>oL (aa HA) hw h1 6 most (by decide) (by decide) hk)
 rw[hr] at HRD
 have HR:=ae hr
 have HB0:=ae (B2.start w' R h.len)
 clear A hf h hr
 have e:q.many nm least most=(r.1.ah (if ((r.2.2.length:Nat):Int)<least then 4 else 0),r.2.2):=by unfold Q.many;rw[aa HR]
 rw[e]
 obtain⟨n4,hn4⟩:∃ n,(if ((r.2.2.length:Nat):Int)<least then 4 else 0:Nat)=n:=⟨_,rfl⟩
 rw[hn4]
 have HN4:=ae (show(if (decide (((r.2.2.length:Nat):Int)<least))=true then 4 else 0)=n4 by rw[← hn4];by_cases hz:((r.2.2.length:Nat):Int)<least <;> simp[hz])
 clear hk e hn4
 go_enter Tryz.func103,Tryz.ntmps103
 go_wp2_with (first|((with_reducible refine bG 12 ?_);refine wpList_load_mid rfl 120 (.tmp 4) rfl w'.heap.size 0 rfl _ _ (af (aa HB0).b0) Tryz.underlying120 rfl (by rw[(aa HB0).n];exact Tryz.bw) ?_))
 refine(lv (aa HQ)).mono ?_
 rintro e w1 ⟨rfl,hf1⟩
 have HB1:=ae ((aa HB0).aR hf1)
 clear hf1 HB0
 go_upto_if 13 with fail
 go_cut [] from 12 to 15 (fun wx=>∃ R1,QS (q.aj nm) xo len xc all R1∧B2 w' wx R1)
 case first =>
  by_cases hg:q.f=none
  ·rw[decide_eq_true hg]
   have r3:=(aa HB1).cell 3 _ (aa HQ).c3
   have z3:=(aa HB1).A4 3
   have l3:=ab r3
   have HX:=ae (And.intro ((aa HQ).named hg nm) ((aa HB1).BA 3 (.string nm)))
   clear hg
   go_wp2_with fail
   go_meet
   case rel=>exact⟨R.set 3 (.string nm),(aa HX).1,(aa HX).2⟩
  ·rw[decide_eq_false hg]
   have HX:=ae ((aa HQ).rX hg nm)
   clear hg
   go_wp2_with fail
   go_meet
   case rel=>exact⟨R,aa HX,aa HB1⟩
 case rest =>
  obtain⟨R1,hQ1,hB1⟩:=hcut
  rename World=>w2
  have HB2:=ae hB1
  have HQ2:=ae hQ1
  clear hQ1 hB1 HB1 HQ
  go_wp2_with (first|((with_reducible refine bG 17 ?_);refine wpList_load_mid rfl 120 (.tmp 4) rfl w'.heap.size 0 rfl _ _ (af (aa HB2).b0) Tryz.underlying120 rfl (by rw[(aa HB2).n];exact Tryz.bw) ?_))
  refine((aa HRD) _ _ (aa HB2).fr (aa HQ2)).mono ?_
  rintro e w3 ⟨R3,sx,sc,rfl,hQ3,hS3,hn3,hf3⟩
  obtain⟨w4,hst,hB4,hf4⟩:=((aa HB2).aR hf3).lq hQ3
  have HBD:=ae (fun W=>Ba (w':=W) (aa HA).hl hQ3 (decide (((r.2.2.length:Nat):Int)<least)) 4 n4 (by decide) (by decide) (aa HN4))
  have HST:=ae hst
  have hs5:=hS3.fr hf4 (fun g o m c e hx=>by have:=hn3 g o m c e;have:=(aa HB2).lt;omega)
  have hns:∀ g o m c,Value.slice sx r.2.2.length sc = .slice (some ⟨g,o,none⟩) m c→w'.heap.size+1<g:=fun g o m c e=>Nat.lt_of_lt_of_le (aa HB2).lt (hn3 g o m c e)
  have HS:=ae (And.intro hs5 hns)
  have HB4:=ae hB4
  clear hst hS3 hn3 hf3 hf4 hB4 HB2 HQ2 hQ3 HRD hs5 hns
  go_wp2_with (first|((with_reducible refine bS ?_);refine aA rfl 120 (.tmp 4) (.tmp 21) rfl _ _ rfl rfl (aa HST) ?_)|((with_reducible refine bG 24 ?_);refine wpList_load_mid rfl 120 (.tmp 4) rfl w'.heap.size 0 rfl _ _ (af (aa HB4).b0) Tryz.underlying120 rfl (by rw[(aa HB4).n];exact Tryz.bw) ?_))
  refine((aa HBD) _).mono ?_
  rintro e w5 ⟨R5,rfl,hQ5,hf5⟩
  obtain⟨w6,hst6,hld,hf6,hf06⟩:=((aa HB4).aR hf5).fin hQ5
  have HST6:=ae hst6
  have HX:=ae (And.intro hQ5 (And.intro (((aa HS).1.fr hf5 (fun _ _ _ _ _ h=>h)).fr hf6 (fun g o m c e hx=>by have:=(aa HS).2 g o m c e;omega)) hf06))
  clear hst6 hQ5 hf5 hf6 hf06 HBD HST HB4
  go_wp2_with (first|((with_reducible refine bS ?_);refine aA rfl 120 (.tmp 8) (.tmp 29) rfl _ _ rfl rfl (aa HST6) ?_))
  refine bodyPost_ret (v:=.tuple #[.agg R5.toArray,.slice sx r.2.2.length sc]) (by simp[results,Tryz.results103,asAddr,hld]) rfl ?_
  exact⟨R5,sx,_,sc,rfl,(aa HX).1,(aa HX).2.1,fun g o m c e=>by have:=(aa HS).2 g o m c e;omega,(aa HX).2.2⟩
theorem kz.form {w:World} {x:Value} {l:List cj} (h:kz w x l):∃ xo xc,x = .slice xo l.length xc:=by obtain⟨xo,xc,e,_⟩:=h.v;exact⟨xo,xc,e⟩
theorem kz.at_ {w:World} {xo:Option Addr} {n xc:Nat} {l:List cj} (h:kz w (.slice xo n xc) l) {j:Nat} {f:cj} (hf:l[j]?=some f):∃ g o,xo=some ⟨g,o,none⟩∧w.cell? ⟨g,o+j * 5,none⟩=some (.string f.name)∧w.cell? ⟨g,o+j * 5+1,none⟩=some (.int .u8 (f.kind:Nat))∧w.cell? ⟨g,o+j * 5+2,none⟩=some (.string f.text)∧w.cell? ⟨g,o+j * 5+3,none⟩=some (.float .f32 f.value)∧w.cell? ⟨g,o+j * 5+4,none⟩=some (.int .u8 (f.unit:Nat)):=by
 obtain⟨xo',xc',e,hv⟩:=h.v
 injection e with e1 e2 e3
 subst e1
 obtain⟨_,g,o,h1,_,h3,h4,h5,h6,h7⟩:=hv.el j f hf
 exact⟨g,o,h1,h3,h4,h5,h6,h7⟩
theorem ue.form {w:World} {x:Value} {l:List dB} (h:ue w x l):∃ xo xc,x = .slice xo l.length xc:=by obtain⟨xo,xc,e,_⟩:=h.v;exact⟨xo,xc,e⟩
theorem ue.at_ {w:World} {xo:Option Addr} {n xc:Nat} {l:List dB} (h:ue w (.slice xo n xc) l) {j:Nat} {f:dB} (hf:l[j]?=some f):∃ g o,xo=some ⟨g,o,none⟩∧w.cell? ⟨g,o+j * 4,none⟩=some (.int .u32 (f.au:Nat))∧w.cell? ⟨g,o+j * 4+1,none⟩=some (.int .u32 (f.ev:Nat))∧w.cell? ⟨g,o+j * 4+2,none⟩=some (.int .u32 (f.fi:Nat))∧w.cell? ⟨g,o+j * 4+3,none⟩=some (.bool f.re):=by
 obtain⟨xo',xc',e,hv⟩:=h.v
 injection e with e1 e2 e3
 subst e1
 obtain⟨_,g,o,h1,_,h3,h4,h5,h6⟩:=hv.el j f hf
 exact⟨g,o,h1,h3,h4,h5,h6⟩
theorem pZ (x y:Value) (a b:List Nat) (w:World) (hx:Src w x a) (hy:Src w y b) (hn:norm a=norm b) (ha:a.length≤140737488355328):Calls Tryz.prog 11 #[x,y] w fun e w'=>e = .returned (.bool true)∧Fr (fun _=>False) w w':=by
 refine(eM x y a b w hx hy ha).mono ?_
 rintro e w' ⟨he,hd⟩
 exact⟨he.trans (by rw[show eE a b=true by unfold eE;rw[hn];exact decide_eq_true rfl]),Fr.gK hd⟩
theorem uX (n:Nat) (x y:Value) (a b:List Nat) (w:World) (hx:Src w x a) (hy:Src w y b) (hn:norm a=norm b) (ha:a.length≤140737488355328):Calls Tryz.prog 43 #[.agg #[.int .u32 (n:Nat),x],.agg #[.int .u32 (n:Nat),y]] w fun e w'=>e = .returned (.bool true)∧Fr (fun _=>False) w w':=by
 have HS:=ae (fun W (hf:Fr (fun _=>False) w W)=>pZ x y a b W (hx.fr hf (fun _ _ _ _ _ h=>h)) (hy.fr hf (fun _ _ _ _ _ h=>h)) hn ha)
 clear hx hy hn ha
 go_enter Tryz.func43,Tryz.ntmps43
 go_wp2_with fail
 refine((aa HS) _ (aY w _ _)).mono ?_
 rintro e w' ⟨rfl,hf⟩
 have HF:=ae ((aY w _ _).trans hf (fun _ _ h=>h))
 clear hf
 go_wp2_with fail
 go_ret
 exact⟨rfl,aa HF⟩
theorem iY (w:World):kz w (.slice none 0 0) []:=⟨⟨none,0,rfl,⟨Nat.le_refl _,fun j f h=>by simp at h⟩⟩,by decide⟩
theorem uo (w:World):ue w (.slice none 0 0) []:=⟨⟨none,0,rfl,⟨Nat.le_refl _,fun j f h=>by simp at h⟩⟩,by decide⟩
theorem z8 (w:World):nG w (.slice none 0 0) []:=⟨.inl ⟨rfl,rfl⟩,fun g o m c e=>by (cases e),by decide⟩
theorem o9 {w:World} {v:cd} (h0:v.rq.fs=[]:=by rfl) (h1:v.an.fs=[]:=by rfl) (h2:v.an.hi=[]:=by rfl) (h3:v.ev.rq.fs=[]:=by rfl) (h4:v.ev.dg=[]:=by rfl):AP w v (.slice none 0 0) (.slice none 0 0) (.slice none 0 0) (.slice none 0 0) (.slice none 0 0):=⟨by rw[h0];exact iY w,by rw[h1];exact iY w,by rw[h2];exact uo w,by rw[h3];exact iY w,by rw[h4];exact z8 w⟩
theorem BQ:BF.ok:=⟨by decide,⟨by decide,by decide,by decide,by decide,by decide,by decide,by decide,by decide,by decide⟩,by decide,by decide,⟨by decide,by decide,by decide,by decide,by decide⟩,by decide,⟨by decide,⟨by decide,by decide,by decide,by decide,by decide,by decide,by decide,by decide,by decide⟩,by decide⟩,by decide⟩
theorem xM:pJ.ok:=⟨by decide,⟨by decide,by decide,by decide,by decide,by decide,by decide,by decide,by decide,by decide⟩,by decide,by decide,⟨by decide,by decide,by decide,by decide,by decide⟩,by decide,⟨by decide,⟨by decide,by decide,by decide,by decide,by decide,by decide,by decide,by decide,by decide⟩,by decide⟩,by decide⟩
def Cv:List Value:=[.int .u32 0,.int .u32 0,.int .u32 0,.int .u8 0,.int .u32 0,.int .u32 0,.int .u32 0,.int .u32 0,.slice none 0 0,.string ⟨#[]⟩]
theorem AX:A2.ok:=⟨by decide,by decide,by decide,by decide,by decide,by decide,by decide,by decide,by decide⟩
theorem BM:CY.ok:=⟨by decide,by decide,by decide,by decide,by decide,by decide,by decide,by decide,by decide⟩
theorem A5:CZ.ok:=⟨by decide,by decide,by decide,by decide,by decide,by decide,by decide,by decide,by decide⟩
theorem B4:C0.ok:=⟨by decide,by decide,by decide,by decide,by decide,by decide,by decide,by decide,by decide⟩
theorem BK:Ca.ok:=⟨by decide,by decide,by decide,by decide,by decide⟩
theorem uw:yY.ok∧qU.ok∧zu.ok:=⟨⟨by decide,by decide,by decide,by decide,by decide⟩,⟨by decide,by decide,by decide,by decide,by decide⟩,⟨by decide,by decide,by decide,by decide,by decide⟩⟩
theorem zE (w:World):kz (w.alloc (.cells #[.string ⟨#[98]⟩,.int .u8 3,.string ⟨#[]⟩,.float .f32 0,.int .u8 0,.string ⟨#[97]⟩,.int .u8 3,.string ⟨#[]⟩,.float .f32 0,.int .u8 0] 59)) (.slice (some ⟨w.heap.size,0,none⟩) 2 2) [yY,qU]:=
 ⟨⟨_,2,rfl,⟨Nat.le_refl _,fun j f h=>by
  match j,h with
  | 0,h=>obtain rfl:yY=f:=(by simpa using h);exact⟨uw.1,w.heap.size,0,rfl,fun h=>h,by simp[yY],by simp[yY],by simp[yY],by simp[yY],by simp[yY]⟩
  | 1,h=>obtain rfl:qU=f:=(by simpa using h);exact⟨uw.2.1,w.heap.size,0,rfl,fun h=>h,by simp[qU],by simp[qU],by simp[qU],by simp[qU],by simp[qU]⟩
  | n+2,h=>simp at h⟩⟩,by decide⟩
theorem Ax (w:World):kz (w.alloc (.cells #[.string ⟨#[98]⟩,.int .u8 3,.string ⟨#[]⟩,.float .f32 0,.int .u8 0,.string ⟨#[97]⟩,.int .u8 3,.string ⟨#[]⟩,.float .f32 0,.int .u8 0] 59)) (.slice (some ⟨w.heap.size,5,none⟩) 1 1) [qU]:=
 ⟨⟨_,1,rfl,⟨Nat.le_refl _,fun j f h=>by
  match j,h with
  | 0,h=>obtain rfl:qU=f:=(by simpa using h);exact⟨uw.2.1,w.heap.size,5,rfl,fun h=>h,by simp[qU],by simp[qU],by simp[qU],by simp[qU],by simp[qU]⟩
  | n+1,h=>simp at h⟩⟩,by decide⟩
theorem Cc (w:World):kz (w.alloc (.cells #[.string ⟨#[116]⟩,.int .u8 2,.string ⟨#[]⟩,.float .f32 1108475904,.int .u8 11] 59)) (.slice (some ⟨w.heap.size,0,none⟩) 1 1) [zu]:=
 ⟨⟨_,1,rfl,⟨Nat.le_refl _,fun j f h=>by
  match j,h with
  | 0,h=>obtain rfl:zu=f:=(by simpa using h);exact⟨uw.2.2,w.heap.size,0,rfl,fun h=>h,by simp[zu],by simp[zu],by simp[zu],by simp[zu],by simp[zu]⟩
  | n+1,h=>simp at h⟩⟩,by decide⟩
theorem jI {w:World} {v:Value} {E:Nat→Addr} (h:df w v (dn none) E):v = .nilIface:=by
 rcases h with ⟨_,e⟩|⟨h1,_⟩
 ·exact e
 ·exact absurd h1 (by decide)
theorem iT {w:World} {v:Value} {x:ByteArray × Nat × Nat} {E:Nat→Addr} (h:df w v (dn (some x)) E) (h0:x.2.2≠0):∃ fb,v = .iface 78 (.pointer (some ⟨fb,0,none⟩))∧w.heap[fb]?=some (aJ x.1 x.2.1 (E x.2.2)):=by
 rcases h with ⟨e,_⟩|⟨_,_,fb,rfl,hb⟩
 ·exact absurd e h0
 ·exact⟨fb,rfl,hb⟩
theorem rM (E:Nat→Addr) (w:World) (hg:G7 w E) (hw:9≤w.heap.size)
  (hP4:∀ (W:World) (n:Nat) (r:List Nat) (x:Value),G7 W E→9≤W.heap.size→(n=258∧r=[7])∨(n=1∧r=[])→nG W x r→Calls Tryz.prog 8 #[.int .i64 4,.agg (bu 30 [.int .u32 (n:Nat),x]).toArray] W fun e w'=>e = .returned (.bool true)∧Fr (fun _=>False) W w')
  (hP7:∀ (W:World) (v:cd),v=pJ∨v=vY→G7 W E→9≤W.heap.size→Calls Tryz.prog 8 #[.int .i64 7,.agg (bu 37 (v.aL (.slice none 0 0) (.slice none 0 0) (.slice none 0 0) (.slice none 0 0) (.slice none 0 0)).toList).toArray] W fun e w'=>e = .returned (.bool true)∧Fr (fun _=>False) W w')
  (hGt:∀ (k:Nat) (W:World) (xo:Option Addr) (xc:Nat) (l:List Nat),k=4∨k=6→G7 W E→9≤W.heap.size→Src W (.slice xo l.length xc) l→l.length≤xc→l.length≤1048576→Calls Tryz.prog 9 #[.int .i64 (k:Nat),.slice xo l.length xc] W fun e w'=>e = .returned (.bool true)∧Fr (fun _=>False) W w') :
  Calls Tryz.prog 3 #[] w fun e w'=>e = .returned (.bool true)∧Fr (fun _=>False) w w':=by
 have HG:Hid (∀ V,Fr (fun _=>False) w V→G7 V E∧9≤V.heap.size):=ae (fun V hf=>⟨hg.fr hf (fun _ h=>h.elim),Nat.le_trans hw hf.size⟩)
 have HP4:=ae hP4
 have HP7:=ae hP7
 have HGt:=ae hGt
 clear hg hw hP4 hP7 hGt
 have hf1:Fr (fun _=>False) w (w.alloc (.cells #[.int .u8 7] 5)):=al _ _
 have hx1:nG (w.alloc (.cells #[.int .u8 7] 5)) (.slice (some ⟨w.heap.size,0,none⟩) 1 1) [7]:=eC w [7] #[.int .u8 7] _ rfl (by decide)
 have hz1:(w.alloc (.cells #[.int .u8 7] 5)).heap.size=w.heap.size+1:=by simp
 obtain⟨w2,hst,hb2,hf2⟩:=bz (P:=Tryz.prog) (ty:=44) cx (bu 30 [.int .u32 (258:Nat),.slice (some ⟨w.heap.size,0,none⟩) 1 1]) (heap_alloc_new (w.alloc (.cells #[.int .u8 7] 5)) (.cells cx.toArray 44)) rfl Tryz.cG (fT (by simp[Value.oneCell']))
 have hf12:Fr (fun _=>False) (w.alloc (.cells #[.int .u8 7] 5)) w2:=(al _ _).trans hf2 (fun g hg e=>by omega)
 have hf02:=hf1.trans hf12 (fun _ _ h=>h)
 rw[hz1] at hst hb2
 have HS:=ae hst
 have HB:=ae (fun W (hf:Fr (fun _=>False) w2 W)=>And.intro (af ((hf.block _ (lt_of_block hb2) (fun h=>h)).trans hb2)) (hx1.aR (hf12.trans hf (fun _ _ h=>h))))
 have HF2:=ae hf02
 have HZ1:Hid ((Tryz.prog.info? 44).map (·.size)=some (bu 30 [.int .u32 (258:Nat),.slice (some ⟨w.heap.size,0,none⟩) 1 1]).length):=ae (by rw[cU (n:=2) rfl (by decide)];exact Tryz.cG)
 clear hst hb2 hf2 hf12 hf02 hx1 hf1 hz1
 go_enter Tryz.func3,Tryz.ntmps3
 go_upto_region 2 with (first|((with_reducible refine bS ?_);refine aA rfl 44 (.tmp 1) (.tmp 12) rfl _ _ rfl rfl (aa HS) ?_))
 clear HS
 go_wp2_with fail
 refine(Bi E w2 ((aa HG) _ (aa HF2)).1.g6 ((aa HG) _ (aa HF2)).2).mono ?_
 rintro e w3 ⟨rfl,hf3⟩
 have HF3:=ae ((aa HF2).trans hf3 (fun _ _ h=>h))
 have HB3:=ae ((aa HB) _ hf3)
 clear hf3
 go_wp2_with ((with_reducible refine bG 16 ?_);refine wpList_step fun K hK=>?_;rw[if_pos (show Region.wanted _ _=true from rfl)];refine wp_load_mid 44 (.tmp 1) rfl (w.heap.size+1) 0 rfl _ _ (aa HB3).1 Tryz.underlying44 rfl (aa HZ1) (hK _ _ ?_);clear hK)
 refine((aa HP4) w3 258 [7] _ ((aa HG) _ (aa HF3)).1 ((aa HG) _ (aa HF3)).2 (.inl ⟨rfl,rfl⟩) (aa HB3).2).mono ?_
 rintro e w4 ⟨rfl,hf4⟩
 have HF4:=ae ((aa HF3).trans hf4 (fun _ _ h=>h))
 clear hf4 HB3 HB
 go_wp2_with fail
 refine((aa HP4) w4 1 [] (.slice none 0 0) ((aa HG) _ (aa HF4)).1 ((aa HG) _ (aa HF4)).2 (.inr ⟨rfl,rfl⟩) ⟨.inl ⟨rfl,rfl⟩,fun g o m c e=>by (cases e),by decide⟩).mono ?_
 rintro e w5 ⟨rfl,hf5⟩
 have HF5:=ae ((aa HF4).trans hf5 (fun _ _ h=>h))
 clear hf5
 go_wp2_with fail
 have HL:=ae ((aa HF5).trans (al w5 (.cells #[.int .u8 4,.int .u8 0,.int .u8 0,.int .u8 0,.int .u8 1,.int .u8 0,.int .u8 0,.int .u8 0,.int .u8 0] 5)) (fun _ _ h=>h))
 refine((aa HGt) 4 _ (some ⟨w5.heap.size,0,none⟩) 9 [4,0,0,0,1,0,0,0,0] (by decide) ((aa HG) _ (aa HL)).1 ((aa HG) _ (aa HL)).2 (eC w5 [4,0,0,0,1,0,0,0,0] #[.int .u8 4,.int .u8 0,.int .u8 0,.int .u8 0,.int .u8 1,.int .u8 0,.int .u8 0,.int .u8 0,.int .u8 0] _ rfl (by decide)).src (by decide) (by decide)).mono ?_
 rintro e w6 ⟨rfl,hf⟩
 have HF6:=ae ((aa HL).trans hf (fun _ _ h=>h))
 clear hf HL
 go_wp2_with fail
 refine((aa HGt) 4 w6 none 0 [] (by decide) ((aa HG) _ (aa HF6)).1 ((aa HG) _ (aa HF6)).2 (.inl ⟨rfl,rfl⟩) (by decide) (by decide)).mono ?_
 rintro e w7 ⟨rfl,hf⟩
 have HF7:=ae ((aa HF6).trans hf (fun _ _ h=>h))
 clear hf
 go_wp2_with fail
 have HL:=ae ((aa HF7).trans (al w7 (.cells #[.int .u8 5] 5)) (fun _ _ h=>h))
 refine((aa HGt) 4 _ (some ⟨w7.heap.size,0,none⟩) 1 [5] (by decide) ((aa HG) _ (aa HL)).1 ((aa HG) _ (aa HL)).2 (eC w7 [5] #[.int .u8 5] _ rfl (by decide)).src (by decide) (by decide)).mono ?_
 rintro e w8 ⟨rfl,hf⟩
 have HF8:=ae ((aa HL).trans hf (fun _ _ h=>h))
 clear hf HL
 go_wp2_with fail
 have HL:=ae ((aa HF8).trans (al w8 (.cells #[.int .u8 4,.int .u8 0,.int .u8 0] 5)) (fun _ _ h=>h))
 refine((aa HGt) 4 _ (some ⟨w8.heap.size,0,none⟩) 3 [4,0,0] (by decide) ((aa HG) _ (aa HL)).1 ((aa HG) _ (aa HL)).2 (eC w8 [4,0,0] #[.int .u8 4,.int .u8 0,.int .u8 0] _ rfl (by decide)).src (by decide) (by decide)).mono ?_
 rintro e w9 ⟨rfl,hf⟩
 have HF9:=ae ((aa HL).trans hf (fun _ _ h=>h))
 clear hf HL
 go_wp2_with fail
 have HL:=ae ((aa HF9).trans (al w9 (.cells #[.int .u8 4,.int .u8 0,.int .u8 0,.int .u8 0,.int .u8 1,.int .u8 0,.int .u8 0,.int .u8 0,.int .u8 33,.int .u8 1] 5)) (fun _ _ h=>h))
 refine((aa HGt) 4 _ (some ⟨w9.heap.size,0,none⟩) 10 [4,0,0,0,1,0,0,0,33,1] (by decide) ((aa HG) _ (aa HL)).1 ((aa HG) _ (aa HL)).2 (eC w9 [4,0,0,0,1,0,0,0,33,1] #[.int .u8 4,.int .u8 0,.int .u8 0,.int .u8 0,.int .u8 1,.int .u8 0,.int .u8 0,.int .u8 0,.int .u8 33,.int .u8 1] _ rfl (by decide)).src (by decide) (by decide)).mono ?_
 rintro e w10 ⟨rfl,hf⟩
 have HF10:=ae ((aa HL).trans hf (fun _ _ h=>h))
 clear hf HL
 go_wp2_with fail
 have HL:=ae ((aa HF10).trans (al w10 (.cells #[.int .u8 6,.int .u8 0,.int .u8 0,.int .u8 0,.int .u8 0,.int .u8 9] 5)) (fun _ _ h=>h))
 refine((aa HGt) 6 _ (some ⟨w10.heap.size,0,none⟩) 6 [6,0,0,0,0,9] (by decide) ((aa HG) _ (aa HL)).1 ((aa HG) _ (aa HL)).2 (eC w10 [6,0,0,0,0,9] #[.int .u8 6,.int .u8 0,.int .u8 0,.int .u8 0,.int .u8 0,.int .u8 9] _ rfl (by decide)).src (by decide) (by decide)).mono ?_
 rintro e w11 ⟨rfl,hf⟩
 have HF11:=ae ((aa HL).trans hf (fun _ _ h=>h))
 clear hf HL
 obtain⟨wm,hst,hbm,hfm⟩:=bz (P:=Tryz.prog) (ty:=42) rB (BF.aL (.slice none 0 0) (.slice none 0 0) (.slice none 0 0) (.slice none 0 0) (.slice none 0 0)).toList (heap_alloc_new w11 (.cells rB.toArray 42)) rfl Tryz.dr (List.all_eq_true.1 (show List.all (BF.aL (.slice none 0 0) (.slice none 0 0) (.slice none 0 0) (.slice none 0 0) (.slice none 0 0)).toList (fun v=>v.oneCell')=true from rfl))
 have hf:=(aa HF11).trans ((al w11 _).trans hfm (fun g hg e=>by omega)) (fun _ _ h=>h)
 have HS:=ae hst
 have HBM:=ae hbm
 have HR:=ae (af hbm)
 have HFm:=ae hf
 have HZM:Hid ((Tryz.prog.info? 42).map (·.size)=some (BF.aL (.slice none 0 0) (.slice none 0 0) (.slice none 0 0) (.slice none 0 0) (.slice none 0 0)).toList.length):=ae Tryz.dr
 clear hst hbm hfm hf
 go_upto_region 5 with (first|((with_reducible refine bS ?_);refine aA rfl 42 (.tmp 2) (.tmp 55) rfl _ _ rfl rfl (aa HS) ?_))
 clear HS
 go_wp2_with (first|((with_reducible refine bG 57 ?_);refine wpList_load_mid rfl 42 (.tmp 2) rfl w11.heap.size 0 rfl _ _ (aa HR) Tryz.underlying42 rfl (aa HZM) ?_))
 refine(iK BF (.slice none 0 0) (.slice none 0 0) (.slice none 0 0) (.slice none 0 0) (.slice none 0 0) E wm ((aa HG) _ (aa HFm)).1.g6 ((aa HG) _ (aa HFm)).2 o9 BQ).mono ?_
 rintro e w12 ⟨v,err,rfl,hown,hE,hf⟩
 rw[CG] at hE
 have hs:=bR hown
 rw[Cj] at hs
 obtain⟨vo,vc,rfl⟩:=hs.form
 obtain rfl:=jI hE
 have hbm:=(hf.block _ (lt_of_block (aa HBM)) (fun h=>h)).trans (aa HBM)
 have hf12:=(aa HFm).trans hf (fun _ _ h=>h)
 have r34:w12.cell? ⟨w11.heap.size,34,none⟩=some (.int .u32 5):=ag hbm rfl
 have r20:w12.cell? ⟨w11.heap.size,20,none⟩=some (.int .u8 0):=ag hbm rfl
 have z34:w12.frozen? ⟨w11.heap.size,34,none⟩=false:=by simp[World.frozen?,hbm]
 have z20:w12.frozen? ⟨w11.heap.size,20,none⟩=false:=by simp[World.frozen?,hbm]
 have l34:=ab r34
 have hb2:=iM (iM hbm 34 (.int .u32 0)) 20 (.int .u8 1)
 have hfx:Fr (fun k=>k=w11.heap.size) w12 ((w12.setCell ⟨w11.heap.size,34,none⟩ (.int .u32 0)).setCell ⟨w11.heap.size,20,none⟩ (.int .u8 1)):=((Fr.refl (fun k=>k=w11.heap.size) w12).setCell (p:=⟨w11.heap.size,34,none⟩) (.inl rfl) _).setCell (p:=⟨w11.heap.size,20,none⟩) (.inl rfl) _
 have hs13:=hs.fr hfx (fun g o m c e hx=>by have:=hown.lt g (by rw[e];rfl);have:=lt_of_block (aa HBM);omega)
 have hle:=(aa HF11).size
 have hf13:=hf12.trans hfx (fun k hk e=>by omega)
 have HB2:=ae hb2
 have HS13:=ae hs13
 have HF13:=ae hf13
 clear hE hown hs hf hf12 hb2 hfx hs13 hle hf13 hbm HBM HR HFm HF11
 go_upto_region 8 with fail
 obtain⟨w13,hw13⟩:∃ x,(w12.setCell ⟨w11.heap.size,34,none⟩ (.int .u32 0)).setCell ⟨w11.heap.size,20,none⟩ (.int .u8 1)=x:=⟨_,rfl⟩
 rw[hw13] at HB2 HS13 HF13 ⊢
 clear hw13 r34 r20 z34 z20 l34
 go_wp2_with fail
 have hl:=(eC w13 [7,6,0,0,0,5] #[.int .u8 7,.int .u8 6,.int .u8 0,.int .u8 0,.int .u8 0,.int .u8 5] 5 rfl (by decide)).src
 have hbx:=al w13 (.cells #[.int .u8 7,.int .u8 6,.int .u8 0,.int .u8 0,.int .u8 0,.int .u8 5] 5)
 refine(eM _ _ [7,6,0,0,0,5] [7,6,0,0,0,5] _ ((aa HS13).fr hbx (fun _ _ _ _ _ h=>h)) hl (by decide)).mono ?_
 rintro e w14 ⟨rfl,nd,hnd⟩
 have hsb:eE [7,6,0,0,0,5] [7,6,0,0,0,5]=true:=by decide
 rw[hsb]
 have hf14:Fr (fun _=>False) w13 w14:=by rw[hnd];exact hbx.drewN nd
 have HB14:=ae ((hf14.block _ (lt_of_block (aa HB2)) (fun h=>h)).trans (aa HB2))
 have HF14:=ae ((aa HF13).trans hf14 (fun _ _ h=>h))
 have HR14:Hid (w14.rangeAt w11.heap.size 0 (pJ.aL (.slice none 0 0) (.slice none 0 0) (.slice none 0 0) (.slice none 0 0) (.slice none 0 0)).toList):=ae (af (aa HB14))
 have HZ14:Hid ((Tryz.prog.info? 42).map (·.size)=some (pJ.aL (.slice none 0 0) (.slice none 0 0) (.slice none 0 0) (.slice none 0 0) (.slice none 0 0)).toList.length):=ae Tryz.dr
 clear hl hbx hnd hsb hf14 HB2 HS13 HF13
 go_wp2_with (first|((with_reducible refine bG 72 ?_);refine wpList_step fun K hK=>?_;rw[if_pos (show Region.wanted _ _=true from rfl)];refine wp_load_mid 42 (.tmp 2) rfl w11.heap.size 0 rfl _ _ (aa HR14) Tryz.underlying42 rfl (aa HZ14) (hK _ _ ?_);clear hK))
 refine((aa HP7) w14 pJ (.inl rfl) ((aa HG) _ (aa HF14)).1 ((aa HG) _ (aa HF14)).2).mono ?_
 rintro e w15 ⟨rfl,hf⟩
 have HB15:=ae ((hf.block _ (lt_of_block (aa HB14)) (fun h=>h)).trans (aa HB14))
 have HF15:=ae ((aa HF14).trans hf (fun _ _ h=>h))
 clear hf HB14 HF14 HR14
 go_wp2_with fail
 refine((aa HP7) w15 vY (.inr rfl) ((aa HG) _ (aa HF15)).1 ((aa HG) _ (aa HF15)).2).mono ?_
 rintro e w16 ⟨rfl,hf⟩
 have HB16:=ae ((hf.block _ (lt_of_block (aa HB15)) (fun h=>h)).trans (aa HB15))
 have HF16:=ae ((aa HF15).trans hf (fun _ _ h=>h))
 have HR16:Hid (w16.rangeAt w11.heap.size 0 (pJ.aL (.slice none 0 0) (.slice none 0 0) (.slice none 0 0) (.slice none 0 0) (.slice none 0 0)).toList):=ae (af (aa HB16))
 clear hf HB15 HF15 HB16
 go_wp2_with (first|((with_reducible refine bG 84 ?_);refine wpList_load_mid rfl 42 (.tmp 2) rfl w11.heap.size 0 rfl _ _ (aa HR16) Tryz.underlying42 rfl (aa HZ14) ?_))
 refine(iK pJ (.slice none 0 0) (.slice none 0 0) (.slice none 0 0) (.slice none 0 0) (.slice none 0 0) E w16 ((aa HG) _ (aa HF16)).1.g6 ((aa HG) _ (aa HF16)).2 o9 xM).mono ?_
 rintro e w17 ⟨v,err,rfl,hown,hE,hf⟩
 obtain⟨vo2,vc2,rfl⟩:=(bR hown).form
 rw[Cy] at hE
 obtain⟨fb,rfl,hfb⟩:=iT hE (by decide)
 have HF17:=ae ((aa HF16).trans hf (fun _ _ h=>h))
 have HFB:=ae hfb
 clear hown hE hf hfb HF16 HR16 HZ14
 generalize (cy pJ).out.length=ol at *
 go_wp2_with fail
 refine(dV 4 fb 1 ay E w17 ((aa HG) _ (aa HF17)).1 (by decide) (by decide) (aa HFB)).mono ?_
 rintro e w18 ⟨rfl,hf⟩
 have HF18:=ae ((aa HF17).trans hf (fun _ _ h=>h))
 clear hf HF17 HFB
 obtain⟨wq,hst,hbq,hfq⟩:=bz (P:=Tryz.prog) (ty:=30) Cv (A2.aL (.slice none 0 0)).toList (heap_alloc_new w18 (.cells Cv.toArray 30)) rfl Tryz.bV (List.all_eq_true.1 (show List.all (A2.aL (.slice none 0 0)).toList (fun v=>v.oneCell')=true from rfl))
 have HS:=ae hst
 have HR:=ae (af hbq)
 have HFq:=ae ((aa HF18).trans ((al w18 _).trans hfq (fun g hg e=>by omega)) (fun _ _ h=>h))
 have HZQ:Hid ((Tryz.prog.info? 30).map (·.size)=some (A2.aL (.slice none 0 0)).toList.length):=ae Tryz.bV
 clear hst hbq hfq
 go_upto_region 14 with (first|((with_reducible refine bS ?_);refine aA rfl 30 (.tmp 5) (.tmp 93) rfl _ _ rfl rfl (aa HS) ?_))
 clear HS
 go_wp2_with (first|((with_reducible refine bG 95 ?_);refine wpList_load_mid rfl 30 (.tmp 5) rfl w18.heap.size 0 rfl _ _ (aa HR) Tryz.underlying30 rfl (aa HZQ) ?_))
 refine(fZ A2 (.slice none 0 0) E wq ((aa HG) _ (aa HFq)).1.g6 ((aa HG) _ (aa HFq)).2 (iY _) AX).mono ?_
 rintro e w19 ⟨v,err,rfl,hown,hE,hf⟩
 rw[Cl] at hE
 have hs:=bR hown
 rw[Ci] at hs
 obtain⟨vo3,vc3,rfl⟩:=hs.form
 obtain rfl:=jI hE
 have HF19:=ae ((aa HFq).trans hf (fun _ _ h=>h))
 have HSv:=ae hs
 clear hown hE hs hf HFq HR HZQ HF18
 go_wp2_with fail
 have hl:=(eC w19 [1,0,0,0,1,0,0,0,2,0,0,0,3,3,0,0,0,4,0,0,0,0,0,0,0,0,0,0,0,0,0,0,0,0,0,0,0,0] #[.int .u8 1,.int .u8 0,.int .u8 0,.int .u8 0,.int .u8 1,.int .u8 0,.int .u8 0,.int .u8 0,.int .u8 2,.int .u8 0,.int .u8 0,.int .u8 0,.int .u8 3,.int .u8 3,.int .u8 0,.int .u8 0,.int .u8 0,.int .u8 4,.int .u8 0,.int .u8 0,.int .u8 0,.int .u8 0,.int .u8 0,.int .u8 0,.int .u8 0,.int .u8 0,.int .u8 0,.int .u8 0,.int .u8 0,.int .u8 0,.int .u8 0,.int .u8 0,.int .u8 0,.int .u8 0,.int .u8 0,.int .u8 0,.int .u8 0,.int .u8 0] 5 rfl (by decide)).src
 have hbx:=al w19 (.cells #[.int .u8 1,.int .u8 0,.int .u8 0,.int .u8 0,.int .u8 1,.int .u8 0,.int .u8 0,.int .u8 0,.int .u8 2,.int .u8 0,.int .u8 0,.int .u8 0,.int .u8 3,.int .u8 3,.int .u8 0,.int .u8 0,.int .u8 0,.int .u8 4,.int .u8 0,.int .u8 0,.int .u8 0,.int .u8 0,.int .u8 0,.int .u8 0,.int .u8 0,.int .u8 0,.int .u8 0,.int .u8 0,.int .u8 0,.int .u8 0,.int .u8 0,.int .u8 0,.int .u8 0,.int .u8 0,.int .u8 0,.int .u8 0,.int .u8 0,.int .u8 0] 5)
 have HFb:=ae ((aa HF19).trans hbx (fun _ _ h=>h))
 refine(fZ CY (.slice none 0 0) E _ ((aa HG) _ (aa HFb)).1.g6 ((aa HG) _ (aa HFb)).2 (iY _) BM).mono ?_
 rintro e w20 ⟨v,err,rfl,hown,hE,hf⟩
 obtain⟨vo4,vc4,rfl⟩:=(bR hown).form
 rw[Cf] at hE
 obtain⟨fb2,rfl,hfb2⟩:=iT hE (by decide)
 have HF20:=ae ((aa HFb).trans hf (fun _ _ h=>h))
 have HFB:=ae hfb2
 have HSv2:=ae (((aa HSv).fr hbx (fun _ _ _ _ _ h=>h)).fr hf (fun _ _ _ _ _ h=>h))
 have HSl2:=ae (hl.fr hf (fun _ _ _ _ _ h=>h))
 clear hown hE hf hfb2 hl hbx HFb HSv HF19
 generalize (cI CY).out.length=ol2 at *
 go_wp2_with fail
 refine(eM _ _ [1,0,0,0,1,0,0,0,2,0,0,0,3,3,0,0,0,4,0,0,0,0,0,0,0,0,0,0,0,0,0,0,0,0,0,0,0,0] [1,0,0,0,1,0,0,0,2,0,0,0,3,3,0,0,0,4,0,0,0,0,0,0,0,0,0,0,0,0,0,0,0,0,0,0,0,0] _ (aa HSv2) (aa HSl2) (by decide)).mono ?_
 rintro e w21 ⟨rfl,nd,hnd⟩
 rw[show eE [1,0,0,0,1,0,0,0,2,0,0,0,3,3,0,0,0,4,0,0,0,0,0,0,0,0,0,0,0,0,0,0,0,0,0,0,0,0] [1,0,0,0,1,0,0,0,2,0,0,0,3,3,0,0,0,4,0,0,0,0,0,0,0,0,0,0,0,0,0,0,0,0,0,0,0,0]=true by kernel_rfl]
 have hf21:Fr (fun _=>False) w20 w21:=by rw[hnd];exact(Fr.refl _ w20).drewN nd
 have HF21:=ae ((aa HF20).trans hf21 (fun _ _ h=>h))
 have HFB21:=ae ((hf21.block _ (lt_of_block (aa HFB)) (fun h=>h)).trans (aa HFB))
 clear hnd hf21 HSv2 HSl2 HFB HF20
 go_wp2_with fail
 refine(dV 4 fb2 22 gF E w21 ((aa HG) _ (aa HF21)).1 (by decide) (by decide) (aa HFB21)).mono ?_
 rintro e w22 ⟨rfl,hf⟩
 have HF22:=ae ((aa HF21).trans hf (fun _ _ h=>h))
 clear hf HF21 HFB21
 go_wp2_with fail
 have HF23:=ae ((aa HF22).trans (al w22 (.cells #[.string ⟨#[98]⟩,.int .u8 3,.string ⟨#[]⟩,.float .f32 0,.int .u8 0,.string ⟨#[97]⟩,.int .u8 3,.string ⟨#[]⟩,.float .f32 0,.int .u8 0] 59)) (fun _ _ h=>h))
 refine(fZ CZ (.slice (some ⟨w22.heap.size,0,none⟩) 2 2) E _ ((aa HG) _ (aa HF23)).1.g6 ((aa HG) _ (aa HF23)).2 (zE w22) A5).mono ?_
 rintro e w24 ⟨v,err,rfl,hown,hE,hf⟩
 obtain⟨vo5,vc5,rfl⟩:=(bR hown).form
 rw[CA] at hE
 obtain⟨fb3,rfl,hfb3⟩:=iT hE (by decide)
 have HF24:=ae ((aa HF23).trans hf (fun _ _ h=>h))
 have HFB3:=ae hfb3
 have HFD:=ae ((Ax w22).aR hf)
 clear hown hE hf hfb3 HF23 HF22
 generalize (cI CZ).out.length=ol3 at *
 go_wp2_with fail
 refine(fZ C0 (.slice (some ⟨w22.heap.size,5,none⟩) 1 1) E w24 ((aa HG) _ (aa HF24)).1.g6 ((aa HG) _ (aa HF24)).2 (aa HFD) B4).mono ?_
 rintro e w25 ⟨v,err,rfl,hown,hE,hf⟩
 obtain⟨vo6,vc6,rfl⟩:=(bR hown).form
 rw[Ct] at hE
 obtain⟨fb4,rfl,hfb4⟩:=iT hE (by decide)
 have HF25:=ae ((aa HF24).trans hf (fun _ _ h=>h))
 have HFB4:=ae hfb4
 have HFB5:=ae ((hf.block _ (lt_of_block (aa HFB3)) (fun h=>h)).trans (aa HFB3))
 clear hown hE hf hfb4 HF24 HFB3 HFD
 generalize (cI C0).out.length=ol4 at *
 go_wp2_with fail
 refine(dV 6 fb3 40 bE E w25 ((aa HG) _ (aa HF25)).1 (by decide) (by decide) (aa HFB5)).mono ?_
 rintro e w26 ⟨rfl,hf⟩
 have HF26:=ae ((aa HF25).trans hf (fun _ _ h=>h))
 have HFB6:=ae ((hf.block _ (lt_of_block (aa HFB4)) (fun h=>h)).trans (aa HFB4))
 clear hf HF25 HFB4 HFB5
 go_wp2_with fail
 refine(dV 5 fb4 39 ay E w26 ((aa HG) _ (aa HF26)).1 (by decide) (by decide) (aa HFB6)).mono ?_
 rintro e w27 ⟨rfl,hf⟩
 have HF27:=ae ((aa HF26).trans hf (fun _ _ h=>h))
 clear hf HF26 HFB6
 go_wp2_with fail
 have HF28:=ae ((aa HF27).trans (al w27 (.cells #[.string ⟨#[116]⟩,.int .u8 2,.string ⟨#[]⟩,.float .f32 1108475904,.int .u8 11] 59)) (fun _ _ h=>h))
 refine(vm Ca (.slice (some ⟨w27.heap.size,0,none⟩) 1 1) (.slice none 0 0) E _ ((aa HG) _ (aa HF28)).1.g6 ((aa HG) _ (aa HF28)).2 (Cc w27) (uo _) BK).mono ?_
 rintro e w29 ⟨v,err,rfl,hown,hE,hf⟩
 rw[Ck] at hE
 have hs:=bR hown
 obtain⟨vo7,vc7,rfl⟩:=hs.form
 obtain rfl:=jI hE
 have HF29:=ae ((aa HF28).trans hf (fun _ _ h=>h))
 have HSa:=ae hs
 have hol:(eG Ca).out.length=37:=by kernel_rfl
 have HOL:=ae hol
 clear hown hE hs hf HF28 HF27 hol
 go_wp2_with fail
 have hl:=(eC w29 [2,0,0,0,0,0,0,0,0,0,0,0,0,0,0,0,0,0,0,0,0,1,0,0,0,1,116,2,66,18,0,0,11,0,0,0,0] #[.int .u8 2,.int .u8 0,.int .u8 0,.int .u8 0,.int .u8 0,.int .u8 0,.int .u8 0,.int .u8 0,.int .u8 0,.int .u8 0,.int .u8 0,.int .u8 0,.int .u8 0,.int .u8 0,.int .u8 0,.int .u8 0,.int .u8 0,.int .u8 0,.int .u8 0,.int .u8 0,.int .u8 0,.int .u8 1,.int .u8 0,.int .u8 0,.int .u8 0,.int .u8 1,.int .u8 116,.int .u8 2,.int .u8 66,.int .u8 18,.int .u8 0,.int .u8 0,.int .u8 11,.int .u8 0,.int .u8 0,.int .u8 0,.int .u8 0] 5 rfl (by decide)).src
 have hbx:=al w29 (.cells #[.int .u8 2,.int .u8 0,.int .u8 0,.int .u8 0,.int .u8 0,.int .u8 0,.int .u8 0,.int .u8 0,.int .u8 0,.int .u8 0,.int .u8 0,.int .u8 0,.int .u8 0,.int .u8 0,.int .u8 0,.int .u8 0,.int .u8 0,.int .u8 0,.int .u8 0,.int .u8 0,.int .u8 0,.int .u8 1,.int .u8 0,.int .u8 0,.int .u8 0,.int .u8 1,.int .u8 116,.int .u8 2,.int .u8 66,.int .u8 18,.int .u8 0,.int .u8 0,.int .u8 11,.int .u8 0,.int .u8 0,.int .u8 0,.int .u8 0] 5)
 have HFe:=ae ((aa HF29).trans hbx (fun _ _ h=>h))
 refine(eM _ _ (eG Ca).out [2,0,0,0,0,0,0,0,0,0,0,0,0,0,0,0,0,0,0,0,0,1,0,0,0,1,116,2,66,18,0,0,11,0,0,0,0] _ ((aa HSa).fr hbx (fun _ _ _ _ _ h=>h)) hl (by rw[aa HOL];decide)).mono ?_
 rintro e w30 ⟨rfl,nd,rfl⟩
 rw[show eE (eG Ca).out [2,0,0,0,0,0,0,0,0,0,0,0,0,0,0,0,0,0,0,0,0,1,0,0,0,1,116,2,66,18,0,0,11,0,0,0,0]=true by kernel_rfl]
 have HFz:=ae ((aa HFe).drewN nd)
 clear hl hbx
 go_wp2_with fail
 go_ret
 exact⟨rfl,aa HFz⟩
theorem qL {w w':World} {v:Value} {x:ByteArray × Nat × Nat} {E:Nat→Addr} {k0 k1:Nat} {vs vs':Array Value} {t:TypeId} (h:df w v x E) (hf:Fr (fun k=>k=k0∨k=k1) w w') (hb:w.heap[k0]?=some (.cells vs t)) (hb':w.heap[k1]?=some (.cells vs' t)) (hne:t≠83):df w' v x E:=by
 rcases h with h|⟨h1,h7,fb,rfl,hbb⟩
 ·exact .inl h
 ·have hlt:fb<w.heap.size:=by
   rcases Nat.lt_or_ge fb w.heap.size with hx|hx
   ·exact hx
   ·rw[Array.getElem?_eq_none hx] at hbb;cases hbb
  refine .inr ⟨h1,h7,fb,rfl,(hf.block fb hlt (fun e=>?_)).trans hbb⟩
  rcases e with e|e
  ·rw[e,hb] at hbb
   simp[aJ] at hbb
   exact hne hbb.2
  ·rw[e,hb'] at hbb
   simp[aJ] at hbb
   exact hne hbb.2
theorem sz (va vs:List Value) (hm:∀ (i:Nat) v,vs[i]?=some v→va[30+i]?=some v) (hln:vs.length=2) (w:World) (Q:Ending→World→Prop) (h:Calls Tryz.prog 21 #[.agg vs.toArray] (w.alloc (.cells va.toArray 44)) fun e w'=>(∃ v err,e = .returned (.tuple #[v,err]))∧Q e w') :
  Calls Tryz.prog 16 #[.int .i64 4,.agg va.toArray] w fun e w'=>(∃ v err,e = .returned (.tuple #[v,err]))∧Q e w':=by
 have H:=ae h
 have HR:Hid ((w.alloc (.cells va.toArray 44)).rangeAt w.heap.size 30 vs):=ae (fun j u hu=>ag (heap_alloc_new w _) (by simpa using hm j u hu))
 have HZ:Hid ((Tryz.prog.info? 25).map (·.size)=some vs.length):=ae (by rw[hln];exact Tryz.bO)
 clear h hln hm
 go_enter Tryz.func16,Tryz.ntmps16
 go_wp2_with (refine wpList_load_mid rfl 25 (.tmp 30) rfl w.heap.size 30 rfl _ _ (aa HR) Tryz.underlying25 rfl (aa HZ) ?_)
 refine(aa H).mono ?_
 rintro e w' ⟨⟨v,err,rfl⟩,hr⟩
 have HX:=ae hr
 clear hr
 go_wp2_with fail
 go_ret2
 exact⟨⟨v,err,rfl⟩,aa HX⟩
theorem mx (va vs:List Value) (hm:∀ (i:Nat) v,vs[i]?=some v→va[37+i]?=some v) (hln:vs.length=35) (w:World) (Q:Ending→World→Prop) (h:Calls Tryz.prog 10 #[.agg vs.toArray] (w.alloc (.cells va.toArray 44)) fun e w'=>(∃ v err,e = .returned (.tuple #[v,err]))∧Q e w') :
  Calls Tryz.prog 16 #[.int .i64 7,.agg va.toArray] w fun e w'=>(∃ v err,e = .returned (.tuple #[v,err]))∧Q e w':=by
 have H:=ae h
 have HR:Hid ((w.alloc (.cells va.toArray 44)).rangeAt w.heap.size 37 vs):=ae (fun j u hu=>ag (heap_alloc_new w _) (by simpa using hm j u hu))
 have HZ:Hid ((Tryz.prog.info? 42).map (·.size)=some vs.length):=ae (by rw[hln];exact Tryz.dr)
 clear h hln hm
 go_enter Tryz.func16,Tryz.ntmps16
 go_wp2_with (refine wpList_load_mid rfl 42 (.tmp 49) rfl w.heap.size 37 rfl _ _ (aa HR) Tryz.underlying42 rfl (aa HZ) ?_)
 refine(aa H).mono ?_
 rintro e w' ⟨⟨v,err,rfl⟩,hr⟩
 have HX:=ae hr
 clear hr
 go_wp2_with fail
 go_ret2
 exact⟨⟨v,err,rfl⟩,aa HX⟩
theorem rh (va vs:List Value) (hm:∀ (i:Nat) v,vs[i]?=some v→va[30+i]?=some v) (hln:vs.length=2) (w:World) (Q:Ending→World→Prop) (h:Calls Tryz.prog 53 #[.agg vs.toArray] (w.alloc (.cells va.toArray 44)) fun e w'=>∃ v,e = .returned v∧Q (.returned v) w') :
  Calls Tryz.prog 24 #[.int .i64 4,.agg va.toArray] w Q:=by
 have H:=ae h
 have HR:Hid ((w.alloc (.cells va.toArray 44)).rangeAt w.heap.size 30 vs):=ae (fun j u hu=>ag (heap_alloc_new w _) (by simpa using hm j u hu))
 have HZ:Hid ((Tryz.prog.info? 25).map (·.size)=some vs.length):=ae (by rw[hln];exact Tryz.bO)
 clear h hln hm
 go_enter Tryz.func24,Tryz.ntmps24
 go_wp2_with ((with_reducible refine aX 23 ?_);refine wpList_load_mid rfl 25 (.tmp 22) rfl w.heap.size 30 rfl _ _ (aa HR) Tryz.underlying25 rfl (aa HZ) ?_)
 refine(aa H).mono ?_
 rintro e w' ⟨v,rfl,hr⟩
 have HX:=ae hr
 clear hr
 go_wp2_with fail
 exact aa HX
theorem ml (va vs:List Value) (hm:∀ (i:Nat) v,vs[i]?=some v→va[37+i]?=some v) (hln:vs.length=35) (w:World) (Q:Ending→World→Prop) (h:Calls Tryz.prog 56 #[.agg vs.toArray] (w.alloc (.cells va.toArray 44)) fun e w'=>∃ v,e = .returned v∧Q (.returned v) w') :
  Calls Tryz.prog 24 #[.int .i64 7,.agg va.toArray] w Q:=by
 have H:=ae h
 have HR:Hid ((w.alloc (.cells va.toArray 44)).rangeAt w.heap.size 37 vs):=ae (fun j u hu=>ag (heap_alloc_new w _) (by simpa using hm j u hu))
 have HZ:Hid ((Tryz.prog.info? 42).map (·.size)=some vs.length):=ae (by rw[hln];exact Tryz.dr)
 clear h hln hm
 go_enter Tryz.func24,Tryz.ntmps24
 go_wp2_with ((with_reducible refine aX 36 ?_);refine wpList_load_mid rfl 42 (.tmp 35) rfl w.heap.size 37 rfl _ _ (aa HR) Tryz.underlying42 rfl (aa HZ) ?_)
 refine(aa H).mono ?_
 rintro e w' ⟨v,rfl,hr⟩
 have HX:=ae hr
 clear hr
 go_wp2_with fail
 exact aa HX
end Go.Proofs.YtdcopmkgmbiikaaGreatDoor
namespace Go.Proofs.YtdcopmkgmbiikaaGreatDoor
open Go.RowKit
end Go.Proofs.YtdcopmkgmbiikaaGreatDoor
namespace Go.Proofs.YtdcopmkgmbiikaaGreatDoor
open Go.RowKit
theorem rU (a:List Nat):eE a a=true:=by
 unfold eE
 simp
theorem PL.Df {w:World} {base:Nat} {ao:Option Addr} {cap:Nat} {L:List PV} (h:PL w base (.slice ao L.length cap) L):L.length≤cap:=by
 rcases h.row.2 with ⟨e,e2⟩|⟨g,c,cur,e,_,_,hc,_⟩
 ·have h0:L.length=0:=e2
  omega
 ·cases e
  exact hc
structure yL (k:Nat) (va:List Value) (E:Nat→Addr) (w:World) (s:Wq) (LP:List PT):Prop where
 put:∀ W,G6 W E→9≤W.heap.size→Fr (fun _=>False) w W→Calls Tryz.prog 16 #[.int .i64 (k:Nat),.agg va.toArray] W fun e W'=>cH W W' e s E
 parts:∀ W,Fr (fun _=>False) w W→Calls Tryz.prog 24 #[.int .i64 (k:Nat),.agg va.toArray] W fun e W'=>∃ y L,e = .returned y∧PL W' W.heap.size y L∧L.map PV.p=LP∧L.length≤16777216∧Fr (fun _=>False) W W'
 out:s.out=(eH [k] LP).1
 f:s.f=(eH [k] LP).2
 kinds:∀ p∈LP,(p.k=1∨p.k=4∨p.k=5∨p.k=6)∧p.u<18446744073709551616∧p.b.length<9223372036854775808
 j7:j7 LP≤100000000000000
 len:s.out.length≤140737488355328
theorem nv (k:Nat) (va:List Value) (E:Nat→Addr) (w:World) (s:Wq) (LP:List PT) (h:yL k va E w s LP) (hg:G7 w E) (hw:9≤w.heap.size) (hva:va.length=72) (hk:k<256) :
  Calls Tryz.prog 8 #[.int .i64 (k:Nat),.agg va.toArray] w fun e w'=>e = .returned (.bool true)∧Fr (fun _=>False) w w':=by
 have HG:Hid (∀ V,Fr (fun _=>False) w V→G7 V E∧9≤V.heap.size):=ae (fun V hf=>⟨hg.fr hf (fun _ h=>h.elim),Nat.le_trans hw hf.size⟩)
 have HX:Hid (∀ V,Fr (fun _=>False) (w.alloc (.cells va.toArray 44)) V→V.rangeAt w.heap.size 0 va):=ae (fun V hf=>af ((hf.block w.heap.size (by simp) (fun h=>h)).trans (heap_alloc_new _ _)))
 have HZ:Hid ((Tryz.prog.info? 44).map (·.size)=some va.length):=ae (by rw[hva];exact Tryz.cG)
 have hbx:=al w (.cells va.toArray 44)
 have H:=ae h
 have HK:=ae hk
 clear h hg hw hva hk
 go_enter Tryz.func8,Tryz.ntmps8
 go_upto_region 1 with fail
 obtain⟨W1,hW1⟩:∃ W1,w.alloc (.cells va.toArray 44)=W1:=⟨_,rfl⟩
 rw[hW1] at HX hbx
 rw[hW1]
 clear hW1
 have HF1:=ae hbx
 clear hbx
 have HR1:=ae ((aa HX) W1 (Fr.refl _ _))
 go_wp2_with ((with_reducible refine aX 11 ?_);refine wpList_load_mid rfl 44 (.tmp 3) rfl w.heap.size 0 rfl _ _ (aa HR1) Tryz.underlying44 rfl (aa HZ) ?_)
 refine((aa H).put W1 ((aa HG) _ (aa HF1)).1.g6 ((aa HG) _ (aa HF1)).2 (aa HF1)).mono ?_
 rintro e w2 ⟨x,err,rfl,hown,hE,hf2⟩
 have HO:=ae (And.intro (bR hown) (And.intro hE hf2))
 clear hown hE hf2 HR1
 have HR2:=ae ((aa HX) w2 (aa HO).2.2)
 go_wp2_with ((with_reducible refine aX 18 ?_);refine wpList_load_mid rfl 44 (.tmp 3) rfl w.heap.size 0 rfl _ _ (aa HR2) Tryz.underlying44 rfl (aa HZ) ?_)
 refine((aa H).parts w2 ((aa HF1).trans (aa HO).2.2 (fun _ _ h=>h))).mono ?_
 rintro e w3 ⟨y,L,rfl,hP,hm,hl,hf3⟩
 obtain⟨ao,cap,rfl,_⟩:=hP.CI
 have HP:=ae (And.intro hP (And.intro hm (And.intro hl hf3)))
 clear hP hm hl hf3 HR2
 go_wp2_with fail
 refine(xr k (aa HK) ao cap L w3 (aa HP).1.Df (aa HP).1.cells (fun q hq=>((aa HP).1.el q hq).1) (fun q hq=>(aa H).kinds q.p (by rw[← (aa HP).2.1];exact List.mem_map.2 ⟨q,hq,rfl⟩)) (by rw[(aa HP).2.1];exact(aa H).j7) (aa HP).2.2.1).mono ?_
 rintro e w4 ⟨z,rfl,hown4,hf4⟩
 rw[(aa HP).2.1] at hown4
 have HQ:Hid (CV (eH [k] (L.map PV.p)).2=CV s.f):=ae (by rw[(aa HP).2.1,(aa H).f])
 rw[aa HQ]
 clear HQ
 unfold CV
 obtain⟨nm,hnm⟩:∃ nm,(dn s.f).1=nm:=⟨_,rfl⟩
 obtain⟨at',hat⟩:∃ a,(dn s.f).2.1=a:=⟨_,rfl⟩
 obtain⟨wy,hwy⟩:∃ a,(dn s.f).2.2=a:=⟨_,rfl⟩
 rw[hnm,hat,hwy]
 have HN:=ae (And.intro hnm (And.intro hat hwy))
 clear hnm hat hwy
 obtain⟨W5,hst,hb5,hf5⟩:=bz (P:=Tryz.prog) (W:=w4.alloc (.cells #[.string ⟨#[]⟩,.int .i64 0,.int .i64 0] 55)) (g:=w4.heap.size) (t:=55) (ty:=55) [.string ⟨#[]⟩,.int .i64 0,.int .i64 0] [.string nm,.int .i64 (at':Nat),.int .i64 (wy:Nat)] (heap_alloc_new w4 _) rfl Tryz.jR (by simp[Value.oneCell'])
 have HST:=ae hst
 have hf45:Fr (fun _=>False) w4 W5:=fW (al w4 _) hf5 (fun i hi=>by rw[hi];exact Nat.le_refl _)
 have hf25:Fr (fun _=>False) w2 W5:=((aa HP).2.2.2.trans hf4 (fun _ _ h=>h)).trans hf45 (fun _ _ h=>h)
 have hz:Src W5 z (eH [k] LP).1:=(bR hown4).fr hf45 (fun _ _ _ _ _ h=>h)
 have hx:Src W5 x (eH [k] LP).1:=by
  rw[← (aa H).out]
  exact(aa HO).1.fr hf25 (fun _ _ _ _ _ h=>h)
 have HB:=ae (And.intro hb5 (And.intro hf25 (And.intro hx hz)))
 clear hst hb5 hf5 hf45 hf25 hz hx hown4 hf4
 go_upto_region 3 with ((with_reducible refine fx ?_);refine aA rfl 55 (.tmp 8) (.tmp 22) rfl _ _ rfl rfl (aa HST) ?_)
 (try simp only[Act.put,bd])
 clear HST
 go_wp2_with fail
 refine(eM x z _ _ W5 (aa HB).2.2.1 (aa HB).2.2.2 (by rw[← (aa H).out];exact(aa H).len)).mono ?_
 rintro e w6 ⟨rfl,n,rfl⟩
 rw[rU]
 have HR6:Hid ((W5.drewN n).rangeAt w4.heap.size 0 [.string nm,.int .i64 (at':Nat),.int .i64 (wy:Nat)]):=ae (af (show(W5.drewN n).heap[w4.heap.size]?=_ from(aa HB).1))
 have hfz:Fr (fun _=>False) w (W5.drewN n):=(((aa HF1).trans (aa HO).2.2 (fun _ _ h=>h)).trans (aa HB).2.1 (fun _ _ h=>h)).drewN n
 have hE:df (W5.drewN n) err (nm,at',wy) E:=by
  have e0:dn s.f=(nm,at',wy):=by rw[← (aa HN).1,← (aa HN).2.1,← (aa HN).2.2]
  rw[← e0]
  exact(aa HO).2.1.fr ((aa HB).2.1.drewN n)
 have HF:=ae hfz
 go_wp2_with ((with_reducible refine aX 28 ?_);refine ai rfl 55 (.tmp 8) rfl w4.heap.size 0 rfl _ _ (aa HR6) Tryz.underlying55 rfl Tryz.jR ?_)
 rcases hE with ⟨h0,rfl⟩|⟨h1,h7,fb,rfl,hb⟩
 ·simp only at h0
  subst h0
  refine(qb nm (at':Nat) _).mono ?_
  rintro e w7 ⟨rfl,hf7⟩
  have HF7:=ae ((aa HF).trans hf7 (fun _ _ h=>h))
  clear hf7
  go_wp2_with fail
  go_ret
  exact⟨rfl,aa HF7⟩
 ·refine(dV wy fb at' nm E _ ((aa HG) _ (aa HF)).1 h1 h7 hb).mono ?_
  rintro e w7 ⟨rfl,hf7⟩
  have HF7:=ae ((aa HF).trans hf7 (fun _ _ h=>h))
  clear hf7
  go_wp2_with fail
  go_ret
  exact⟨rfl,aa HF7⟩
theorem BL (v:cd) (hk:v=pJ∨v=vY):MsB v:=by
 rcases hk with rfl|rfl <;> exact⟨(fun f h=>by cases h),(fun f h=>by cases h),(fun f h=>by cases h),by decide,by decide,by decide,by decide,by decide,by decide⟩
theorem BU:vY.ok:=⟨by decide,⟨by decide,by decide,by decide,by decide,by decide,by decide,by decide,by decide,by decide⟩,by decide,by decide,⟨by decide,by decide,by decide,by decide,by decide⟩,by decide,⟨by decide,⟨by decide,by decide,by decide,by decide,by decide,by decide,by decide,by decide,by decide⟩,by decide⟩,by decide⟩
theorem AS (v:cd) (hk:v=pJ∨v=vY):v.ok:=by rcases hk with rfl|rfl;exact xM;exact BU
theorem Bc (v:cd) (hk:v=pJ∨v=vY) (w:World):AP w v (.slice none 0 0) (.slice none 0 0) (.slice none 0 0) (.slice none 0 0) (.slice none 0 0):=by rcases hk with rfl|rfl <;> exact o9
theorem CT (v:cd) (hk:v=pJ∨v=vY):v.kd=6∨v.kd=8:=by rcases hk with rfl|rfl;exact .inl rfl;exact .inr rfl
theorem B5 (v:cd) (hk:v=pJ∨v=vY):(cy v).out=(eH [7] (cJ v)).1∧(cy v).f=(eH [7] (cJ v)).2∧(∀ p∈cJ v,(p.k=1∨p.k=4∨p.k=5∨p.k=6)∧p.u<18446744073709551616∧p.b.length<9223372036854775808)∧j7 (cJ v)≤100000000000000∧(cy v).out.length≤140737488355328∧v.rq.fs.length=0∧v.an.fs.length=0∧v.an.hi.length=0∧v.ev.rq.fs.length=0∧v.ev.dg.length=0:=by
 rcases hk with rfl|rfl
 ·exact⟨by kernel_rfl,by kernel_rfl,fun p hp=>by rw[show cJ pJ=[⟨ay,1,6,[],4⟩,⟨ck,4,0,[],0⟩] by kernel_rfl] at hp;simp at hp;rcases hp with rfl|rfl <;> simp,by rw[show j7 (cJ pJ)=j7 [⟨ay,1,6,[],4⟩,⟨ck,4,0,[],0⟩] by kernel_rfl];decide +kernel,by decide +kernel,rfl,rfl,rfl,rfl,rfl⟩
 ·exact⟨by kernel_rfl,by kernel_rfl,fun p hp=>by rw[show cJ vY=[⟨ay,1,8,[],5⟩] by kernel_rfl] at hp;simp at hp;rcases hp with rfl <;> simp,by rw[show j7 (cJ vY)=j7 [⟨ay,1,8,[],5⟩] by kernel_rfl];decide +kernel,by decide +kernel,rfl,rfl,rfl,rfl,rfl⟩
theorem AG (v:cd) (hk:v=pJ∨v=vY) (E:Nat→Addr) (w:World) :
  yL 7 (bu 37 (v.aL (.slice none 0 0) (.slice none 0 0) (.slice none 0 0) (.slice none 0 0) (.slice none 0 0)).toList) E w (cy v) (cJ v):=by
 obtain⟨e1,e2,e3,e4,e5,z0,z1,z2,z3,z4⟩:=B5 v hk
 have hI:=Bc v hk
 refine⟨fun W hg hsz hw=>?_,fun W hw=>?_,e1,e2,e3,e4,e5⟩
 ·have hB:=al W (.cells (bu 37 (v.aL (.slice none 0 0) (.slice none 0 0) (.slice none 0 0) (.slice none 0 0) (.slice none 0 0)).toList).toArray 44)
  have hput:=iK v (.slice none 0 0) (.slice none 0 0) (.slice none 0 0) (.slice none 0 0) (.slice none 0 0) E _ (hg.fr hB (fun _ h=>h.elim)) (by have:=hB.size;omega) (hI _) (AS v hk)
  exact(mx _ (v.aL (.slice none 0 0) (.slice none 0 0) (.slice none 0 0) (.slice none 0 0) (.slice none 0 0)).toList (ji (show 37+35≤72 by decide)) rfl W (fun e V'=>cH W V' e (cy v) E) (hput.mono fun e V' h=>cH.box h)).mono (fun e V' h=>h.2)
 ·have hB:=al W (.cells (bu 37 (v.aL (.slice none 0 0) (.slice none 0 0) (.slice none 0 0) (.slice none 0 0) (.slice none 0 0)).toList).toArray 44)
  refine ml _ (v.aL (.slice none 0 0) (.slice none 0 0) (.slice none 0 0) (.slice none 0 0) (.slice none 0 0)).toList (ji (show 37+35≤72 by decide)) rfl W _ ?_
  have hg:=rm v (ae (CT v hk)) none none none none none 0 0 0 0 0 (W.alloc (.cells (bu 37 (v.aL (.slice none 0 0) (.slice none 0 0) (.slice none 0 0) (.slice none 0 0) (.slice none 0 0)).toList).toArray 44)) (AS v hk) (by rw[z0,z1,z2,z3,z4];exact hI _) (BL v hk)
  rw[z0,z1,z2,z3,z4] at hg
  refine hg.mono ?_
  rintro e W' ⟨y,L,rfl,hP,hmp,hln,hf⟩
  exact⟨_,rfl,_,_,rfl,hP.base (by simp),hmp,hln,hB.trans hf (fun _ _ h=>h)⟩
theorem Bh (n:Nat) (r:List Nat) (hk:(n=258∧r=[7])∨(n=1∧r=[])):(gz n r).out=(eH [4] (js n r)).1∧(gz n r).f=(eH [4] (js n r)).2∧(∀ p∈js n r,(p.k=1∨p.k=4∨p.k=5∨p.k=6)∧p.u<18446744073709551616∧p.b.length<9223372036854775808)∧j7 (js n r)≤100000000000000∧(gz n r).out.length≤140737488355328∧n<4294967296:=by
 rcases hk with ⟨rfl,rfl⟩|⟨rfl,rfl⟩
 ·exact⟨by kernel_rfl,by kernel_rfl,fun p hp=>by rw[show js 258 [7]=[⟨cB,4,258,[],0⟩,⟨dp,6,0,[7],0⟩] by kernel_rfl] at hp;simp at hp;rcases hp with rfl|rfl <;> simp,by rw[show j7 (js 258 [7])=j7 [⟨cB,4,258,[],0⟩,⟨dp,6,0,[7],0⟩] by kernel_rfl];decide +kernel,by decide +kernel,by decide⟩
 ·exact⟨by kernel_rfl,by kernel_rfl,fun p hp=>by rw[show js 1 []=[⟨cB,4,1,[],0⟩,⟨dp,6,0,[],4⟩] by kernel_rfl] at hp;simp at hp;rcases hp with rfl|rfl <;> simp,by rw[show j7 (js 1 [])=j7 [⟨cB,4,1,[],0⟩,⟨dp,6,0,[],4⟩] by kernel_rfl];decide +kernel,by decide +kernel,by decide⟩
theorem Af (n:Nat) (r:List Nat) (x:Value) (E:Nat→Addr) (w:World) (hk:(n=258∧r=[7])∨(n=1∧r=[])) (hx:nG w x r) :
  yL 4 (bu 30 [.int .u32 (n:Nat),x]) E w (gz n r) (js n r):=by
 obtain⟨e1,e2,e3,e4,e5,hv⟩:=Bh n r hk
 obtain⟨xo,xc,rfl⟩:=hx.src.form
 refine⟨fun W hg hsz hw=>?_,fun W hw=>?_,e1,e2,e3,e4,e5⟩
 ·have hB:=al W (.cells (bu 30 [.int .u32 (n:Nat),.slice xo r.length xc]).toArray 44)
  have hput:=uh n r _ E _ (hg.fr hB (fun _ h=>h.elim)) (by have:=hB.size;omega) ((hx.aR hw).aR hB) hv
  exact(sz _ [.int .u32 (n:Nat),.slice xo r.length xc] (ji (show 30+2≤72 by decide)) rfl W (fun e V'=>cH W V' e (gz n r) E) (hput.mono fun e V' h=>cH.box h)).mono (fun e V' h=>h.2)
 ·have hB:=al W (.cells (bu 30 [.int .u32 (n:Nat),.slice xo r.length xc]).toArray 44)
  refine rh _ [.int .u32 (n:Nat),.slice xo r.length xc] (ji (show 30+2≤72 by decide)) rfl W _ ?_
  refine(vt n r xo xc hv _ ((hx.aR hw).aR hB)).mono ?_
  rintro e W' ⟨y,rfl,hP,hf⟩
  exact⟨_,rfl,_,_,rfl,hP.base (by simp),rfl,(by simp[nK]),hB.trans hf (fun _ _ h=>h)⟩
theorem zA (E:Nat→Addr) (W:World) (n:Nat) (r:List Nat) (x:Value) (hg:G7 W E) (hw:9≤W.heap.size) (hk:(n=258∧r=[7])∨(n=1∧r=[])) (hx:nG W x r):Calls Tryz.prog 8 #[.int .i64 4,.agg (bu 30 [.int .u32 (n:Nat),x]).toArray] W fun e w'=>e = .returned (.bool true)∧Fr (fun _=>False) W w':=
 nv 4 _ E W _ _ (Af n r x E W hk hx) hg hw (cU (n:=2) rfl (by decide)) (by decide)
theorem Ar (E:Nat→Addr) (W:World) (v:cd) (hk:v=pJ∨v=vY) (hg:G7 W E) (hw:9≤W.heap.size):Calls Tryz.prog 8 #[.int .i64 7,.agg (bu 37 (v.aL (.slice none 0 0) (.slice none 0 0) (.slice none 0 0) (.slice none 0 0) (.slice none 0 0)).toList).toArray] W fun e w'=>e = .returned (.bool true)∧Fr (fun _=>False) W w':=
 nv 7 _ E W _ _ (AG v hk E W) hg hw (cU (n:=35) rfl (by decide)) (by decide)
def pn (a b:List Nat):Prop:=∀ (i:Nat) (x y:Nat),a[i]?=some x→b[i]?=some y→x % 256=y % 256
theorem pn.shrink {a b c:List Nat} (h:pn a (b++c)):pn a b:=fun i x y hx hy=>h i x y hx (by rw[List.getElem?_append_left (List.getElem?_eq_some_iff.1 hy).1];exact hy)
theorem pn.part {a l x:List Nat} (h:pn a (l++x)) (hl:l.length+x.length≤a.length):norm ((a.drop l.length).take x.length)=norm x:=by
 apply List.ext_getElem?
 intro i
 by_cases hi:i<x.length
 ·have h1:a[l.length+i]?=some a[l.length+i]:=List.getElem?_eq_getElem (by omega)
  have h2:x[i]?=some x[i]:=List.getElem?_eq_getElem hi
  have h3:=h (l.length+i) _ _ h1 (by rw[List.getElem?_append_right (by omega),Nat.add_sub_cancel_left];exact h2)
  simp only[norm,List.getElem?_map,List.getElem?_take_of_lt hi,List.getElem?_drop,h1,h2,Option.map_some,h3]
 ·rw[List.getElem?_eq_none (by simp[norm];omega),List.getElem?_eq_none (by simp[norm];omega)]
theorem xB (v:Nat) (h:v<256):val (be 1 v)=v:=by simp[val,be,List.range,List.range.loop];omega
theorem pr (n v:Nat):(be n v).length=n:=by simp[be]
def CS.later (c c':CS):Prop:=match c,c' with
 | .rd q,.rd q'=>q'.all=q.all∧∀ x,q.f=some x→q'.f=some x
 | .wr s,.wr s'=>s'.f=none→s.f=none∧∃ y,s'.l=s.l++y
 | _,_=>False
theorem CS.eO (c:CS):c.later c:=by
 cases c with
 | wr s=>exact fun h=>⟨h,[],by simp⟩
 | rd q=>exact⟨rfl,fun _ h=>h⟩
theorem CS.aw {a b c:CS} (h:a.later b) (k:b.later c):a.later c:=by
 cases a <;> cases b <;> cases c <;> first|exact h.elim|exact k.elim|skip
 ·intro hf
  obtain⟨h1,y,e1⟩:=k hf
  obtain⟨h2,z,e2⟩:=h h1
  exact⟨h2,z++y,by rw[e1,e2,List.append_assoc]⟩
 ·exact⟨k.1.trans h.1,fun x hx=>k.2 x (h.2 x hx)⟩
def CH (A:List Nat) (c d:CS):Prop:=∃ q s,c = .rd q∧d = .wr s∧q.all=A∧(s.f=none→pn A s.l→(q.f=none∧q.place=s.l.length∧s.l.length≤A.length)∨(A.length<s.l.length∧∃ x,q.f=some x∧x.2.2=1))
def vi (A:List Nat) (d:CS):Prop:=∃ s,d = .wr s∧s.f=none∧pn A s.l∧s.l.length≤A.length
theorem vi.back {A:List Nat} {d d':CS} (h:vi A d') (hl:d.later d'):vi A d:=by
 obtain⟨s',rfl,h1,h2,h3⟩:=h
 cases d with
 | rd q=>exact hl.elim
 | wr s =>
  obtain⟨h4,y,e⟩:=hl h1
  rw[e] at h2 h3
  exact⟨s,rfl,h4,h2.shrink,by simp at h3;omega⟩
theorem CH.stuck {A:List Nat} {c d c' d':CS} (h:CH A c d) (hn:¬ vi A d) (hc:c.later c') (hd:d.later d'):CH A c' d':=by
 obtain⟨q,s,rfl,rfl,ha,h⟩:=h
 cases c' with
 | wr _=>exact hc.elim
 | rd q' =>
  cases d' with
  | rd _=>exact hd.elim
  | wr s' =>
   refine⟨q',s',rfl,rfl,hc.1.trans ha,fun hf hm=>.inr ?_⟩
   obtain⟨h1,y,e⟩:=hd hf
   have hm1:pn A s.l:=(e ▸ hm).shrink
   rcases h h1 hm1 with h2|⟨h2,x,hx,hx1⟩
   ·exact absurd ⟨s,rfl,h1,hm1,h2.2.2⟩ hn
   ·exact⟨by rw[e];simp;omega,x,hc.2 x hx,hx1⟩
theorem Q.go_later (q:Q) (nm:ByteArray) (k m:Int) (hk:k≠9) (hk2:k≠10) (n:Nat):(CS.rd q).later (.rd (((q.named nm).go k m).1.ah n)):=by
 have ha:((q.named nm).go k m).1.all=q.all:=by
  unfold Q.go Q.step Q.fail Q.named
  repeat' split
  all_goals rfl
 have hf:∀ x,q.f=some x→((q.named nm).go k m).1.f=some x:=fun x hx=>by
  unfold Q.go Q.step Q.named
  simp[hk2,hx]
 refine⟨?_,fun x hx=>?_⟩
 ·unfold Q.ah
  split
  ·exact ha
  ·exact ha
 ·unfold Q.ah
  rw[if_pos (.inr (by rw[hf x hx];simp))]
  exact hf x hx
theorem Wq.rf (s:Wq) (nm:ByteArray) (n:Nat) (h:((s.named nm).ah n).f=none):n=0∧s.f=none:=by
 unfold Wq.ah Wq.named at h
 split at h
 ·rename_i hx
  rcases hx with hx|hx
  ·exact⟨hx,h⟩
  ·exact absurd h hx
 ·cases h
theorem Wq.BI {s:Wq} {x:List Nat} (h:(s.bP x).f=none):s.f=none∧(s.bP x).l=s.l++x:=by
 unfold Wq.bP at *
 by_cases hs:s.f=none
 ·simp only[hs,if_true] at h ⊢
  exact⟨trivial,trivial⟩
 ·simp only[hs,if_false] at h
theorem fM {s:Wq} {nm:ByteArray} {n:Nat} {x:List Nat} (h:(((s.named nm).ah n).bP x).f=none):n=0∧s.f=none∧(((s.named nm).ah n).bP x).l=s.l++x:=by
 obtain⟨h1,h2⟩:=Wq.BI h
 obtain⟨h3,h4⟩:=Wq.rf s nm n h1
 refine⟨h3,h4,?_⟩
 rw[h2,h3,Wq.AD]
 rfl
theorem vi.at_ {A:List Nat} {c d:CS} (h:CH A c d) (hf:vi A d):∃ q s,c = .rd q∧d = .wr s∧q.all=A∧q.f=none∧q.place=s.l.length∧s.f=none:=by
 obtain⟨q,s,rfl,rfl,ha,h⟩:=h
 obtain⟨s',e,f1,f2,f3⟩:=hf
 cases e
 rcases h f1 f2 with h|h
 ·exact⟨q,s,rfl,rfl,ha,h.1,h.2.1,f1⟩
 ·omega
theorem dq (c:CS) (nm:ByteArray) (rs:List (Nat→Nat)) (v:Nat):c.later (c.fe nm rs v).1:=by
 cases c with
 | wr s=>intro h;obtain⟨_,h2,h3⟩:=fM h;exact⟨h2,_,h3⟩
 | rd q=>exact Q.go_later q nm 1 0 (by decide) (by decide) _
theorem bF (c:CS) (nm:ByteArray) (rs:List (Nat→Nat)) (v:Nat):c.later (c.bL nm rs v).1:=by
 cases c with
 | wr s=>intro h;obtain⟨_,h2,h3⟩:=fM h;exact⟨h2,_,h3⟩
 | rd q=>exact Q.go_later q nm 4 0 (by decide) (by decide) _
theorem Wq.fO (s:Wq) (n:Nat) (hn:n≠0):(s.ah n).f≠none:=by
 unfold Wq.ah
 split
 ·rename_i h
  rcases h with h|h
  ·exact absurd h hn
  ·exact h
 ·simp
theorem u1 (c:CS) (nm:ByteArray) (rs:List (Nat→Nat)) (v:Nat):c.later (c.gq nm rs v).1:=by
 cases c with
 | wr s =>
  intro h
  have h':(((s.named nm).ah (fb rs v)).lS v).f=none:=h
  show s.f=none∧∃ y,(((s.named nm).ah (fb rs v)).lS v).l=s.l++y
  unfold Wq.lS at h' ⊢
  by_cases hq:bM v=true
  ·rw[if_pos hq] at h' ⊢
   obtain⟨_,h2,h3⟩:=fM h'
   exact⟨h2,_,h3⟩
  ·rw[if_neg hq] at h'
   exact absurd h' (Wq.fO _ _ (by decide))
 | rd q=>exact Q.go_later q nm 5 0 (by decide) (by decide) _
theorem eJ (c:CS) (nm:ByteArray) (m:Int) (rs:List (Int→Nat)) (v:Int):c.later (c.cv nm m rs v).1:=by
 cases c with
 | wr s =>
  intro h
  have h':(((s.named nm).ah (fb rs v)).kI v m).f=none:=h
  show s.f=none∧∃ y,(((s.named nm).ah (fb rs v)).kI v m).l=s.l++y
  unfold Wq.kI Wq.gp at h' ⊢
  by_cases h0:v<0
  ·rw[if_pos h0] at h'
   exact absurd h' (Wq.fO _ _ (by decide))
  ·rw[if_neg h0] at h' ⊢
   by_cases h1:(v.toNat:Int)≤m∧v.toNat<4294967296
   ·rw[if_pos h1] at h' ⊢
    obtain⟨_,h2,h3⟩:=fM h'
    exact⟨h2,_,h3⟩
   ·rw[if_neg h1] at h'
    exact absurd h' (Wq.fO _ _ (by decide))
 | rd q=>exact Q.go_later q nm 7 m (by decide) (by decide) _
theorem nH (c:CS) (nm:ByteArray) (m:Int) (rs:List (List Nat→Nat)) (v:List Nat):c.later (c.eR nm m rs v).1:=by
 cases c with
 | wr s =>
  intro h
  have h':(((s.named nm).ah (fb rs v)).gp v.length m (be 4 v.length++v)).f=none:=h
  show s.f=none∧∃ y,(((s.named nm).ah (fb rs v)).gp v.length m (be 4 v.length++v)).l=s.l++y
  unfold Wq.gp at h' ⊢
  by_cases h1:(v.length:Int)≤m∧v.length<4294967296
  ·rw[if_pos h1] at h' ⊢
   obtain⟨_,h2,h3⟩:=fM h'
   exact⟨h2,_,h3⟩
  ·rw[if_neg h1] at h'
   exact absurd h' (Wq.fO _ _ (by decide))
 | rd q=>exact Q.go_later q nm 6 m (by decide) (by decide) _
theorem jT (c:CS) (nm:ByteArray) (m:Int) (rs:List (ByteArray→Nat)) (v:ByteArray):c.later (c.dG nm m rs v).1:=by
 cases c with
 | wr s =>
  intro h
  have h':(((s.named nm).ah (fb rs v)).gp v.size m (be 4 v.size++bytesOf v)).f=none:=h
  show s.f=none∧∃ y,(((s.named nm).ah (fb rs v)).gp v.size m (be 4 v.size++bytesOf v)).l=s.l++y
  unfold Wq.gp at h' ⊢
  by_cases h1:(v.size:Int)≤m∧v.size<4294967296
  ·rw[if_pos h1] at h' ⊢
   obtain⟨_,h2,h3⟩:=fM h'
   exact⟨h2,_,h3⟩
  ·rw[if_neg h1] at h'
   exact absurd h' (Wq.fO _ _ (by decide))
 | rd q=>exact Q.go_later q nm 6 m (by decide) (by decide) _
theorem iX (c:CS) (v:Nat × Nat):c.later (c.ky v).1:=CS.aw (bF _ _ _ _) (bF _ _ _ _)
theorem eK (c:CS) (nm:ByteArray) (v:List Nat):c.later (c.bA nm v).1:=nH _ _ _ _ _
theorem lU (c:CS) (v:Nat × List Nat):c.later (c.dE v).1:=CS.aw (bF _ _ _ _) (eK _ _ _)
structure cj.fit (f:cj):Prop where
 kind:f.kind<256
 value:f.value<4294967296
 unit:f.unit<256
theorem qv (c:CS) (last:Nat) (f:cj):c.later (c.cP last f).1:=by
 unfold CS.cP
 split
 ·exact CS.aw (dq _ _ _ _) (jT _ _ _ _ _)
 split
 ·exact CS.aw (CS.aw (dq _ _ _ _) (u1 _ _ _ _)) (dq _ _ _ _)
 ·exact dq _ _ _ _
theorem gC (c:CS) (ahead:ByteArray) (last:Nat) (f:cj):c.later (c.bB ahead last f).1:=CS.aw (jT _ _ _ _ _) (qv _ _ _)
theorem nX (last:Nat):∀ (l:List cj) (s:CS × ByteArray),s.1.later (mn (aU last) s l).1
 | [],_=>CS.eO _
 | f::l,s=>CS.aw (gC _ _ _ _) (nX last l (aU last s f).1)
theorem nJ (last:Nat):∀ (n:Nat) (s:CS × ByteArray),s.1.later (fC (aU last) dQ n s).1.1
 | 0,_=>CS.eO _
 | n+1,s=>CS.aw (nJ last n s) (gC _ _ _ _)
theorem jq (c:CS) (last:Nat) (rs:List (Int→Nat)) (l:List cj):c.later (c.cF last rs l).1:=by
 cases c with
 | wr s=>exact CS.aw (eJ (.wr s) ak 32 (dU 32 rs) l.length) (nX last _ (((CS.wr s).cv ak 32 (dU 32 rs) l.length).1,⟨#[]⟩))
 | rd q=>exact CS.aw (eJ (.rd q) ak 32 (dU 32 rs) 0) (nJ last _ (((CS.rd q).cv ak 32 (dU 32 rs) 0).1,⟨#[]⟩))
end Go.Proofs.YtdcopmkgmbiikaaGreatDoor
