import Derived.Test.YtdcopmkgmbiikaaGreatDoorPg6
import Derived.Test.YtdcopmkgmbiikaaGreatDoorPg1
import Derived.Test.YtdcopmkgmbiikaaGreatDoorPg2
import Derived.Test.YtdcopmkgmbiikaaGreatDoorPg5
import Derived.Deep.CutRange
set_option maxRecDepth 100000
set_option maxHeartbeats 4000000
set_option linter.unusedSimpArgs false
namespace Go.Proofs.YtdcopmkgmbiikaaGreatDoor
open Go.RowKit
def Q.many (q:Q) (nm:ByteArray) (least most:Int):Q × List Nat:=(((q.aj nm).go 6 most).1.ah (if (((q.aj nm).go 6 most).2.2.length:Int)<least then 4 else 0),((q.aj nm).go 6 most).2.2)
theorem rN (xo:Option Addr) (len xc:Nat) (place last fa:Int) (nm0 fw:ByteArray) (w:World) (R:Value)
  (hend:∀ w',Fr (fun _=>False) w w'→Calls Tryz.prog 106 #[bh xo len xc place last bm fw fa 0] w' fun e w''=>e = .returned R∧Fr (fun _=>False) w' w'') (hR:∃ a b c,R = .agg #[.string a,.int .i64 b,.int .i64 c]) :
  Calls Tryz.prog 66 #[bh xo len xc place last nm0 fw fa 0] w fun e w'=>e = .returned R∧Fr (fun _=>False) w w':=by
 have hd:((0:Int) == 0)=true:=rfl
 obtain⟨a,b,c,rfl⟩:=hR
 have HG:=ae (fun w'=>fH xo len xc place last fa 0 nm0 fw w')
 have HR:=ae hend
 clear hend
 unfold bh at *
 go_enter Tryz.func66,Tryz.ntmps66
 go_wp2_with fail
 refine((aa HG) _).mono ?_
 rintro e w1 ⟨rfl,rfl⟩
 rw[hd]
 go_wp2_with fail
 refine((aa HR) _ (aN _ _ _ _)).mono ?_
 rintro e w5 ⟨rfl,hf5⟩
 have hs3:=(xR w (.cells #[.slice xo len xc,.int .i64 place,.int .i64 last,.string bm,.string fw,.int .i64 fa,.int .i64 0] 120) (.cells #[.string ⟨#[]⟩,.int .i64 0,.int .i64 0] 55) (.cells #[.slice xo len xc,.int .i64 place,.int .i64 last,.string nm0,.string fw,.int .i64 fa,.int .i64 0] 120))
 have hb1:=(hf5.block (w.heap.size+1) (Nat.lt_of_lt_of_eq (by omega:w.heap.size+1<w.heap.size+3) hs3.2.2.symm) (fun h=>h)).trans hs3.2.1
 have o0:w5.cell? ⟨w.heap.size+1,0,none⟩=some (.string ⟨#[]⟩):=by simp[World.cell?,hb1]
 have o1:w5.cell? ⟨w.heap.size+1,1,none⟩=some (.int .i64 0):=by simp[World.cell?,hb1]
 have o2:w5.cell? ⟨w.heap.size+1,2,none⟩=some (.int .i64 0):=by simp[World.cell?,hb1]
 have oz:∀ i,w5.frozen? ⟨w.heap.size+1,i,none⟩=false:=fun i=>by simp[World.frozen?,hb1]
 have hlo:=ab o0
 have H5:=ae ((aN _ _ _ _).trans hf5 (fun _ _ h=>h))
 clear hf5 hs3 hb1
 go_wp2_with fail
 refine bodyPost_ret (v:=.agg #[.string a,.int .i64 b,.int .i64 c]) (by simp[results,Tryz.results66,go_sem,o0,o1,o2]) rfl ⟨rfl,?_⟩
 exact(((aa H5).setCell (.inr (Nat.le_succ _)) _).setCell (.inr (Nat.le_succ _)) _).setCell (.inr (Nat.le_succ _)) _
theorem pF (xo:Option Addr) (len xc:Nat) (place last fa fy:Int) (nm0 fw:ByteArray) (w:World) (hy:fy≠0) (R:Value)
  (hend:∀ w',Fr (fun _=>False) w w'→Calls Tryz.prog 106 #[bh xo len xc place last nm0 fw fa fy] w' fun e w''=>e = .returned R∧Fr (fun _=>False) w' w'') (hR:∃ a b c,R = .agg #[.string a,.int .i64 b,.int .i64 c]) :
  Calls Tryz.prog 66 #[bh xo len xc place last nm0 fw fa fy] w fun e w'=>e = .returned R∧Fr (fun _=>False) w w':=by
 have hd:(fy == 0)=false:=by simp[hy]
 obtain⟨a,b,c,rfl⟩:=hR
 have HG:=ae (fun w'=>fH xo len xc place last fa fy nm0 fw w')
 have HR:=ae hend
 clear hend
 unfold bh at *
 go_enter Tryz.func66,Tryz.ntmps66
 go_wp2_with fail
 refine((aa HG) _).mono ?_
 rintro e w1 ⟨rfl,rfl⟩
 rw[hd]
 go_wp2_with fail
 refine((aa HR) _ (aN _ _ _ _)).mono ?_
 rintro e w5 ⟨rfl,hf5⟩
 have hs3:=(xR w (.cells #[.slice xo len xc,.int .i64 place,.int .i64 last,.string nm0,.string fw,.int .i64 fa,.int .i64 fy] 120) (.cells #[.string ⟨#[]⟩,.int .i64 0,.int .i64 0] 55) (.cells #[.slice xo len xc,.int .i64 place,.int .i64 last,.string nm0,.string fw,.int .i64 fa,.int .i64 fy] 120))
 have hb1:=(hf5.block (w.heap.size+1) (Nat.lt_of_lt_of_eq (by omega:w.heap.size+1<w.heap.size+3) hs3.2.2.symm) (fun h=>h)).trans hs3.2.1
 have o0:w5.cell? ⟨w.heap.size+1,0,none⟩=some (.string ⟨#[]⟩):=by simp[World.cell?,hb1]
 have o1:w5.cell? ⟨w.heap.size+1,1,none⟩=some (.int .i64 0):=by simp[World.cell?,hb1]
 have o2:w5.cell? ⟨w.heap.size+1,2,none⟩=some (.int .i64 0):=by simp[World.cell?,hb1]
 have oz:∀ i,w5.frozen? ⟨w.heap.size+1,i,none⟩=false:=fun i=>by simp[World.frozen?,hb1]
 have hlo:=ab o0
 have H5:=ae ((aN _ _ _ _).trans hf5 (fun _ _ h=>h))
 clear hf5 hs3 hb1
 go_wp2_with fail
 refine bodyPost_ret (v:=.agg #[.string a,.int .i64 b,.int .i64 c]) (by simp[results,Tryz.results66,go_sem,o0,o1,o2]) rfl ⟨rfl,?_⟩
 exact(((aa H5).setCell (.inr (Nat.le_succ _)) _).setCell (.inr (Nat.le_succ _)) _).setCell (.inr (Nat.le_succ _)) _
theorem ub (q:Q) (xo:Option Addr) (xc last:Nat) (w:World) (hq:q.ok) :
  Calls Tryz.prog 66 #[q.ref xo xc last] w fun e w'=>e = .returned (.agg #[.string (q.aj bm).ended.1,.int .i64 ((q.aj bm).ended.2.1:Nat),.int .i64 ((q.aj bm).ended.2.2:Nat)])∧Fr (fun _=>False) w w':=by
 have he:∀ w',Fr (fun _=>False) w w'→Calls Tryz.prog 106 #[(q.aj bm).ref xo xc last] w' fun e w''=>e = .returned (.agg #[.string (q.aj bm).ended.1,.int .i64 ((q.aj bm).ended.2.1:Nat),.int .i64 ((q.aj bm).ended.2.2:Nat)])∧Fr (fun _=>False) w' w'':=fun w' _=>wB (q.aj bm) xo xc last w' (Q.iI hq bm)
 by_cases hf:q.f=none
 ·have e1:(q.aj bm).ref xo xc last=bh xo q.all.length xc (q.at_:Nat) (last:Nat) bm (eD q.f).1 ((eD q.f).2.1:Nat) 0:=by
   unfold Q.aj;rw[if_pos hf];unfold Q.named Q.ref Q.at_;rw[hf];rfl
  have e2:q.ref xo xc last=bh xo q.all.length xc (q.at_:Nat) (last:Nat) q.nm (eD q.f).1 ((eD q.f).2.1:Nat) 0:=by
   unfold Q.ref;rw[hf];rfl
  rw[e1] at he
  rw[e2]
  exact rN xo q.all.length xc _ _ _ q.nm _ w _ he ⟨_,_,_,rfl⟩
 ·have e1:q.aj bm=q:=by unfold Q.aj;rw[if_neg hf]
  have hy:((eD q.f).2.2:Int)≠0:=fun e=>hf ((jV hq).1 (by omega))
  rw[show(q.aj bm).ref xo xc last=q.ref xo xc last by rw[e1]] at he
  exact pF xo q.all.length xc _ _ _ _ q.nm _ w hy _ he ⟨_,_,_,rfl⟩
theorem xk (w:World) (a b:Obj):((w.alloc a).alloc b).heap[w.heap.size]?=some a∧((w.alloc a).alloc b).heap[w.heap.size+1]?=some b∧((w.alloc a).alloc b).heap.size=w.heap.size+2:=by
 have s1:(w.alloc a).heap.size=w.heap.size+1:=by simp
 refine⟨?_,?_,by simp⟩
 ·rw[Below.heap_alloc _ _ _ (by omega)]
  exact heap_alloc_new w a
 ·rw[← s1]
  exact heap_alloc_new _ b
def Q.begun (l:List Nat) (form:Nat):Q:=((Q.mk ByteArray.empty l 0 0 none).aj cP |>.go 1 0).1.ah (if ((Q.mk ByteArray.empty l 0 0 none).aj cP |>.go 1 0).2.1=form then 0 else 5)
theorem ua (l:List Nat) (form:Nat) (xo:Option Addr) (xc:Nat) (w:World) (hx:Src w (.slice xo l.length xc) l) (hlc:l.length≤xc) (hl:l.length≤16777216) :
  Calls Tryz.prog 57 #[.slice xo l.length xc,.int .i64 (form:Nat)] w fun e w'=>∃ last',e = .returned ((Q.begun l form).ref xo xc last')∧((Q.begun l form).f=none→last'=(Q.begun l form).part)∧Fr (fun _=>False) w w':=by
 have hq0:(Q.mk ByteArray.empty l 0 0 none).ok:=⟨Nat.zero_le _,Nat.zero_le _,fun y hy=>by cases hy⟩
 obtain⟨r,hr⟩:∃ r,r=((Q.mk ByteArray.empty l 0 0 none).aj cP).go 1 0:=⟨_,rfl⟩
 have hbg:Q.begun l form=r.1.ah (if r.2.1=form then 0 else 5):=by rw[hr];rfl
 have hall:r.1.all=l:=by rw[hr,Q.go_all,Q.de]
 have hrok:r.1.ok:=by rw[hr];exact Q.go_ok (Q.iI hq0 _) _ _
 have hrv:r.2.1<256:=by rw[hr];exact Q.go_lt _ 1 0
 have HN:Hid (∀ w',Fr (fun _=>False) w w'→Calls Tryz.prog 98 #[bh xo l.length xc 0 0 ⟨#[]⟩ ⟨#[]⟩ 0 0,.string cP,.int .i64 1] w' fun e w''=>∃ last':Nat,e = .returned (.tuple #[bh xo l.length xc (r.1.at_:Nat) (last':Nat) r.1.nm (eD r.1.f).1 ((eD r.1.f).2.1:Nat) ((eD r.1.f).2.2:Nat),.int .u64 (r.2.1:Nat)])∧(r.1.f=none→last'=r.1.part)∧Fr (fun _=>False) w' w''):=fun w' hf=>by
  refine(zU (Q.mk ByteArray.empty l 0 0 none) cP 1 xo xc 0 w' hq0 (hx.fr hf (fun _ _ _ _ _ h=>h)) hlc hl (.inl rfl) (fun _=>rfl)).mono ?_
  rw[← hr]
  rintro e w'' ⟨last',rfl,h1,h2⟩
  refine⟨last',?_,h1,h2⟩
  unfold Q.ref
  rw[hall]
 have HB:Hid (∀ w' (last':Nat),(r.1.f=none→last'=r.1.part)→Calls Tryz.prog 99 #[bh xo l.length xc (r.1.at_:Nat) (last':Nat) r.1.nm (eD r.1.f).1 ((eD r.1.f).2.1:Nat) ((eD r.1.f).2.2:Nat),.bool ((r.2.1:Int) != (form:Int)),.int .i64 5] w' fun e w''=>∃ last2:Nat,e = .returned ((Q.begun l form).ref xo xc last2)∧((Q.begun l form).f=none→last2=(Q.begun l form).part)∧Fr (fun _=>False) w' w''):=fun w' last' hla=>by
  have hg:=qR r.1 xo xc last' ((r.2.1:Int) != (form:Int)) 5 w' hrok (by decide) hla
  have e1:r.1.ah (if ((r.2.1:Int) != (form:Int))=true then 5 else 0)=Q.begun l form:=by
   rw[hbg]
   by_cases h:r.2.1=form
   ·simp[h]
   ·have:((r.2.1:Int) != (form:Int))=true:=by simp;omega
    rw[this,if_neg h]
    rfl
  rw[e1] at hg
  have e2:r.1.ref xo xc last'=bh xo l.length xc (r.1.at_:Nat) (last':Nat) r.1.nm (eD r.1.f).1 ((eD r.1.f).2.1:Nat) ((eD r.1.f).2.2:Nat):=by unfold Q.ref;rw[hall]
  rw[e2] at hg
  exact hg
 clear hr hbg hall hrok hx
 unfold bh at *
 go_enter Tryz.func57,Tryz.ntmps57
 go_wp2_with fail
 refine((aa HN) _ (bd _ _ _)).mono ?_
 rintro e w5 ⟨last',rfl,hla,hf5⟩
 have hs2:=xk w (.cells #[.slice none 0 0,.int .i64 0,.int .i64 0,.string ⟨#[]⟩,.string ⟨#[]⟩,.int .i64 0,.int .i64 0] 120) (.cells #[.slice xo l.length xc,.int .i64 0,.int .i64 0,.string ⟨#[]⟩,.string ⟨#[]⟩,.int .i64 0,.int .i64 0] 120)
 have hb0:=(hf5.block w.heap.size (by rw[hs2.2.2];omega) (fun h=>h)).trans hs2.1
 have hb1:=(hf5.block (w.heap.size+1) (by rw[hs2.2.2];omega) (fun h=>h)).trans hs2.2.1
 have r0:w5.cell? ⟨w.heap.size+1,0,none⟩=some (.slice xo l.length xc):=by simp[World.cell?,hb1]
 have r1:w5.cell? ⟨w.heap.size+1,1,none⟩=some (.int .i64 0):=by simp[World.cell?,hb1]
 have r2:w5.cell? ⟨w.heap.size+1,2,none⟩=some (.int .i64 0):=by simp[World.cell?,hb1]
 have r3:w5.cell? ⟨w.heap.size+1,3,none⟩=some (.string ⟨#[]⟩):=by simp[World.cell?,hb1]
 have r4:w5.cell? ⟨w.heap.size+1,4,none⟩=some (.string ⟨#[]⟩):=by simp[World.cell?,hb1]
 have r5:w5.cell? ⟨w.heap.size+1,5,none⟩=some (.int .i64 0):=by simp[World.cell?,hb1]
 have r6:w5.cell? ⟨w.heap.size+1,6,none⟩=some (.int .i64 0):=by simp[World.cell?,hb1]
 have rz:∀ i,w5.frozen? ⟨w.heap.size+1,i,none⟩=false:=fun i=>by simp[World.frozen?,hb1]
 have hlr:=ab r0
 have H5:=ae (And.intro hla (And.intro ((bd _ _ _).trans hf5 (fun _ _ h=>h)) hb0))
 clear hla hf5 hs2 hb0 hb1
 go_wp2_with fail
 obtain⟨W6,hW6⟩:∃ W6,((((((w5.setCell ⟨w.heap.size+1,0,none⟩ (.slice xo l.length xc)).setCell ⟨w.heap.size+1,1,none⟩ (.int .i64 (r.1.at_:Nat))).setCell ⟨w.heap.size+1,2,none⟩ (.int .i64 (last':Nat))).setCell ⟨w.heap.size+1,3,none⟩ (.string r.1.nm)).setCell ⟨w.heap.size+1,4,none⟩ (.string (eD r.1.f).1)).setCell ⟨w.heap.size+1,5,none⟩ (.int .i64 ((eD r.1.f).2.1:Nat))).setCell ⟨w.heap.size+1,6,none⟩ (.int .i64 ((eD r.1.f).2.2:Nat))=W6:=⟨_,rfl⟩
 have hb6:W6.heap[w.heap.size]?=some (.cells #[.slice none 0 0,.int .i64 0,.int .i64 0,.string ⟨#[]⟩,.string ⟨#[]⟩,.int .i64 0,.int .i64 0] 120):=by
  rw[← hW6,Below.heap_setCell _ _ _ _ (by show w.heap.size≠w.heap.size+1;omega),Below.heap_setCell _ _ _ _ (by show w.heap.size≠w.heap.size+1;omega),Below.heap_setCell _ _ _ _ (by show w.heap.size≠w.heap.size+1;omega),Below.heap_setCell _ _ _ _ (by show w.heap.size≠w.heap.size+1;omega),Below.heap_setCell _ _ _ _ (by show w.heap.size≠w.heap.size+1;omega),Below.heap_setCell _ _ _ _ (by show w.heap.size≠w.heap.size+1;omega),Below.heap_setCell _ _ _ _ (by show w.heap.size≠w.heap.size+1;omega)]
  exact(aa H5).2.2
 have hf06:Fr (fun _=>False) w W6:=by rw[← hW6];exact((((((((aa H5).2.1).setCell (.inr (Nat.le_succ _)) _).setCell (.inr (Nat.le_succ _)) _).setCell (.inr (Nat.le_succ _)) _).setCell (.inr (Nat.le_succ _)) _).setCell (.inr (Nat.le_succ _)) _).setCell (.inr (Nat.le_succ _)) _).setCell (.inr (Nat.le_succ _)) _
 rw[hW6]
 refine((aa HB) W6 last' (aa H5).1).mono ?_
 rintro e w7 ⟨last2,rfl,h5,hf7⟩
 have hl6:w.heap.size<W6.heap.size:=by
  rcases Nat.lt_or_ge w.heap.size W6.heap.size with hx|hx
  ·exact hx
  ·rw[Array.getElem?_eq_none hx] at hb6;cases hb6
 have hb7:=(hf7.block w.heap.size hl6 (fun h=>h)).trans hb6
 have z0:w7.cell? ⟨w.heap.size,0,none⟩=some (.slice none 0 0):=by simp[World.cell?,hb7]
 have z1:w7.cell? ⟨w.heap.size,1,none⟩=some (.int .i64 0):=by simp[World.cell?,hb7]
 have z2:w7.cell? ⟨w.heap.size,2,none⟩=some (.int .i64 0):=by simp[World.cell?,hb7]
 have z3:w7.cell? ⟨w.heap.size,3,none⟩=some (.string ⟨#[]⟩):=by simp[World.cell?,hb7]
 have z4:w7.cell? ⟨w.heap.size,4,none⟩=some (.string ⟨#[]⟩):=by simp[World.cell?,hb7]
 have z5:w7.cell? ⟨w.heap.size,5,none⟩=some (.int .i64 0):=by simp[World.cell?,hb7]
 have z6:w7.cell? ⟨w.heap.size,6,none⟩=some (.int .i64 0):=by simp[World.cell?,hb7]
 have zz:∀ i,w7.frozen? ⟨w.heap.size,i,none⟩=false:=fun i=>by simp[World.frozen?,hb7]
 have hlz:=ab z0
 have H7:=ae (And.intro h5 (hf06.trans hf7 (fun _ _ h=>h)))
 clear h5 hf7 hf06 hb6 hb7 hl6 hW6 r0 r1 r2 r3 r4 r5 r6 rz hlr
 have eref:∀ n:Nat,(Q.begun l form).ref xo xc n = .agg #[.slice xo (Q.begun l form).all.length xc,.int .i64 ((Q.begun l form).at_:Nat),.int .i64 (n:Nat),.string (Q.begun l form).nm,.string (eD (Q.begun l form).f).1,.int .i64 ((eD (Q.begun l form).f).2.1:Nat),.int .i64 ((eD (Q.begun l form).f).2.2:Nat)]:=fun _=>rfl
 have HE:=ae eref
 rw[eref]
 clear eref
 go_wp2_with fail
 refine bodyPost_ret (v:=(Q.begun l form).ref xo xc last2) (by rw[aa HE];simp[results,Tryz.results57,go_sem,z0,z1,z2,z3,z4,z5,z6]) rfl ?_
 exact⟨last2,rfl,(aa H7).1,((((((((aa H7).2).setCell (.inr (Nat.le_refl _)) _).setCell (.inr (Nat.le_refl _)) _).setCell (.inr (Nat.le_refl _)) _).setCell (.inr (Nat.le_refl _)) _).setCell (.inr (Nat.le_refl _)) _).setCell (.inr (Nat.le_refl _)) _).setCell (.inr (Nat.le_refl _)) _⟩
def Q.rv (q:Q) (xo:Option Addr) (len xc last:Nat):Array Value:=#[.slice xo len xc,.int .i64 (q.at_:Nat),.int .i64 (last:Nat),.string q.nm,.string (eD q.f).1,.int .i64 ((eD q.f).2.1:Nat),.int .i64 ((eD q.f).2.2:Nat)]
theorem Q.ki {q:Q} {len:Nat} (h:q.all.length=len) (xo:Option Addr) (xc last:Nat):q.ref xo xc last = .agg (q.rv xo len xc last):=by unfold Q.ref Q.rv bh;rw[h]
def Q.cQ (q:Q):Q × Nat × List Nat:=((((q.aj dC).go 4 0).1.many fZ 1 32).1,((q.aj dC).go 4 0).2.1,(((q.aj dC).go 4 0).1.many fZ 1 32).2)
theorem u0 (w:World) (a b c d:Obj):Fr (fun _=>False) w ((((w.alloc a).alloc b).alloc c).alloc d):=((((Fr.refl _ _).alloc _).alloc _).alloc _).alloc _
theorem DH (w:World) (a b c d:Obj):((((w.alloc a).alloc b).alloc c).alloc d).heap[w.heap.size]?=some a∧((((w.alloc a).alloc b).alloc c).alloc d).heap[w.heap.size+1]?=some b∧((((w.alloc a).alloc b).alloc c).alloc d).heap[w.heap.size+1+1]?=some c∧((((w.alloc a).alloc b).alloc c).alloc d).heap[w.heap.size+1+1+1]?=some d∧((((w.alloc a).alloc b).alloc c).alloc d).heap.size=w.heap.size+4:=by
 have h3:=xR w a b c
 have s2:((w.alloc a).alloc b).heap.size=w.heap.size+1+1:=by simp
 have s3:(((w.alloc a).alloc b).alloc c).heap.size=w.heap.size+1+1+1:=by simp
 refine⟨?_,?_,?_,?_,by simp⟩
 ·rw[Below.heap_alloc _ _ _ (by omega)];exact h3.1
 ·rw[Below.heap_alloc _ _ _ (by omega)];exact h3.2.1
 ·rw[Below.heap_alloc _ _ _ (by omega),← s2]
  exact heap_alloc_new _ c
 ·rw[← s3]
  exact heap_alloc_new _ d
theorem vH (w:World) (a b c:Obj):(((w.alloc a).alloc b).alloc c).heap[w.heap.size]?=some a∧(((w.alloc a).alloc b).alloc c).heap[w.heap.size+1]?=some b∧(((w.alloc a).alloc b).alloc c).heap[w.heap.size+1+1]?=some c∧(((w.alloc a).alloc b).alloc c).heap.size=w.heap.size+3:=by
 have h3:=xR w a b c
 have s2:((w.alloc a).alloc b).heap.size=w.heap.size+1+1:=by simp
 refine⟨h3.1,h3.2.1,?_,h3.2.2⟩
 rw[← s2]
 exact heap_alloc_new _ c
def Q.bV (q:Q) (nm:ByteArray) (k:Int):Q × Nat:=(((q.aj nm).go k 0).1,((q.aj nm).go k 0).2.1)
theorem Q.Be (q:Q) (nm:ByteArray) (k:Int):(q.bV nm k).1.all=q.all:=by
 show((q.aj nm).go k 0).1.all=q.all
 rw[Q.go_all,Q.de]
def Q.gid (q:Q):Q × Nat × Nat:=(((q.bV dk 4).1.bV eJ 4).1,(q.bV dk 4).2,((q.bV dk 4).1.bV eJ 4).2)
theorem BI (q:Q) (xo:Option Addr) (len xc last:Nat) (so:Bool) (n:Nat) (w:World) (hlen:q.all.length=len) (hq:q.ok) (hn:1≤n) (hla:q.f=none→last=q.part) :
  Calls Tryz.prog 99 #[.agg (q.rv xo len xc last),.bool so,.int .i64 (n:Nat)] w fun e w'=>∃ last':Nat,e = .returned (.agg ((q.ah (if so then n else 0)).rv xo len xc last'))∧((q.ah (if so then n else 0)).f=none→last'=(q.ah (if so then n else 0)).part)∧Fr (fun _=>False) w w':=by
 subst hlen
 have hg:=qR q xo xc last so n w hq hn hla
 rw[Q.ki rfl] at hg
 refine hg.mono ?_
 rintro e w'' ⟨last',rfl,h1,h2⟩
 exact⟨last',by rw[Q.ki (show(q.ah (if so then n else 0)).all.length=q.all.length by rw[Q.cH])],h1,h2⟩
def Q.gn (q:Q):Q × Nat:=((q.bV fY 1).1.ah (if 10<(q.bV fY 1).2 then 5 else 0),(q.bV fY 1).2)
def Q.dw (q:Q) (nm:ByteArray) (used:Bool):Q × Nat:=((q.bV nm 4).1.ah (if used=false∧(q.bV nm 4).2≠0 then 4 else 0),(q.bV nm 4).2)
theorem Q.yA (q:Q) (nm:ByteArray) (least most:Int):(q.many nm least most).1.all=q.all:=by
 show(((q.aj nm).go 6 most).1.ah _).all=q.all
 rw[Q.cH,Q.go_all,Q.de]
def Q.bk (q:Q):Q × (Nat × List Nat) × Nat × List Nat:=(((q.cQ.1.bV ey 4).1.many bH 0 32768).1,q.cQ.2,(q.cQ.1.bV ey 4).2,((q.cQ.1.bV ey 4).1.many bH 0 32768).2)
theorem av {P:Program} {ops:Array Oper} {Q:Exit→Act→World→Prop} {a:Act} {w:World} {rest:List Oper} (k:Nat) {x1 x2 x3 x4 x5} (h:wpList P ops Q (Oper.mk (some k) x1 x2 x3 x4 x5::rest) a w):wpList P ops Q (Oper.mk (some k) x1 x2 x3 x4 x5::rest) a w:=h
theorem aq {P:Program} {ops:Array Oper} {Q:Exit→Act→World→Prop} {a:Act} {w:World} {rest:List Oper} {x1 x2 x3 x4 x5} (h:wpList P ops Q (Oper.mk none x1 x2 x3 x4 x5::rest) a w):wpList P ops Q (Oper.mk none x1 x2 x3 x4 x5::rest) a w:=h
theorem ck {P:Program} {w w':World} {ops:Array Oper} {op:Oper} {a:Act} {K:Act→World→Prop} {Q:Exit→Act→World→Prop} {E:Prop} (hgd:op.guard=none) (ty:TypeId) (x y:Operand) (ho:op.op = .store ty x y)
  (p v:Value) (hx:a.eval x=p) (hy:a.eval y=v) (hr:(Instr.storeAt ty p v).run P w = .ok () w')
  (h:K (a.put op.dst undef) w'):if Region.wanted op (yielded ops a.tmps)=true then Oper.wp P op a w K Q else E:=by
 have hw:Region.wanted op (yielded ops a.tmps)=true:=by simp[Region.wanted,hgd]
 rw[if_pos hw]
 unfold Oper.wp execOp
 simp only[ho,hx,hy,Sem.run_bind,hr,Result.andThen_ok,Sem.run_pure]
 exact h
theorem Tryz.al:(Tryz.prog.info? 120).map (·.size)=some 7:=by kernel_rfl
def oM:List Value:=[.slice none 0 0,.int .i64 0,.int .i64 0,.string ⟨#[]⟩,.string ⟨#[]⟩,.int .i64 0,.int .i64 0]
structure j9 (w:World) (xo:Option Addr) (len xc:Nat) (all:List Nat):Prop where
 hx:Src w (.slice xo len xc) all
 hl:all.length=len
 hc:len≤xc
 hb:len≤16777216
def QS (q:Q) (xo:Option Addr) (len xc:Nat) (all:List Nat) (R:List Value):Prop:=q.all=all∧q.ok∧∃ last:Nat,R=(q.rv xo len xc last).toList∧(q.f=none→last=q.part)
theorem QS.len {q:Q} {xo:Option Addr} {len xc:Nat} {all:List Nat} {R:List Value} (h:QS q xo len xc all R):R.length=7:=by obtain⟨_,_,last,rfl,_⟩:=h;rfl
theorem QS.one {q:Q} {xo:Option Addr} {len xc:Nat} {all:List Nat} {R:List Value} (h:QS q xo len xc all R):∀ v∈R,v.oneCell'=true:=by
 obtain⟨_,_,last,rfl,_⟩:=h
 intro v hv
 simp only[Q.rv,List.mem_cons,List.not_mem_nil,or_false] at hv
 rcases hv with rfl|rfl|rfl|rfl|rfl|rfl|rfl <;> rfl
theorem ei (q:Q) (xo:Option Addr) (len xc last:Nat):(q.rv xo len xc last).toList.toArray=q.rv xo len xc last:=by simp
theorem dR {w':World} {xo:Option Addr} {len xc:Nat} {all:List Nat} {R:List Value} {q:Q} (hl:all.length=len) (h:QS q xo len xc all R) (so:Bool) (n m:Nat) (hn:1≤n) (hn7:n≤7) (hm:(if so=true then n else 0)=m) :
  Calls Tryz.prog 99 #[.agg R.toArray,.bool so,.int .i64 (n:Nat)] w' fun e w''=>∃ R',e = .returned (.agg R'.toArray)∧QS (q.ah m) xo len xc all R'∧Fr (fun _=>False) w' w'':=by
 obtain⟨ha,ho,last,rfl,hla⟩:=h
 subst ha hm
 rw[ei]
 refine(BI q xo len xc last so n w' hl ho hn hla).mono ?_
 rintro e w2 ⟨l2,rfl,h1,h2⟩
 exact⟨((q.ah (if so=true then n else 0)).rv xo len xc l2).toList,by rw[ei],⟨Q.cH _ _,Q.bU ho _ (by split <;> omega),l2,rfl,h1⟩,h2⟩
theorem j9.aD {w w':World} {xo:Option Addr} {len xc:Nat} {all:List Nat} (h:j9 w xo len xc all) (hf:Fr (fun _=>False) w w'):j9 w' xo len xc all:=⟨h.hx.fr hf (fun _ _ _ _ _ h=>h),h.hl,h.hc,h.hb⟩
theorem jn {w':World} {xo:Option Addr} {len xc:Nat} {all:List Nat} {R:List Value} {q:Q} (h:QS q xo len xc all R) :
  Calls Tryz.prog 58 #[.agg R.toArray] w' fun e w''=>e = .returned (.bool (decide (q.f=none)))∧Fr (fun _=>False) w' w'':=by
 obtain⟨ha,ho,last,rfl,hla⟩:=h
 rw[ei]
 refine(fH xo len xc (q.at_:Nat) (last:Nat) ((eD q.f).2.1:Nat) ((eD q.f).2.2:Nat) q.nm (eD q.f).1 w').mono ?_
 rintro e w2 ⟨rfl,rfl⟩
 refine⟨?_,aB _ _⟩
 have e1:((((eD q.f).2.2:Nat):Int) == 0)=decide (q.f=none):=by
  have:=jV ho
  by_cases hq:q.f=none
  ·have h0:=this.2 hq
   rw[h0]
   simp[hq]
  ·have h0:¬ (eD q.f).2.2=0:=fun h=>hq (this.1 h)
   have h1:¬ (((eD q.f).2.2:Nat):Int)=0:=by omega
   rw[decide_eq_false hq]
   exact beq_eq_false_iff_ne.2 h1
 rw[e1]
def Q.bT (q:Q) (nm:ByteArray) (most:Int):Q × Nat:=(((q.aj nm).go 7 most).1,((q.aj nm).go 7 most).2.1)
theorem Q.Bh (q:Q) (nm:ByteArray) (most:Int):(q.bT nm most).2<4294967296:=Q.go_lt (q.aj nm) 7 most
theorem QS.c3 {q:Q} {xo:Option Addr} {len xc:Nat} {all:List Nat} {R:List Value} (h:QS q xo len xc all R):R[3]?=some (.string q.nm):=by obtain⟨_,_,last,rfl,_⟩:=h;rfl
theorem QS.named {q:Q} {xo:Option Addr} {len xc:Nat} {all:List Nat} {R:List Value} (h:QS q xo len xc all R) (hf:q.f=none) (nm:ByteArray):QS (q.aj nm) xo len xc all (R.set 3 (.string nm)):=by
 obtain⟨ha,ho,last,rfl,hl⟩:=h
 have e:q.aj nm=q.named nm:=by unfold Q.aj;rw[if_pos hf]
 rw[e]
 exact⟨ha,Q.bG ho nm,last,rfl,hl⟩
theorem QS.vt {q:Q} {xo:Option Addr} {len xc:Nat} {all:List Nat} {R:List Value} (h:QS q xo len xc all R) (hf:q.f≠none) (nm:ByteArray):QS (q.aj nm) xo len xc all R:=by
 have e:q.aj nm=q:=by unfold Q.aj;rw[if_neg hf]
 rw[e]
 exact h
structure B2 (w W:World) (R:List Value):Prop where
 b0:W.heap[w.heap.size]?=some (.cells R.toArray 120)
 b1:W.heap[w.heap.size+1]?=some (.cells oM.toArray 120)
 fr:Fr (fun _=>False) w W
 n:R.length=7
section
variable {w W W':World} {R R':List Value} {q:Q} {xo:Option Addr} {len xc:Nat} {all:List Nat}
theorem B2.lt (h:B2 w W R):w.heap.size+1<W.heap.size:=lt_of_block h.b1
theorem B2.aD (h:B2 w W R) (hf:Fr (fun _=>False) W W'):B2 w W' R:=by
 have hl:=h.lt
 exact⟨(hf.block _ (by omega) (fun h=>h)).trans h.b0,(hf.block _ (by omega) (fun h=>h)).trans h.b1,h.fr.trans hf (fun _ _ h=>h),h.n⟩
theorem B2.aU (h:B2 w W R) (hR:QS q xo len xc all R'):∃ W',(Instr.storeAt 120 (.pointer (some ⟨w.heap.size,0,none⟩)) (.agg R'.toArray)).run Tryz.prog W = .ok () W'∧B2 w W' R'∧Fr (fun k=>k=w.heap.size) W W':=by
 have hl:=h.lt
 obtain⟨W',h1,h2,h3⟩:=bA (P:=Tryz.prog) (ty:=120) R R' h.b0 (by rw[h.n,hR.len]) (by rw[hR.len];exact Tryz.al) hR.one
 exact⟨W',h1,⟨h2,(h3.block _ (by omega) (fun h=>by omega)).trans h.b1,h.fr.trans h3 (fun k hk e=>by omega),hR.len⟩,h3⟩
theorem B2.cell (h:B2 w W R) (i:Nat) (v:Value) (hv:R[i]?=some v):W.cell? ⟨w.heap.size,i,none⟩=some v:=af h.b0 i v hv |> fun h=>by simpa using h
theorem B2.ep (h:B2 w W R) (i:Nat):W.frozen? ⟨w.heap.size,i,none⟩=false:=by simp[World.frozen?,h.b0]
theorem B2.CR (h:B2 w W R) (i:Nat) (v:Value):B2 w (W.setCell ⟨w.heap.size,i,none⟩ v) (R.set i v):=by
 have hl:=h.lt
 have h3:Fr (fun k=>k=w.heap.size) W (W.setCell ⟨w.heap.size,i,none⟩ v):=(Fr.refl (fun k=>k=w.heap.size) W).setCell (p:=⟨w.heap.size,i,none⟩) (.inl rfl) v
 refine⟨?_,(h3.block _ (by omega) (fun h=>by omega)).trans h.b1,h.fr.trans h3 (fun k hk e=>by omega),by rw[List.length_set];exact h.n⟩
 rw[ke h.b0]
 simp
theorem B2.start (w:World) (R:List Value) (hR:R.length=7):B2 w ((w.alloc (.cells R.toArray 120)).alloc (.cells oM.toArray 120)) R:=
 ⟨(xk w _ _).1,(xk w _ _).2.1,((Fr.refl _ w).alloc _).alloc _,hR⟩
theorem B2.fin (h:B2 w W R) (hR:QS q xo len xc all R'):∃ W',(Instr.storeAt 120 (.pointer (some ⟨w.heap.size+1,0,none⟩)) (.agg R'.toArray)).run Tryz.prog W = .ok () W'∧(loadVar 120 ⟨w.heap.size+1,0,none⟩).run Tryz.prog W' = .ok (.agg R'.toArray) W'∧Fr (fun k=>k=w.heap.size+1) W W'∧Fr (fun _=>False) w W':=by
 obtain⟨W',h1,h2,h3⟩:=bA (P:=Tryz.prog) (ty:=120) oM R' h.b1 (by rw[hR.len];rfl) (by rw[hR.len];exact Tryz.al) hR.one
 exact⟨W',h1,run_loadVar_mid (P:=Tryz.prog) W' (w.heap.size+1) 0 120 R' _ (af h2) Tryz.underlying120 rfl (by rw[hR.len];exact Tryz.al),h3,h.fr.trans h3 (fun k hk e=>by omega)⟩
end
theorem pK {w w':World} {xo:Option Addr} {len xc:Nat} {all:List Nat} {R:List Value} {q:Q} (A:j9 w xo len xc all) (hf:Fr (fun _=>False) w w') (h:QS q xo len xc all R) (k m:Int) (hk:k∈kinds) (h9:k≠9) (hm:m<9223372036854775808) :
  Calls Tryz.prog 125 #[.agg R.toArray,.agg #[.int .i64 k,.int .u64 0,.string ⟨#[]⟩,.int .i64 0,.int .i64 m]] w' fun e w''=>∃ R' sx sc,e = .returned (.tuple #[.agg R'.toArray,.int .u64 ((q.go k m).2.1:Nat),.slice sx (q.go k m).2.2.length sc])∧QS (q.go k m).1 xo len xc all R'∧Src w'' (.slice sx (q.go k m).2.2.length sc) (q.go k m).2.2∧(∀ g o a c,Value.slice sx (q.go k m).2.2.length sc = .slice (some ⟨g,o,none⟩) a c→w'.heap.size≤g)∧Fr (fun _=>False) w' w'':=by
 obtain⟨ha,ho,last,rfl,hla⟩:=h
 obtain⟨hx,hl,hc,hb⟩:=A.aD hf
 subst ha hl
 rw[ei,← Q.ki rfl]
 refine(oH q ⟨k,0,ByteArray.empty,0,m⟩ xo xc last w' ho hx hc hb hk (fun h=>absurd h h9) hm hla).mono ?_
 rintro e w2 ⟨l2,v,rfl,h1,h2,h3,h4⟩
 obtain⟨sx,sc,rfl⟩:=h1.form
 exact⟨((q.go k m).1.rv xo q.all.length xc l2).toList,sx,sc,by rw[ei,← Q.ki (by rw[Q.go_all])];rfl,⟨Q.go_all _ _ _,Q.go_ok ho _ _,l2,rfl,h3⟩,h1,h2,h4⟩
theorem cG {w w':World} {xo:Option Addr} {len xc:Nat} {all:List Nat} {R:List Value} {q:Q} (A:j9 w xo len xc all) (hf:Fr (fun _=>False) w w') (h:QS q xo len xc all R) (nm:ByteArray) (k:Int) (hk:k=1∨k=4∨k=5) :
  Calls Tryz.prog 98 #[.agg R.toArray,.string nm,.int .i64 k] w' fun e w''=>∃ R',e = .returned (.tuple #[.agg R'.toArray,.int .u64 ((q.bV nm k).2:Nat)])∧QS (q.bV nm k).1 xo len xc all R'∧Fr (fun _=>False) w' w'':=by
 have hk2:k∈kinds∧k≠9:=by rcases hk with rfl|rfl|rfl <;> decide
 have HA:=ae (A.aD hf)
 have HQ:=ae h
 obtain⟨r,hr⟩:∃ r,(q.aj nm).go k 0=r:=⟨_,rfl⟩
 have HRD:=ae (fun W R1 (hw:Fr (fun _=>False) w' W) (h1:QS (q.aj nm) xo len xc all R1)=>pK (aa HA) hw h1 k 0 hk2.1 hk2.2 (by decide))
 rw[hr] at HRD
 have HR:=ae hr
 have HB0:=ae (B2.start w' R h.len)
 clear A hf h hr
 clear hk hk2
 go_enter Tryz.func98,Tryz.ntmps98
 go_wp2_with (first|((with_reducible refine av 10 ?_);refine wpList_load_mid rfl 120 (.tmp 3) rfl w'.heap.size 0 rfl _ _ (af (aa HB0).b0) Tryz.underlying120 rfl (by rw[(aa HB0).n];exact Tryz.al) ?_))
 refine(jn (aa HQ)).mono ?_
 rintro e w1 ⟨rfl,hf1⟩
 have HB1:=ae ((aa HB0).aD hf1)
 clear hf1 HB0
 go_upto_if 11 with fail
 go_cut [] from 10 to 13 (fun wx=>∃ R1,QS (q.aj nm) xo len xc all R1∧B2 w' wx R1)
 case first =>
  by_cases hg:q.f=none
  ·rw[decide_eq_true hg]
   have r3:=(aa HB1).cell 3 _ (aa HQ).c3
   have z3:=(aa HB1).ep 3
   have l3:=ab r3
   have HX:=ae (And.intro ((aa HQ).named hg nm) ((aa HB1).CR 3 (.string nm)))
   clear hg
   go_wp2_with fail
   go_meet
   case rel=>exact⟨R.set 3 (.string nm),(aa HX).1,(aa HX).2⟩
  ·rw[decide_eq_false hg]
   have HX:=ae ((aa HQ).vt hg nm)
   clear hg
   go_wp2_with fail
   go_meet
   case rel=>exact⟨R,aa HX,aa HB1⟩
 case rest =>
  obtain⟨R1,hQ1,hB1⟩:=hcut
  rename World=>w2
  have HB2:=ae hB1
  have HQ2:=ae hQ1
  clear hQ1 hB1 HB1 HQ
  go_wp2_with (first|((with_reducible refine av 15 ?_);refine wpList_load_mid rfl 120 (.tmp 3) rfl w'.heap.size 0 rfl _ _ (af (aa HB2).b0) Tryz.underlying120 rfl (by rw[(aa HB2).n];exact Tryz.al) ?_))
  refine((aa HRD) _ _ (aa HB2).fr (aa HQ2)).mono ?_
  rintro e w3 ⟨R3,sx,sc,rfl,hQ3,hS3,hn3,hf3⟩
  obtain⟨w4,hst,hB4,hf4⟩:=((aa HB2).aD hf3).aU hQ3
  obtain⟨w5,hst5,hld,hf5,hf05⟩:=hB4.fin hQ3
  have HST:=ae hst
  have HST5:=ae hst5
  have HB4:=ae hB4
  have HX:=ae (And.intro hQ3 hf05)
  clear hst hst5 hf5 hf05 hS3 hn3 hf3 hf4 hB4 HB2 HQ2 hQ3 HRD
  go_wp2_with (first|((with_reducible refine aq ?_);refine ag rfl 120 (.tmp 3) (.tmp 19) rfl _ _ rfl rfl (aa HST) ?_)|((with_reducible refine av 22 ?_);refine wpList_load_mid rfl 120 (.tmp 3) rfl w'.heap.size 0 rfl _ _ (af (aa HB4).b0) Tryz.underlying120 rfl (by rw[(aa HB4).n];exact Tryz.al) ?_)|((with_reducible refine aq ?_);refine ag rfl 120 (.tmp 6) (.tmp 22) rfl _ _ rfl rfl (aa HST5) ?_))
  refine bodyPost_ret (v:=.tuple #[.agg R3.toArray,.int .u64 (r.2.1:Nat)]) (by simp[results,Tryz.results98,asAddr,hld]) rfl ?_
  have e:q.bV nm k=(r.1,r.2.1):=by unfold Q.bV;rw[aa HR]
  rw[e]
  exact⟨R3,rfl,(aa HX).1,(aa HX).2⟩
theorem uG {w w':World} {xo:Option Addr} {len xc:Nat} {all:List Nat} {R:List Value} {q:Q} (A:j9 w xo len xc all) (hf:Fr (fun _=>False) w w') (h:QS q xo len xc all R) (nm:ByteArray) (most:Int) (hk:most<9223372036854775808) :
  Calls Tryz.prog 105 #[.agg R.toArray,.string nm,.int .i64 most] w' fun e w''=>∃ R',e = .returned (.tuple #[.agg R'.toArray,.int .i64 ((q.bT nm most).2:Nat)])∧QS (q.bT nm most).1 xo len xc all R'∧Fr (fun _=>False) w' w'':=by
 have hlt:=Q.Bh q nm most
 have HA:=ae (A.aD hf)
 have HQ:=ae h
 obtain⟨r,hr⟩:∃ r,(q.aj nm).go 7 most=r:=⟨_,rfl⟩
 have HRD:=ae (fun W R1 (hw:Fr (fun _=>False) w' W) (h1:QS (q.aj nm) xo len xc all R1)=>pK (aa HA) hw h1 7 most (by decide) (by decide) hk)
 rw[hr] at HRD
 have HR:=ae hr
 have HB0:=ae (B2.start w' R h.len)
 clear A hf h hr
 have e:q.bT nm most=(r.1,r.2.1):=by unfold Q.bT;rw[aa HR]
 rw[e] at hlt ⊢
 have hw1:wrap64 ((r.2.1:Nat):Int)=(r.2.1:Int):=by unfold wrap64;dsimp only at hlt;omega
 have HW:=ae hw1
 clear hk hlt e hw1
 go_enter Tryz.func105,Tryz.ntmps105
 go_wp2_with (first|((with_reducible refine av 10 ?_);refine wpList_load_mid rfl 120 (.tmp 3) rfl w'.heap.size 0 rfl _ _ (af (aa HB0).b0) Tryz.underlying120 rfl (by rw[(aa HB0).n];exact Tryz.al) ?_))
 refine(jn (aa HQ)).mono ?_
 rintro e w1 ⟨rfl,hf1⟩
 have HB1:=ae ((aa HB0).aD hf1)
 clear hf1 HB0
 go_upto_if 11 with fail
 go_cut [] from 10 to 13 (fun wx=>∃ R1,QS (q.aj nm) xo len xc all R1∧B2 w' wx R1)
 case first =>
  by_cases hg:q.f=none
  ·rw[decide_eq_true hg]
   have r3:=(aa HB1).cell 3 _ (aa HQ).c3
   have z3:=(aa HB1).ep 3
   have l3:=ab r3
   have HX:=ae (And.intro ((aa HQ).named hg nm) ((aa HB1).CR 3 (.string nm)))
   clear hg
   go_wp2_with fail
   go_meet
   case rel=>exact⟨R.set 3 (.string nm),(aa HX).1,(aa HX).2⟩
  ·rw[decide_eq_false hg]
   have HX:=ae ((aa HQ).vt hg nm)
   clear hg
   go_wp2_with fail
   go_meet
   case rel=>exact⟨R,aa HX,aa HB1⟩
 case rest =>
  obtain⟨R1,hQ1,hB1⟩:=hcut
  rename World=>w2
  have HB2:=ae hB1
  have HQ2:=ae hQ1
  clear hQ1 hB1 HB1 HQ
  go_wp2_with (first|((with_reducible refine av 15 ?_);refine wpList_load_mid rfl 120 (.tmp 3) rfl w'.heap.size 0 rfl _ _ (af (aa HB2).b0) Tryz.underlying120 rfl (by rw[(aa HB2).n];exact Tryz.al) ?_))
  refine((aa HRD) _ _ (aa HB2).fr (aa HQ2)).mono ?_
  rintro e w3 ⟨R3,sx,sc,rfl,hQ3,hS3,hn3,hf3⟩
  obtain⟨w4,hst,hB4,hf4⟩:=((aa HB2).aD hf3).aU hQ3
  obtain⟨w5,hst5,hld,hf5,hf05⟩:=hB4.fin hQ3
  have HST:=ae hst
  have HST5:=ae hst5
  have HB4:=ae hB4
  have HX:=ae (And.intro hQ3 hf05)
  clear hst hst5 hf5 hf05 hS3 hn3 hf3 hf4 hB4 HB2 HQ2 hQ3 HRD
  have hw1:=aa HW
  go_wp2_with (first|((with_reducible refine aq ?_);refine ag rfl 120 (.tmp 3) (.tmp 19) rfl _ _ rfl rfl (aa HST) ?_)|((with_reducible refine av 22 ?_);refine wpList_load_mid rfl 120 (.tmp 3) rfl w'.heap.size 0 rfl _ _ (af (aa HB4).b0) Tryz.underlying120 rfl (by rw[(aa HB4).n];exact Tryz.al) ?_)|((with_reducible refine aq ?_);refine ag rfl 120 (.tmp 6) (.tmp 22) rfl _ _ rfl rfl (aa HST5) ?_))
  refine bodyPost_ret (v:=.tuple #[.agg R3.toArray,.int .i64 (r.2.1:Nat)]) (by simp[results,Tryz.results105,asAddr,hld]) rfl ?_
  exact⟨R3,rfl,(aa HX).1,(aa HX).2⟩
theorem gB {w w':World} {xo:Option Addr} {len xc:Nat} {all:List Nat} {R:List Value} {q:Q} (A:j9 w xo len xc all) (hf:Fr (fun _=>False) w w') (h:QS q xo len xc all R) (nm:ByteArray) (least most:Int) (hk:most<9223372036854775808) :
  Calls Tryz.prog 103 #[.agg R.toArray,.string nm,.int .i64 least,.int .i64 most] w' fun e w''=>∃ R' sx sn sc,e = .returned (.tuple #[.agg R'.toArray,.slice sx sn sc])∧QS (q.many nm least most).1 xo len xc all R'∧Src w'' (.slice sx sn sc) (q.many nm least most).2∧(∀ g o m c,Value.slice sx sn sc = .slice (some ⟨g,o,none⟩) m c→w'.heap.size≤g)∧Fr (fun _=>False) w' w'':=by
 have HA:=ae (A.aD hf)
 have HQ:=ae h
 obtain⟨r,hr⟩:∃ r,(q.aj nm).go 6 most=r:=⟨_,rfl⟩
 have HRD:=ae (fun W R1 (hw:Fr (fun _=>False) w' W) (h1:QS (q.aj nm) xo len xc all R1)=>pK (aa HA) hw h1 6 most (by decide) (by decide) hk)
 rw[hr] at HRD
 have HR:=ae hr
 have HB0:=ae (B2.start w' R h.len)
 clear A hf h hr
 have e:q.many nm least most=(r.1.ah (if ((r.2.2.length:Nat):Int)<least then 4 else 0),r.2.2):=by unfold Q.many;rw[aa HR]
 rw[e]
 obtain⟨n4,hn4⟩:∃ n,(if ((r.2.2.length:Nat):Int)<least then 4 else 0:Nat)=n:=⟨_,rfl⟩
 rw[hn4]
 have HN4:=ae (show(if (decide (((r.2.2.length:Nat):Int)<least))=true then 4 else 0)=n4 by rw[← hn4];by_cases hz:((r.2.2.length:Nat):Int)<least <;> simp[hz])
 clear hk e hn4
 go_enter Tryz.func103,Tryz.ntmps103
 go_wp2_with (first|((with_reducible refine av 12 ?_);refine wpList_load_mid rfl 120 (.tmp 4) rfl w'.heap.size 0 rfl _ _ (af (aa HB0).b0) Tryz.underlying120 rfl (by rw[(aa HB0).n];exact Tryz.al) ?_))
 refine(jn (aa HQ)).mono ?_
 rintro e w1 ⟨rfl,hf1⟩
 have HB1:=ae ((aa HB0).aD hf1)
 clear hf1 HB0
 go_upto_if 13 with fail
 go_cut [] from 12 to 15 (fun wx=>∃ R1,QS (q.aj nm) xo len xc all R1∧B2 w' wx R1)
 case first =>
  by_cases hg:q.f=none
  ·rw[decide_eq_true hg]
   have r3:=(aa HB1).cell 3 _ (aa HQ).c3
   have z3:=(aa HB1).ep 3
   have l3:=ab r3
   have HX:=ae (And.intro ((aa HQ).named hg nm) ((aa HB1).CR 3 (.string nm)))
   clear hg
   go_wp2_with fail
   go_meet
   case rel=>exact⟨R.set 3 (.string nm),(aa HX).1,(aa HX).2⟩
  ·rw[decide_eq_false hg]
   have HX:=ae ((aa HQ).vt hg nm)
   clear hg
   go_wp2_with fail
   go_meet
   case rel=>exact⟨R,aa HX,aa HB1⟩
 case rest =>
  obtain⟨R1,hQ1,hB1⟩:=hcut
  rename World=>w2
  have HB2:=ae hB1
  have HQ2:=ae hQ1
  clear hQ1 hB1 HB1 HQ
  go_wp2_with (first|((with_reducible refine av 17 ?_);refine wpList_load_mid rfl 120 (.tmp 4) rfl w'.heap.size 0 rfl _ _ (af (aa HB2).b0) Tryz.underlying120 rfl (by rw[(aa HB2).n];exact Tryz.al) ?_))
  refine((aa HRD) _ _ (aa HB2).fr (aa HQ2)).mono ?_
  rintro e w3 ⟨R3,sx,sc,rfl,hQ3,hS3,hn3,hf3⟩
  obtain⟨w4,hst,hB4,hf4⟩:=((aa HB2).aD hf3).aU hQ3
  have HBD:=ae (fun W=>dR (w':=W) (aa HA).hl hQ3 (decide (((r.2.2.length:Nat):Int)<least)) 4 n4 (by decide) (by decide) (aa HN4))
  have HST:=ae hst
  have hs5:=hS3.fr hf4 (fun g o m c e hx=>by have:=hn3 g o m c e;have:=(aa HB2).lt;omega)
  have hns:∀ g o m c,Value.slice sx r.2.2.length sc = .slice (some ⟨g,o,none⟩) m c→w'.heap.size+1<g:=fun g o m c e=>Nat.lt_of_lt_of_le (aa HB2).lt (hn3 g o m c e)
  have HS:=ae (And.intro hs5 hns)
  have HB4:=ae hB4
  clear hst hS3 hn3 hf3 hf4 hB4 HB2 HQ2 hQ3 HRD hs5 hns
  go_wp2_with (first|((with_reducible refine aq ?_);refine ag rfl 120 (.tmp 4) (.tmp 21) rfl _ _ rfl rfl (aa HST) ?_)|((with_reducible refine av 24 ?_);refine wpList_load_mid rfl 120 (.tmp 4) rfl w'.heap.size 0 rfl _ _ (af (aa HB4).b0) Tryz.underlying120 rfl (by rw[(aa HB4).n];exact Tryz.al) ?_))
  refine((aa HBD) _).mono ?_
  rintro e w5 ⟨R5,rfl,hQ5,hf5⟩
  obtain⟨w6,hst6,hld,hf6,hf06⟩:=((aa HB4).aD hf5).fin hQ5
  have HST6:=ae hst6
  have HX:=ae (And.intro hQ5 (And.intro (((aa HS).1.fr hf5 (fun _ _ _ _ _ h=>h)).fr hf6 (fun g o m c e hx=>by have:=(aa HS).2 g o m c e;omega)) hf06))
  clear hst6 hQ5 hf5 hf6 hf06 HBD HST HB4
  go_wp2_with (first|((with_reducible refine aq ?_);refine ag rfl 120 (.tmp 8) (.tmp 29) rfl _ _ rfl rfl (aa HST6) ?_))
  refine bodyPost_ret (v:=.tuple #[.agg R5.toArray,.slice sx r.2.2.length sc]) (by simp[results,Tryz.results103,asAddr,hld]) rfl ?_
  exact⟨R5,sx,_,sc,rfl,(aa HX).1,(aa HX).2.1,fun g o m c e=>by have:=(aa HS).2 g o m c e;omega,(aa HX).2.2⟩
structure BX (w W:World) (T:TypeId) (R Z V:List Value):Prop where
 b0:W.heap[w.heap.size]?=some (.cells R.toArray 120)
 b1:W.heap[w.heap.size+1]?=some (.cells oM.toArray 120)
 b2:W.heap[w.heap.size+1+1]?=some (.cells Z.toArray T)
 b3:W.heap[w.heap.size+1+1+1]?=some (.cells V.toArray T)
 fr:Fr (fun _=>False) w W
 n:R.length=7
theorem BX.lt {w W:World} {T:TypeId} {R Z V:List Value} (h:BX w W T R Z V):w.heap.size+1+1+1<W.heap.size:=lt_of_block h.b3
theorem BX.aD {w W W':World} {T:TypeId} {R Z V:List Value} (h:BX w W T R Z V) (hf:Fr (fun _=>False) W W'):BX w W' T R Z V:=by
 have hl:=h.lt
 exact⟨(hf.block _ (by omega) (fun h=>h)).trans h.b0,(hf.block _ (by omega) (fun h=>h)).trans h.b1,(hf.block _ (by omega) (fun h=>h)).trans h.b2,(hf.block _ (by omega) (fun h=>h)).trans h.b3,h.fr.trans hf (fun _ _ h=>h),h.n⟩
theorem BX.aU {w W:World} {T:TypeId} {R R' Z V:List Value} (h:BX w W T R Z V) {q:Q} {xo:Option Addr} {len xc:Nat} {all:List Nat} (hR:QS q xo len xc all R') :
  ∃ W',(Instr.storeAt 120 (.pointer (some ⟨w.heap.size,0,none⟩)) (.agg R'.toArray)).run Tryz.prog W = .ok () W'∧BX w W' T R' Z V∧Fr (fun k=>k=w.heap.size) W W':=by
 have hl:=h.lt
 obtain⟨W',h1,h2,h3⟩:=bA (P:=Tryz.prog) (ty:=120) R R' h.b0 (by rw[h.n,hR.len]) (by rw[hR.len];exact Tryz.al) hR.one
 exact⟨W',h1,⟨h2,(h3.block _ (by omega) (fun h=>by omega)).trans h.b1,(h3.block _ (by omega) (fun h=>by omega)).trans h.b2,(h3.block _ (by omega) (fun h=>by omega)).trans h.b3,h.fr.trans h3 (fun k hk e=>by omega),hR.len⟩,h3⟩
theorem BX.bL {w W:World} {T:TypeId} {R Z V:List Value} (h:BX w W T R Z V) (i:Nat) (v:Value):BX w (W.setCell ⟨w.heap.size+1+1+1,i,none⟩ v) T R Z (V.set i v):=by
 have hl:=h.lt
 have h3:Fr (fun k=>k=w.heap.size+1+1+1) W (W.setCell ⟨w.heap.size+1+1+1,i,none⟩ v):=(Fr.refl (fun k=>k=w.heap.size+1+1+1) W).setCell (p:=⟨w.heap.size+1+1+1,i,none⟩) (.inl rfl) v
 refine⟨(h3.block _ (by omega) (fun h=>by omega)).trans h.b0,(h3.block _ (by omega) (fun h=>by omega)).trans h.b1,(h3.block _ (by omega) (fun h=>by omega)).trans h.b2,?_,h.fr.trans h3 (fun k hk e=>by omega),h.n⟩
 rw[ke h.b3]
 simp
theorem BX.cell {w W:World} {T:TypeId} {R Z V:List Value} (h:BX w W T R Z V) (i:Nat) (v:Value) (hv:V[i]?=some v):W.cell? ⟨w.heap.size+1+1+1,i,none⟩=some v:=af h.b3 i v hv |> fun h=>by simpa using h
theorem BX.ep {w W:World} {T:TypeId} {R Z V:List Value} (h:BX w W T R Z V) (i:Nat):W.frozen? ⟨w.heap.size+1+1+1,i,none⟩=false:=by simp[World.frozen?,h.b3]
theorem BX.start (w:World) (T:TypeId) (R Z:List Value) (hR:R.length=7):BX w ((((w.alloc (.cells R.toArray 120)).alloc (.cells oM.toArray 120)).alloc (.cells Z.toArray T)).alloc (.cells Z.toArray T)) T R Z Z:=by
 have hs:=DH w (.cells R.toArray 120) (.cells oM.toArray 120) (.cells Z.toArray T) (.cells Z.toArray T)
 exact⟨hs.1,hs.2.1,hs.2.2.1,hs.2.2.2.1,u0 _ _ _ _ _,hR⟩
structure BE (w W:World) (T:TypeId) (R V:List Value):Prop where
 b1:W.heap[w.heap.size+1]?=some (.cells R.toArray 120)
 b2:W.heap[w.heap.size+1+1]?=some (.cells V.toArray T)
 fr:Fr (fun _=>False) w W
theorem BX.fin {w W:World} {T:TypeId} {R Z V:List Value} (h:BX w W T R Z V) {q:Q} {xo:Option Addr} {len xc:Nat} {all:List Nat} (hR:QS q xo len xc all R) (hz:Z.length=V.length) (hi:(Tryz.prog.info? T).map (·.size)=some V.length) (h1:∀ v∈V,v.oneCell'=true) :
  (∃ W1 W2,(Instr.storeAt 120 (.pointer (some ⟨w.heap.size+1,0,none⟩)) (.agg R.toArray)).run Tryz.prog W = .ok () W1∧(Instr.storeAt T (.pointer (some ⟨w.heap.size+1+1,0,none⟩)) (.agg V.toArray)).run Tryz.prog W1 = .ok () W2∧Fr (fun k=>k=w.heap.size+1∨k=w.heap.size+1+1) W W1∧Fr (fun k=>k=w.heap.size+1∨k=w.heap.size+1+1) W W2∧BE w W2 T R V):=by
 have hl:=h.lt
 obtain⟨W1,e1,c1,f1⟩:=bA (P:=Tryz.prog) (ty:=120) oM R h.b1 (by rw[h.n];rfl) (by rw[h.n];exact Tryz.al) hR.one
 have hs:=f1.size
 obtain⟨W2,e2,c2,f2⟩:=bA (P:=Tryz.prog) (ty:=T) Z V ((f1.block _ (by omega) (fun h=>by omega)).trans h.b2) hz hi h1
 have g1:=f1.mono (T:=fun k=>k=w.heap.size+1∨k=w.heap.size+1+1) (fun _ _ h=>.inl h)
 have g2:=g1.trans f2 (fun k hk e=>.inr e)
 exact⟨W1,W2,e1,e2,g1,g2,(f2.block _ (by omega) (fun h=>by omega)).trans c1,c2,h.fr.trans g2 (fun k hk e=>by omega)⟩
theorem BX.C9 {w W W':World} {T:TypeId} {R Z V:List Value} (h:BX w W T R Z V) (hf:Fr (fun k=>k=w.heap.size+1∨k=w.heap.size+1+1) W W'):W'.rangeAt w.heap.size 0 R∧W'.rangeAt (w.heap.size+1+1+1) 0 V:=by
 have hl:=h.lt
 exact⟨af ((hf.block _ (by omega) (fun h=>by omega)).trans h.b0),af ((hf.block _ (by omega) (fun h=>by omega)).trans h.b3)⟩
theorem iR {P:Program} {fn:Func} {S:Ending→World→Prop} {p1 p2:Tmp} {t1 t2:TypeId} {tmps:Array Value} {w W:World} {R V:List Value} (hB:BE w W t2 R V) (h:fn.results = #[.cell p1 t1,.cell p2 t2]) (d1 d2:TypeDesc)
  (hp1:tmps.getD p1 undef = .pointer (some ⟨w.heap.size+1,0,none⟩)) (hp2:tmps.getD p2 undef = .pointer (some ⟨w.heap.size+1+1,0,none⟩)) (hu1:P.underlying t1=some d1) (hd1:d1.isRow=true) (hi1:(P.info? t1).map (·.size)=some R.length)
  (hu2:P.underlying t2=some d2) (hd2:d2.isRow=true) (hi2:(P.info? t2).map (·.size)=some V.length) (hS:S (.returned (.tuple #[.agg R.toArray,.agg V.toArray])) W):bodyPost P fn S .ret ⟨tmps,[]⟩ W:=by
 refine bodyPost_ret (v:=.tuple #[.agg R.toArray,.agg V.toArray]) ?_ rfl hS
 have hp1':tmps[p1]?.getD undef = .pointer (some ⟨w.heap.size+1,0,none⟩):=by simpa using hp1
 have hp2':tmps[p2]?.getD undef = .pointer (some ⟨w.heap.size+1+1,0,none⟩):=by simpa using hp2
 simp[results,h,hp1',hp2',asAddr,run_loadVar_mid W _ 0 t1 R d1 (af hB.b1) hu1 hd1 hi1,run_loadVar_mid W _ 0 t2 V d2 (af hB.b2) hu2 hd2 hi2]
theorem Tryz.ee:(Tryz.prog.info? 59).map (·.size)=some 5:=by kernel_rfl
def BQ (first:Bool) (nm before:ByteArray):Nat:=if first=false∧sle nm before=true then 6 else 0
def k8 (gone:Bool) (k:Nat):Nat:=if k<1∨3<k∨(k=3∧gone=false) then 5 else 0
def Q.eF (q:Q) (nm:ByteArray) (k:Nat):Q × cA:=
 if k=1 then ((q.many dQ 0 64).1,⟨nm,1,strOf (q.many dQ 0 64).2,0,0⟩)
 else if k=2 then (((q.bV cF 5).1.bV dN 1).1.ah (bI 1 21 4 ((q.bV cF 5).1.bV dN 1).2),⟨nm,2,⟨#[]⟩,(q.bV cF 5).2,((q.bV cF 5).1.bV dN 1).2⟩)
 else (q,⟨nm,k,⟨#[]⟩,0,0⟩)
def Q.fT (q:Q) (before:ByteArray) (first:Bool):Q:=(q.many bQ 1 64).1.ah (BQ first (strOf (q.many bQ 1 64).2) before)
def Q.dn (q:Q) (before:ByteArray) (first gone:Bool):Q × cA:=
 (((q.fT before first).bV bj 1).1.ah (k8 gone ((q.fT before first).bV bj 1).2)).eF (strOf (q.many bQ 1 64).2) ((q.fT before first).bV bj 1).2
def zB:List Value:=[.string ⟨#[]⟩,.int .u8 0,.string ⟨#[]⟩,.float .f32 0,.int .u8 0]
theorem np {w:World} {xo:Option Addr} {len xc:Nat} {all:List Nat} {R:List Value} {q:Q} (A:j9 w xo len xc all) (h:QS q xo len xc all R) (before:ByteArray) (first gone:Bool) :
  Calls Tryz.prog 126 #[.agg R.toArray,.string before,.bool first,.bool gone] w fun e w'=>∃ R',e = .returned (.tuple #[.agg R'.toArray,.agg (q.dn before first gone).2.vs.toArray])∧QS (q.dn before first gone).1 xo len xc all R'∧Fr (fun _=>False) w w':=by
 have hleq:=vN
 have HA:=ae A
 have HQ:=ae h
 unfold Q.dn Q.fT
 have HM:=ae (fun w' hf=>gB (w':=w') A hf h bQ 1 64 (by decide))
 obtain⟨m,hm⟩:∃ m,q.many bQ 1 64=m:=⟨_,rfl⟩
 rw[hm] at HM ⊢
 obtain⟨nm,hnm⟩:∃ x,strOf m.2=x:=⟨_,rfl⟩
 rw[hnm]
 obtain⟨q1,hq1⟩:∃ x,m.1.ah (BQ first nm before)=x:=⟨_,rfl⟩
 rw[hq1]
 obtain⟨k,hk⟩:∃ x,q1.bV bj 1=x:=⟨_,rfl⟩
 have hkl:k.2<256:=by rw[← hk];exact Q.go_lt _ 1 0
 rw[hk]
 obtain⟨q2,hq2⟩:∃ x,k.1.ah (k8 gone k.2)=x:=⟨_,rfl⟩
 rw[hq2]
 obtain⟨kk,hkk⟩:∃ x,k.2=x:=⟨_,rfl⟩
 rw[hkk] at hkl hq2 ⊢
 have HE:=ae (And.intro hm (And.intro hnm (And.intro hq1 (And.intro hk (And.intro hq2 hkk)))))
 clear hm hnm hq1 hk hq2 hkk
 obtain⟨ha,ho,last,rfl,hla⟩:=h
 rw[ei]
 have HB0:=ae (BX.start w 59 (q.rv xo len xc last).toList zB rfl)
 unfold Q.rv at HB0 ⊢
 clear ha ho hla A
 go_enter Tryz.func126,Tryz.ntmps126
 go_wp2_with fail
 have hl0:=(aa HB0).lt
 refine((aa HM) _ (u0 _ _ _ _ _)).mono ?_
 rintro e w2 ⟨R2,sx,sn,sc,rfl,hQ2,hs2,hn2,hf2⟩
 have hB2:=(aa HB0).aD hf2
 obtain⟨w3,hst,hB3,hf3⟩:=hB2.aU hQ2
 have hs3:=hs2.fr hf3 (fun g o m c e hx=>by have:=hn2 g o m c e;simp at this;omega)
 have hcv:=iz w3 _ _ hs3
 rw[(aa HE).2.1] at hcv
 have HST:=ae hst
 have HB3:=ae hB3
 have HQ2:=ae hQ2
 clear hst hB2 hB3 hf3 hs2 hs3 hn2 hf2 hQ2 hl0 HB0 HM
 have r0:=(aa HB3).cell 0 _ rfl
 have rz0:=(aa HB3).ep 0
 have hl0:=ab r0
 go_upto_region 4 with (((with_reducible refine aq ?_);refine ag rfl 120 (.tmp 4) (.tmp 17) rfl _ _ rfl rfl (aa HST) ?_))
 have hB4:BX w _ 59 R2 zB [.string nm,.int .u8 0,.string ⟨#[]⟩,.float .f32 0,.int .u8 0]:=(aa HB3).bL 0 (.string nm)
 have HB4:=ae hB4
 have r0':=hB4.cell 0 _ rfl
 clear hB4 r0 rz0 hl0 hcv HST HB3
 go_cut [] from 22 to 31 (fun wx=>∃ R',QS q1 xo len xc all R'∧BX w wx 59 R' zB [.string nm,.int .u8 0,.string ⟨#[]⟩,.float .f32 0,.int .u8 0])
 case first =>
  cases first
  ·go_wp2_with (first|((with_reducible refine av 22 ?_);refine wpList_load_mid rfl 120 (.tmp 4) rfl w.heap.size 0 rfl _ _ (af (aa HB4).b0) Tryz.underlying120 rfl (by rw[(aa HB4).n];exact Tryz.al) ?_))
   refine(dR (aa HA).hl (aa HQ2) _ 6 (BQ false nm before) (by decide) (by decide) (by unfold BQ;simp)).mono ?_
   rintro e w5 ⟨R5,rfl,hQ5,hf5⟩
   rw[(aa HE).2.2.1] at hQ5
   obtain⟨w6,hst,hB6,_⟩:=((aa HB4).aD hf5).aU hQ5
   have HST:=ae hst
   have HX:=ae (And.intro hQ5 hB6)
   clear hst hQ5 hB6 hf5
   go_wp2_with (first|((with_reducible refine aq ?_);refine ag rfl 120 (.tmp 4) (.tmp 31) rfl _ _ rfl rfl (aa HST) ?_))
   go_meet
   case rel=>exact⟨R5,(aa HX).1,(aa HX).2⟩
  ·go_wp2_with (first|((with_reducible refine av 22 ?_);refine wpList_load_mid rfl 120 (.tmp 4) rfl w.heap.size 0 rfl _ _ (af (aa HB4).b0) Tryz.underlying120 rfl (by rw[(aa HB4).n];exact Tryz.al) ?_))
   refine(dR (aa HA).hl (aa HQ2) _ 6 (BQ true nm before) (by decide) (by decide) (by unfold BQ;simp)).mono ?_
   rintro e w5 ⟨R5,rfl,hQ5,hf5⟩
   rw[(aa HE).2.2.1] at hQ5
   obtain⟨w6,hst,hB6,_⟩:=((aa HB4).aD hf5).aU hQ5
   have HST:=ae hst
   have HX:=ae (And.intro hQ5 hB6)
   clear hst hQ5 hB6 hf5
   go_wp2_with (first|((with_reducible refine aq ?_);refine ag rfl 120 (.tmp 4) (.tmp 31) rfl _ _ rfl rfl (aa HST) ?_))
   go_meet
   case rel=>exact⟨R5,(aa HX).1,(aa HX).2⟩
 case rest =>
  obtain⟨R5,hQ5,hB5⟩:=hcut
  rename World=>wc
  clear HB4 r0' HQ2 hleq
  have HB5:=ae hB5
  have HQ5:=ae hQ5
  clear hB5 hQ5
  go_wp2_with (first|((with_reducible refine av 33 ?_);refine wpList_load_mid rfl 120 (.tmp 4) rfl w.heap.size 0 rfl _ _ (af (aa HB5).b0) Tryz.underlying120 rfl (by rw[(aa HB5).n];exact Tryz.al) ?_))
  refine(cG (aa HA) (aa HB5).fr (aa HQ5) bj 1 (.inl rfl)).mono ?_
  rintro e w6 ⟨R6,rfl,hQ6,hf6⟩
  rw[(aa HE).2.2.2.1] at hQ6 ⊢
  rw[(aa HE).2.2.2.2.2]
  obtain⟨w7,hst,hB7,_⟩:=((aa HB5).aD hf6).aU hQ6
  have HST:=ae hst
  have HB7:=ae hB7
  have HQ6:=ae hQ6
  clear hst hB7 hQ6 hf6 HB5 HQ5
  go_upto_region 6 with (first|((with_reducible refine aq ?_);refine ag rfl 120 (.tmp 4) (.tmp 35) rfl _ _ rfl rfl (aa HST) ?_))
  clear HST
  go_cut [] from 37 to 52 (fun wx=>∃ R',QS q2 xo len xc all R'∧BX w wx 59 R' zB [.string nm,.int .u8 0,.string ⟨#[]⟩,.float .f32 0,.int .u8 0])
  case first =>
   have hfk:∀ so,(if so=true then 5 else 0)=k8 gone kk→∀ w',Calls Tryz.prog 99 #[.agg R6.toArray,.bool so,.int .i64 (5:Nat)] w' fun e w''=>∃ R',e = .returned (.agg R'.toArray)∧QS q2 xo len xc all R'∧Fr (fun _=>False) w' w'':=fun so h w'=>by
    have hb:=dR (w':=w') (aa HA).hl (aa HQ6) so 5 _ (by decide) (by decide) h
    rw[(aa HE).2.2.2.2.1] at hb
    exact hb
   have HK:=ae hfk
   clear hfk
   rcases(by omega:kk=0∨kk=1∨kk=2∨kk=3∨3<kk) with rfl|rfl|rfl|rfl|h3
   ·go_wp2_with (first|((with_reducible refine av 37 ?_);refine wpList_load_mid rfl 120 (.tmp 4) rfl w.heap.size 0 rfl _ _ (af (aa HB7).b0) Tryz.underlying120 rfl (by rw[(aa HB7).n];exact Tryz.al) ?_))
    refine((aa HK) _ (by simp[k8]) _).mono ?_
    rintro e w8 ⟨R8,rfl,hQ8,hf8⟩
    obtain⟨w9,hst,hB9,_⟩:=((aa HB7).aD hf8).aU hQ8
    have HST:=ae hst
    have HX:=ae (And.intro hQ8 hB9)
    clear hst hQ8 hB9 hf8
    go_wp2_with (first|((with_reducible refine aq ?_);refine ag rfl 120 (.tmp 4) (.tmp 52) rfl _ _ rfl rfl (aa HST) ?_))
    go_meet
    case rel=>exact⟨R8,(aa HX).1,(aa HX).2⟩
   ·go_wp2_with (first|((with_reducible refine av 37 ?_);refine wpList_load_mid rfl 120 (.tmp 4) rfl w.heap.size 0 rfl _ _ (af (aa HB7).b0) Tryz.underlying120 rfl (by rw[(aa HB7).n];exact Tryz.al) ?_))
    refine((aa HK) _ (by simp[k8]) _).mono ?_
    rintro e w8 ⟨R8,rfl,hQ8,hf8⟩
    obtain⟨w9,hst,hB9,_⟩:=((aa HB7).aD hf8).aU hQ8
    have HST:=ae hst
    have HX:=ae (And.intro hQ8 hB9)
    clear hst hQ8 hB9 hf8
    go_wp2_with (first|((with_reducible refine aq ?_);refine ag rfl 120 (.tmp 4) (.tmp 52) rfl _ _ rfl rfl (aa HST) ?_))
    go_meet
    case rel=>exact⟨R8,(aa HX).1,(aa HX).2⟩
   ·go_wp2_with (first|((with_reducible refine av 37 ?_);refine wpList_load_mid rfl 120 (.tmp 4) rfl w.heap.size 0 rfl _ _ (af (aa HB7).b0) Tryz.underlying120 rfl (by rw[(aa HB7).n];exact Tryz.al) ?_))
    refine((aa HK) _ (by simp[k8]) _).mono ?_
    rintro e w8 ⟨R8,rfl,hQ8,hf8⟩
    obtain⟨w9,hst,hB9,_⟩:=((aa HB7).aD hf8).aU hQ8
    have HST:=ae hst
    have HX:=ae (And.intro hQ8 hB9)
    clear hst hQ8 hB9 hf8
    go_wp2_with (first|((with_reducible refine aq ?_);refine ag rfl 120 (.tmp 4) (.tmp 52) rfl _ _ rfl rfl (aa HST) ?_))
    go_meet
    case rel=>exact⟨R8,(aa HX).1,(aa HX).2⟩
   ·cases gone
    ·go_wp2_with (first|((with_reducible refine av 37 ?_);refine wpList_load_mid rfl 120 (.tmp 4) rfl w.heap.size 0 rfl _ _ (af (aa HB7).b0) Tryz.underlying120 rfl (by rw[(aa HB7).n];exact Tryz.al) ?_))
     refine((aa HK) _ (by simp[k8]) _).mono ?_
     rintro e w8 ⟨R8,rfl,hQ8,hf8⟩
     obtain⟨w9,hst,hB9,_⟩:=((aa HB7).aD hf8).aU hQ8
     have HST:=ae hst
     have HX:=ae (And.intro hQ8 hB9)
     clear hst hQ8 hB9 hf8
     go_wp2_with (first|((with_reducible refine aq ?_);refine ag rfl 120 (.tmp 4) (.tmp 52) rfl _ _ rfl rfl (aa HST) ?_))
     go_meet
     case rel=>exact⟨R8,(aa HX).1,(aa HX).2⟩
    ·go_wp2_with (first|((with_reducible refine av 37 ?_);refine wpList_load_mid rfl 120 (.tmp 4) rfl w.heap.size 0 rfl _ _ (af (aa HB7).b0) Tryz.underlying120 rfl (by rw[(aa HB7).n];exact Tryz.al) ?_))
     refine((aa HK) _ (by simp[k8]) _).mono ?_
     rintro e w8 ⟨R8,rfl,hQ8,hf8⟩
     obtain⟨w9,hst,hB9,_⟩:=((aa HB7).aD hf8).aU hQ8
     have HST:=ae hst
     have HX:=ae (And.intro hQ8 hB9)
     clear hst hQ8 hB9 hf8
     go_wp2_with (first|((with_reducible refine aq ?_);refine ag rfl 120 (.tmp 4) (.tmp 52) rfl _ _ rfl rfl (aa HST) ?_))
     go_meet
     case rel=>exact⟨R8,(aa HX).1,(aa HX).2⟩
   ·have c1:decide ((kk:Int)<1)=false:=decide_eq_false (by omega)
    have c2:decide (3<(kk:Int))=true:=decide_eq_true (by omega)
    have c3:decide ((kk:Int) > 3)=true:=decide_eq_true (by omega)
    go_wp2_with (first|((with_reducible refine av 37 ?_);refine wpList_load_mid rfl 120 (.tmp 4) rfl w.heap.size 0 rfl _ _ (af (aa HB7).b0) Tryz.underlying120 rfl (by rw[(aa HB7).n];exact Tryz.al) ?_))
    refine((aa HK) _ (by simp[k8,h3]) _).mono ?_
    rintro e w8 ⟨R8,rfl,hQ8,hf8⟩
    obtain⟨w9,hst,hB9,_⟩:=((aa HB7).aD hf8).aU hQ8
    have HST:=ae hst
    have HX:=ae (And.intro hQ8 hB9)
    clear hst hQ8 hB9 hf8
    go_wp2_with (first|((with_reducible refine aq ?_);refine ag rfl 120 (.tmp 4) (.tmp 52) rfl _ _ rfl rfl (aa HST) ?_))
    go_meet
    case rel=>exact⟨R8,(aa HX).1,(aa HX).2⟩
  case rest =>
   obtain⟨R8,hQ8,hB8⟩:=hcut
   rename World=>wd
   clear HB7 HQ6
   have HB8:=ae hB8
   have HQ8:=ae hQ8
   clear hB8 hQ8
   have hw8:IntKind.u8.wrap ((kk:Nat):Int)=kk:=by rw[IntKind.wrap_u8];omega
   have r1:=(aa HB8).cell 1 _ rfl
   have rz1:=(aa HB8).ep 1
   have hl1:=ab r1
   go_upto_region 8 with fail
   have HB9:Hid (BX w _ 59 R8 zB [.string nm,.int .u8 (kk:Nat),.string ⟨#[]⟩,.float .f32 0,.int .u8 0]):=ae ((aa HB8).bL 1 (.int .u8 (kk:Nat)))
   clear r1 rz1 hl1 hw8 HB8
   rcases(by omega:kk=1∨kk=2∨(kk≠1∧kk≠2)) with rfl|rfl|⟨n1,n2⟩
   ·obtain⟨t,ht⟩:∃ t,q2.many dQ 0 64=t:=⟨_,rfl⟩
    obtain⟨tx,htx⟩:∃ x,strOf t.2=x:=⟨_,rfl⟩
    have eg:q2.eF nm 1=(t.1,⟨nm,1,tx,0,0⟩):=by unfold Q.eF;rw[if_pos rfl,ht,htx]
    have HN:=ae (And.intro ht htx)
    clear ht htx
    go_wp2_with (first|((with_reducible refine av 59 ?_);refine wpList_load_mid rfl 120 (.tmp 4) rfl w.heap.size 0 rfl _ _ (af (aa HB9).b0) Tryz.underlying120 rfl (by rw[(aa HB9).n];exact Tryz.al) ?_))
    refine(gB (aa HA) (aa HB9).fr (aa HQ8) dQ 0 64 (by decide)).mono ?_
    rw[(aa HN).1]
    rintro e wa ⟨Ra,tx0,tn0,tc0,rfl,hQa,hsa,hna,hfa⟩
    have hlb:=(aa HB9).lt
    obtain⟨wb,hst,hBb,hfb⟩:=((aa HB9).aD hfa).aU hQa
    have hsb:=hsa.fr hfb (fun g o m c e hx=>by have:=hna g o m c e;omega)
    have hcv:=iz wb _ _ hsb
    rw[(aa HN).2] at hcv
    have HST:=ae hst
    have HBb:=ae hBb
    have HQa:=ae hQa
    clear hst hBb hfb hsa hsb hna hfa hQa hlb HB9 HQ8
    have r2:=(aa HBb).cell 2 _ rfl
    have rz2:=(aa HBb).ep 2
    have hl2:=ab r2
    go_upto_region 11 with (first|((with_reducible refine aq ?_);refine ag rfl 120 (.tmp 4) (.tmp 61) rfl _ _ rfl rfl (aa HST) ?_))
    have HBc:Hid (BX w _ 59 Ra zB [.string nm,.int .u8 ((1:Nat):Int),.string tx,.float .f32 0,.int .u8 0]):=ae ((aa HBb).bL 2 (.string tx))
    clear r2 rz2 hl2 hcv HST HBb
    go_upto_region 18 with fail
    have hBd:=(aa HBc).aD (Fr.refl (fun _=>False) _).drew
    obtain⟨W1,W2,s1,s2,f1,f2,hE1⟩:=hBd.fin (aa HQa) rfl Tryz.ee (by simp[Value.oneCell'])
    have HSd:=ae (fun W' hf=>hBd.C9 (W':=W') hf)
    have HS1:=ae s1
    have HS2:=ae s2
    have HF1:=ae f1
    have HF2:=ae f2
    have HE1:=ae hE1
    clear s1 s2 f1 f2 hE1 hBd
    refine wp_region_held_drew (S:=(fun W:World=>W.rangeAt w.heap.size 0 Ra∧W.rangeAt (w.heap.size+1+1+1) 0 [.string nm,.int .u8 ((1:Nat):Int),.string tx,.float .f32 0,.int .u8 0])) (by kernel_rfl) ((aa HSd) _ (Fr.refl _ _)) (fun hHeld=>?_)
    refine cD (i:=0) rfl (yieldsIf_load_mid rfl 120 (.tmp 4) rfl w.heap.size 0 rfl _ _ (fun w h=>h.1) Tryz.underlying120 rfl (by rw[(aa HBc).n];exact Tryz.al)) hHeld ?_
    (try simp only[Act.put,bq])
    refine cD (i:=1) rfl (yieldsIf_load_mid rfl 59 (.tmp 10) rfl (w.heap.size+1+1+1) 0 rfl _ _ (fun w h=>h.2) Tryz.underlying59 rfl Tryz.ee) hHeld ?_
    (try simp only[Act.put,bq])
    refine wpAnyH_ready (rs:=[2]) (by kernel_rfl) (by simp) (AllReadyH.cons rfl (fun K hK=>?_) AllReadyH.nil)
    refine ck rfl 120 (.tmp 8) (.tmp 93) rfl _ _ (by simp[Act.eval]) (by simp[Act.eval]) (aa HS1) ?_
    (try clear hHeld)
    refine hK.out _ _ ((aa HSd) _ (aa HF1)) (fun hHeld=>?_)
    clear hK K
    (try simp only[Act.put,bq])
    refine wpAnyH_ready (rs:=[3]) (by kernel_rfl) (by simp) (AllReadyH.cons rfl (fun K hK=>?_) AllReadyH.nil)
    refine ck rfl 59 (.tmp 9) (.tmp 94) rfl _ _ (by simp[Act.eval]) (by simp[Act.eval]) (aa HS2) ?_
    (try clear hHeld)
    refine hK.out _ _ ((aa HSd) _ (aa HF2)) (fun hHeld=>?_)
    clear hK K
    (try simp only[Act.put,bq])
    refine wpAnyH_done (by kernel_rfl) ?_ _
    clear hHeld
    go_wp2_with fail
    exact iR (aa HE1) rfl _ _ (by simp) (by simp) Tryz.underlying120 rfl (by rw[(aa HBc).n];exact Tryz.al) Tryz.underlying59 rfl Tryz.ee ⟨Ra,by rw[eg];rfl,by rw[eg];exact aa HQa,(aa HE1).fr⟩
   ·obtain⟨v,hv⟩:∃ v,q2.bV cF 5=v:=⟨_,rfl⟩
    obtain⟨u,hu⟩:∃ u,v.1.bV dN 1=u:=⟨_,rfl⟩
    obtain⟨q5,hq5⟩:∃ x,u.1.ah (bI 1 21 4 u.2)=x:=⟨_,rfl⟩
    have hvl:v.2<4294967296:=by rw[← hv];exact Q.go_lt _ 5 0
    have hul:u.2<256:=by rw[← hu];exact Q.go_lt _ 1 0
    obtain⟨vv,hvv⟩:∃ x,v.2=x:=⟨_,rfl⟩
    obtain⟨uu,huu⟩:∃ x,u.2=x:=⟨_,rfl⟩
    have eg:q2.eF nm 2=(q5,⟨nm,2,⟨#[]⟩,vv,uu⟩):=by unfold Q.eF;rw[if_neg (by decide),if_pos rfl,hv,hu,hq5,hvv,huu]
    rw[hvv] at hvl
    rw[huu] at hul hq5
    have HN:=ae (And.intro hv (And.intro hu (And.intro hq5 (And.intro hvv huu))))
    clear hv hu hq5 hvv huu
    go_wp2_with (first|((with_reducible refine av 69 ?_);refine wpList_load_mid rfl 120 (.tmp 4) rfl w.heap.size 0 rfl _ _ (af (aa HB9).b0) Tryz.underlying120 rfl (by rw[(aa HB9).n];exact Tryz.al) ?_))
    refine(cG (aa HA) (aa HB9).fr (aa HQ8) cF 5 (.inr (.inr rfl))).mono ?_
    rintro e wa ⟨Ra,rfl,hQa,hfa⟩
    rw[(aa HN).1] at hQa ⊢
    rw[(aa HN).2.2.2.1]
    obtain⟨wb,hst,hBb,_⟩:=((aa HB9).aD hfa).aU hQa
    have HST:=ae hst
    have HBb:=ae hBb
    have HQa:=ae hQa
    clear hst hBb hfa hQa HB9 HQ8
    have r3:=(aa HBb).cell 3 _ rfl
    have rz3:=(aa HBb).ep 3
    have hl3:=ab r3
    have hw32:IntKind.u32.wrap ((vv:Nat):Int)=vv:=by rw[IntKind.wrap_u32];omega
    have hff:=Tryz.Cs
    go_upto_region 15 with (first|((with_reducible refine aq ?_);refine ag rfl 120 (.tmp 4) (.tmp 71) rfl _ _ rfl rfl (aa HST) ?_))
    have HBc:Hid (BX w _ 59 Ra zB [.string nm,.int .u8 ((2:Nat):Int),.string ⟨#[]⟩,.float .f32 vv,.int .u8 0]):=ae ((aa HBb).bL 3 (.float .f32 vv))
    clear r3 rz3 hl3 hw32 hff HST HBb
    go_wp2_with (first|((with_reducible refine av 78 ?_);refine wpList_load_mid rfl 120 (.tmp 4) rfl w.heap.size 0 rfl _ _ (af (aa HBc).b0) Tryz.underlying120 rfl (by rw[(aa HBc).n];exact Tryz.al) ?_))
    refine(cG (aa HA) (aa HBc).fr (aa HQa) dN 1 (.inl rfl)).mono ?_
    rintro e we ⟨Re,rfl,hQe,hfe⟩
    rw[(aa HN).2.1] at hQe ⊢
    rw[(aa HN).2.2.2.2]
    obtain⟨wf,hst,hBf,_⟩:=((aa HBc).aD hfe).aU hQe
    have HST:=ae hst
    have HBf:=ae hBf
    have HQe:=ae hQe
    clear hst hBf hfe hQe HBc HQa
    go_upto_region 16 with (first|((with_reducible refine aq ?_);refine ag rfl 120 (.tmp 4) (.tmp 80) rfl _ _ rfl rfl (aa HST) ?_))
    clear HST
    go_cut [] from 82 to 89 (fun wx=>∃ R',QS q5 xo len xc all R'∧BX w wx 59 R' zB [.string nm,.int .u8 ((2:Nat):Int),.string ⟨#[]⟩,.float .f32 vv,.int .u8 0])
    case first =>
     have hfk:∀ so,(if so=true then 4 else 0)=bI 1 21 4 uu→∀ w',Calls Tryz.prog 99 #[.agg Re.toArray,.bool so,.int .i64 (4:Nat)] w' fun e w''=>∃ R',e = .returned (.agg R'.toArray)∧QS q5 xo len xc all R'∧Fr (fun _=>False) w' w'':=fun so h w'=>by
      have hb:=dR (w':=w') (aa HA).hl (aa HQe) so 4 _ (by decide) (by decide) h
      rw[(aa HN).2.2.1] at hb
      exact hb
     have HK:=ae hfk
     clear hfk
     rcases(by omega:uu<1∨21<uu∨(1≤uu∧uu≤21)) with h3|h3|⟨h3,h4⟩
     ·have c1:decide ((uu:Int)<1)=true:=decide_eq_true (by omega)
      have c2:decide (21<(uu:Int))=false:=decide_eq_false (by omega)
      have c3:decide ((uu:Int) > 21)=false:=decide_eq_false (by omega)
      go_wp2_with (first|((with_reducible refine av 82 ?_);refine wpList_load_mid rfl 120 (.tmp 4) rfl w.heap.size 0 rfl _ _ (af (aa HBf).b0) Tryz.underlying120 rfl (by rw[(aa HBf).n];exact Tryz.al) ?_))
      refine((aa HK) _ (by simp[bI];omega) _).mono ?_
      rintro e wg ⟨Rg,rfl,hQg,hfg⟩
      obtain⟨wh,hst,hBh,_⟩:=((aa HBf).aD hfg).aU hQg
      have HST:=ae hst
      have HX:=ae (And.intro hQg hBh)
      clear hst hQg hBh hfg
      go_wp2_with (first|((with_reducible refine aq ?_);refine ag rfl 120 (.tmp 4) (.tmp 89) rfl _ _ rfl rfl (aa HST) ?_))
      go_meet
      case rel=>exact⟨Rg,(aa HX).1,(aa HX).2⟩
     ·have c1:decide ((uu:Int)<1)=false:=decide_eq_false (by omega)
      have c2:decide (21<(uu:Int))=true:=decide_eq_true (by omega)
      have c3:decide ((uu:Int) > 21)=true:=decide_eq_true (by omega)
      go_wp2_with (first|((with_reducible refine av 82 ?_);refine wpList_load_mid rfl 120 (.tmp 4) rfl w.heap.size 0 rfl _ _ (af (aa HBf).b0) Tryz.underlying120 rfl (by rw[(aa HBf).n];exact Tryz.al) ?_))
      refine((aa HK) _ (by simp[bI];omega) _).mono ?_
      rintro e wg ⟨Rg,rfl,hQg,hfg⟩
      obtain⟨wh,hst,hBh,_⟩:=((aa HBf).aD hfg).aU hQg
      have HST:=ae hst
      have HX:=ae (And.intro hQg hBh)
      clear hst hQg hBh hfg
      go_wp2_with (first|((with_reducible refine aq ?_);refine ag rfl 120 (.tmp 4) (.tmp 89) rfl _ _ rfl rfl (aa HST) ?_))
      go_meet
      case rel=>exact⟨Rg,(aa HX).1,(aa HX).2⟩
     ·have c1:decide ((uu:Int)<1)=false:=decide_eq_false (by omega)
      have c2:decide (21<(uu:Int))=false:=decide_eq_false (by omega)
      have c3:decide ((uu:Int) > 21)=false:=decide_eq_false (by omega)
      go_wp2_with (first|((with_reducible refine av 82 ?_);refine wpList_load_mid rfl 120 (.tmp 4) rfl w.heap.size 0 rfl _ _ (af (aa HBf).b0) Tryz.underlying120 rfl (by rw[(aa HBf).n];exact Tryz.al) ?_))
      refine((aa HK) _ (by simp[bI];omega) _).mono ?_
      rintro e wg ⟨Rg,rfl,hQg,hfg⟩
      obtain⟨wh,hst,hBh,_⟩:=((aa HBf).aD hfg).aU hQg
      have HST:=ae hst
      have HX:=ae (And.intro hQg hBh)
      clear hst hQg hBh hfg
      go_wp2_with (first|((with_reducible refine aq ?_);refine ag rfl 120 (.tmp 4) (.tmp 89) rfl _ _ rfl rfl (aa HST) ?_))
      go_meet
      case rel=>exact⟨Rg,(aa HX).1,(aa HX).2⟩
    case rest =>
     obtain⟨Rg,hQg,hBg⟩:=hcut
     rename World=>wz
     clear HBf HQe
     have HBg:=ae hBg
     have HQg:=ae hQg
     clear hBg hQg
     have hw8:IntKind.u8.wrap ((uu:Nat):Int)=uu:=by rw[IntKind.wrap_u8];omega
     have r4:=(aa HBg).cell 4 _ rfl
     have rz4:=(aa HBg).ep 4
     have hl4:=ab r4
     go_upto_region 18 with fail
     have HBh:Hid (BX w _ 59 Rg zB [.string nm,.int .u8 ((2:Nat):Int),.string ⟨#[]⟩,.float .f32 vv,.int .u8 (uu:Nat)]):=ae ((aa HBg).bL 4 (.int .u8 (uu:Nat)))
     clear r4 rz4 hl4 hw8 HBg
     have hBd:=(aa HBh).aD (Fr.refl (fun _=>False) _).drew
     obtain⟨W1,W2,s1,s2,f1,f2,hE1⟩:=hBd.fin (aa HQg) rfl Tryz.ee (by simp[Value.oneCell'])
     have HSd:=ae (fun W' hf=>hBd.C9 (W':=W') hf)
     have HS1:=ae s1
     have HS2:=ae s2
     have HF1:=ae f1
     have HF2:=ae f2
     have HE1:=ae hE1
     clear s1 s2 f1 f2 hE1 hBd
     refine wp_region_held_drew (S:=(fun W:World=>W.rangeAt w.heap.size 0 Rg∧W.rangeAt (w.heap.size+1+1+1) 0 [.string nm,.int .u8 ((2:Nat):Int),.string ⟨#[]⟩,.float .f32 vv,.int .u8 (uu:Nat)])) (by kernel_rfl) ((aa HSd) _ (Fr.refl _ _)) (fun hHeld=>?_)
     refine cD (i:=0) rfl (yieldsIf_load_mid rfl 120 (.tmp 4) rfl w.heap.size 0 rfl _ _ (fun w h=>h.1) Tryz.underlying120 rfl (by rw[(aa HBh).n];exact Tryz.al)) hHeld ?_
     (try simp only[Act.put,bq])
     refine cD (i:=1) rfl (yieldsIf_load_mid rfl 59 (.tmp 10) rfl (w.heap.size+1+1+1) 0 rfl _ _ (fun w h=>h.2) Tryz.underlying59 rfl Tryz.ee) hHeld ?_
     (try simp only[Act.put,bq])
     refine wpAnyH_ready (rs:=[2]) (by kernel_rfl) (by simp) (AllReadyH.cons rfl (fun K hK=>?_) AllReadyH.nil)
     refine ck rfl 120 (.tmp 8) (.tmp 93) rfl _ _ (by simp[Act.eval]) (by simp[Act.eval]) (aa HS1) ?_
     (try clear hHeld)
     refine hK.out _ _ ((aa HSd) _ (aa HF1)) (fun hHeld=>?_)
     clear hK K
     (try simp only[Act.put,bq])
     refine wpAnyH_ready (rs:=[3]) (by kernel_rfl) (by simp) (AllReadyH.cons rfl (fun K hK=>?_) AllReadyH.nil)
     refine ck rfl 59 (.tmp 9) (.tmp 94) rfl _ _ (by simp[Act.eval]) (by simp[Act.eval]) (aa HS2) ?_
     (try clear hHeld)
     refine hK.out _ _ ((aa HSd) _ (aa HF2)) (fun hHeld=>?_)
     clear hK K
     (try simp only[Act.put,bq])
     refine wpAnyH_done (by kernel_rfl) ?_ _
     clear hHeld
     go_wp2_with fail
     exact iR (aa HE1) rfl _ _ (by simp) (by simp) Tryz.underlying120 rfl (by rw[(aa HBh).n];exact Tryz.al) Tryz.underlying59 rfl Tryz.ee ⟨Rg,by rw[eg];rfl,by rw[eg];exact aa HQg,(aa HE1).fr⟩
   ·have eg:q2.eF nm kk=(q2,⟨nm,kk,⟨#[]⟩,0,0⟩):=by unfold Q.eF;rw[if_neg n1,if_neg n2]
    have e1:((kk:Int) == 1)=false:=by simp;omega
    have e2:((kk:Int) == 2)=false:=by simp;omega
    go_upto_region 18 with fail
    have hBd:=(aa HB9).aD (Fr.refl (fun _=>False) _).drew
    obtain⟨W1,W2,s1,s2,f1,f2,hE1⟩:=hBd.fin (aa HQ8) rfl Tryz.ee (by simp[Value.oneCell'])
    have HSd:=ae (fun W' hf=>hBd.C9 (W':=W') hf)
    have HS1:=ae s1
    have HS2:=ae s2
    have HF1:=ae f1
    have HF2:=ae f2
    have HE1:=ae hE1
    clear s1 s2 f1 f2 hE1 hBd
    refine wp_region_held_drew (S:=(fun W:World=>W.rangeAt w.heap.size 0 R8∧W.rangeAt (w.heap.size+1+1+1) 0 [.string nm,.int .u8 (kk:Nat),.string ⟨#[]⟩,.float .f32 0,.int .u8 0])) (by kernel_rfl) ((aa HSd) _ (Fr.refl _ _)) (fun hHeld=>?_)
    refine cD (i:=0) rfl (yieldsIf_load_mid rfl 120 (.tmp 4) rfl w.heap.size 0 rfl _ _ (fun w h=>h.1) Tryz.underlying120 rfl (by rw[(aa HB9).n];exact Tryz.al)) hHeld ?_
    (try simp only[Act.put,bq])
    refine cD (i:=1) rfl (yieldsIf_load_mid rfl 59 (.tmp 10) rfl (w.heap.size+1+1+1) 0 rfl _ _ (fun w h=>h.2) Tryz.underlying59 rfl Tryz.ee) hHeld ?_
    (try simp only[Act.put,bq])
    refine wpAnyH_ready (rs:=[2]) (by kernel_rfl) (by simp) (AllReadyH.cons rfl (fun K hK=>?_) AllReadyH.nil)
    refine ck rfl 120 (.tmp 8) (.tmp 93) rfl _ _ (by simp[Act.eval]) (by simp[Act.eval]) (aa HS1) ?_
    (try clear hHeld)
    refine hK.out _ _ ((aa HSd) _ (aa HF1)) (fun hHeld=>?_)
    clear hK K
    (try simp only[Act.put,bq])
    refine wpAnyH_ready (rs:=[3]) (by kernel_rfl) (by simp) (AllReadyH.cons rfl (fun K hK=>?_) AllReadyH.nil)
    refine ck rfl 59 (.tmp 9) (.tmp 94) rfl _ _ (by simp[Act.eval]) (by simp[Act.eval]) (aa HS2) ?_
    (try clear hHeld)
    refine hK.out _ _ ((aa HSd) _ (aa HF2)) (fun hHeld=>?_)
    clear hK K
    (try simp only[Act.put,bq])
    refine wpAnyH_done (by kernel_rfl) ?_ _
    clear hHeld
    go_wp2_with fail
    exact iR (aa HE1) rfl _ _ (by simp) (by simp) Tryz.underlying120 rfl (by rw[(aa HB9).n];exact Tryz.al) Tryz.underlying59 rfl Tryz.ee ⟨R8,by rw[eg];rfl,by rw[eg];exact aa HQ8,(aa HE1).fr⟩
theorem pq {P:Program} {w w':World} {ops:Array Oper} {rest:List Oper} {o:Oper} {a:Act} {Q:Exit→Act→World→Prop} (hgd:o.guard=none) (s x:Operand) (t u:TypeId)
  (ho:o.op = .call { callee:=.builtin .append,args:=#[s,x],argTypes:=#[t,u] }) (vs vx v':Value) (hs:a.eval s=vs) (hx:a.eval x=vx) (hr:(Builtin.append_ #[t,u] o.type #[vs,vx]).run P w = .ok v' w')
  (h:wpList P ops Q rest (a.put o.dst v') w'):wpList P ops Q (o::rest) a w:=by
 refine wpList_plain hgd fun K hK=>?_
 unfold Oper.wp execOp
 simp only[ho,resolve,invoke,builtin,Sem.run_bind,Sem.run_pure,Result.andThen_ok,List.map_toArray,List.map_cons,List.map_nil,hs,hx,hr]
 exact hK _ _ h
theorem kC {P:Program} {ops:Array Oper} {rest:List Oper} {op:Oper} {a:Act} {w:World} {Q:Exit→Act→World→Prop} (hw:Region.wanted op (yielded ops a.tmps)=true) (ty:TypeId) (x:Operand) (ho:op.op = .load ty x)
  (b o:Nat) (hx:a.eval x = .pointer (some ⟨b,o,none⟩)) (cs:List Value) (d:TypeDesc) (hc:w.rangeAt b o cs)
  (hu:P.underlying ty=some d) (hd:d.isRow=true) (hi:(P.info? ty).map (·.size)=some cs.length)
  (h:wpList P ops Q rest (a.put op.dst (.agg cs.toArray)) w):wpList P ops Q (op::rest) a w:=
 wpList_step fun K hK=>by rw[if_pos hw];exact wp_load_mid ty x ho b o hx cs d hc hu hd hi (hK _ _ h)
theorem Q.go_len (q:Q) (m:Int):(q.go 6 m).2.2.length≤q.all.length:=by
 unfold Q.go Q.step
 repeat' split
 all_goals simp
 all_goals omega
theorem Q.sz (q:Q) (nm:ByteArray) (least most:Int):(q.many nm least most).2.length≤q.all.length:=by
 have:=(q.aj nm).go_len most
 rw[Q.de] at this
 exact this
theorem Q.tV (q:Q) (nm:ByteArray) (k:Nat) (hn:nm.size<9223372036854775808) (hk:k<256) (hl:q.all.length≤16777216):(q.eF nm k).2.ok:=by
 unfold Q.eF
 split
 ·exact⟨hn,of_decide_eq_true rfl,by show(strOf _).size<_;rw[dJ];have:=q.sz dQ 0 64;omega,of_decide_eq_true rfl,of_decide_eq_true rfl⟩
 split
 ·exact⟨hn,of_decide_eq_true rfl,of_decide_eq_true rfl,Q.go_lt _ 5 0,Q.go_lt _ 1 0⟩
 ·exact⟨hn,hk,of_decide_eq_true rfl,of_decide_eq_true rfl,of_decide_eq_true rfl⟩
theorem Q.qW (q:Q) (before:ByteArray) (first:Bool):(q.fT before first).all=q.all:=by
 unfold Q.fT
 rw[Q.cH,Q.yA]
theorem Q.wJ (q:Q) (before:ByteArray) (first gone:Bool) (hl:q.all.length≤16777216):(q.dn before first gone).2.ok:=by
 unfold Q.dn
 refine Q.tV _ _ _ ?_ (Q.go_lt _ 1 0) ?_
 ·rw[dJ];have:=q.sz bQ 1 64;omega
 ·rw[Q.cH,Q.Be,Q.qW];exact hl
def Q.dT (gone:Bool) (q:Q):Nat→Q × List cA × ByteArray
 | 0=>(q,[],⟨#[]⟩)
 | i+1=>(((q.dT gone i).1.dn (q.dT gone i).2.2 (decide (i=0)) gone).1,(q.dT gone i).2.1++[((q.dT gone i).1.dn (q.dT gone i).2.2 (decide (i=0)) gone).2],((q.dT gone i).1.dn (q.dT gone i).2.2 (decide (i=0)) gone).2.name)
theorem Q.Bw (gone:Bool) (q:Q) (i:Nat):(q.dT gone i).2.1.length=i:=by
 induction i with
 | zero=>rfl
 | succ i ih=>simp[Q.dT,ih]
def Q.bu (q:Q) (used:Bool):Q:=(q.bT ak 32).1.ah (if used=false∧0<(q.bT ak 32).2 then 4 else 0)
structure BY (w W:World) (R:List Value):Prop where
 b0:W.heap[w.heap.size]?=some (.cells R.toArray 120)
 b1:W.heap[w.heap.size+1]?=some (.cells oM.toArray 120)
 fr:Fr (fun _=>False) w W
 n:R.length=7
theorem BY.lt {w W:World} {R:List Value} (h:BY w W R):w.heap.size+1<W.heap.size:=lt_of_block h.b1
theorem BY.aD {w W W':World} {R:List Value} {S:Nat→Prop} (h:BY w W R) (hf:Fr S W W') (hS:∀ k,S k→w.heap.size+1<k):BY w W' R:=by
 have hl:=h.lt
 exact⟨(hf.block _ (by omega) (fun h=>by have:=hS _ h;omega)).trans h.b0,(hf.block _ (by omega) (fun h=>by have:=hS _ h;omega)).trans h.b1,h.fr.trans hf (fun k hk e=>by have:=hS _ e;omega),h.n⟩
theorem BY.aU {w W:World} {R R':List Value} (h:BY w W R) {q:Q} {xo:Option Addr} {len xc:Nat} {all:List Nat} (hR:QS q xo len xc all R') :
  ∃ W',(Instr.storeAt 120 (.pointer (some ⟨w.heap.size,0,none⟩)) (.agg R'.toArray)).run Tryz.prog W = .ok () W'∧BY w W' R'∧Fr (fun k=>k=w.heap.size) W W':=by
 have hl:=h.lt
 obtain⟨W',h1,h2,h3⟩:=bA (P:=Tryz.prog) (ty:=120) R R' h.b0 (by rw[h.n,hR.len]) (by rw[hR.len];exact Tryz.al) hR.one
 exact⟨W',h1,⟨h2,(h3.block _ (by omega) (fun h=>by omega)).trans h.b1,h.fr.trans h3 (fun k hk e=>by omega),hR.len⟩,h3⟩
theorem BY.start (w:World) (R:List Value) (hR:R.length=7):BY w ((w.alloc (.cells R.toArray 120)).alloc (.cells oM.toArray 120)) R:=by
 have hs:=xk w (.cells R.toArray 120) (.cells oM.toArray 120)
 exact⟨hs.1,hs.2.1,(aB w _).alloc _,hR⟩
theorem yO {n i:Nat} (h:i<n):n - (intOf (.int .i64 ((i:Int)+1))).toNat<n - (intOf (.int .i64 (i:Nat))).toNat:=by
 simp only[intOf]
 omega
theorem zO {n:Nat} (h:n<9223372036854775807):wrap64 ((n:Int)+1)=(n:Int)+1:=by unfold wrap64;omega
theorem Q.fe (q:Q) (nm:ByteArray) (m:Nat):(q.bT nm m).2≤m:=by
 unfold Q.bT Q.go
 generalize q.aj nm=r
 unfold Q.step
 dsimp only
 split
 ·exact Nat.zero_le _
 split
 ·exact Nat.zero_le _
 split
 ·exact Nat.zero_le _
 split
 ·exact Nat.zero_le _
 split
 ·exact Nat.zero_le _
 split
 ·exact Nat.zero_le _
 rename_i h
 split
 ·show r.num 4≤m
  have:¬ (m:Int)<(r.num 4:Int):=fun hx=>h ⟨.inr rfl,hx⟩
  omega
 split <;> exact Nat.zero_le _
theorem dy.dc {w w':World} {base:Nat} {x:Value} {l:List cA} {S:Nat→Prop} (h:dy w base x l (fun _=>False)) (hf:Fr S w w') (hS:∀ k,S k→k<base∨w.heap.size≤k):dy w' base x l (fun _=>False):=
 ⟨fun _ _ h=>h,aA h.row (fun k hk=>hf.block k (h.row.lt k hk).2 (fun hx=>by have:=hS k hx;have:=h.row.lt k hk;omega)),h.ok⟩
theorem dy.base {w:World} {base base':Nat} {x:Value} {l:List cA} (h:dy w base x l (fun _=>False)) (hb:base'≤base):dy w base' x l (fun _=>False):=⟨fun _ _ h=>h,⟨h.row.1,h.row.2.imp (fun h=>h) (fun ⟨g,cap,cur,e,hg,r⟩=>⟨g,cap,cur,e,by omega,r⟩)⟩,h.ok⟩
theorem ig {w:World} {xo:Option Addr} {len xc:Nat} {all:List Nat} {R:List Value} {q:Q} (A:j9 w xo len xc all) (h:QS q xo len xc all R) (used gone:Bool) :
  Calls Tryz.prog 102 #[.agg R.toArray,.bool used,.bool gone] w fun e w'=>∃ R' v i,e = .returned (.tuple #[.agg R'.toArray,v])∧i≤(q.bT ak 32).2∧(i=(q.bT ak 32).2∨((q.bu used).dT gone i).1.f≠none)∧QS ((q.bu used).dT gone i).1 xo len xc all R'∧dy w' w.heap.size v ((q.bu used).dT gone i).2.1 (fun _=>False)∧Fr (fun _=>False) w w':=by
 have hnot:∀ (x:Bool) (w:World),(Op.unary .not (.bool x)).run Tryz.prog w = .ok (.bool (!x)) w:=fun _ _=>rfl
 have hall:all.length≤16777216:=by rw[A.hl];exact A.hb
 have HA:=ae A
 have HQ:=ae h
 unfold Q.bu
 obtain⟨c,hc⟩:∃ c,q.bT ak 32=c:=⟨_,rfl⟩
 have hcl:c.2≤32:=by rw[← hc];exact Q.fe _ _ 32
 rw[hc]
 obtain⟨cn,hcn⟩:∃ x,c.2=x:=⟨_,rfl⟩
 rw[hcn] at hcl ⊢
 obtain⟨q2,hq2⟩:∃ x,c.1.ah (if used=false∧0<cn then 4 else 0)=x:=⟨_,rfl⟩
 rw[hq2]
 have HE:=ae (And.intro hc (And.intro hcn hq2))
 clear hc hcn hq2
 obtain⟨ha,ho,last,rfl,hla⟩:=h
 rw[ei]
 have HB0:=ae (BY.start w (q.rv xo len xc last).toList rfl)
 unfold Q.rv at HB0 ⊢
 clear ha ho hla A
 go_enter Tryz.func102,Tryz.ntmps102
 go_wp2_with fail
 refine(uG (aa HA) ((aB w _).alloc _) (aa HQ) ak 32 (by decide)).mono ?_
 rintro e w2 ⟨R2,rfl,hQ2,hf2⟩
 rw[(aa HE).1] at hQ2 ⊢
 rw[(aa HE).2.1]
 obtain⟨w3,hst,hB3,_⟩:=((aa HB0).aD hf2 (fun _ h=>h.elim)).aU hQ2
 have HST:=ae hst
 have HB3:=ae hB3
 have HQ2:=ae hQ2
 clear hst hB3 hQ2 hf2 HB0 HQ
 go_upto_region 2 with (first|((with_reducible refine aq ?_);refine ag rfl 120 (.tmp 3) (.tmp 17) rfl _ _ rfl rfl (aa HST) ?_))
 clear HST
 go_cut [] from 19 to 26 (fun wx=>∃ R',QS q2 xo len xc all R'∧BY w wx R')
 case first =>
  have hfk:∀ so,(if so=true then 4 else 0)=(if used=false∧0<cn then 4 else 0)→∀ w',Calls Tryz.prog 99 #[.agg R2.toArray,.bool so,.int .i64 (4:Nat)] w' fun e w''=>∃ R',e = .returned (.agg R'.toArray)∧QS q2 xo len xc all R'∧Fr (fun _=>False) w' w'':=fun so h w'=>by
   have hb:=dR (w':=w') (aa HA).hl (aa HQ2) so 4 _ (by decide) (by decide) h
   rw[(aa HE).2.2] at hb
   exact hb
  have HK:=ae hfk
  clear hfk
  cases used
  ·go_wp2_with (first|((with_reducible refine av 19 ?_);refine wpList_load_mid rfl 120 (.tmp 3) rfl w.heap.size 0 rfl _ _ (af (aa HB3).b0) Tryz.underlying120 rfl (by rw[(aa HB3).n];exact Tryz.al) ?_))
   refine((aa HK) _ (by by_cases hz:0<cn <;> simp[hz];try omega) _).mono ?_
   rintro e w4 ⟨R4,rfl,hQ4,hf4⟩
   obtain⟨w5,hst,hB5,_⟩:=((aa HB3).aD hf4 (fun _ h=>h.elim)).aU hQ4
   have HST:=ae hst
   have HX:=ae (And.intro hQ4 hB5)
   clear hst hQ4 hB5 hf4
   go_wp2_with (first|((with_reducible refine aq ?_);refine ag rfl 120 (.tmp 3) (.tmp 26) rfl _ _ rfl rfl (aa HST) ?_))
   go_meet
   case rel=>exact⟨R4,(aa HX).1,(aa HX).2⟩
  ·go_wp2_with (first|((with_reducible refine av 19 ?_);refine wpList_load_mid rfl 120 (.tmp 3) rfl w.heap.size 0 rfl _ _ (af (aa HB3).b0) Tryz.underlying120 rfl (by rw[(aa HB3).n];exact Tryz.al) ?_))
   refine((aa HK) _ (by simp) _).mono ?_
   rintro e w4 ⟨R4,rfl,hQ4,hf4⟩
   obtain⟨w5,hst,hB5,_⟩:=((aa HB3).aD hf4 (fun _ h=>h.elim)).aU hQ4
   have HST:=ae hst
   have HX:=ae (And.intro hQ4 hB5)
   clear hst hQ4 hB5 hf4
   go_wp2_with (first|((with_reducible refine aq ?_);refine ag rfl 120 (.tmp 3) (.tmp 26) rfl _ _ rfl rfl (aa HST) ?_))
   go_meet
   case rel=>exact⟨R4,(aa HX).1,(aa HX).2⟩
 case rest =>
  obtain⟨R5,hQ5,hB5⟩:=hcut
  rename World=>wc
  clear HB3 HQ2 hnot
  have HX0:=ae (And.intro hQ5 hB5)
  clear hQ5 hB5
  go_wp2_with fail
  go_loopw [9,10,11] (fun tv sv iv wr=>∃ (i:Nat) (R':List Value),i≤cn∧iv = .int .i64 (i:Nat)∧sv = .string (q2.dT gone i).2.2∧QS (q2.dT gone i).1 xo len xc all R'∧BY w wr R'∧dy wr (w.heap.size+1+1) tv (q2.dT gone i).2.1 (fun _=>False)) (fun _ _ iv _=>cn - (intOf iv).toNat)
  case atStart=>exact⟨0,R5,Nat.zero_le _,rfl,rfl,(aa HX0).1,(aa HX0).2,dy.nil _ _ _⟩
  case round =>
   obtain⟨i,Rr,hi,rfl,rfl,hQ,hB,hO⟩:=hrel
   rename World=>wr
   clear HX0
   obtain⟨s,hs⟩:∃ s,q2.dT gone i=s:=⟨_,rfl⟩
   rw[hs] at hQ hO ⊢
   have hw1:=zO (n:=i) (by omega)
   have HQr:=ae hQ
   have HBr:=ae hB
   have HOr:=ae hO
   have hln:s.2.1.length=i:=by rw[← hs];exact Q.Bw _ _ _
   clear hQ hB hO
   by_cases hlt:i<cn
   ·have hlt2:(i:Int)<(cn:Int):=by omega
    go_wp2_with (first|((with_reducible refine av 31 ?_);refine kC rfl 120 (.tmp 3) rfl w.heap.size 0 rfl _ _ (af (aa HBr).b0) Tryz.underlying120 rfl (by rw[(aa HBr).n];exact Tryz.al) ?_))
    refine(jn (aa HQr)).mono ?_
    rintro e w4 ⟨rfl,hf4⟩
    have HB4:=ae ((aa HBr).aD hf4 (fun _ h=>h.elim))
    have HO4:=ae ((aa HOr).dc hf4 (fun _ h=>h.elim))
    clear hf4
    by_cases hg:s.1.f=none
    ·rw[decide_eq_true hg]
     obtain⟨r,hr⟩:∃ r,s.1.dn s.2.2 (decide (i=0)) gone=r:=⟨_,rfl⟩
     have hok:r.2.ok:=by rw[← hr];exact Q.wJ _ _ _ _ (by rw[(aa HQr).1];exact hall)
     have hgf:=fun wx (hf:Fr (fun _=>False) w wx)=>np ((aa HA).aD hf) (aa HQr) s.2.2 (decide (i=0)) gone
     rw[hr] at hgf
     have hnx:q2.dT gone (i+1)=(r.1,s.2.1++[r.2],r.2.name):=by rw[Q.dT,hs,hr]
     obtain⟨q5,fn,fk,ft,fv,fu⟩:=r
     simp only[cA.vs] at hgf hnx hok
     have HG:=ae hgf
     have HN:=ae (And.intro hnx hok)
     clear hgf hnx hok hr
     have e0:((i:Int) == 0)=decide (i=0):=by by_cases h0:i=0 <;> simp[h0]
     go_wp2_with (first|((with_reducible refine av 37 ?_);refine wpList_load_mid rfl 120 (.tmp 3) rfl w.heap.size 0 rfl _ _ (af (aa HB4).b0) Tryz.underlying120 rfl (by rw[(aa HB4).n];exact Tryz.al) ?_))
     refine((aa HG) _ (aa HB4).fr).mono ?_
     rintro e w5 ⟨R5,rfl,hQ5,hf5⟩
     have hB5:=(aa HB4).aD hf5 (fun _ h=>h.elim)
     have hO5:=(aa HO4).dc hf5 (fun _ h=>h.elim)
     have hk2:=xk w5 (.cells oM.toArray 120) (.cells zB.toArray 59)
     have hlt5:=hB5.lt
     obtain⟨w6,hst6,hb6,hf6⟩:=bA (P:=Tryz.prog) (ty:=120) oM R5 hk2.1 (by rw[hQ5.len];rfl) (by rw[hQ5.len];exact Tryz.al) hQ5.one
     obtain⟨w7,hst7,hb7,hf7⟩:=bA (P:=Tryz.prog) (ty:=59) zB [.string fn,.int .u8 (fk:Nat),.string ft,.float .f32 fv,.int .u8 (fu:Nat)] ((hf6.block _ (by rw[hk2.2.2];omega) (fun h=>by omega)).trans hk2.2.1) rfl Tryz.ee (by simp[Value.oneCell'])
     have hs7:=hf7.size
     have hs6:=hf6.size
     rw[hk2.2.2] at hs6
     have hb67:=(hf7.block w5.heap.size (by omega) (fun h=>by omega)).trans hb6
     have hf57:Fr (fun k=>k=w5.heap.size∨k=w5.heap.size+1) w5 w7:=(((Fr.refl _ w5).alloc _).alloc _).trans ((hf6.mono (T:=fun k=>k=w5.heap.size∨k=w5.heap.size+1) (fun _ _ h=>.inl h)).trans hf7 (fun k _ h=>.inr h)) (fun k _ h=>h)
     have hB7:=hB5.aD hf57 (fun k hk=>by omega)
     have hO7:=hO5.dc hf57 (fun k hk=>by omega)
     obtain⟨w8,hst8,hB8,hf8⟩:=hB7.aU hQ5
     have hO8:=hO7.dc hf8 (fun k hk=>by omega)
     have hb8:=(hf8.block (w5.heap.size+1) (by omega) (fun h=>by omega)).trans hb7
     have hs8:=hf8.size
     obtain⟨ao,cap,w9,hap,hO9,hf9⟩:=hO8.app ⟨fn,fk,ft,fv,fu⟩ (aa HN).2 (by omega) (fun _ h=>h.elim) (by omega)
     have hB9:=hB8.aD hf9 (fun k hk=>by have:=hO8.row.lt k hk;omega)
     have r8:w8.cell? ⟨w5.heap.size+1,0,none⟩=some (.string fn):=af hb8 0 _ rfl
     have HS6:=ae hst6
     have HS7:=ae hst7
     have HS8:=ae hst8
     have HR7:=ae (af hb67)
     have HR8:=ae (af (cs:=[.string fn,.int .u8 (fk:Nat),.string ft,.float .f32 fv,.int .u8 (fu:Nat)]) hb8)
     have HAP:=ae hap
     have hl7:=hQ5.len
     have HX9:=ae (And.intro hQ5 (And.intro hB9 hO9))
     clear hst6 hst7 hst8 hb6 hb7 hb67 hb8 hf57 hf6 hf7 hf8 hB5 hO5 hB7 hO7 hB8 hO8 hap hO9 hf9 hB9 hQ5 hf5 hk2 hs7 hs6 hs8
     go_wp2_with (first|((with_reducible refine aq ?_);refine ag rfl 120 (.tmp 12) (.tmp 43) rfl _ _ rfl rfl (aa HS6) ?_)|((with_reducible refine aq ?_);refine ag rfl 59 (.tmp 13) (.tmp 44) rfl _ _ rfl rfl (aa HS7) ?_)|((with_reducible refine av 45 ?_);refine wpList_load_mid rfl 120 (.tmp 12) rfl w5.heap.size 0 rfl _ _ (aa HR7) Tryz.underlying120 rfl (by rw[hl7];exact Tryz.al) ?_)|((with_reducible refine aq ?_);refine ag rfl 120 (.tmp 3) (.tmp 45) rfl _ _ rfl rfl (aa HS8) ?_)|((with_reducible refine av 49 ?_);refine wpList_load_mid rfl 59 (.tmp 13) rfl (w5.heap.size+1) 0 rfl _ _ (aa HR8) Tryz.underlying59 rfl Tryz.ee ?_)|((with_reducible refine av 51 ?_);refine pq rfl (.tmp 48) (.tmp 50) 28 28 rfl _ _ _ rfl rfl (aa HAP) ?_))
     go_roundw
     case rel=>exact⟨i+1,R5,by omega,by go_num,by rw[(aa HN).1],by rw[(aa HN).1];exact(aa HX9).1,(aa HX9).2.1,by rw[(aa HN).1,← hln];exact(aa HX9).2.2⟩
     case measure=>exact yO hlt
    ·rw[decide_eq_false hg]
     have hne:(q2.dT gone i).1.f≠none:=by rw[hs];exact hg
     obtain⟨W1,hst,hb1,hfs⟩:=bA (P:=Tryz.prog) (ty:=120) oM Rr (aa HB4).b1 (by rw[(aa HB4).n];rfl) (by rw[(aa HB4).n];exact Tryz.al) (aa HQr).one
     have HST:=ae hst
     have hld:=run_loadVar_mid (P:=Tryz.prog) W1 (w.heap.size+1) 0 120 Rr _ (af hb1) Tryz.underlying120 rfl (by rw[(aa HB4).n];exact Tryz.al)
     have hO1:=(aa HO4).dc hfs (fun k hk=>by omega)
     have hfr:=(aa HB4).fr.trans hfs (fun k hk e=>by omega)
     have HX1:=ae (And.intro hO1 hfr)
     clear hst hb1 hfs hO1 hfr
     go_wp2_with (first|((with_reducible refine av 52 ?_);refine wpList_load_mid rfl 120 (.tmp 3) rfl w.heap.size 0 rfl _ _ (af (aa HB4).b0) Tryz.underlying120 rfl (by rw[(aa HB4).n];exact Tryz.al) ?_)|((with_reducible refine aq ?_);refine ag rfl 120 (.tmp 6) (.tmp 52) rfl _ _ rfl rfl (aa HST) ?_))
     refine bodyPost_ret (v:=.tuple #[.agg Rr.toArray,u9]) (by simp[results,Tryz.results102,asAddr,hld]) rfl ?_
     exact⟨Rr,u9,i,rfl,hi,.inr hne,by rw[hs];exact aa HQr,by rw[hs];exact(aa HX1).1.base (by omega),(aa HX1).2⟩
   ·have hic:i=cn:=by omega
    have hge:¬ (i:Int)<(cn:Int):=by omega
    obtain⟨W1,hst,hb1,hfs⟩:=bA (P:=Tryz.prog) (ty:=120) oM Rr (aa HBr).b1 (by rw[(aa HBr).n];rfl) (by rw[(aa HBr).n];exact Tryz.al) (aa HQr).one
    have HST:=ae hst
    have hld:=run_loadVar_mid (P:=Tryz.prog) W1 (w.heap.size+1) 0 120 Rr _ (af hb1) Tryz.underlying120 rfl (by rw[(aa HBr).n];exact Tryz.al)
    have hO1:=(aa HOr).dc hfs (fun k hk=>by omega)
    have hfr:=(aa HBr).fr.trans hfs (fun k hk e=>by omega)
    have HX1:=ae (And.intro hO1 hfr)
    clear hst hb1 hfs hO1 hfr
    go_wp2_with (first|((with_reducible refine av 52 ?_);refine wpList_load_mid rfl 120 (.tmp 3) rfl w.heap.size 0 rfl _ _ (af (aa HBr).b0) Tryz.underlying120 rfl (by rw[(aa HBr).n];exact Tryz.al) ?_)|((with_reducible refine aq ?_);refine ag rfl 120 (.tmp 6) (.tmp 52) rfl _ _ rfl rfl (aa HST) ?_))
    refine bodyPost_ret (v:=.tuple #[.agg Rr.toArray,u9]) (by simp[results,Tryz.results102,asAddr,hld]) rfl ?_
    exact⟨Rr,u9,rfl,i,hi,.inl hic,by rw[hs];exact aa HQr,by rw[hs];exact(aa HX1).1.base (by omega),(aa HX1).2⟩
theorem BX.CG {w W:World} {T:TypeId} {R R' Z V:List Value} (h:BX w W T R Z V) {q:Q} {xo:Option Addr} {len xc:Nat} {all:List Nat} (hR:QS q xo len xc all R') (hz:Z.length=V.length) (hi:(Tryz.prog.info? T).map (·.size)=some V.length) (h1:∀ v∈V,v.oneCell'=true) :
  (∃ W1 W2,(Instr.storeAt 120 (.pointer (some ⟨w.heap.size+1,0,none⟩)) (.agg R'.toArray)).run Tryz.prog W = .ok () W1∧(Instr.storeAt T (.pointer (some ⟨w.heap.size+1+1,0,none⟩)) (.agg V.toArray)).run Tryz.prog W1 = .ok () W2∧Fr (fun k=>k=w.heap.size+1∨k=w.heap.size+1+1) W W1∧Fr (fun k=>k=w.heap.size+1∨k=w.heap.size+1+1) W W2∧BE w W2 T R' V):=by
 have hl:=h.lt
 obtain⟨W1,e1,c1,f1⟩:=bA (P:=Tryz.prog) (ty:=120) oM R' h.b1 (by rw[hR.len];rfl) (by rw[hR.len];exact Tryz.al) hR.one
 have hs:=f1.size
 obtain⟨W2,e2,c2,f2⟩:=bA (P:=Tryz.prog) (ty:=T) Z V ((f1.block _ (by omega) (fun h=>by omega)).trans h.b2) hz hi h1
 have g1:=f1.mono (T:=fun k=>k=w.heap.size+1∨k=w.heap.size+1+1) (fun _ _ h=>.inl h)
 have g2:=g1.trans f2 (fun k hk e=>.inr e)
 exact⟨W1,W2,e1,e2,g1,g2,(f2.block _ (by omega) (fun h=>by omega)).trans c1,c2,h.fr.trans g2 (fun k hk e=>by omega)⟩
def pR (T l0 l1:Nat) (pos:String):Array Oper:=#[{ dst:=some l0,op:=.load 120 (.tmp 1),type:=120,pos:=pos,after:=#[],guard:=none },{ dst:=some l1,op:=.load T (.tmp 4),type:=T,pos:=pos,after:=#[{ on:=2,ground:=.gcOnly .lateStores }],guard:=none },{ dst:=none,op:=.store 120 (.tmp 2) (.tmp l0),type:=0,pos:=pos,after:=#[{ on:=0,ground:=.data },{ on:=0,ground:=.phase },{ on:=1,ground:=.textOnly .lateStores }],guard:=none },{ dst:=none,op:=.store T (.tmp 3) (.tmp l1),type:=0,pos:=pos,after:=#[{ on:=1,ground:=.data },{ on:=2,ground:=.chain },{ on:=0,ground:=.phase },{ on:=1,ground:=.phase },{ on:=2,ground:=.phase }],guard:=none }]
theorem jJ {id T l0 l1:Nat} {pos:String} {QQ:Exit→Act→World→Prop} {tmps:Array Value} {ds:List Deferred} {w W:World} {R Z V:List Value} {q:Q} {xo:Option Addr} {len xc:Nat} {all:List Nat} (hB:BX w W T R Z V) (hQ:QS q xo len xc all R) (hz:Z.length=V.length) (hi:(Tryz.prog.info? T).map (·.size)=some V.length) (h1:∀ v∈V,v.oneCell'=true) (d:TypeDesc) (hu:Tryz.prog.underlying T=some d) (hd:d.isRow=true)
  (a1:tmps.getD 1 undef = .pointer (some ⟨w.heap.size,0,none⟩)) (a2:tmps.getD 2 undef = .pointer (some ⟨w.heap.size+1,0,none⟩)) (a3:tmps.getD 3 undef = .pointer (some ⟨w.heap.size+1+1,0,none⟩)) (a4:tmps.getD 4 undef = .pointer (some ⟨w.heap.size+1+1+1,0,none⟩)) (h0:4<l0) (h01:l0<l1) (hs:l1<tmps.size) (hP:∀ c (a:Act) dst v w,QQ (.panic c) (a.put dst v) w→QQ (.panic c) a w)
  (hK:∀ t' W2,t'.getD 2 undef = .pointer (some ⟨w.heap.size+1,0,none⟩)→t'.getD 3 undef = .pointer (some ⟨w.heap.size+1+1,0,none⟩)→BE w W2 T R V→Fr (fun k=>k=w.heap.size+1∨k=w.heap.size+1+1) W W2→QQ .normal ⟨t',ds⟩ W2) (f0:Region.free .any (pR T l0 l1 pos) (Array.replicate 4 false) 0=true:=by kernel_rfl) (f1':Region.free .any (pR T l0 l1 pos) ((Array.replicate 4 false).setIfInBounds 0 true) 1=true:=by kernel_rfl):(Code.region id (pR T l0 l1 pos) true).wp Tryz.prog QQ ⟨tmps,ds⟩ W:=by
 have hBd:=hB.aD (Fr.refl (fun _=>False) _).drew
 obtain⟨W1,W2,t1,t2,f1,f2,hE⟩:=hBd.CG hQ hz hi h1
 have hS:=fun W' hf=>hBd.C9 (W':=W') hf
 have hn:R.length=7:=hB.n
 have e1:tmps[1]?.getD undef = .pointer (some ⟨w.heap.size,0,none⟩):=by simpa using a1
 have e2:tmps[2]?.getD undef = .pointer (some ⟨w.heap.size+1,0,none⟩):=by simpa using a2
 have e3:tmps[3]?.getD undef = .pointer (some ⟨w.heap.size+1+1,0,none⟩):=by simpa using a3
 have e4:tmps[4]?.getD undef = .pointer (some ⟨w.heap.size+1+1+1,0,none⟩):=by simpa using a4
 have n2:l0≠2:=by omega
 have n3:l0≠3:=by omega
 have n4:l0≠4:=by omega
 have m2:l1≠2:=by omega
 have m3:l1≠3:=by omega
 have m0:l1≠l0:=by omega
 have s0:l0<tmps.size:=by omega
 unfold pR
 refine wp_region_held_drew (S:=(fun W:World=>W.rangeAt w.heap.size 0 R∧W.rangeAt (w.heap.size+1+1+1) 0 V)) (by kernel_rfl) (hS _ (Fr.refl _ _)) (fun hHeld=>?_)
 refine cD (i:=0) rfl (yieldsIf_load_mid rfl 120 (.tmp 1) rfl w.heap.size 0 (by simpa[Act.eval] using e1) _ _ (fun w h=>h.1) Tryz.underlying120 rfl (by rw[hn];exact Tryz.al)) hHeld ?_ (hf:=f0) (hQ:=fun _ _ _ h=>hP _ _ _ _ _ h)
 (try simp only[Act.put,bq])
 refine cD (i:=1) rfl (yieldsIf_load_mid rfl T (.tmp 4) rfl (w.heap.size+1+1+1) 0 (by simpa[Act.eval,Array.getElem?_setIfInBounds,n4] using e4) _ _ (fun w h=>h.2) hu hd hi) hHeld ?_ (hf:=f1') (hQ:=fun _ _ _ h=>hP _ _ _ _ _ h)
 (try simp only[Act.put,bq])
 refine wpAnyH_ready (rs:=[2]) (by kernel_rfl) (by simp) (AllReadyH.cons rfl (fun K hK=>?_) AllReadyH.nil)
 refine ck rfl 120 (.tmp 2) (.tmp l0) rfl _ _ (by simpa[Act.eval,Array.getElem?_setIfInBounds,n2,m2] using e2) (by simp[Act.eval,Array.getElem?_setIfInBounds,m0,s0]) t1 ?_
 clear hHeld
 refine hK.out _ _ (hS _ (f1.mono (fun _ _ h=>h))) (fun hHeld=>?_)
 clear hK K
 (try simp only[Act.put,bq])
 refine wpAnyH_ready (rs:=[3]) (by kernel_rfl) (by simp) (AllReadyH.cons rfl (fun K hK=>?_) AllReadyH.nil)
 refine ck rfl T (.tmp 3) (.tmp l1) rfl _ _ (by simpa[Act.eval,Array.getElem?_setIfInBounds,n3,m3] using e3) (by simp[Act.eval,Array.getElem?_setIfInBounds,hs]) t2 ?_
 clear hHeld
 refine hK.out _ _ (hS _ f2) (fun hHeld=>?_)
 clear hK K
 (try simp only[Act.put,bq])
 refine wpAnyH_done (by kernel_rfl) ?_ _
 exact hK _ _ (by simpa[Array.getElem?_setIfInBounds,n2,m2] using e2) (by simpa[Array.getElem?_setIfInBounds,n3,m3] using e3) hE ((((Fr.refl (fun _=>False) W).drew).mono (fun _ _ h=>h.elim)).trans f2 (fun _ _ h=>h))
theorem fq {fn:Func} {S:Ending→World→Prop} {T:TypeId} {tmps:Array Value} {w W:World} {R V:List Value} (hB:BE w W T R V) (hn:R.length=7) (d:TypeDesc) (hu:Tryz.prog.underlying T=some d) (hd:d.isRow=true) (hi:(Tryz.prog.info? T).map (·.size)=some V.length) (h:fn.results = #[.cell 2 120,.cell 3 T])
  (p2:tmps.getD 2 undef = .pointer (some ⟨w.heap.size+1,0,none⟩)) (p3:tmps.getD 3 undef = .pointer (some ⟨w.heap.size+1+1,0,none⟩)) (hS:S (.returned (.tuple #[.agg R.toArray,.agg V.toArray])) W):bodyPost Tryz.prog fn S .ret ⟨tmps,[]⟩ W:=
 iR hB h _ d p2 p3 Tryz.underlying120 rfl (by rw[hn];exact Tryz.al) hu hd hi hS
end Go.Proofs.YtdcopmkgmbiikaaGreatDoor
