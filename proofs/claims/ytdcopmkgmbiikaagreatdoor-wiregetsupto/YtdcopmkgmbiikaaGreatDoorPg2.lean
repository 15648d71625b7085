import Derived.Test.YtdcopmkgmbiikaaGreatDoorPg1
import Derived.Deep.RegionHeld3
set_option maxRecDepth 100000
set_option maxHeartbeats 4000000
namespace Go.Proofs.YtdcopmkgmbiikaaGreatDoor
open Go.RowKit
def CS.aX (c:CS) (k:Nat):CS:=(c.fF cP [bI k k 5] k).1
theorem lD {α:Type} {en:World→Value→α→Prop} {w w1:World} {cb b g i:Nat} {F K0:Nat→Prop} {c:CS} {E:Nat→Addr} {r:α→Nat} {fv:Value} (T:TypeId) (h:Cd w cb b F c E) (hL:Loc w cb F g i) (hF:jC en w1 K0 fv E r) (hf:Fr (fun _=>False) w w1) (hK:fM w K0) :
  iV en (w1.alloc (.cells #[fv] T)) F g (.slice (some ⟨w1.heap.size,0,none⟩) 1 1) E [r]:=by
 have hb:=aB w1 (.cells #[fv] T)
 have hlt:∀ k,(K0 k∨k=w1.heap.size)→k<(w1.alloc (.cells #[fv] T)).heap.size:=fun k hk=>by
  rcases hk with hk|rfl
  ·exact Nat.lt_of_lt_of_le (hF.lt k hk) hb.size
  ·simp
 refine⟨⟨fun k=>K0 k∨k=w1.heap.size,⟨hlt,⟨_,_,rfl⟩,fun _ _ _ e=>.inr ⟨w1.heap.size,0,by cases e;rfl⟩,fun xo n c' e j r' hr=>?_⟩,fun k hk=>?_⟩,by simp⟩
 ·have ex:xo=some ⟨w1.heap.size,0,none⟩:=by cases e;rfl
  have hj:j=0:=by
   have:=(List.getElem?_eq_some_iff.1 hr).1
   simp at this;exact this
  subst hj
  obtain rfl:r=r':=by simpa using hr
  exact⟨w1.heap.size,0,fv,ex,.inr rfl,by simp,hF.mono (fun k hk=>hb.block k (hF.lt k hk) (fun h=>h)) (fun _ h=>.inl h) hlt⟩
 ·rcases hk with hk|rfl
  ·exact fG h hL hK k hk
  ·have h1:=hf.size
   have h2:=hL.lt
   exact⟨fun hx=>by have:=h.lt _ hx;omega,by omega⟩
theorem fB (c:CS) (k:Nat) (cb b:Nat) (F:Nat→Prop) (E:Nat→Addr) (w:World) (h:Cd w cb b F c E) (hk:k<256) (hroom:c.room 1) :
  Calls Tryz.prog 107 #[.pointer (some ⟨cb,0,none⟩),.int .u8 (k:Nat)] w fun e w'=>e = .returned (.tuple #[])∧∃ F',Cd w' cb b F' (c.aX k) E∧aw w w' F F' (fun _ _=>False):=by
 have k5:=h.g7.k5
 have hl5:=ab k5
 have hsf:=cZ
 have hbx:=aB w (.cells #[.int .u8 (k:Nat)] 5)
 have HW:=ae (dW k k 5 E (w.alloc (.cells #[.int .u8 (k:Nat)] 5)) (by decide))
 have hgo:∀ w1 fv K0,jC ew w1 K0 fv E (bI k k 5)→Fr (fun _=>False) (w.alloc (.cells #[.int .u8 (k:Nat)] 5)) w1→fM (w.alloc (.cells #[.int .u8 (k:Nat)] 5)) K0→∀ T,
   Calls Tryz.prog 127 #[.pointer (some ⟨cb,0,none⟩),.string cP,.pointer (some ⟨w.heap.size,0,none⟩),.slice (some ⟨w1.heap.size,0,none⟩) 1 1] (w1.alloc (.cells #[fv] T)) fun e w'=>e = .returned (.tuple #[])∧∃ F',Cd w' cb b F' (c.aX k) E∧aw w w' F F' (fun _ _=>False):=by
  intro w1 fv K0 hF hf hK T
  have hf2:=hf.trans (aB w1 (.cells #[fv] T)) (fun _ _ h=>h)
  have hf02:=hbx.trans hf2 (fun _ _ h=>h)
  have hL0:=h.box #[.int .u8 (k:Nat)] 5 0
  refine(gm c cP [bI k k 5] k cb b w.heap.size 0 F E _ _ (h.aD hf02) ((hf2.cell (p:=⟨w.heap.size,0,none⟩) (by simp) (fun h=>h)).trans (by simp)) (hL0.aD hf2) hk (lD T (h.aD hbx) hL0 hF hf hK) hroom).mono ?_
  rintro e w' ⟨rfl,F',hC,_,hs⟩
  exact⟨rfl,F',hC,(aw.bD hf02 F _).trans hs (fun k j hk h=>by omega)⟩
 have HG:=ae hgo
 clear h hgo
 go_enter Tryz.func107,Tryz.ntmps107
 go_wp2_with fail
 refine(aa HW).mono ?_
 rintro e w1 ⟨fv,rfl,K0,hF,hf,hK⟩
 have HX:=ae ((aa HG) w1 fv K0 hF hf hK 241)
 obtain⟨Fc,caps,rfl,_⟩:=hF.ex
 clear hF hf hK
 go_wp2_with fail
 refine(aa HX).mono ?_
 rintro e w' ⟨rfl,hr⟩
 have HR:=ae hr
 clear hr
 go_wp2_with fail
 go_end0
 exact⟨rfl,aa HR⟩
structure oO (w:World) (x:Value) (l:List Nat) (F:Nat→Prop) (g:Nat):Prop where
 bv:BV w x l F
 ng:∀ k o m c,x = .slice (some ⟨k,o,none⟩) m c→k≠g
 len:l.length<9223372036854775808
theorem oO.aV {w w':World} {x:Value} {l:List Nat} {F F':Nat→Prop} {P:Nat→Nat→Prop} {g:Nat} (h:oO w x l F g) (hs:aw w w' F F' P) (hP:∀ k i,k<w.heap.size→P k i→k=g):oO w' x l F' g:=
 ⟨h.bv.aV hs (fun k o m c e i hp=>h.ng k o m c e (hP k i (h.bv.at_ k o m c e).1 hp)),h.ng,h.len⟩
structure BO (w0 w:World) (c:CS) (x':Value) (l':List Nat) (F:Nat→Prop) (g:Nat):Prop where
 bv:oO w x' l' F g
 val:∀ q,c = .rd q→w.ownsRow w0.heap.size 5 1 x' l'.length (cellsOf l')
theorem BO.aV {w0 w w':World} {c:CS} {x':Value} {l':List Nat} {F F':Nat→Prop} {P:Nat→Nat→Prop} {g:Nat} (h:BO w0 w c x' l' F g) (hs:aw w w' F F' P) (hP:∀ k i,k<w.heap.size→P k i→k=g):BO w0 w' c x' l' F' g:=by
 refine⟨h.bv.aV hs hP,fun q hq=>aA (h.val q hq) (fun k hk=>?_)⟩
 obtain⟨m,c',e⟩:=sT (h.val q hq) hk
 have ha:=h.bv.bv.at_ k 0 m c' e
 exact hs.block ha.1 ha.2 (fun j hp=>h.bv.ng k 0 m c' e (hP k j ha.1 hp))
theorem BO.mode {w0 w1 w:World} {c c1:CS} {x':Value} {l':List Nat} {F:Nat→Prop} {g:Nat} (h:BO w1 w c1 x' l' F g) (hs:w0.heap.size≤w1.heap.size) (hm:∀ q,c = .rd q→∃ q',c1 = .rd q'):BO w0 w c x' l' F g:=
 ⟨h.bv,fun q hq=>by obtain⟨q',h1⟩:=hm q hq;exact eQ (h.val q' h1) hs⟩
theorem yr {w w':World} {cb b g i:Nat} {c:CS} {E:Nat→Addr} {nm:ByteArray} {m:Int} {rs:List (List Nat→Nat)} {x x':Value} {v:List Nat} {F F':Nat→Prop} (h:Cd w cb b F c E) (hB:oO w x v F g) (hg:g<w.heap.size) (hs:aw w w' F F' (fun k j=>k=g∧j=i))
  (hx:((∃ s,c = .wr s)∧x'=x)∨w'.ownsRow w.heap.size 5 1 x' (c.fK nm m rs v).2.length (cellsOf (c.fK nm m rs v).2)) (hno:∀ k o m c,x' = .slice (some ⟨k,o,none⟩) m c→¬ F' k):BO w w' c x' (c.fK nm m rs v).2 F' g:=by
 rcases hx with ⟨⟨s,rfl⟩,rfl⟩|hown
 ·exact⟨hB.aV hs (fun k j _ h=>h.1),fun q e=>by cases e⟩
 ·exact⟨⟨⟨iy hown,fun k o m c e=>⟨(hown.lt k (by rw[e];rfl)).2,hno k o m c e⟩⟩,fun k o m c e=>by have:=(hown.lt k (by rw[e];rfl)).1;omega,CS.Cg h nm m rs v hB.len⟩,fun _ _=>hown⟩
def CS.dA (c:CS) (v:Nat × List Nat):CS × Nat × List Nat:=(((c.bW dC [] v.1).1.bM fZ v.2).1,(c.bW dC [] v.1).2,((c.bW dC [] v.1).1.bM fZ v.2).2)
def aH (g o n:Nat) (k j:Nat):Prop:=k=g∧o≤j∧j<o+n
theorem CS.xp (c:CS) (nm:ByteArray) (rs:List (Nat→Nat)) (v:Nat):∀ q,c = .rd q→∃ q',(c.bW nm rs v).1 = .rd q':=by rintro q rfl;exact⟨_,rfl⟩
theorem sG (c:CS) (size:Nat) (root:List Nat) (x:Value) (cb b g o:Nat) (F:Nat→Prop) (E:Nat→Addr) (w:World) (h:Cd w cb b F c E) (hp0:w.cell? ⟨g,o,none⟩=some (.int .u32 (size:Nat))) (hp1:w.cell? ⟨g,o+1,none⟩=some x) (hB:oO w x root F g) (hL:∀ i,Loc w cb F g i) (hsz:size<4294967296) (hroom:c.room 2) :
  Calls Tryz.prog 111 #[.pointer (some ⟨cb,0,none⟩),.pointer (some ⟨g,o,none⟩)] w fun e w'=>e = .returned (.tuple #[])∧∃ F',Cd w' cb b F' (c.dA (size,root)).1 E∧w'.cell? ⟨g,o,none⟩=some (.int .u32 ((c.dA (size,root)).2.1:Nat))∧∃ x',w'.cell? ⟨g,o+1,none⟩=some x'∧BO w w' c x' (c.dA (size,root)).2.2 F' g∧aw w w' F F' (aH g o 2):=by
 have H:=ae (And.intro h (And.intro hB hL))
 have HN:=ae (bZ c dC [] size cb b g o F E (.slice none 0 0) w h hp0 (hL o) hsz (iV.nil _ w F g E) (by simp only[CS.room] at *;omega))
 clear h hB hL
 go_enter Tryz.func111,Tryz.ntmps111
 go_wp2_with fail
 refine(aa HN).mono ?_
 rintro e w1 ⟨rfl,F1,hC1,hc1,hs1⟩
 have hgl:=((aa H).2.2 o).lt
 have hgF:=((aa H).2.2 o).nF
 have hB1:=(aa H).2.1.aV hs1 (fun k i _ h=>h.1)
 have hp1':w1.cell? ⟨g,o+1,none⟩=some x:=(hs1.oth g (o+1) hgl hgF (fun h=>by omega)).trans hp1
 have HH:=ae (my (c.bW dC [] size).1 fZ x root cb b g (o+1) F1 E w1 hC1 hp1' hB1.bv (((aa H).2.2 (o+1)).aV hs1) hB1.len (CS.bc (by simpa using hroom) _ _ _))
 have H1:=ae (And.intro hs1 (And.intro hc1 (And.intro hC1 hB1)))
 clear hC1 hs1 hB1 hp1' hc1
 go_wp2_with fail
 refine(aa HH).mono ?_
 rintro e w2 ⟨rfl,F2,x2,hC2,hx2,ho2,hn2,hs2⟩
 have hgl1:=Nat.lt_of_lt_of_le hgl (aa H1).1.size
 have hc2:w2.cell? ⟨g,o,none⟩=some (.int .u32 ((c.bW dC [] size).2:Nat)):=(hs2.oth g o hgl1 ((aa H1).1.nF hgl hgF) (fun h=>by omega)).trans (aa H1).2.1
 have hbo:=(yr (aa H1).2.2.1 (aa H1).2.2.2 hgl1 hs2 ho2 hn2).mode (aa H1).1.size (c.xp dC [] size)
 have H2:=ae (And.intro hC2 (And.intro hc2 (And.intro hx2 (And.intro hbo (((aa H1).1.mono (P':=aH g o 2) (fun k j _ h=>⟨h.1,by omega,by omega⟩)).trans hs2 (fun k j _ h=>⟨h.1,by omega,by omega⟩))))))
 clear hC2 hc2 hx2 ho2 hn2 hs2 hbo
 go_wp2_with fail
 go_end0
 exact⟨rfl,F2,(aa H2).1,(aa H2).2.1,x2,(aa H2).2.2.1,(aa H2).2.2.2.1,(aa H2).2.2.2.2⟩
def CS.kB (c:CS) (v:Nat × Nat):CS × Nat × Nat:=(((c.bW dk [] v.1).1.bW eJ [] v.2).1,(c.bW dk [] v.1).2,((c.bW dk [] v.1).1.bW eJ [] v.2).2)
theorem CS.jU {c:CS} {n:Nat} (h:c.room (n+2)) (v:Nat × Nat):(c.kB v).1.room n:=CS.bc (CS.bc h _ _ _) _ _ _
theorem CS.kH (c:CS) (v:Nat × Nat) (h1:v.1<4294967296) (h2:v.2<4294967296):(c.kB v).2.1<4294967296∧(c.kB v).2.2<4294967296:=⟨CS.cI _ _ _ _ h1,CS.cI _ _ _ _ h2⟩
theorem pz (c:CS) (v:Nat × Nat) (cb b g o:Nat) (F:Nat→Prop) (E:Nat→Addr) (w:World) (h:Cd w cb b F c E) (hp0:w.cell? ⟨g,o,none⟩=some (.int .u32 (v.1:Nat))) (hp1:w.cell? ⟨g,o+1,none⟩=some (.int .u32 (v.2:Nat))) (hL:∀ i,Loc w cb F g i) (h1:v.1<4294967296) (h2:v.2<4294967296) (hroom:c.room 2) :
  Calls Tryz.prog 129 #[.pointer (some ⟨cb,0,none⟩),.pointer (some ⟨g,o,none⟩)] w fun e w'=>e = .returned (.tuple #[])∧∃ F',Cd w' cb b F' (c.kB v).1 E∧w'.cell? ⟨g,o,none⟩=some (.int .u32 ((c.kB v).2.1:Nat))∧w'.cell? ⟨g,o+1,none⟩=some (.int .u32 ((c.kB v).2.2:Nat))∧aw w w' F F' (aH g o 2):=by
 have HN:=ae (bZ c dk [] v.1 cb b g o F E (.slice none 0 0) w h hp0 (hL o) h1 (iV.nil _ w F g E) (by simp only[CS.room] at *;omega))
 have hgl:=(hL o).lt
 have hgF:=(hL o).nF
 have H:=ae hL
 clear h hL
 go_enter Tryz.func129,Tryz.ntmps129
 go_wp2_with fail
 refine(aa HN).mono ?_
 rintro e w1 ⟨rfl,F1,hC1,hc1,hs1⟩
 have HM:=ae (bZ (c.bW dk [] v.1).1 eJ [] v.2 cb b g (o+1) F1 E (.slice none 0 0) w1 hC1 ((hs1.oth g (o+1) hgl hgF (fun h=>by omega)).trans hp1) (((aa H) (o+1)).aV hs1) h2 (iV.nil _ w1 F1 g E) (CS.bc hroom _ _ _))
 have H1:=ae (And.intro hs1 hc1)
 clear hC1 hs1 hc1
 go_wp2_with fail
 refine(aa HM).mono ?_
 rintro e w2 ⟨rfl,F2,hC2,hc2,hs2⟩
 have H2:=ae (And.intro hC2 (And.intro ((hs2.oth g o (Nat.lt_of_lt_of_le hgl (aa H1).1.size) ((aa H1).1.nF hgl hgF) (fun h=>by omega)).trans (aa H1).2) (And.intro hc2 (((aa H1).1.mono (P':=aH g o 2) (fun k j _ h=>⟨h.1,by omega,by omega⟩)).trans hs2 (fun k j _ h=>⟨h.1,by omega,by omega⟩)))))
 clear hC2 hc2 hs2
 go_wp2_with fail
 go_end0
 exact⟨rfl,F2,(aa H2).1,(aa H2).2.1,(aa H2).2.2.1,(aa H2).2.2.2⟩
theorem pX {c:CS} {nm:ByteArray} {r:Nat→Nat} {v cb b g o:Nat} {F:Nat→Prop} {E:Nat→Addr} {w w1:World} {fv:Value} {K0:Nat→Prop} (T:TypeId) (h:Cd w cb b F c E) (hp:w.cell? ⟨g,o,none⟩=some (.int .u8 (v:Nat))) (hL:Loc w cb F g o) (hv:v<256) (hF:jC ew w1 K0 fv E r) (hf:Fr (fun _=>False) w w1) (hK:fM w K0) (hroom:c.room 1) :
  Calls Tryz.prog 127 #[.pointer (some ⟨cb,0,none⟩),.string nm,.pointer (some ⟨g,o,none⟩),.slice (some ⟨w1.heap.size,0,none⟩) 1 1] (w1.alloc (.cells #[fv] T)) fun e w'=>e = .returned (.tuple #[])∧∃ F',Cd w' cb b F' (c.fF nm [r] v).1 E∧w'.cell? ⟨g,o,none⟩=some (.int .u8 ((c.fF nm [r] v).2:Nat))∧aw w w' F F' (fun k j=>k=g∧j=o):=by
 have hf2:=hf.trans (aB w1 (.cells #[fv] T)) (fun _ _ h=>h)
 refine(gm c nm [r] v cb b g o F E _ _ (h.aD hf2) ((hf2.cell (p:=⟨g,o,none⟩) hL.lt (fun h=>h)).trans hp) (hL.aD hf2) hv (lD T h hL hF hf hK) hroom).mono ?_
 rintro e w' ⟨rfl,F',hC,hc,hs⟩
 exact⟨rfl,F',hC,hc,(aw.bD hf2 F _).trans hs (fun _ _ _ h=>h)⟩
theorem yw {c:CS} {nm:ByteArray} {r:Nat→Nat} {v cb b g o:Nat} {F:Nat→Prop} {E:Nat→Addr} {w w1:World} {fv:Value} {K0:Nat→Prop} (T:TypeId) (h:Cd w cb b F c E) (hp:w.cell? ⟨g,o,none⟩=some (.int .u32 (v:Nat))) (hL:Loc w cb F g o) (hv:v<4294967296) (hF:jC eC w1 K0 fv E r) (hf:Fr (fun _=>False) w w1) (hK:fM w K0) (hroom:c.room 1) :
  Calls Tryz.prog 130 #[.pointer (some ⟨cb,0,none⟩),.string nm,.pointer (some ⟨g,o,none⟩),.slice (some ⟨w1.heap.size,0,none⟩) 1 1] (w1.alloc (.cells #[fv] T)) fun e w'=>e = .returned (.tuple #[])∧∃ F',Cd w' cb b F' (c.bW nm [r] v).1 E∧w'.cell? ⟨g,o,none⟩=some (.int .u32 ((c.bW nm [r] v).2:Nat))∧aw w w' F F' (fun k j=>k=g∧j=o):=by
 have hf2:=hf.trans (aB w1 (.cells #[fv] T)) (fun _ _ h=>h)
 refine(bZ c nm [r] v cb b g o F E _ _ (h.aD hf2) ((hf2.cell (p:=⟨g,o,none⟩) hL.lt (fun h=>h)).trans hp) (hL.aD hf2) hv (lD T h hL hF hf hK) hroom).mono ?_
 rintro e w' ⟨rfl,F',hC,hc,hs⟩
 exact⟨rfl,F',hC,hc,(aw.bD hf2 F _).trans hs (fun _ _ _ h=>h)⟩
def CS.qL (c:CS) (v:Nat):CS × Nat:=c.fF fY [bI 0 10 5] v
theorem ri (c:CS) (v cb b g o:Nat) (F:Nat→Prop) (E:Nat→Addr) (w:World) (h:Cd w cb b F c E) (hp:w.cell? ⟨g,o,none⟩=some (.int .u8 (v:Nat))) (hL:Loc w cb F g o) (hv:v<256) (hroom:c.room 1) :
  Calls Tryz.prog 137 #[.pointer (some ⟨cb,0,none⟩),.pointer (some ⟨g,o,none⟩)] w fun e w'=>e = .returned (.tuple #[])∧∃ F',Cd w' cb b F' (c.qL v).1 E∧w'.cell? ⟨g,o,none⟩=some (.int .u8 ((c.qL v).2:Nat))∧aw w w' F F' (fun k j=>k=g∧j=o):=by
 have k5:=h.g7.k5
 have hl5:=ab k5
 have hsf:=cZ
 have HW:=ae (dW 0 10 5 E w (by decide))
 have HX:=ae (And.intro h (And.intro hp hL))
 clear h hp hL
 go_enter Tryz.func137,Tryz.ntmps137
 go_wp2_with fail
 refine(aa HW).mono ?_
 rintro e w1 ⟨fv,rfl,K0,hF,hf,hK⟩
 have HN:=ae (pX (nm:=fY) (241) (aa HX).1 (aa HX).2.1 (aa HX).2.2 hv hF hf hK hroom)
 obtain⟨Fc,caps,rfl,_⟩:=hF.ex
 clear hF hf hK
 go_wp2_with fail
 refine(aa HN).mono ?_
 rintro e w' ⟨rfl,hr⟩
 have HR:=ae hr
 clear hr
 go_wp2_with fail
 go_end0
 exact⟨rfl,aa HR⟩
def aW (op:Nat):Nat × Nat × Nat × Nat × Int × Int × Nat:=
 if op=1 then (0,0,4294967295,4294967295,32,0,2) else if op=2 then (4294967295,4294967295,0,0,32,0,3) else if op=3∨op=4 then (4294967295,4294967295,0,0,0,0,0)
 else if op=5 then (4294967295,0,0,0,0,0,0) else if op=6 then (4294967295,1,0,0,0,0,0) else if op=7 then (4294967295,0,0,0,0,64,0) else (0,0,0,0,0,0,0)
def eO (op:Nat):Array Value:=#[.int .u32 ((aW op).1:Nat),.int .u32 ((aW op).2.1:Nat),.int .u32 ((aW op).2.2.1:Nat),.int .u32 ((aW op).2.2.2.1:Nat),.int .i64 (aW op).2.2.2.2.1,.int .i64 (aW op).2.2.2.2.2.1,.int .u8 ((aW op).2.2.2.2.2.2:Nat)]
theorem tW (w:World):Calls Tryz.prog 131 #[.int .u8 1] w fun e w'=>e = .returned (.agg (eO 1))∧Fr (fun _=>False) w w':=by
 go_enter Tryz.func131,Tryz.ntmps131
 go_wp2_with fail
 exact bodyPost_ret (v:=.agg (eO 1)) (by simp[results,Tryz.results131,go_sem,eO,aW]) rfl ⟨rfl,by first|exact aB _ _|exact(aB _ _).setCell (.inr (Nat.le_refl _)) _⟩
theorem tM (w:World):Calls Tryz.prog 131 #[.int .u8 2] w fun e w'=>e = .returned (.agg (eO 2))∧Fr (fun _=>False) w w':=by
 go_enter Tryz.func131,Tryz.ntmps131
 go_wp2_with fail
 exact bodyPost_ret (v:=.agg (eO 2)) (by simp[results,Tryz.results131,go_sem,eO,aW]) rfl ⟨rfl,by first|exact aB _ _|exact(aB _ _).setCell (.inr (Nat.le_refl _)) _⟩
theorem uL (w:World):Calls Tryz.prog 131 #[.int .u8 3] w fun e w'=>e = .returned (.agg (eO 3))∧Fr (fun _=>False) w w':=by
 go_enter Tryz.func131,Tryz.ntmps131
 go_wp2_with fail
 exact bodyPost_ret (v:=.agg (eO 3)) (by simp[results,Tryz.results131,go_sem,eO,aW]) rfl ⟨rfl,by first|exact aB _ _|exact(aB _ _).setCell (.inr (Nat.le_refl _)) _⟩
theorem uj (w:World):Calls Tryz.prog 131 #[.int .u8 4] w fun e w'=>e = .returned (.agg (eO 4))∧Fr (fun _=>False) w w':=by
 go_enter Tryz.func131,Tryz.ntmps131
 go_wp2_with fail
 exact bodyPost_ret (v:=.agg (eO 4)) (by simp[results,Tryz.results131,go_sem,eO,aW]) rfl ⟨rfl,by first|exact aB _ _|exact(aB _ _).setCell (.inr (Nat.le_refl _)) _⟩
theorem vg (w:World):Calls Tryz.prog 131 #[.int .u8 5] w fun e w'=>e = .returned (.agg (eO 5))∧Fr (fun _=>False) w w':=by
 go_enter Tryz.func131,Tryz.ntmps131
 go_wp2_with fail
 exact bodyPost_ret (v:=.agg (eO 5)) (by simp[results,Tryz.results131,go_sem,eO,aW]) rfl ⟨rfl,by first|exact aB _ _|exact(aB _ _).setCell (.inr (Nat.le_refl _)) _⟩
theorem vq (w:World):Calls Tryz.prog 131 #[.int .u8 6] w fun e w'=>e = .returned (.agg (eO 6))∧Fr (fun _=>False) w w':=by
 go_enter Tryz.func131,Tryz.ntmps131
 go_wp2_with fail
 exact bodyPost_ret (v:=.agg (eO 6)) (by simp[results,Tryz.results131,go_sem,eO,aW]) rfl ⟨rfl,by first|exact aB _ _|exact(aB _ _).setCell (.inr (Nat.le_refl _)) _⟩
theorem ug (w:World):Calls Tryz.prog 131 #[.int .u8 7] w fun e w'=>e = .returned (.agg (eO 7))∧Fr (fun _=>False) w w':=by
 go_enter Tryz.func131,Tryz.ntmps131
 go_wp2_with fail
 exact bodyPost_ret (v:=.agg (eO 7)) (by simp[results,Tryz.results131,go_sem,eO,aW]) rfl ⟨rfl,by first|exact aB _ _|exact(aB _ _).setCell (.inr (Nat.le_refl _)) _⟩
theorem rk (op:Nat) (w:World) (h:op=0∨7<op):Calls Tryz.prog 131 #[.int .u8 (op:Nat)] w fun e w'=>e = .returned (.agg (eO op))∧Fr (fun _=>False) w w':=by
 have h1:((op:Int) == 1)=false:=by simp;omega
 have k1:¬ op=1:=by omega
 have h2:((op:Int) == 2)=false:=by simp;omega
 have k2:¬ op=2:=by omega
 have h3:((op:Int) == 3)=false:=by simp;omega
 have k3:¬ op=3:=by omega
 have h4:((op:Int) == 4)=false:=by simp;omega
 have k4:¬ op=4:=by omega
 have h5:((op:Int) == 5)=false:=by simp;omega
 have k5:¬ op=5:=by omega
 have h6:((op:Int) == 6)=false:=by simp;omega
 have k6:¬ op=6:=by omega
 have h7:((op:Int) == 7)=false:=by simp;omega
 have k7:¬ op=7:=by omega
 go_enter Tryz.func131,Tryz.ntmps131
 go_wp2_with fail
 exact bodyPost_ret (v:=.agg (eO op)) (by simp[results,Tryz.results131,go_sem,eO,aW,k1,k2,k3,k4,k5,k6,k7]) rfl ⟨rfl,by first|exact aB _ _|exact(aB _ _).setCell (.inr (Nat.le_refl _)) _⟩
theorem qs (op:Nat) (w:World):Calls Tryz.prog 131 #[.int .u8 (op:Nat)] w fun e w'=>e = .returned (.agg (eO op))∧Fr (fun _=>False) w w':=by
 by_cases h:op=0∨7<op
 ·exact rk op w h
 ·rcases(by omega:op=1∨op=2∨op=3∨op=4∨op=5∨op=6∨op=7) with rfl|rfl|rfl|rfl|rfl|rfl|rfl
  ·exact tW w
  ·exact tM w
  ·exact uL w
  ·exact uj w
  ·exact vg w
  ·exact vq w
  ·exact ug w
structure cA where
 name:ByteArray
 kind:Nat
 text:ByteArray
 value:Nat
 unit:Nat
def cA.vs (f:cA):List Value:=[.string f.name,.int .u8 (f.kind:Nat),.string f.text,.float .f32 f.value,.int .u8 (f.unit:Nat)]
structure cA.ok (f:cA):Prop where
 name:f.name.size<9223372036854775808
 kind:f.kind<256
 text:f.text.size<9223372036854775808
 value:f.value<4294967296
 unit:f.unit<256
def cA.beside (f:cA):Bool:=decide ((f.kind≠1∧f.text.toList≠[])∨(f.kind≠2∧(f.value≠0∨f.unit≠0)))
theorem vz (v:Nat) (w:World):(callFunc 119 #[.float .f32 v]).run Tryz.prog w = .ok (.value (.int .u32 v)) w:=by kernel_rfl
theorem lg (f:cA) (w:World) (h:f.ok):Calls Tryz.prog 174 #[.agg #[.string f.name,.int .u8 (f.kind:Nat),.string f.text,.float .f32 f.value,.int .u8 (f.unit:Nat)]] w fun e w'=>e = .returned (.bool f.beside)∧Fr (fun _=>False) w w':=by
 obtain⟨nm,kd,tx,vl,un⟩:=f
 obtain⟨h1,h2,h3,h4,h5⟩:=h
 simp only at *
 have hfb:=vz
 rcases(by omega:kd=1∨kd=2∨(kd≠1∧kd≠2)) with rfl|rfl|⟨n1,n2⟩
 ·go_enter Tryz.func174,Tryz.ntmps174
  go_wp2_with fail
  all_goals
   go_ret
   refine⟨?_,?_⟩
   ·clear hfb
    by_cases hun:un=0
    ·subst hun
     simp_all [cA.beside]
    ·have hun':((un:Int) != 0)=true:=by simp;omega
     simp_all [cA.beside]
   ·first
     | exact aB _ _
     | exact(aB _ _).setCell (.inr (Nat.le_refl _)) _
     | exact((aB _ _).setCell (.inr (Nat.le_refl _)) _).setCell (.inr (Nat.le_refl _)) _
 ·go_enter Tryz.func174,Tryz.ntmps174
  go_wp2_with fail
  all_goals
   go_ret
   refine⟨?_,?_⟩
   ·clear hfb
    by_cases hun:un=0
    ·subst hun
     simp_all [cA.beside]
    ·have hun':((un:Int) != 0)=true:=by simp;omega
     simp_all [cA.beside]
   ·first
     | exact aB _ _
     | exact(aB _ _).setCell (.inr (Nat.le_refl _)) _
     | exact((aB _ _).setCell (.inr (Nat.le_refl _)) _).setCell (.inr (Nat.le_refl _)) _
 ·have m1:((kd:Int) == 1)=false:=by simp;omega
  have m2:((kd:Int) == 2)=false:=by simp;omega
  go_enter Tryz.func174,Tryz.ntmps174
  go_wp2_with fail
  all_goals
   go_ret
   refine⟨?_,?_⟩
   ·clear hfb
    by_cases hun:un=0
    ·subst hun
     simp_all [cA.beside]
    ·have hun':((un:Int) != 0)=true:=by simp;omega
     simp_all [cA.beside]
   ·first
     | exact aB _ _
     | exact(aB _ _).setCell (.inr (Nat.le_refl _)) _
     | exact((aB _ _).setCell (.inr (Nat.le_refl _)) _).setCell (.inr (Nat.le_refl _)) _
theorem bq {α:Type} : (∀ (l:List α) (i:Nat) (h:i<l.toArray.size),l.toArray[i]'h=l[i]'(by simpa using h))∧(∀ (a:α) (l:List α) (h:0<(a::l).length),(a::l)[0]'h=a)∧(∀ (a:α) (l:List α) (i:Nat) (h:i+1<(a::l).length),(a::l)[i+1]'h=l[i]'(by simpa using h))∧(∀ (l:List α) (i:Nat) (v:α),l.toArray.setIfInBounds i v=(l.set i v).toArray)∧(∀ (a b:α) (l:List α),(a::l).set 0 b=b::l)∧(∀ (a b:α) (l:List α) (i:Nat),(a::l).set (i+1) b=a::l.set i b):=
 ⟨fun _ _ _=>rfl,fun _ _ _=>rfl,fun _ _ _ _=>rfl,fun _ _ _=>List.setIfInBounds_toArray ..,fun _ _ _=>rfl,fun _ _ _ _=>rfl⟩
theorem cD {P:Program} {md:Region.Mode} {ops:Array Oper} {Q:Exit→Act→World→Prop} {S:World→Prop} {i:Nat} {oi:Oper} {v:Value} {fuel:Nat} {listed:Array Bool} {a:Act} {w:World} (hi:ops[i]?=some oi) (hy:YieldsIf P ops S oi v a) (hS:S w)
  (h:wpAnyH P md ops Q S fuel (listed.setIfInBounds i true) (a.put oi.dst v) w) (hs:Region.noSelect ops=true:=by kernel_rfl) (hf:Region.free md ops listed i=true:=by kernel_rfl) (hr:(Region.ready md ops listed).contains i=true:=by kernel_rfl) (hQ:∀ c a w,Q (.panic c) (a.put oi.dst v) w→Q (.panic c) a w:=by exact fun _ _ _ h=>h):wpAnyH P md ops Q S (fuel+1) listed a w:=wpAnyH_take hi hs hf hr hQ hy hS h
theorem ko {P:Program} {md:Region.Mode} {ops:Array Oper} {Q:Exit→Act→World→Prop} {S:World→Prop} {i:Nat} {oi:Oper} {v:Value} {fuel:Nat} {listed:Array Bool} {a:Act} {w:World} (hi:ops[i]?=some oi) (hS:S w)
  (h:wpAnyH P md ops Q S fuel (listed.setIfInBounds i true) (a.put oi.dst v) w) (hy:YieldsIf P ops S oi v a:=by refine Or.inl ⟨by rfl,?_⟩;intro w hSw;(try dsimp only at hSw);go_simp;(try with_reducible rfl)) (hs:Region.noSelect ops=true:=by kernel_rfl) (hf:Region.free md ops listed i=true:=by kernel_rfl) (hr:(Region.ready md ops listed).contains i=true:=by kernel_rfl) (hQ:∀ c a w,Q (.panic c) (a.put oi.dst v) w→Q (.panic c) a w:=by exact fun _ _ _ h=>h):wpAnyH P md ops Q S (fuel+1) listed a w:=wpAnyH_take hi hs hf hr hQ hy hS h
section
variable {P:Program} {ops:Array Oper} {Q:Exit→Act→World→Prop} {md:Region.Mode} {S:World→Prop}
theorem Oper.A0 {o:Oper} {a:Act} {w:World} {K:Act→World→Prop} {Q1 Q2:Exit→Act→World→Prop} (hp:∀ e a w,e≠Exit.normal→Q1 e a w→Q2 e a w) (hh:o.wp P a w K Q1):o.wp P a w K Q2:=by
 have hl:LetsOut Q1→LetsOut Q2:=fun ⟨a,w,h⟩=>⟨a,w,hp _ _ _ (by intro h;cases h) h⟩
 unfold Oper.wp at *
 generalize (execOp a.eval o).run P w=r at *
 cases r with
 | ok n w' =>
  cases n <;> simp only[Oper.upon] at hh ⊢ <;>
   first
    | exact hh
    | exact Calls.mono hh (fun e w'' he=>by cases e <;> first|exact he|exact hp _ _ _ (by intro h;cases h) he|exact hl he)
 | halt x w'=>cases x <;> simp only[Oper.upon] at hh ⊢ <;> first|exact hh|exact hp _ _ _ (by intro h;cases h) hh
theorem y9 {Q1 Q2:Exit→Act→World→Prop} (hp:∀ e a w,e≠Exit.normal→Q1 e a w→Q2 e a w) {i:Nat} {K:Act→World→Prop} {a:Act} {w:World} (h:wpOp P ops Q1 i K a w):wpOp P ops Q2 i K a w:=by
 have hl:LetsOut Q1→LetsOut Q2:=fun ⟨a,w,h⟩=>⟨a,w,hp _ _ _ (by intro h;cases h) h⟩
 unfold wpOp at *
 split
 ·simpa[*] using h
 ·rename_i o ho
  simp only[ho] at h
  split
  ·rename_i hw
   simp only[hw,if_true] at h
   exact h.imp (Oper.A0 hp) (fun ⟨h1,h2⟩=>⟨h1,hl h2⟩)
  ·rename_i hw
   simp only[hw] at h
   exact h
def fU (P:Program) (om:Oper) (Q:Exit→Act→World→Prop):Exit→Act→World→Prop
 | .normal,a,w=>om.wp P a w (fun a' w'=>Q .normal a' w') Q
 | e,a,w=>Q e a w
def ml (md:Region.Mode) (ops:Array Oper):Nat→Nat→Nat→Bool
 | 0,_,_=>false
 | n+1,i,j=>match ops[i]? with
  | some o=>o.after.any fun e=>Region.binds md e && (e.on == j || ml md ops n e.on j)
  | none=>false
def Di (md:Region.Mode) (ops:Array Oper) (m:Nat):Bool:=(List.range ops.size).all fun j=>j == m || ml md ops 9 m j
def Dt (ops:Array Oper):Bool:=(List.range ops.size).all fun j=>match ops[j]? with
 | some o=>o.after.all fun e=>decide (e.on<j)
 | none=>true
theorem wW {om:Oper} : ∀ (e:Exit) (a:Act) (w:World),e≠Exit.normal→fU P om Q e a w→Q e a w:=fun e a w hn h=>by
 cases e <;> first|exact absurd rfl hn|exact h
theorem xe {l:Array Bool} {j:Nat} (h:l.getD j true=false):l.getD j false=false:=by
 rcases Nat.lt_or_ge j l.size with hj|hj
 ·simp[hj] at h ⊢;exact h
 ·simp[Array.getElem?_eq_none hj] at h
def oK (md:Region.Mode) (ops:Array Oper) (l:Array Bool):Prop:=∀ j oj,ops[j]?=some oj→l.getD j false=true→∀ e∈oj.after,Region.binds md e=true→l.getD e.on false=true
theorem oK.set {l:Array Bool} (h:oK md ops l) {i:Nat} (hi:i∈Region.ready md ops l):oK md ops (l.setIfInBounds i true):=fun j oj hj hl e he hb=>by
 by_cases hji:j=i
 ·subst hji
  obtain⟨_,o,ho,h1⟩:=mem_ready.1 hi
  rw[hj] at ho
  cases ho
  exact getD_set_true (h1 e he hb)
 ·rw[getD_set_ne false (Ne.symm hji)] at hl
  exact getD_set_true (h j oj hj hl e he hb)
theorem j8 {l:Array Bool} (h:oK md ops l):∀ (n i j:Nat) (o:Oper),ops[i]?=some o→(∀ e∈o.after,Region.binds md e=true→l.getD e.on false=true)→ml md ops n i j=true→l.getD j false=true
 | 0,_,_,_,_,_,hr=>by cases hr
 | n+1,i,j,o,ho,hd,hr=>by
  simp only[ml,ho] at hr
  obtain⟨e,he,hb⟩:=Array.any_eq_true'.1 hr
  simp only[Bool.and_eq_true,Bool.or_eq_true,beq_iff_eq] at hb
  have h6:=hd e he hb.1
  rcases hb.2 with h7|h7
  ·rw[← h7];exact h6
  ·cases ho2:ops[e.on]? with
   | none =>
    cases n with
    | zero=>cases h7
    | succ n=>simp only[ml,ho2] at h7;cases h7
   | some o2=>exact j8 h n e.on j o2 ho2 (fun e2 he2 hb2=>h e.on o2 ho2 h6 e2 he2 hb2) h7
theorem qN {m:Nat} {om:Oper} (hm:ops[m]?=some om) (hgd:om.guard=none) (hcov:Di md ops m=true) (hord:Dt ops=true) :
  ∀ (fuel:Nat) (listed:Array Bool) (a:Act) (w:World),listed.size=ops.size→oK md ops listed→listed.getD m true=false→wpAnyH P md ops (fU P om Q) S fuel (listed.setIfInBounds m true) a w→wpAny P md ops Q (fuel+1) listed a w:=by
 have hne:∀ listed:Array Bool,listed.size=ops.size→listed.getD m true=false→Region.ready md ops listed≠[]:=fun listed hsz hun h0=>by
  have hall:∀ j,listed.getD j true=true:=fun j=>by
   induction j using Nat.strongRecOn with
   | _ j ih =>
    cases hj:listed.getD j true with
    | true=>rfl
    | false =>
     have hjl:j<ops.size:=by
      rcases Nat.lt_or_ge j listed.size with h|h
      ·omega
      ·simp[Array.getElem?_eq_none h] at hj
     have hr:j∈Region.ready md ops listed:=mem_ready.2 ⟨hj,ops[j],Array.getElem?_eq_getElem hjl,fun e he _=>by
      have h1:=List.all_eq_true.1 hord j (List.mem_range.2 hjl)
      rw[Array.getElem?_eq_getElem hjl] at h1
      have h2:=of_decide_eq_true (Array.all_eq_true_iff_forall_mem.1 h1 e he)
      have h3:=ih e.on h2
      have h4:e.on<listed.size:=by omega
      simp[h4] at h3 ⊢
      exact h3⟩
     rw[h0] at hr
     cases hr
  rw[hall m] at hun
  cases hun
 have hend:∀ listed:Array Bool,oK md ops listed→m∈Region.ready md ops listed→Region.ready md ops (listed.setIfInBounds m true)=[]:=fun listed hsh hr=>by
  apply List.eq_nil_iff_forall_not_mem.2
  intro k hk
  obtain⟨h1,ok,hok,_⟩:=mem_ready.1 hk
  obtain⟨h3,om',hom',h4⟩:=mem_ready.1 hr
  rw[hm] at hom'
  cases hom'
  have hkl:k<ops.size:=(Array.getElem?_eq_some_iff.1 hok).1
  by_cases hkm:k=m
  ·subst hkm
   rcases Nat.lt_or_ge k listed.size with h|h
   ·simp[h] at h1
   ·simp[Array.getElem?_eq_none h] at h3
  ·rw[getD_set_ne true (Ne.symm hkm)] at h1
   have h5:=List.all_eq_true.1 hcov k (List.mem_range.2 hkl)
   simp only[Bool.or_eq_true,beq_iff_eq,hkm,false_or] at h5
   have h8:=j8 hsh 9 m k om hm (fun e he hb=>h4 e he hb) h5
   rw[xe h1] at h8
   cases h8
 have hop:∀ (K:Act→World→Prop) (a:Act) (w:World),om.wp P a w K Q→wpOp P ops Q m K a w:=fun K a w h=>by
  unfold wpOp
  have hw:Region.wanted om (yielded ops a.tmps)=true:=by simp[Region.wanted,hgd]
  simp only[hm,hw,if_true]
  exact .inl h
 intro fuel
 induction fuel with
 | zero =>
  intro listed a w hsz hsh hun H
  refine⟨fun h0=>absurd h0 (hne listed hsz hun),fun j hj=>?_⟩
  by_cases hjm:j=m
  ·subst hjm
   exact hop _ a w (Oper.wp_mono (fun a' w' h=>⟨hend listed hsh hj,h⟩) H.2)
  ·have:=ready_mono hj hjm
   rw[H.1] at this
   cases this
 | succ fuel ih =>
  intro listed a w hsz hsh hun H
  refine⟨fun h0=>absurd h0 (hne listed hsz hun),fun j hj=>?_⟩
  by_cases hjm:j=m
  ·subst hjm
   exact hop _ a w (Oper.wp_mono (fun a' w' h=>⟨fun _=>h,by rw[hend listed hsh hj];simp⟩) (H.1 (hend listed hsh hj)))
  ·refine wpOp_mono (fun a' w' h=>ih (listed.setIfInBounds j true) a' w' (by simpa using hsz) (hsh.set hj) (by rw[getD_set_ne true hjm];exact hun) ?_) (y9 wW (H.2 j (ready_mono hj hjm)))
   rw[Array.setIfInBounds_comm _ _ hjm]
   exact h.2
theorem bE {id n m:Nat} {om:Oper} {a:Act} {w:World} (hP:P.follows .mixedOrders=true) (hn:ops.size=n+1) (hm:ops[m]?=some om) (hgd:om.guard=none) (hcov:Di .any ops m=true) (hord:Dt ops=true) (hS:S w.drew)
  (h:S w.drew→wpAnyH P .any ops (fU P om Q) S n ((Array.replicate ops.size false).setIfInBounds m true) a w.drew):(Code.region id ops true).wp P Q a w:=by
 refine wp_region_any hP ?_
 rw[hn]
 have hml:m<ops.size:=(Array.getElem?_eq_some_iff.1 hm).1
 have h1:=h hS
 rw[hn] at h1
 have hml2:m<n+1:=by omega
 exact qN hm hgd hcov hord n (Array.replicate (n+1) false) a w.drew (by simp[hn]) (fun j oj _ hl=>by
  rcases Nat.lt_or_ge j (n+1) with h3|h3 <;> simp[h3] at hl) (by simp[hml2]) h1
end
theorem wO (w:World):Calls Tryz.prog 176 #[] w fun e w'=>e = .returned (.int .i64 21)∧Fr (fun _=>False) w w':=by
 go_enter Tryz.func176,Tryz.ntmps176
 go_wp2_with fail
 go_ret
 exact⟨rfl,Fr.refl _ _⟩
theorem fM.mono {w w1:World} {K:Nat→Prop} (h:fM w1 K) (hs:w.heap.size≤w1.heap.size):fM w K:=fun k hk=>(h k hk).imp (fun h=>by omega) id
def RR {α:Type} (en:World→Value→α→Prop) (w w':World) (E:Nat→Addr) (fv:Value) (r:α→Nat):Prop:=∃ K0,jC en w' K0 fv E r∧fM w K0
theorem RR.fr {α:Type} {en:World→Value→α→Prop} {w w1 w':World} {E:Nat→Addr} {fv:Value} {r:α→Nat} (h:RR en w w1 E fv r) (hf:Fr (fun _=>False) w1 w'):RR en w w' E fv r:=by
 obtain⟨K0,h1,h2⟩:=h
 exact⟨K0,h1.mono (fun k hk=>hf.block k (h1.lt k hk) (fun h=>h)) (fun _ h=>h) (fun k hk=>Nat.lt_of_lt_of_le (h1.lt k hk) hf.size),h2⟩
theorem lV {α:Type} {en:World→Value→α→Prop} {w w1:World} {cb b g i:Nat} {F:Nat→Prop} {c:CS} {E:Nat→Addr} {r1:α→Nat} {f1:Value} (T:TypeId) (h:Cd w cb b F c E) (hL:Loc w cb F g i) (hf:Fr (fun _=>False) w w1) (h1:RR en w w1 E f1 r1) :
  iV en (w1.alloc (.cells #[f1] T)) F g (.slice (some ⟨w1.heap.size,0,none⟩) 1 1) E [r1]:=by
 obtain⟨K1,hF1,hK1⟩:=h1
 exact lD T h hL hF1 hf hK1
theorem vJ {α:Type} {en:World→Value→α→Prop} {w w1:World} {cb b g i:Nat} {F:Nat→Prop} {c:CS} {E:Nat→Addr} {r1 r2:α→Nat} {f1 f2:Value} (T:TypeId) (h:Cd w cb b F c E) (hL:Loc w cb F g i) (hf:Fr (fun _=>False) w w1) (h1:RR en w w1 E f1 r1) (h2:RR en w w1 E f2 r2) :
  iV en (w1.alloc (.cells #[f1,f2] T)) F g (.slice (some ⟨w1.heap.size,0,none⟩) 2 2) E [r1,r2]:=by
 have hb:=aB w1 (.cells #[f1,f2] T)
 obtain⟨K1,hF1,hK1⟩:=h1
 obtain⟨K2,hF2,hK2⟩:=h2
 have hlt:∀ k,(K1 k∨K2 k∨k=w1.heap.size)→k<(w1.alloc (.cells #[f1,f2] T)).heap.size:=fun k hk=>by
  rcases hk with hk|hk|rfl
  ·exact Nat.lt_of_lt_of_le (hF1.lt k hk) hb.size
  ·exact Nat.lt_of_lt_of_le (hF2.lt k hk) hb.size
  ·simp
 refine⟨⟨fun k=>K1 k∨K2 k∨k=w1.heap.size,⟨hlt,⟨_,_,rfl⟩,fun _ _ _ e=>.inr ⟨w1.heap.size,0,by cases e;rfl⟩,fun xo n c' e j r' hr=>?_⟩,fun k hk=>?_⟩,by simp⟩
 ·have ex:xo=some ⟨w1.heap.size,0,none⟩:=by cases e;rfl
  rcases j with _|_|j
  ·obtain rfl:r1=r':=by simpa using hr
   exact⟨w1.heap.size,0,f1,ex,.inr (.inr rfl),by simp,hF1.mono (fun k hk=>hb.block k (hF1.lt k hk) (fun h=>h)) (fun _ h=>.inl h) hlt⟩
  ·obtain rfl:r2=r':=by simpa using hr
   exact⟨w1.heap.size,0,f2,ex,.inr (.inr rfl),by simp,hF2.mono (fun k hk=>hb.block k (hF2.lt k hk) (fun h=>h)) (fun _ h=>.inr (.inl h)) hlt⟩
  ·simp at hr
 ·rcases hk with hk|hk|rfl
  ·exact fG h hL hK1 k hk
  ·exact fG h hL hK2 k hk
  ·have h1:=hf.size
   have h2:=hL.lt
   exact⟨fun hx=>by have:=h.lt _ hx;omega,by omega⟩
theorem ax {w V:World} (hf:Fr (fun _=>False) w V) {p:Addr} {v:Value} (h:w.cell? p=some v):V.cell? p=some v:=(hf.cell (p:=p) (ab h) (fun h=>h)).trans h
def CS.cY (c:CS) (last:Nat) (f:cA):CS × cA:=
 if (c.fF bj [bI 1 last 5,gQ f.beside] f.kind).2=1 then
  (((c.fF bj [bI 1 last 5,gQ f.beside] f.kind).1.dU dQ 64 [fun v=>dj 0 64 v.size] f.text).1,{ f with kind:=1,text:=((c.fF bj [bI 1 last 5,gQ f.beside] f.kind).1.dU dQ 64 [fun v=>dj 0 64 v.size] f.text).2 })
 else if (c.fF bj [bI 1 last 5,gQ f.beside] f.kind).2=2 then
  ((((c.fF bj [bI 1 last 5,gQ f.beside] f.kind).1.gL cF [] f.value).1.fF dN [bI 1 21 4] f.unit).1,{ f with kind:=2,value:=((c.fF bj [bI 1 last 5,gQ f.beside] f.kind).1.gL cF [] f.value).2,unit:=(((c.fF bj [bI 1 last 5,gQ f.beside] f.kind).1.gL cF [] f.value).1.fF dN [bI 1 21 4] f.unit).2 })
 else ((c.fF bj [bI 1 last 5,gQ f.beside] f.kind).1,{ f with kind:=(c.fF bj [bI 1 last 5,gQ f.beside] f.kind).2 })
structure BU (w:World) (g:Nat) (f:cA):Prop where
 c0:w.cell? ⟨g,0,none⟩=some (.string f.name)
 c1:w.cell? ⟨g,1,none⟩=some (.int .u8 (f.kind:Nat))
 c2:w.cell? ⟨g,2,none⟩=some (.string f.text)
 c3:w.cell? ⟨g,3,none⟩=some (.float .f32 f.value)
 c4:w.cell? ⟨g,4,none⟩=some (.int .u8 (f.unit:Nat))
theorem xN (c:CS) (f:cA) (last cb b g:Nat) (F:Nat→Prop) (E:Nat→Addr) (w:World) (h:Cd w cb b F c E) (hp:BU w g f) (hL:∀ i,Loc w cb F g i) (hf:f.ok) (hroom:c.room 3) :
  Calls Tryz.prog 155 #[.pointer (some ⟨cb,0,none⟩),.pointer (some ⟨g,0,none⟩),.int .u8 (last:Nat)] w fun e w'=>e = .returned (.tuple #[])∧∃ F',Cd w' cb b F' (c.cY last f).1 E∧BU w' g (c.cY last f).2∧(c.cY last f).2.ok∧aw w w' F F' (aH g 0 5):=by
 obtain⟨p0,p1,p2,p3,p4⟩:=hp
 have k5:=h.g7.k5
 have hsf:=cZ
 have HK:=ae (fun (V:World) (hv:Fr (fun _=>False) w V)=>And.intro (ax hv p0) (And.intro (ax hv p1) (And.intro (ax hv p2) (And.intro (ax hv p3) (And.intro (ax hv p4) (ax hv k5))))))
 have H:=ae (And.intro h hL)
 have HN:Hid (∀ (w3:World) (f1 f2:Value) (T:TypeId),Fr (fun _=>False) w w3→RR ew w w3 E f1 (bI 1 last 5)→RR ew w w3 E f2 (gQ f.beside)→Calls Tryz.prog 127 #[.pointer (some ⟨cb,0,none⟩),.string bj,.pointer (some ⟨g,1,none⟩),.slice (some ⟨w3.heap.size,0,none⟩) 2 2] (w3.alloc (.cells #[f1,f2] T)) fun e w'=>e = .returned (.tuple #[])∧∃ F',Cd w' cb b F' (c.fF bj [bI 1 last 5,gQ f.beside] f.kind).1 E∧w'.cell? ⟨g,1,none⟩=some (.int .u8 ((c.fF bj [bI 1 last 5,gQ f.beside] f.kind).2:Nat))∧aw w w' F F' (fun k j=>k=g∧j=1)):=fun w3 f1 f2 T hf3 h1 h2=>by
  have hf2:=hf3.trans (aB w3 (.cells #[f1,f2] T)) (fun _ _ h=>h)
  refine(gm c bj [bI 1 last 5,gQ f.beside] f.kind cb b g 1 F E _ _ (h.aD hf2) (ax hf2 p1) ((hL 1).aD hf2) hf.kind (vJ T h (hL 1) hf3 h1 h2) (by simp only[CS.room] at *;omega)).mono ?_
  rintro e w' ⟨rfl,F',hC,hc,hs⟩
  exact⟨rfl,F',hC,hc,(aw.bD hf2 F _).trans hs (fun _ _ _ h=>h)⟩
 have HR:=ae hroom
 have HF:=ae hf
 have HKU:=ae (CS.gR c bj [bI 1 last 5,gQ f.beside] f.kind hf.kind)
 have HRM:=ae (CS.dD (n:=2) hroom bj [bI 1 last 5,gQ f.beside] f.kind)
 obtain⟨c1,hc1⟩:∃ c1,(c.fF bj [bI 1 last 5,gQ f.beside] f.kind).1=c1:=⟨_,rfl⟩
 obtain⟨kd,hkd⟩:∃ kd,(c.fF bj [bI 1 last 5,gQ f.beside] f.kind).2=kd:=⟨_,rfl⟩
 have HP:Hid (c.cY last f=if kd=1 then ((c1.dU dQ 64 [fun v=>dj 0 64 v.size] f.text).1,{ f with kind:=1,text:=(c1.dU dQ 64 [fun v=>dj 0 64 v.size] f.text).2 }) else if kd=2 then (((c1.gL cF [] f.value).1.fF dN [bI 1 21 4] f.unit).1,{ f with kind:=2,value:=(c1.gL cF [] f.value).2,unit:=((c1.gL cF [] f.value).1.fF dN [bI 1 21 4] f.unit).2 }) else (c1,{ f with kind:=kd })):=by
  rw[← hc1,← hkd]
  rfl
 rw[hc1,hkd] at HN
 rw[hkd] at HKU
 rw[hc1] at HRM
 generalize c.cY last f=r at *
 have hlg:=(hL 0).lt
 have hgF:=(hL 0).nF
 clear h hL hroom hc1 hkd hf k5 p0 p1 p2 p3 p4
 go_enter Tryz.func155,Tryz.ntmps155
 go_wp2_with fail
 refine bE (n:=13) (m:=13) (S:=fun V=>Fr (fun _=>False) w V) (by kernel_rfl) rfl rfl rfl (by kernel_rfl) (by kernel_rfl) ((Fr.refl _ _).drew) (fun hHeld=>?_)
 refine cD (i:=0) (v:=?_) rfl (Or.inl ⟨by rfl,?_⟩) hHeld ?_
 rotate_left
 ·intro V hSw;(try dsimp only at hSw);obtain⟨q0,q1,q2,q3,q4,q5⟩:=(aa HK) V hSw;go_simp;(try with_reducible rfl)
 (try simp only[Act.put,bq])
 refine cD (i:=1) (v:=?_) rfl (Or.inl ⟨by rfl,?_⟩) hHeld ?_
 rotate_left
 ·intro V hSw;(try dsimp only at hSw);obtain⟨q0,q1,q2,q3,q4,q5⟩:=(aa HK) V hSw;go_simp;(try with_reducible rfl)
 (try simp only[Act.put,bq])
 refine cD (i:=2) (v:=?_) rfl (Or.inl ⟨by rfl,?_⟩) hHeld ?_
 rotate_left
 ·intro V hSw;(try dsimp only at hSw);obtain⟨q0,q1,q2,q3,q4,q5⟩:=(aa HK) V hSw;go_simp;(try with_reducible rfl)
 (try simp only[Act.put,bq])
 refine cD (i:=3) (v:=?_) rfl (Or.inl ⟨by rfl,?_⟩) hHeld ?_
 rotate_left
 ·intro V hSw;(try dsimp only at hSw);obtain⟨q0,q1,q2,q3,q4,q5⟩:=(aa HK) V hSw;go_simp;(try with_reducible rfl)
 (try simp only[Act.put,bq])
 refine cD (i:=4) (v:=?_) rfl (Or.inl ⟨by rfl,?_⟩) hHeld ?_
 rotate_left
 ·intro V hSw;(try dsimp only at hSw);obtain⟨q0,q1,q2,q3,q4,q5⟩:=(aa HK) V hSw;go_simp;(try with_reducible rfl)
 (try simp only[Act.put,bq])
 refine cD (i:=5) (v:=?_) rfl (Or.inl ⟨by rfl,?_⟩) hHeld ?_
 rotate_left
 ·intro V hSw;(try dsimp only at hSw);obtain⟨q0,q1,q2,q3,q4,q5⟩:=(aa HK) V hSw;go_simp;(try with_reducible rfl)
 (try simp only[Act.put,bq])
 refine cD (i:=7) (v:=?_) rfl (Or.inl ⟨by rfl,?_⟩) hHeld ?_
 rotate_left
 ·intro V hSw;(try dsimp only at hSw);obtain⟨q0,q1,q2,q3,q4,q5⟩:=(aa HK) V hSw;go_simp;(try with_reducible rfl)
 (try simp only[Act.put,bq])
 refine cD (i:=8) (v:=?_) rfl (Or.inl ⟨by rfl,?_⟩) hHeld ?_
 rotate_left
 ·intro V hSw;(try dsimp only at hSw);obtain⟨q0,q1,q2,q3,q4,q5⟩:=(aa HK) V hSw;go_simp;(try with_reducible rfl)
 (try simp only[Act.put,bq])
 refine cD (i:=9) (v:=?_) rfl (Or.inl ⟨by rfl,?_⟩) hHeld ?_
 rotate_left
 ·intro V hSw;(try dsimp only at hSw);obtain⟨q0,q1,q2,q3,q4,q5⟩:=(aa HK) V hSw;go_simp;(try with_reducible rfl)
 (try simp only[Act.put,bq])
 refine wpAnyH_ready (rs:=[6]) (by kernel_rfl) (by simp) (AllReadyH.cons rfl (fun K hK=>?_) AllReadyH.nil)
 go_simp
 refine(dW 1 last 5 E _ (by decide)).mono ?_
 rintro e w1 ⟨fv1,rfl,K1,hF1,hf1,hK1⟩
 have H1:=ae (And.intro (show RR ew w w1 E fv1 (bI 1 last 5) from⟨K1,hF1,hK1.mono (Nat.le_refl _)⟩) ((Fr.refl _ _).drew.trans hf1 (fun _ _ h=>h)))
 obtain⟨Fc1,caps1,rfl,_⟩:=hF1.ex
 clear hF1 hf1 hK1
 go_simp
 refine hK.out _ _ ((aa H1).2) (fun hHeld=>?_)
 clear hK K
 (try simp only[Act.put,bq])
 refine wpAnyH_ready (rs:=[10]) (by kernel_rfl) (by simp) (AllReadyH.cons rfl (fun K hK=>?_) AllReadyH.nil)
 go_simp
 refine(lg f _ (aa HF)).mono ?_
 rintro e w2 ⟨rfl,hf2⟩
 have H2:=ae (And.intro ((aa H1).1.fr hf2) ((aa H1).2.trans hf2 (fun _ _ h=>h)))
 clear hf2 H1
 go_simp
 refine hK.out _ _ ((aa H2).2) (fun hHeld=>?_)
 clear hK K
 (try simp only[Act.put,bq])
 refine wpAnyH_ready (rs:=[11]) (by kernel_rfl) (by simp) (AllReadyH.cons rfl (fun K hK=>?_) AllReadyH.nil)
 go_simp
 refine(mc f.beside E _ ((aa H).1.g7.fr (aa H2).2 (fun _ h=>h.elim))).mono ?_
 rintro e w3 ⟨fv3,rfl,K3,hF3,hf3,hK3⟩
 have H3:=ae (And.intro ((aa H2).1.fr hf3) (And.intro (show RR ew w w3 E fv3 (gQ f.beside) from⟨K3,hF3,hK3.mono (aa H2).2.size⟩) ((aa H2).2.trans hf3 (fun _ _ h=>h))))
 obtain⟨Fc3,caps3,rfl,_⟩:=hF3.ex
 clear hF3 hf3 hK3 H2
 go_simp
 refine hK.out _ _ ((aa H3).2.2) (fun hHeld=>?_)
 clear hK K
 (try simp only[Act.put,bq])
 refine wpAnyH_ready (rs:=[12]) (by kernel_rfl) (by simp) (AllReadyH.cons rfl (fun K hK=>?_) AllReadyH.nil)
 go_simp
 refine hK.out _ _ ((aa H3).2.2.alloc _) (fun hHeld=>?_)
 clear hK K
 (try simp only[Act.put,bq])
 refine wpAnyH_done (by kernel_rfl) ?_ _
 simp only[fU]
 go_simp
 refine((aa HN) w3 _ _ _ (aa H3).2.2 (aa H3).1 (aa H3).2.1).mono ?_
 rintro e w4 ⟨rfl,F4,hC4,hk4,hs4⟩
 obtain⟨p0,p1,p2,p3,p4,k5⟩:=(aa HK) w (Fr.refl _ _)
 have r0:w4.cell? ⟨g,0,none⟩=some (.string f.name):=(hs4.oth g 0 hlg hgF (fun h=>by omega)).trans p0
 have r2:w4.cell? ⟨g,2,none⟩=some (.string f.text):=(hs4.oth g 2 hlg hgF (fun h=>by omega)).trans p2
 have r3:w4.cell? ⟨g,3,none⟩=some (.float .f32 f.value):=(hs4.oth g 3 hlg hgF (fun h=>by omega)).trans p3
 have r4:w4.cell? ⟨g,4,none⟩=some (.int .u8 (f.unit:Nat)):=(hs4.oth g 4 hlg hgF (fun h=>by omega)).trans p4
 have hL4:=fun i=>((aa H).2 i).aV hs4
 have hku:=aa HKU
 have H4:=ae (And.intro hC4 (And.intro hk4 (And.intro hs4 (And.intro r0 (And.intro r2 (And.intro r3 (And.intro r4 hL4)))))))
 clear hC4 hs4 hL4 r0 r2 r3 r4 p0 p1 p2 p3 p4 k5 H3 HN HKU hsf
 by_cases k1:kd=1
 ·subst k1
  have hr:=aa HP
  rw[if_pos rfl] at hr
  have HP1:=ae hr
  clear hr HP
  obtain⟨hC4,_,hs4,r0,r2,r3,r4,hL4⟩:=aa H4
  have HT:=ae (qt c1 dQ 0 64 [] f.text cb b g 2 F4 E (.slice none 0 0) w4 hC4 r2 (hL4 2) (aa HF).text (by decide) (iV.nil _ w4 F4 g E) (by decide) (by have:=aa HRM;simp only[CS.room] at *;omega))
  clear hC4 hs4 r0 r2 r3 r4 hL4
  go_wp2_with fail
  refine(aa HT).mono ?_
  rintro e w5 ⟨rfl,F5,hC5,hc5,hs5⟩
  obtain⟨hC4,hk4',hs4,r0,r2,r3,r4,hL4⟩:=aa H4
  have hlg4:=(hL4 0).lt
  have hgF4:=(hL4 0).nF
  have hr:=aa HP1
  have HE:Hid (Cd w5 cb b F5 r.1 E∧BU w5 g r.2∧r.2.ok∧aw w w5 F F5 (aH g 0 5)):=by
   rw[hr]
   exact⟨hC5,⟨(hs5.oth g 0 hlg4 hgF4 (fun h=>by omega)).trans r0,(hs5.oth g 1 hlg4 hgF4 (fun h=>by omega)).trans hk4',hc5,(hs5.oth g 3 hlg4 hgF4 (fun h=>by omega)).trans r3,(hs5.oth g 4 hlg4 hgF4 (fun h=>by omega)).trans r4⟩,⟨(aa HF).name,(by decide:(1:Nat)<256),CS.vC hC4 _ _ _ _ (aa HF).text,(aa HF).value,(aa HF).unit⟩,(hs4.mono (fun k j _ h=>⟨h.1,by omega,by omega⟩)).trans hs5 (fun k j _ h=>⟨h.1,by omega,by omega⟩)⟩
  clear hC4 hk4' hs4 r0 r2 r3 r4 hL4 hC5 hc5 hs5 hr H4
  go_wp2_with fail
  go_end0
  exact⟨rfl,F5,(aa HE).1,(aa HE).2.1,(aa HE).2.2.1,(aa HE).2.2.2⟩
 ·by_cases k2:kd=2
  ·subst k2
   have hr:=aa HP
   rw[if_neg (by decide),if_pos rfl] at hr
   have HP1:=ae hr
   clear hr HP
   obtain⟨hC4,_,hs4,r0,r2,r3,r4,hL4⟩:=aa H4
   have HT:=ae (tZ c1 cF [] f.value cb b g 3 F4 E (.slice none 0 0) w4 hC4 r3 (hL4 3) (aa HF).value (iV.nil _ w4 F4 g E) (by have:=aa HRM;simp only[CS.room] at *;omega))
   clear hC4 hs4 r0 r2 r3 r4 hL4 k1
   go_wp2_with fail
   refine(aa HT).mono ?_
   rintro e w5 ⟨rfl,F5,hC5,hc5,hs5⟩
   obtain⟨hC4,hk4',hs4,r0,r2,r3,r4,hL4⟩:=aa H4
   have hlg4:=(hL4 0).lt
   have hgF4:=(hL4 0).nF
   have hL5:=fun i=>(hL4 i).aV hs5
   have t0:w5.cell? ⟨g,0,none⟩=some (.string f.name):=(hs5.oth g 0 hlg4 hgF4 (fun h=>by omega)).trans r0
   have t1:w5.cell? ⟨g,1,none⟩=some (.int .u8 2):=(hs5.oth g 1 hlg4 hgF4 (fun h=>by omega)).trans hk4'
   have t2:w5.cell? ⟨g,2,none⟩=some (.string f.text):=(hs5.oth g 2 hlg4 hgF4 (fun h=>by omega)).trans r2
   have t4:w5.cell? ⟨g,4,none⟩=some (.int .u8 (f.unit:Nat)):=(hs5.oth g 4 hlg4 hgF4 (fun h=>by omega)).trans r4
   have k4:=hC5.g7.k4
   have HK5:=ae (fun (V:World) (hv:Fr (fun _=>False) w5 V)=>ax hv k4)
   have hrm:=CS.oU (n:=1) (aa HRM) cF [] f.value
   have HN5:Hid (∀ (w7:World) (f1:Value) (T:TypeId),Fr (fun _=>False) w5 w7→RR ew w5 w7 E f1 (bI 1 21 4)→Calls Tryz.prog 127 #[.pointer (some ⟨cb,0,none⟩),.string dN,.pointer (some ⟨g,4,none⟩),.slice (some ⟨w7.heap.size,0,none⟩) 1 1] (w7.alloc (.cells #[f1] T)) fun e w'=>e = .returned (.tuple #[])∧∃ F',Cd w' cb b F' ((c1.gL cF [] f.value).1.fF dN [bI 1 21 4] f.unit).1 E∧w'.cell? ⟨g,4,none⟩=some (.int .u8 (((c1.gL cF [] f.value).1.fF dN [bI 1 21 4] f.unit).2:Nat))∧aw w5 w' F5 F' (fun k j=>k=g∧j=4)):=fun w7 f1 T hf7 h1=>by
    have hf2:=hf7.trans (aB w7 (.cells #[f1] T)) (fun _ _ h=>h)
    refine(gm _ dN [bI 1 21 4] f.unit cb b g 4 F5 E _ _ (hC5.aD hf2) (ax hf2 t4) ((hL5 4).aD hf2) (aa HF).unit (lV T hC5 (hL5 4) hf7 h1) hrm).mono ?_
    rintro e w' ⟨rfl,F',hC,hc,hs⟩
    exact⟨rfl,F',hC,hc,(aw.bD hf2 F5 _).trans hs (fun _ _ _ h=>h)⟩
   have H5:=ae (And.intro t0 (And.intro t1 (And.intro t2 (And.intro hc5 (And.intro hL5 ((hs4.mono (P':=aH g 0 5) (fun k j _ h=>⟨h.1,by omega,by omega⟩)).trans hs5 (fun k j _ h=>⟨h.1,by omega,by omega⟩)))))))
   have hsf:=cZ
   clear hC4 hk4' hs4 r0 r2 r3 r4 hL4 hC5 hc5 hs5 H4 t0 t1 t2 t4 k4 hL5 hlg4 hgF4 hrm hk4
   go_wp2_with fail
   refine bE (n:=9) (m:=9) (S:=fun V=>Fr (fun _=>False) w5 V) (by kernel_rfl) rfl rfl rfl (by kernel_rfl) (by kernel_rfl) ((Fr.refl _ _).drew) (fun hHeld=>?_)
   refine cD (i:=0) (v:=?_) rfl (Or.inl ⟨by rfl,?_⟩) hHeld ?_
   rotate_left
   ·intro V hSw;(try dsimp only at hSw);have q4:=(aa HK5) V hSw;go_simp;(try with_reducible rfl)
   (try simp only[Act.put,bq])
   refine cD (i:=1) (v:=?_) rfl (Or.inl ⟨by rfl,?_⟩) hHeld ?_
   rotate_left
   ·intro V hSw;(try dsimp only at hSw);have q4:=(aa HK5) V hSw;go_simp;(try with_reducible rfl)
   (try simp only[Act.put,bq])
   refine cD (i:=2) (v:=?_) rfl (Or.inl ⟨by rfl,?_⟩) hHeld ?_
   rotate_left
   ·intro V hSw;(try dsimp only at hSw);have q4:=(aa HK5) V hSw;go_simp;(try with_reducible rfl)
   (try simp only[Act.put,bq])
   refine cD (i:=3) (v:=?_) rfl (Or.inl ⟨by rfl,?_⟩) hHeld ?_
   rotate_left
   ·intro V hSw;(try dsimp only at hSw);have q4:=(aa HK5) V hSw;go_simp;(try with_reducible rfl)
   (try simp only[Act.put,bq])
   refine cD (i:=6) (v:=?_) rfl (Or.inl ⟨by rfl,?_⟩) hHeld ?_
   rotate_left
   ·intro V hSw;(try dsimp only at hSw);have q4:=(aa HK5) V hSw;go_simp;(try with_reducible rfl)
   (try simp only[Act.put,bq])
   refine wpAnyH_ready (rs:=[4]) (by kernel_rfl) (by simp) (AllReadyH.cons rfl (fun K hK=>?_) AllReadyH.nil)
   go_simp
   refine(wO _).mono ?_
   rintro e w6 ⟨rfl,hf6⟩
   have H6:=ae ((Fr.refl _ _).drew.trans hf6 (fun _ _ h=>h))
   clear hf6
   go_simp
   refine hK.out _ _ (aa H6) (fun hHeld=>?_)
   clear hK K
   (try simp only[Act.put,bq])
   refine cD (i:=5) (v:=?_) rfl (Or.inl ⟨by rfl,?_⟩) hHeld ?_
   rotate_left
   ·intro V hSw;(try dsimp only at hSw);have q4:=(aa HK5) V hSw;go_simp;(try with_reducible rfl)
   (try simp only[Act.put,bq])
   refine wpAnyH_ready (rs:=[7]) (by kernel_rfl) (by simp) (AllReadyH.cons rfl (fun K hK=>?_) AllReadyH.nil)
   go_simp
   refine(dW 1 21 4 E _ (by decide)).mono ?_
   rintro e w7 ⟨fv7,rfl,K7,hF7,hf7,hK7⟩
   have H7:=ae (And.intro (show RR ew w5 w7 E fv7 (bI 1 21 4) from⟨K7,hF7,hK7.mono (aa H6).size⟩) ((aa H6).trans hf7 (fun _ _ h=>h)))
   obtain⟨Fc7,caps7,rfl,_⟩:=hF7.ex
   clear hF7 hf7 hK7
   go_simp
   refine hK.out _ _ ((aa H7).2) (fun hHeld=>?_)
   clear hK K
   (try simp only[Act.put,bq])
   refine wpAnyH_ready (rs:=[8]) (by kernel_rfl) (by simp) (AllReadyH.cons rfl (fun K hK=>?_) AllReadyH.nil)
   go_simp
   refine hK.out _ _ ((aa H7).2.alloc _) (fun hHeld=>?_)
   clear hK K
   (try simp only[Act.put,bq])
   refine wpAnyH_done (by kernel_rfl) ?_ _
   simp only[fU]
   go_simp
   refine((aa HN5) w7 _ _ (aa H7).2 (aa H7).1).mono ?_
   rintro e w8 ⟨rfl,F8,hC8,hc8,hs8⟩
   obtain⟨t0,t1,t2,hc5,hL5,hs05⟩:=aa H5
   have hlg5:=(hL5 0).lt
   have hgF5:=(hL5 0).nF
   have hr:=aa HP1
   have HE:Hid (Cd w8 cb b F8 r.1 E∧BU w8 g r.2∧r.2.ok∧aw w w8 F F8 (aH g 0 5)):=by
    rw[hr]
    exact⟨hC8,⟨(hs8.oth g 0 hlg5 hgF5 (fun h=>by omega)).trans t0,(hs8.oth g 1 hlg5 hgF5 (fun h=>by omega)).trans t1,(hs8.oth g 2 hlg5 hgF5 (fun h=>by omega)).trans t2,(hs8.oth g 3 hlg5 hgF5 (fun h=>by omega)).trans hc5,hc8⟩,⟨(aa HF).name,(by decide:(2:Nat)<256),(aa HF).text,CS.Bn _ _ _ _ (aa HF).value,CS.gR _ _ _ _ (aa HF).unit⟩,hs05.trans hs8 (fun k j _ h=>⟨h.1,by omega,by omega⟩)⟩
   clear t0 t1 t2 hc5 hL5 hs05 hC8 hc8 hs8 hr H5 HN5 H7
   go_wp2_with fail
   go_end0
   exact⟨rfl,F8,(aa HE).1,(aa HE).2.1,(aa HE).2.2.1,(aa HE).2.2.2⟩
  ·have m1:((kd:Int) == 1)=false:=by simp;omega
   have m2:((kd:Int) == 2)=false:=by simp;omega
   obtain⟨hC4,hk4',hs4,r0,r2,r3,r4,hL4⟩:=aa H4
   have hr:=aa HP
   rw[if_neg k1,if_neg k2] at hr
   have HE:Hid (Cd w4 cb b F4 r.1 E∧BU w4 g r.2∧r.2.ok∧aw w w4 F F4 (aH g 0 5)):=by
    rw[hr]
    exact⟨hC4,⟨r0,hk4',r2,r3,r4⟩,⟨(aa HF).name,hku,(aa HF).text,(aa HF).value,(aa HF).unit⟩,hs4.mono (fun k j _ h=>⟨h.1,by omega,by omega⟩)⟩
   clear hC4 hk4' hs4 r0 r2 r3 r4 hL4 hr H4 k1 k2
   go_wp2_with fail
   go_end0
   exact⟨rfl,F4,(aa HE).1,(aa HE).2.1,(aa HE).2.2.1,(aa HE).2.2.2⟩
theorem CS.qP (c:CS) (last:Nat) (f:cA):(c.cY last f).2.name=f.name:=by
 unfold CS.cY
 split
 ·rfl
 ·split <;> rfl
def CS.bP (c:CS) (ahead:ByteArray) (last:Nat) (f:cA):CS × cA:=(c.dU bQ 64 [fun v=>dj 1 64 v.size,kY ahead] f.name).1.cY last { f with name:=(c.dU bQ 64 [fun v=>dj 1 64 v.size,kY ahead] f.name).2 }
theorem CS.gv {c:CS} {n:Nat} (h:c.room (n+1)) (nm:ByteArray) (lo:Int) (rs:List (ByteArray→Nat)) (v:ByteArray):(c.dU nm 64 ((fun v=>dj lo 64 v.size)::rs) v).1.room n:=
 CS.wG h nm 64 _ v (fun e=>by have:=lF rs lo 64 (fun v:ByteArray=>v.size) v e;omega)
theorem kP (c:CS) (f:cA) (ahead:ByteArray) (last cb b g kc ka kl:Nat) (F:Nat→Prop) (E:Nat→Addr) (w:World) (h:Cd w cb b F c E) (hp:BU w g f) (hL:∀ i,Loc w cb F g i) (hkc:w.cell? ⟨kc,0,none⟩=some (.pointer (some ⟨cb,0,none⟩))) (hka:w.cell? ⟨ka,0,none⟩=some (.string ahead)) (hkl:w.cell? ⟨kl,0,none⟩=some (.int .u8 (last:Nat))) (nc:¬ F kc∧kc≠g∧kc≠ka) (na:Loc w cb F ka 0∧ka≠g) (nl:¬ F kl∧kl≠g∧kl≠ka) (hf:f.ok) (hroom:c.room 4) :
  Calls Tryz.prog 153 #[.pointer (some ⟨g,0,none⟩),.pointer (some ⟨kc,0,none⟩),.pointer (some ⟨ka,0,none⟩),.pointer (some ⟨kl,0,none⟩)] w fun e w'=>e = .returned (.tuple #[])∧∃ F',Cd w' cb b F' (c.bP ahead last f).1 E∧BU w' g (c.bP ahead last f).2∧(c.bP ahead last f).2.ok∧w'.cell? ⟨ka,0,none⟩=some (.string (c.bP ahead last f).2.name)∧aw w w' F F' (fun k j=>aH g 0 5 k j∨(k=ka∧j=0)):=by
 have hsf:=cZ
 have HK:=ae (fun (V:World) (hv:Fr (fun _=>False) w V)=>And.intro (ax hv hkc) (ax hv hka))
 have H:=ae (And.intro h (And.intro hL (And.intro hp (And.intro hkc (And.intro hka (And.intro hkl (And.intro nc (And.intro na nl))))))))
 have HN:Hid (∀ (w3:World) (f1:Value) (T:TypeId),Fr (fun _=>False) w w3→RR dZ w w3 E f1 (kY ahead)→Calls Tryz.prog 135 #[.pointer (some ⟨cb,0,none⟩),.string bQ,.pointer (some ⟨g,0,none⟩),.int .i64 1,.int .i64 64,.slice (some ⟨w3.heap.size,0,none⟩) 1 1] (w3.alloc (.cells #[f1] T)) fun e w'=>e = .returned (.tuple #[])∧∃ F',Cd w' cb b F' (c.dU bQ 64 [fun v=>dj 1 64 v.size,kY ahead] f.name).1 E∧w'.cell? ⟨g,0,none⟩=some (.string (c.dU bQ 64 [fun v=>dj 1 64 v.size,kY ahead] f.name).2)∧aw w w' F F' (fun k j=>k=g∧j=0)):=fun w3 f1 T hf3 h1=>by
  have hf2:=hf3.trans (aB w3 (.cells #[f1] T)) (fun _ _ h=>h)
  refine(qt c bQ 1 64 [kY ahead] f.name cb b g 0 F E _ _ (h.aD hf2) (ax hf2 hp.c0) ((hL 0).aD hf2) hf.name (by decide) (lV T h (hL 0) hf3 h1) (by simp) (by simp only[CS.room] at *;omega)).mono ?_
  rintro e w' ⟨rfl,F',hC,hc,hs⟩
  exact⟨rfl,F',hC,hc,(aw.bD hf2 F _).trans hs (fun _ _ _ h=>h)⟩
 have HRM:=ae (CS.gv (n:=3) hroom bQ 1 [kY ahead] f.name)
 have HOK:Hid (({ f with name:=(c.dU bQ 64 [fun v=>dj 1 64 v.size,kY ahead] f.name).2 } : cA).ok):=⟨CS.vC h bQ 64 _ f.name hf.name,hf.kind,hf.text,hf.value,hf.unit⟩
 have HP:Hid (c.bP ahead last f=(c.dU bQ 64 [fun v=>dj 1 64 v.size,kY ahead] f.name).1.cY last { f with name:=(c.dU bQ 64 [fun v=>dj 1 64 v.size,kY ahead] f.name).2 }):=rfl
 generalize c.bP ahead last f=r at *
 generalize (c.dU bQ 64 [fun v=>dj 1 64 v.size,kY ahead] f.name).1=c1 at *
 generalize (c.dU bQ 64 [fun v=>dj 1 64 v.size,kY ahead] f.name).2=nmv at *
 clear h hL hp hkc hka hkl nc na nl hroom hf
 go_enter Tryz.func153,Tryz.ntmps153
 go_wp2_with fail
 refine bE (n:=7) (m:=7) (S:=fun V=>Fr (fun _=>False) w V) (by kernel_rfl) rfl rfl rfl (by kernel_rfl) (by kernel_rfl) ((Fr.refl _ _).drew) (fun hHeld=>?_)
 refine cD (i:=0) (v:=?_) rfl (Or.inl ⟨by rfl,?_⟩) hHeld ?_
 rotate_left
 ·intro V hSw;(try dsimp only at hSw);obtain⟨q0,q1⟩:=(aa HK) V hSw;go_simp;(try with_reducible rfl)
 (try simp only[Act.put,bq])
 refine cD (i:=1) (v:=?_) rfl (Or.inl ⟨by rfl,?_⟩) hHeld ?_
 rotate_left
 ·intro V hSw;(try dsimp only at hSw);obtain⟨q0,q1⟩:=(aa HK) V hSw;go_simp;(try with_reducible rfl)
 (try simp only[Act.put,bq])
 refine cD (i:=2) (v:=?_) rfl (Or.inl ⟨by rfl,?_⟩) hHeld ?_
 rotate_left
 ·intro V hSw;(try dsimp only at hSw);obtain⟨q0,q1⟩:=(aa HK) V hSw;go_simp;(try with_reducible rfl)
 (try simp only[Act.put,bq])
 refine cD (i:=3) (v:=?_) rfl (Or.inl ⟨by rfl,?_⟩) hHeld ?_
 rotate_left
 ·intro V hSw;(try dsimp only at hSw);obtain⟨q0,q1⟩:=(aa HK) V hSw;go_simp;(try with_reducible rfl)
 (try simp only[Act.put,bq])
 refine cD (i:=4) (v:=?_) rfl (Or.inl ⟨by rfl,?_⟩) hHeld ?_
 rotate_left
 ·intro V hSw;(try dsimp only at hSw);obtain⟨q0,q1⟩:=(aa HK) V hSw;go_simp;(try with_reducible rfl)
 (try simp only[Act.put,bq])
 refine wpAnyH_ready (rs:=[5]) (by kernel_rfl) (by simp) (AllReadyH.cons rfl (fun K hK=>?_) AllReadyH.nil)
 go_simp
 refine(wT ahead E _ ((aa H).1.g7.fr (Fr.refl (fun _=>False) _).drew (fun _ h=>h.elim))).mono ?_
 rintro e w1 ⟨fv1,rfl,K1,hF1,hf1,hK1⟩
 have H1:=ae (And.intro (show RR dZ w w1 E fv1 (kY ahead) from⟨K1,hF1,hK1.mono (Nat.le_refl _)⟩) ((Fr.refl _ _).drew.trans hf1 (fun _ _ h=>h)))
 obtain⟨Fc1,caps1,rfl,_⟩:=hF1.ex
 clear hF1 hf1 hK1
 go_simp
 refine hK.out _ _ ((aa H1).2) (fun hHeld=>?_)
 clear hK K
 (try simp only[Act.put,bq])
 refine wpAnyH_ready (rs:=[6]) (by kernel_rfl) (by simp) (AllReadyH.cons rfl (fun K hK=>?_) AllReadyH.nil)
 go_simp
 refine hK.out _ _ ((aa H1).2.alloc _) (fun hHeld=>?_)
 clear hK K
 (try simp only[Act.put,bq])
 refine wpAnyH_done (by kernel_rfl) ?_ _
 simp only[fU]
 go_simp
 refine((aa HN) w1 _ _ (aa H1).2 (aa H1).1).mono ?_
 rintro e w4 ⟨rfl,F4,hC4,hk4,hs4⟩
 obtain⟨h,hL,hp,hkc,hka,hkl,nc,na,nl⟩:=aa H
 have hlg:=(hL 0).lt
 have hgF:=(hL 0).nF
 have p4:BU w4 g { f with name:=nmv } := ⟨hk4,(hs4.oth g 1 hlg hgF (fun h=>by omega)).trans hp.c1,(hs4.oth g 2 hlg hgF (fun h=>by omega)).trans hp.c2,(hs4.oth g 3 hlg hgF (fun h=>by omega)).trans hp.c3,(hs4.oth g 4 hlg hgF (fun h=>by omega)).trans hp.c4⟩
 have hL4:=fun i=>(hL i).aV hs4
 have kc4:w4.cell? ⟨kc,0,none⟩=some (.pointer (some ⟨cb,0,none⟩)):=(hs4.oth kc 0 (ab hkc) nc.1 (fun h=>nc.2.1 h.1)).trans hkc
 have ka4:w4.cell? ⟨ka,0,none⟩=some (.string ahead):=(hs4.oth ka 0 (ab hka) na.1.nF (fun h=>na.2 h.1)).trans hka
 have kl4:w4.cell? ⟨kl,0,none⟩=some (.int .u8 (last:Nat)):=(hs4.oth kl 0 (ab hkl) nl.1 (fun h=>nl.2.1 h.1)).trans hkl
 have HFD:=ae (xN c1 { f with name:=nmv } last cb b g F4 E w4 hC4 p4 hL4 (aa HOK) (aa HRM))
 have H4:=ae (And.intro hs4 (And.intro hL4 (And.intro ka4 (na.1.aV hs4))))
 clear h hL hp hkc hka hkl nc nl hC4 hs4 p4 hL4 ka4 hk4 hlg hgF H1 HN HK hsf
 go_wp2_with fail
 refine(aa HFD).mono ?_
 rintro e w5 ⟨rfl,F5,hC5,hp5,hok5,hs5⟩
 have hr:=aa HP
 have hn5:(c1.cY last { f with name:=nmv }).2.name=nmv:=CS.qP _ _ _
 have c5:w5.cell? ⟨g,0,none⟩=some (.string nmv):=by rw[hp5.c0,hn5]
 obtain⟨hs4,hL4,ka4,hA4⟩:=aa H4
 have hka4:=ab ka4
 have a5:w5.cell? ⟨ka,0,none⟩=some (.string ahead):=(hs5.oth ka 0 hka4 hA4.nF (fun h=>na.2 h.1)).trans ka4
 have hA5:=hA4.aV hs5
 have fz5:=hA5.fz
 have HE:Hid (∀ V,V=w5.setCell ⟨ka,0,none⟩ (.string nmv)→Cd V cb b F5 r.1 E∧BU V g r.2∧r.2.ok∧V.cell? ⟨ka,0,none⟩=some (.string r.2.name)∧aw w V F F5 (fun k j=>aH g 0 5 k j∨(k=ka∧j=0))):=by
  rintro V rfl
  rw[hr]
  have hoth:∀ i,(w5.setCell ⟨ka,0,none⟩ (.string nmv)).cell? ⟨g,i,none⟩=w5.cell? ⟨g,i,none⟩:=fun i=>World.cell?_setCell_other _ _ _ _ (by intro e;injection e with e1 _ _;exact na.2 e1)
  refine⟨hC5.fr ((Fr.refl (fun k=>k=ka) _).setCell (.inl rfl) _) (fun k hk e=>hA5.nF (e ▸ hk)) (fun e=>hA5.nc e.symm) (fun k e=>by rw[e];exact hA5.lo),⟨(hoth 0).trans hp5.c0,(hoth 1).trans hp5.c1,(hoth 2).trans hp5.c2,(hoth 3).trans hp5.c3,(hoth 4).trans hp5.c4⟩,hok5,?_,?_⟩
  ·rw[hn5];exact World.cell?_setCell_same _ _ _ a5
  ·exact((hs4.mono (fun k j _ h=>.inl ⟨h.1,by omega,by omega⟩)).trans hs5 (fun k j _ h=>.inl h)).trans (aw.set ka 0 _) (fun k j _ h=>.inr h)
 clear hC5 hp5 hs5 hok5 hr hn5 hs4 hL4 ka4 hA4 hA5 H4 HFD HP na
 go_wp2_with fail
 go_end0
 obtain⟨e1,e2,e3,e4,e5⟩:=(aa HE) _ rfl
 exact⟨rfl,F5,e1,e2,e3,e4,e5⟩
def nh {σ α:Type} (each:σ→α→σ × α):σ→List α→σ
  | s,[]=>s
  | s,x::xs=>nh each (each s x).1 xs
theorem Ap {σ α:Type} (each:σ→α→σ × α) (xs:List α):∀ (s:σ) (x:α),nh each s (xs++[x])=(each (nh each s xs) x).1:=by
  induction xs with
  | nil=>intro s x;rfl
  | cons y ys ih=>intro s x;exact ih _ x
theorem Aj {σ α:Type} (each:σ→α→σ × α) (s:σ) (xs:List α) (k:Nat) (x:α) (h:xs[k]?=some x):nh each s (xs.take (k+1))=(each (nh each s (xs.take k)) x).1:=by
  rw[List.take_add_one,h,Option.toList_some,Ap]
def fL {σ α:Type} (each:σ→α→σ × α) (z:α):Nat→σ→σ × List α
  | 0,s=>(s,[])
  | n+1,s=>((each (fL each z n s).1 z).1,(fL each z n s).2++[(each (fL each z n s).1 z).2])
theorem AS {σ α:Type} (each:σ→α→σ × α) (z:α) (s:σ) (n:Nat):(fL each z n s).2.length=n:=by
  induction n with
  | zero=>rfl
  | succ n ih=>simp[fL,ih]
theorem CS.room_le {c:CS} {n m:Nat} (h:c.room n) (hm:m≤n):c.room m:=by
  simp only[CS.room] at *
  omega
theorem CS.qT {c:CS} {n:Nat} (h:c.room (n+3)) (last:Nat) (f:cA):(c.cY last f).1.room n:=by
  have h1:=CS.dD (n:=n+2) h bj [bI 1 last 5,gQ f.beside] f.kind
  unfold CS.cY
  split
  · exact CS.room_le (CS.gv (n:=n+1) h1 dQ 0 [] f.text) (by omega)
  · split
    · exact CS.dD (CS.oU h1 _ _ _) _ _ _
    · exact CS.room_le h1 (by omega)
theorem CS.kU {c:CS} {n:Nat} (h:c.room (n+4)) (ahead:ByteArray) (last:Nat) (f:cA):(c.bP ahead last f).1.room n:=CS.qT (CS.gv (n:=n+3) h _ _ _ _) _ _
theorem CS.xt (s:Wq) (last:Nat) (f:cA):∃ s',((CS.wr s).cY last f).1 = .wr s':=by
  unfold CS.cY
  split
  · exact⟨_,rfl⟩
  · split
    · exact⟨_,rfl⟩
    · exact⟨_,rfl⟩
theorem CS.wF (q:Q) (last:Nat) (f:cA):∃ q',((CS.rd q).cY last f).1 = .rd q':=by
  unfold CS.cY
  split
  · exact⟨_,rfl⟩
  · split
    · exact⟨_,rfl⟩
    · exact⟨_,rfl⟩
theorem CS.ky (s:Wq) (ahead:ByteArray) (last:Nat) (f:cA):∃ s',((CS.wr s).bP ahead last f).1 = .wr s':=CS.xt _ _ _
theorem CS.kn (q:Q) (ahead:ByteArray) (last:Nat) (f:cA):∃ q',((CS.rd q).bP ahead last f).1 = .rd q':=CS.wF _ _ _
theorem ai {w:World} {b o t:Nat} {cs:Array Value} {v:Value} (h:w.heap[b]?=some (.cells cs t)) (hv:cs[o]?=some v):w.cell? ⟨b,o,none⟩=some v:=by
  simp[World.cell?,h,hv]
def ba (last:Nat) (s:CS × ByteArray) (f:cA):(CS × ByteArray) × cA:=(((s.1.bP s.2 last f).1,(s.1.bP s.2 last f).2.name),(s.1.bP s.2 last f).2)
structure Db (w:World) (xo:Option Addr) (xc:Nat) (l:List cA) (F:Nat→Prop):Prop where
  cap:l.length≤xc
  el:∀ (j:Nat) f,l[j]?=some f→f.ok∧∃ g o,xo=some ⟨g,o,none⟩∧¬ F g∧w.cell? ⟨g,o+j * 5,none⟩=some (.string f.name)∧w.cell? ⟨g,o+j * 5+1,none⟩=some (.int .u8 (f.kind:Nat))∧w.cell? ⟨g,o+j * 5+2,none⟩=some (.string f.text)∧w.cell? ⟨g,o+j * 5+3,none⟩=some (.float .f32 f.value)∧w.cell? ⟨g,o+j * 5+4,none⟩=some (.int .u8 (f.unit:Nat))
theorem Db.aV {w w':World} {xo:Option Addr} {xc:Nat} {l:List cA} {F F':Nat→Prop} {P:Nat→Nat→Prop} (h:Db w xo xc l F) (hs:aw w w' F F' P) (hP:∀ g o,xo=some ⟨g,o,none⟩→∀ i,g<w.heap.size→¬ P g i):Db w' xo xc l F':=by
  refine⟨h.cap,fun j f hf=>?_⟩
  obtain⟨h0,g,o,h1,h2,h3,h4,h5,h6,h7⟩:=h.el j f hf
  have hlt:g<w.heap.size:=ab h3
  have hp:=fun i=>hP g o h1 i hlt
  exact⟨h0,g,o,h1,hs.nF hlt h2,(hs.oth g _ hlt h2 (hp _)).trans h3,(hs.oth g _ hlt h2 (hp _)).trans h4,(hs.oth g _ hlt h2 (hp _)).trans h5,(hs.oth g _ hlt h2 (hp _)).trans h6,(hs.oth g _ hlt h2 (hp _)).trans h7⟩
structure x9 (w:World) (cb kc ka kl:Nat) (F:Nat→Prop) (ahead:ByteArray) (last:Nat):Prop where
  c:w.cell? ⟨kc,0,none⟩=some (.pointer (some ⟨cb,0,none⟩))
  a:w.cell? ⟨ka,0,none⟩=some (.string ahead)
  l:w.cell? ⟨kl,0,none⟩=some (.int .u8 (last:Nat))
  nc:¬ F kc∧kc≠ka
  nl:¬ F kl∧kl≠ka
  na:Loc w cb F ka 0
theorem x9.aV {w w':World} {cb kc ka kl:Nat} {F F':Nat→Prop} {ahead ahead':ByteArray} {last:Nat} {P:Nat→Nat→Prop} (h:x9 w cb kc ka kl F ahead last) (hs:aw w w' F F' P) (hP:∀ j,¬ P kc j∧¬ P kl j) (ha:w'.cell? ⟨ka,0,none⟩=some (.string ahead')):x9 w' cb kc ka kl F' ahead' last:=
  ⟨(hs.oth kc 0 (ab h.c) h.nc.1 (hP 0).1).trans h.c,ha,(hs.oth kl 0 (ab h.l) h.nl.1 (hP 0).2).trans h.l,⟨hs.nF (ab h.c) h.nc.1,h.nc.2⟩,⟨hs.nF (ab h.l) h.nl.1,h.nl.2⟩,h.na.aV hs⟩
theorem py (s:Wq) (rs:List (Int→Nat)) (ro:Option Addr) (rc:Nat) (last cb b g i kc ka kl:Nat) (ahead:ByteArray) (F:Nat→Prop) (E:Nat→Addr) (xo:Option Addr) (xc:Nat) (l:List cA) (w:World) (h:Cd w cb b F (.wr s) E) (hn:l.length<9223372036854775808) (hp:w.cell? ⟨g,i,none⟩=some (.slice xo l.length xc)) (hL:Loc w cb F g i) (hl:Db w xo xc l F) (hla:∀ g' o,xo=some ⟨g',o,none⟩→l≠[]→g'≠ka) (hga:g≠ka) (hK:x9 w cb kc ka kl F ahead last) (hR:∃ K,dX dB w K (.slice ro rs.length rc) E rs∧∀ k,K k→¬ F k) (hrs:rs.length<1000) (hroom:(CS.wr s).room 200) :
    Calls Tryz.prog 152 #[.pointer (some ⟨cb,0,none⟩),.string ak,.pointer (some ⟨g,i,none⟩),.int .i64 32,.func (.func 153) #[] #[.pointer (some ⟨kc,0,none⟩),.pointer (some ⟨ka,0,none⟩),.pointer (some ⟨kl,0,none⟩)],.slice ro rs.length rc] w fun e w'=>e = .returned (.tuple #[])∧∃ F',Cd w' cb b F' (nh (ba last) (((CS.wr s).cB ak 32 (eA 32 rs) l.length).1,ahead) (l.take (min l.length 32))).1 E∧aw w w' F F' (fun k j=>k=ka∧j=0):=by
  have k2:=h.g7.k2
  have hl2:=ab k2
  have hsf:=cZ
  have hent:∀ (x:Value) (W:World),(callFunc 153 (#[x] ++ #[.pointer (some ⟨kc,0,none⟩),.pointer (some ⟨ka,0,none⟩),.pointer (some ⟨kl,0,none⟩)])).run Tryz.prog W = .ok (.enter 153 (#[x] ++ #[.pointer (some ⟨kc,0,none⟩),.pointer (some ⟨ka,0,none⟩),.pointer (some ⟨kl,0,none⟩)])) W:=fun _ W=>enters Tryz.func153 rfl rfl _ W
  obtain⟨n,hnl⟩:∃ n,n=l.length:=⟨_,rfl⟩
  rw[← hnl] at hn hp ⊢
  have HNL:=ae hnl
  clear hnl
  have hhead:=gg (.wr s) ak n 32 rs cb b F E (.slice ro rs.length rc) w h (by omega) (by decide) hR hrs (by simp only[CS.room] at *;omega) 3
  obtain⟨c1,hc1⟩:∃ c1,c1=((CS.wr s).cB ak 32 (eA 32 rs) n).1:=⟨_,rfl⟩
  have hn1:((CS.wr s).cB ak 32 (eA 32 rs) n).2=n:=rfl
  have hroom1:c1.room 199:=by rw[hc1];exact CS.kD hroom _ _ _ _
  have hw1:∃ s,c1 = .wr s:=⟨_,hc1⟩
  rw[← hc1,hn1] at hhead
  rw[← hc1]
  clear hc1 hn1
  have HG:=ae hhead
  clear hhead
  obtain⟨N,hN⟩:∃ N,N=min n 32:=⟨_,rfl⟩
  rw[← hN]
  have hNn:N≤n:=by omega
  have hNm:N≤32:=by omega
  have HM:=ae hN
  clear hN
  have HW:=ae (dM 0 32 2 E (w.alloc (.cells #[.int .i64 n] 3)) (by decide))
  have H:=ae (And.intro h (And.intro hL (And.intro hl (And.intro hK (And.intro hroom1 (And.intro hw1 hla))))))
  have hlp:=hL.lt
  clear h hL hl hroom hroom1 hw1 hK hR hla
  go_enter Tryz.func152,Tryz.ntmps152
  go_wp2_with fail
  refine(aa HW).mono ?_
  rintro e w1 ⟨fv,rfl,K0,hF,hf1,hK0⟩
  obtain⟨ao,cp,w2,hr,hcall⟩:=(aa HG) w1 fv K0 hF hf1 hK0 ro rc rfl
  obtain⟨Fc,caps,rfl,_⟩:=hF.ex
  have HR:=ae hr
  have HC:=ae hcall
  clear hF hf1 hK0 hr hcall
  go_wp2_with (at_builtin;refine cN rfl _ _ 278 278 rfl _ _ _ rfl rfl (aa HR) ?_)
  refine(aa HC).mono ?_
  rintro e w3 ⟨rfl,F3,hC3,hn3,hlt3,hnF3,hs3⟩
  have H3:=ae (And.intro hC3 hs3)
  clear hC3 hs3 hlt3 hnF3
  by_cases hnm:n≤32
  all_goals
    go_wp2_with fail
    go_loopw [32] (fun iv wr=>∃ (k:Nat) (Fk:Nat→Prop),k≤N∧iv = .int .i64 (k:Nat)∧Cd wr cb b Fk (nh (ba last) (c1,ahead) (l.take k)).1 E∧(∃ s',(nh (ba last) (c1,ahead) (l.take k)).1 = .wr s')∧x9 wr cb kc ka kl Fk (nh (ba last) (c1,ahead) (l.take k)).2 last∧(nh (ba last) (c1,ahead) (l.take k)).1.room (199 - 4 * k)∧aw w wr F Fk (fun k j=>k=ka∧j=0)) (fun iv _=>N - (intOf iv).toNat)
    case atStart =>
      obtain⟨hC3,hs3⟩:=aa H3
      have hK:=(aa H).2.2.2.1
      exact⟨0,F3,Nat.zero_le _,rfl,hC3,(aa H).2.2.2.2.2.1,hK.aV hs3 (fun _=>⟨fun h=>h,fun h=>h⟩) ((hs3.oth ka 0 hK.na.lt hK.na.nF (fun h=>h)).trans hK.a),(aa H).2.2.2.2.1,hs3.mono (fun _ _ _ h=>h.elim)⟩
    case round =>
      obtain⟨k,Fk,hk,rfl,hCk,⟨sk,hsk⟩,hKk,hrk,hsk2⟩:=hrel
      by_cases hlt:k<N
      · have hlt':(k:Int)<(n:Int):=by omega
        have hltm:(k:Int)<32:=by have:=aa HM;omega
        obtain⟨f,hfk⟩:∃ f,l[k]?=some f:=⟨l[k]'(by have:=aa HNL;omega),List.getElem?_eq_getElem (by have:=aa HNL;omega)⟩
        have hlk:=(aa H).2.2.1.aV hsk2 (fun g' o e i _ h=>(aa H).2.2.2.2.2.2 g' o e (by rintro rfl;simp at hfk) h.1)
        obtain⟨hfok,eg,eo,rfl,hegF,e0,e1,e2,e3,e4⟩:=hlk.el k f hfk
        have hpr:wr.cell? ⟨g,i,none⟩=some (.slice (some ⟨eg,eo,none⟩) n xc):=(hsk2.oth g i hlp (aa H).2.1.nF (fun h=>hga h.1)).trans hp
        obtain⟨st,hst⟩:∃ st,st=nh (ba last) (c1,ahead) (l.take k):=⟨_,rfl⟩
        rw[← hst] at hCk hsk hKk hrk
        rw[hsk] at hCk hrk
        have h0r:wr.cell? ⟨cb,0,none⟩=some (.pointer (some ⟨b,0,none⟩)):=hCk.c0
        have h1r:wr.cell? ⟨cb,1,none⟩=some (.pointer none):=hCk.c1
        have hlg:=ab hpr
        have hlcr:=ab h0r
        have hler:=ab e0
        have hcapk:k≤xc:=by have:=(aa H).2.2.1.cap;have:=aa HNL;omega
        have hbx:=aB wr (.cells #[.string f.name,.int .u8 (f.kind:Nat),.string f.text,.float .f32 f.value,.int .u8 (f.unit:Nat)] 59)
        have hblk:=heap_alloc_new wr (.cells #[.string f.name,.int .u8 (f.kind:Nat),.string f.text,.float .f32 f.value,.int .u8 (f.unit:Nat)] 59)
        have HCL:=ae (kP (.wr sk) f st.2 last cb b wr.heap.size kc ka kl Fk E _ (hCk.aD hbx) ⟨ai (o:=0) hblk rfl,ai (o:=1) hblk rfl,ai (o:=2) hblk rfl,ai (o:=3) hblk rfl,ai (o:=4) hblk rfl⟩ (fun i=>hCk.box _ _ i) (ax hbx hKk.c) (ax hbx hKk.a) (ax hbx hKk.l) ⟨hKk.nc.1,by have:=ab hKk.c;simp only at this;omega,hKk.nc.2⟩ ⟨hKk.na.aD hbx,by have:=hKk.na.lt;omega⟩ ⟨hKk.nl.1,by have:=ab hKk.l;simp only at this;omega,hKk.nl.2⟩ hfok (CS.room_le hrk (by omega)))
        have HK:=ae (And.intro hrk (And.intro hsk2 (And.intro hfk (And.intro hsk (And.intro hst (And.intro hKk hbx))))))
        clear hCk hrk hsk2 hfk hsk hst hlk hKk hfok hblk hbx hegF
        go_wp2_with fail
        refine(aa HCL).mono ?_
        rintro e w4 ⟨rfl,F4,hC4,_,_,ha4,hs4⟩
        obtain⟨hrk,hsk2,hfk,hsk,hst,hKk,hbx⟩:=aa HK
        have hs5:aw wr w4 Fk F4 (fun k j=>(k=wr.heap.size∧0≤j)∨(k=ka∧j=0)):=(aw.bD hbx Fk _).trans hs4 (fun k j _ h=>h.imp (fun h=>⟨h.1,by omega⟩) id)
        have es:=Aj (ba last) (c1,ahead) l k f hfk
        rw[← hst] at es
        have e1':(nh (ba last) (c1,ahead) (l.take (k+1))).1=((CS.wr sk).bP st.2 last f).1:=by rw[es];show(st.1.bP st.2 last f).1=_;rw[hsk]
        have e2':(nh (ba last) (c1,ahead) (l.take (k+1))).2=((CS.wr sk).bP st.2 last f).2.name:=by rw[es];show(st.1.bP st.2 last f).2.name=_;rw[hsk]
        have HFIN:Hid (Cd w4 cb b F4 (nh (ba last) (c1,ahead) (l.take (k+1))).1 E∧(∃ s',(nh (ba last) (c1,ahead) (l.take (k+1))).1 = .wr s')∧x9 w4 cb kc ka kl F4 (nh (ba last) (c1,ahead) (l.take (k+1))).2 last∧(nh (ba last) (c1,ahead) (l.take (k+1))).1.room (199 - 4 * (k+1))∧aw w w4 F F4 (fun k j=>k=ka∧j=0)):=by
          rw[e1',e2']
          refine⟨hC4,CS.ky sk _ _ _,hKk.aV hs5 (fun j=>⟨fun h=>?_,fun h=>?_⟩) ha4,CS.kU (CS.room_le hrk (by omega)) _ _ _,hsk2.trans hs5 (fun k j hk h=>h.elim (fun h=>by have:=hsk2.size;omega) id)⟩
          · have h9:=ab hKk.c
            simp only at h9
            rcases h with h|h
            · omega
            · exact hKk.nc.2 h.1
          · have h9:=ab hKk.l
            simp only at h9
            rcases h with h|h
            · omega
            · exact hKk.nl.2 h.1
        have h1w:w4.cell? ⟨cb,1,none⟩=some (.pointer none):=by
          obtain⟨s4,e4'⟩:=CS.ky sk st.2 last f
          have h9:=hC4.c1
          rw[e4'] at h9
          exact h9
        have hlc4:=ab h1w
        clear hC4 hs4 hs5 ha4 hrk hsk2 hfk hsk hst hKk hbx es e1' e2' HK HCL e0 e1 e2 e3 e4 hpr h0r h1r
        go_wp2_with fail
        exact⟨⟨k+1,F4,by omega,by go_num,(aa HFIN).1,(aa HFIN).2.1,(aa HFIN).2.2.1,(aa HFIN).2.2.2.1,(aa HFIN).2.2.2.2⟩,by simp[intOf];omega⟩
      · have hkN:k=N:=by omega
        have HK:=ae (And.intro hCk hsk2)
        clear hCk hsk hrk hsk2 hKk
        first
          | (have hlt':¬ (k:Int)<(n:Int):=by have:=aa HM;omega
             go_wp2_with fail)
          | (have hlt':¬ (k:Int)<32:=by have:=aa HM;omega
             go_wp2_with fail)
        go_end0
        rw[hkN] at HK
        exact⟨rfl,Fk,(aa HK).1,(aa HK).2⟩
def Co (l:List cA):List Value:=l.flatMap cA.vs
theorem Bz (a b:List cA):Co (a++b)=Co a++Co b:=by simp[Co]
theorem Tryz.Br:(Tryz.prog.info? 59).map (fun i=>(i.zero,i.size,i.bytes))=some (some (.agg #[.string ⟨#[]⟩,.int .u8 0,.string ⟨#[]⟩,.float .f32 0,.int .u8 0]),5,48):=by kernel_rfl
structure dy (w:World) (base:Nat) (x:Value) (l:List cA) (F:Nat→Prop):Prop where
  nF:∀ k,x.ownBlock=some k→¬ F k
  row:w.ownsRow base 59 5 x l.length (Co l)
  ok:∀ f∈l,f.ok
theorem dy.nil (w:World) (base:Nat) (F:Nat→Prop):dy w base (.slice none 0 0) [] F:=⟨fun _ h=>(by cases h),⟨rfl,.inl ⟨rfl,rfl⟩⟩,fun _ h=>(by cases h)⟩
theorem dy.aV {w w':World} {base:Nat} {x:Value} {l:List cA} {F F':Nat→Prop} {P:Nat→Nat→Prop} (h:dy w base x l F) (hs:aw w w' F F' P) (hP:∀ k j,base≤k→k<w.heap.size→¬ P k j):dy w' base x l F':=
  ⟨fun k hk=>hs.nF (h.row.lt k hk).2 (h.nF k hk),aA h.row (fun k hk=>hs.block (h.row.lt k hk).2 (h.nF k hk) (fun j=>hP k j (h.row.lt k hk).1 (h.row.lt k hk).2)),h.ok⟩
theorem cU {w:World} {base t z n:Nat} {v:Value} {xs:List Value} (h:w.ownsRow base t z v n xs):∃ ao cap,v = .slice ao n cap:=by
  rcases h.2 with ⟨rfl,e⟩|⟨g,cap,cur,rfl,_⟩
  · exact⟨none,0,by rw[e]⟩
  · exact⟨some ⟨g,0,none⟩,cap,rfl⟩
theorem dy.app {w:World} {base:Nat} {v:Value} {l:List cA} {F:Nat→Prop} (h:dy w base v l F) (f:cA) (hf:f.ok) (hb:base≤w.heap.size) (hF:∀ k,F k→k<w.heap.size) (hl:l.length≤1000000) :
    ∃ ao cap w',(Builtin.append_ #[28,28] 28 #[v,.slice (some ⟨w.heap.size,0,none⟩) 1 1]).run Tryz.prog (w.alloc (.cells #[.string f.name,.int .u8 (f.kind:Nat),.string f.text,.float .f32 f.value,.int .u8 (f.unit:Nat)] 59)) = .ok (.slice ao (l.length+1) cap) w'∧dy w' base (.slice ao (l.length+1) cap) (l++[f]) F∧Fr (fun g=>v.ownBlock=some g) w w':=by
  obtain⟨i0,hi,hz0,hz1,hz2⟩:=info_parts Tryz.Br
  have hb':=aA (w':=w.alloc (.cells #[.string f.name,.int .u8 (f.kind:Nat),.string f.text,.float .f32 f.value,.int .u8 (f.unit:Nat)] 59)) h.row (fun g hg=>Below.heap_alloc _ _ _ (h.row.lt g hg).2)
  obtain⟨v',w',hr,h2,h3,_,h5⟩:=run_append_own_at (P:=Tryz.prog) (w:=w.alloc (.cells #[.string f.name,.int .u8 (f.kind:Nat),.string f.text,.float .f32 f.value,.int .u8 (f.unit:Nat)] 59)) base 28 28 59 i0 (.agg #[.string ⟨#[]⟩,.int .u8 0,.string ⟨#[]⟩,.float .f32 0,.int .u8 0]) 5 48 Tryz.underlying28 hi hz0 hz1 hz2 rfl (by decide) v l.length (Co l) hb' ⟨w.heap.size,0,none⟩ 1 1 f.vs rfl (fun j u hu=>by
    rw[addr_add,World.cell?_alloc_at _ _ _ _ rfl];simpa[cA.vs] using hu) (fun u hu=>by simp[cA.vs] at hu;rcases hu with rfl|rfl|rfl|rfl|rfl <;> rfl) (by simp only[maxLen];omega) (by omega) (by simp;omega)
  obtain⟨ao,cap,rfl⟩:=cU h2
  refine⟨ao,cap,w',hr,⟨fun k hk=>?_,by rw[Bz,List.length_append,List.length_singleton];simpa[Co] using h2,fun x hx=>?_⟩,((aB w _).mono (fun _ _ h=>h.elim)).grown h3 (fun g hg=>.inl hg)⟩
  · rcases h5 with e|e
    · rw[e] at hk;exact h.nF k hk
    · rw[e] at hk
      cases hk
      exact fun hx=>by have:=hF _ hx;simp at this;omega
  · rcases List.mem_append.mp hx with hx|hx
    · exact h.ok x hx
    · rw[List.mem_singleton] at hx;rw[hx];exact hf
def ej:cA:=⟨⟨#[]⟩,0,⟨#[]⟩,0,0⟩
theorem Cz:ej.ok:=⟨by decide,by decide,by decide,by decide,by decide⟩
theorem p6 (q:Q) (rs:List (Int→Nat)) (ro:Option Addr) (rc:Nat) (last cb b g i kc ka kl:Nat) (ahead:ByteArray) (F:Nat→Prop) (E:Nat→Addr) (w:World) (h:Cd w cb b F (.rd q) E) (hp:w.cell? ⟨g,i,none⟩=some (.slice none 0 0)) (hL:Loc w cb F g i) (hga:g≠ka∧kc≠g∧kl≠g) (hK:x9 w cb kc ka kl F ahead last) (hR:∃ K,dX dB w K (.slice ro rs.length rc) E rs∧∀ k,K k→¬ F k) (hrs:rs.length<1000) :
    Calls Tryz.prog 152 #[.pointer (some ⟨cb,0,none⟩),.string ak,.pointer (some ⟨g,i,none⟩),.int .i64 32,.func (.func 153) #[] #[.pointer (some ⟨kc,0,none⟩),.pointer (some ⟨ka,0,none⟩),.pointer (some ⟨kl,0,none⟩)],.slice ro rs.length rc] w fun e w'=>e = .returned (.tuple #[])∧∃ F',Cd w' cb b F' (fL (ba last) ej (min ((q.named ak).go 7 32).2.1 32) (((CS.rd q).cB ak 32 (eA 32 rs) 0).1,ahead)).1.1 E∧∃ x,w'.cell? ⟨g,i,none⟩=some x∧dy w' w.heap.size x (fL (ba last) ej (min ((q.named ak).go 7 32).2.1 32) (((CS.rd q).cB ak 32 (eA 32 rs) 0).1,ahead)).2 F'∧aw w w' F F' (fun k j=>(k=g∧j=i)∨(k=ka∧j=0)):=by
  have k2:=h.g7.k2
  have hl2:=ab k2
  have hsf:=cZ
  have hent:∀ (x:Value) (W:World),(callFunc 153 (#[x] ++ #[.pointer (some ⟨kc,0,none⟩),.pointer (some ⟨ka,0,none⟩),.pointer (some ⟨kl,0,none⟩)])).run Tryz.prog W = .ok (.enter 153 (#[x] ++ #[.pointer (some ⟨kc,0,none⟩),.pointer (some ⟨ka,0,none⟩),.pointer (some ⟨kl,0,none⟩)])) W:=fun _ W=>enters Tryz.func153 rfl rfl _ W
  have hhead:=gg (.rd q) ak 0 32 rs cb b F E (.slice ro rs.length rc) w h (by omega) (by decide) hR hrs (by simp only[CS.room,CS.len];omega) 3
  obtain⟨c1,hc1⟩:∃ c1,c1=((CS.rd q).cB ak 32 (eA 32 rs) 0).1:=⟨_,rfl⟩
  obtain⟨n,hn⟩:∃ n,n=((q.named ak).go 7 32).2.1:=⟨_,rfl⟩
  have hn1:((CS.rd q).cB ak 32 (eA 32 rs) 0).2=(n:Int):=by rw[hn];rfl
  have hq1:∃ q',c1 = .rd q':=⟨_,hc1⟩
  have hnlt:n<4294967296:=by rw[hn];exact(q.named ak).go_lt 7 32
  rw[← hc1,hn1] at hhead
  rw[← hc1,← hn]
  clear hc1 hn1 hn
  have HG:=ae hhead
  clear hhead
  obtain⟨N,hN⟩:∃ N,N=min n 32:=⟨_,rfl⟩
  rw[← hN]
  have hNm:N≤32:=by omega
  have HM:=ae hN
  clear hN
  have HW:=ae (dM 0 32 2 E (w.alloc (.cells #[.int .i64 0] 3)) (by decide))
  have H:=ae (And.intro h (And.intro hL (And.intro hK hq1)))
  have hlp:=hL.lt
  clear h hL hq1 hK hR
  go_enter Tryz.func152,Tryz.ntmps152
  go_wp2_with fail
  refine(aa HW).mono ?_
  rintro e w1 ⟨fv,rfl,K0,hF,hf1,hK0⟩
  obtain⟨ao,cp,w2,hr,hcall⟩:=(aa HG) w1 fv K0 hF hf1 hK0 ro rc rfl
  obtain⟨Fc,caps,rfl,_⟩:=hF.ex
  have HR:=ae hr
  have HC:=ae hcall
  clear hF hf1 hK0 hr hcall
  go_wp2_with (at_builtin;refine cN rfl _ _ 278 278 rfl _ _ _ rfl rfl (aa HR) ?_)
  refine(aa HC).mono ?_
  rintro e w3 ⟨rfl,F3,hC3,hn3,hlt3,hnF3,hs3⟩
  have H3:=ae (And.intro hC3 hs3)
  clear hC3 hs3 hlt3 hnF3
  by_cases hnm:n≤32
  all_goals
    go_wp2_with fail
    go_loopw [32] (fun iv wr=>∃ (k:Nat) (Fk:Nat→Prop) (x:Value),k≤N∧iv = .int .i64 (k:Nat)∧Cd wr cb b Fk (fL (ba last) ej k (c1,ahead)).1.1 E∧(∃ q',(fL (ba last) ej k (c1,ahead)).1.1 = .rd q')∧x9 wr cb kc ka kl Fk (fL (ba last) ej k (c1,ahead)).1.2 last∧wr.cell? ⟨g,i,none⟩=some x∧dy wr w.heap.size x (fL (ba last) ej k (c1,ahead)).2 Fk∧aw w wr F Fk (fun k j=>(k=g∧j=i)∨(k=ka∧j=0))) (fun iv _=>N - (intOf iv).toNat)
    case atStart =>
      obtain⟨hC3,hs3⟩:=aa H3
      have hK:=(aa H).2.2.1
      exact⟨0,F3,.slice none 0 0,Nat.zero_le _,rfl,hC3,(aa H).2.2.2,hK.aV hs3 (fun _=>⟨fun h=>h,fun h=>h⟩) ((hs3.oth ka 0 hK.na.lt hK.na.nF (fun h=>h)).trans hK.a),(hs3.oth g i hlp (aa H).2.1.nF (fun h=>h)).trans hp,dy.nil _ _ _,hs3.mono (fun _ _ _ h=>h.elim)⟩
    case round =>
      obtain⟨k,Fk,x,hk,rfl,hCk,⟨qk,hqk⟩,hKk,hxk,hOk,hsk2⟩:=hrel
      by_cases hlt:k<N
      · have hlt':(k:Int)<(n:Int):=by have:=aa HM;omega
        have hltm:(k:Int)<32:=by have:=aa HM;omega
        obtain⟨st,hst⟩:∃ st,st=(fL (ba last) ej k (c1,ahead)).1:=⟨_,rfl⟩
        obtain⟨lk,hlk⟩:∃ lk,lk=(fL (ba last) ej k (c1,ahead)).2:=⟨_,rfl⟩
        have hlkl:lk.length=k:=by rw[hlk];exact AS _ _ _ _
        rw[← hst] at hCk hqk hKk
        rw[← hlk] at hOk
        rw[hqk] at hCk
        have h0r:wr.cell? ⟨cb,0,none⟩=some (.pointer none):=hCk.c0
        have h1r:wr.cell? ⟨cb,1,none⟩=some (.pointer (some ⟨b,0,none⟩)):=hCk.c1
        have hlg:=ab hxk
        have hlcr:=ab h0r
        have hLk:=(aa H).2.1.aV hsk2
        have hbx:=aB wr (.cells #[.string ⟨#[]⟩,.int .u8 0,.string ⟨#[]⟩,.float .f32 0,.int .u8 0] 59)
        have hblk:=heap_alloc_new wr (.cells #[.string ⟨#[]⟩,.int .u8 0,.string ⟨#[]⟩,.float .f32 0,.int .u8 0] 59)
        have HCL:=ae (kP (.rd qk) ej st.2 last cb b wr.heap.size kc ka kl Fk E _ (hCk.aD hbx) ⟨ai (o:=0) hblk rfl,ai (o:=1) hblk rfl,ai (o:=2) hblk rfl,ai (o:=3) hblk rfl,ai (o:=4) hblk rfl⟩ (fun i=>hCk.box _ _ i) (ax hbx hKk.c) (ax hbx hKk.a) (ax hbx hKk.l) ⟨hKk.nc.1,by have:=ab hKk.c;simp only at this;omega,hKk.nc.2⟩ ⟨hKk.na.aD hbx,by have:=hKk.na.lt;omega⟩ ⟨hKk.nl.1,by have:=ab hKk.l;simp only at this;omega,hKk.nl.2⟩ Cz (by simp only[CS.room,CS.len];omega))
        have HK:=ae (And.intro hsk2 (And.intro hqk (And.intro hst (And.intro hlk (And.intro hKk (And.intro hbx (And.intro hOk hLk)))))))
        have HLK:=ae hlkl
        clear hCk hsk2 hqk hst hlk hKk hblk hbx hOk hLk hlkl
        go_wp2_with fail
        refine(aa HCL).mono ?_
        have hlkl:=aa HLK
        rintro e w4 ⟨rfl,F4,hC4,hp4v,hok4,ha4,hs4⟩
        obtain⟨hsk2,hqk,hst,hlk,hKk,hbx,hOk,hLk⟩:=aa HK
        obtain⟨f,hfv⟩:∃ f,f=((CS.rd qk).bP st.2 last ej).2:=⟨_,rfl⟩
        rw[← hfv] at hp4v hok4 ha4
        obtain⟨v0,v1,v2,v3,v4⟩:=hp4v
        have hs5:aw wr w4 Fk F4 (fun k j=>(k=wr.heap.size∧0≤j)∨(k=ka∧j=0)):=(aw.bD hbx Fk _).trans hs4 (fun k j _ h=>h.imp (fun h=>⟨h.1,by omega⟩) id)
        have hszw:=hsk2.size
        have hszr:=hs5.size
        have haw:=(aa H).2.2.1.na.lt
        have hO4:dy w4.drew w.heap.size x lk F4:=by
          have h1:=hOk.aV hs5 (fun k j hb hk h=>by omega)
          exact⟨h1.nF,aA h1.row (fun _ _=>rfl),h1.ok⟩
        obtain⟨xo,xc,rfl⟩:=cU hOk.row
        obtain⟨ao',cap',w6,hr6,hO6,hf6⟩:=hO4.app f hok4 (by show w.heap.size≤w4.heap.size;omega) (fun k hk=>hC4.lt k hk) (by omega)
        have h0w:w4.cell? ⟨cb,1,none⟩=some (.pointer (some ⟨b,0,none⟩)):=by
          obtain⟨s4,e4'⟩:=CS.kn qk st.2 last ej
          have h9:=hC4.c1
          rw[e4'] at h9
          exact h9
        have hp4:w4.cell? ⟨g,i,none⟩=some (.slice xo lk.length xc):=(hs5.oth g i hlg hLk.nF (fun h=>by rcases h with h|h;omega;exact hga.1 h.1)).trans hxk
        have fz4:w4.frozen? ⟨g,i,none⟩=false:=(hs5.fz g i hlg hLk.nF).trans hLk.fz
        have hlg4:=ab hp4
        have hxlo:∀ k,(Value.slice xo lk.length xc).ownBlock=some k→w.heap.size≤k:=fun k hk=>(hOk.row.lt k hk).1
        have hp6:w6.cell? ⟨g,i,none⟩=some (.slice xo lk.length xc):=(hf6.cell (p:=⟨g,i,none⟩) hlg4 (fun h=>by have:=hxlo g h;omega)).trans hp4
        have fz6:w6.frozen? ⟨g,i,none⟩=false:=(hf6.frozen (p:=⟨g,i,none⟩) hlg4 (fun h=>by have:=hxlo g h;omega)).trans fz4
        have hf46:Fr (fun k=>(Value.slice xo lk.length xc).ownBlock=some k) w4 w6:=⟨hf6.os,hf6.tape,hf6.output,hf6.size,hf6.block⟩
        have hgF4:¬ F4 g:=hs5.nF hlg hLk.nF
        have hsW:aw w (w6.setCell ⟨g,i,none⟩ (.slice ao' (lk.length+1) cap')) F F4 (fun k j=>(k=g∧j=i)∨(k=ka∧j=0)):=((hsk2.trans hs5 (fun k j hk h=>h.elim (fun h=>by omega) .inr)).grow hf46 hxlo).trans (aw.set g i _) (fun _ _ _ h=>.inl h)
        have hcbw:=ab (aa H).1.c0
        have hglo:=(aa H).2.1.lo
        have hgnc:=(aa H).2.1.nc
        have hC7:Cd (w6.setCell ⟨g,i,none⟩ (.slice ao' (lk.length+1) cap')) cb b F4 ((CS.rd qk).bP st.2 last ej).1 E:=
          (hC4.fr hf46 (fun kk hk hS=>hO4.nF kk hS hk) (fun hS=>by have:=hxlo cb hS;simp only at hcbw;omega) (fun kk hS=>by have:=hxlo kk hS;omega)).fr ((Fr.refl (fun kk=>kk=g) _).setCell (.inl rfl) _) (fun kk hk e=>hgF4 (e ▸ hk)) (fun e=>hgnc e.symm) (fun kk e=>by rw[e];exact hglo)
        have hK0:=(aa H).2.2.1
        have hoth:∀ kk jj v,kk<w.heap.size→kk≠g→w4.cell? ⟨kk,jj,none⟩=some v→(w6.setCell ⟨g,i,none⟩ (.slice ao' (lk.length+1) cap')).cell? ⟨kk,jj,none⟩=some v:=fun kk jj v hkk hng hv =>
          (World.cell?_setCell_other _ _ _ _ (by intro e;injection e with e1 _ _;exact hng e1.symm)).trans ((hf46.cell (p:=⟨kk,jj,none⟩) (ab hv) (fun h=>by have:=hxlo kk h;omega)).trans hv)
        have hK4:x9 w4 cb kc ka kl F4 f.name last:=hKk.aV hs5 (fun j=>⟨fun h=>by
            have h9:=ab hKk.c
            simp only at h9
            rcases h with h|h
            · omega
            · exact hKk.nc.2 h.1,fun h=>by
            have h9:=ab hKk.l
            simp only at h9
            rcases h with h|h
            · omega
            · exact hKk.nl.2 h.1⟩) ha4
        have hA7:Loc (w6.setCell ⟨g,i,none⟩ (.slice ao' (lk.length+1) cap')) cb F4 ka 0:=⟨(hsW.fz ka 0 hK0.na.lt hK0.na.nF).trans hK0.na.fz,Nat.lt_of_lt_of_le hK0.na.lt hsW.size,hK4.na.nF,hK0.na.nc,hK0.na.lo⟩
        have hK7:x9 (w6.setCell ⟨g,i,none⟩ (.slice ao' (lk.length+1) cap')) cb kc ka kl F4 f.name last:=⟨hoth kc 0 _ (ab hK0.c) hga.2.1 hK4.c,hoth ka 0 _ hK0.na.lt (Ne.symm hga.1) hK4.a,hoth kl 0 _ (ab hK0.l) hga.2.2 hK4.l,hK4.nc,hK4.nl,hA7⟩
        have hO7:dy (w6.setCell ⟨g,i,none⟩ (.slice ao' (lk.length+1) cap')) w.heap.size (.slice ao' (lk.length+1) cap') (lk++[f]) F4:=hO6.aV (aw.set g i _) (fun kk j hb _ h=>by omega)
        have hc7:(w6.setCell ⟨g,i,none⟩ (.slice ao' (lk.length+1) cap')).cell? ⟨g,i,none⟩=some (.slice ao' (lk.length+1) cap'):=World.cell?_setCell_same _ _ _ hp6
        have e1:(fL (ba last) ej (k+1) (c1,ahead)).1.1=((CS.rd qk).bP st.2 last ej).1:=by
          show((fL (ba last) ej k (c1,ahead)).1.1.bP (fL (ba last) ej k (c1,ahead)).1.2 last ej).1=_
          rw[← hst,hqk]
        have e2:(fL (ba last) ej (k+1) (c1,ahead)).1.2=f.name:=by
          show((fL (ba last) ej k (c1,ahead)).1.1.bP (fL (ba last) ej k (c1,ahead)).1.2 last ej).2.name=_
          rw[← hst,hqk,hfv]
        have e3:(fL (ba last) ej (k+1) (c1,ahead)).2=lk++[f]:=by
          show(fL (ba last) ej k (c1,ahead)).2++[((fL (ba last) ej k (c1,ahead)).1.1.bP (fL (ba last) ej k (c1,ahead)).1.2 last ej).2]=_
          rw[← hst,← hlk,hqk,hfv]
        have HFIN:Hid (∀ V,V=w6.setCell ⟨g,i,none⟩ (.slice ao' (lk.length+1) cap')→Cd V cb b F4 (fL (ba last) ej (k+1) (c1,ahead)).1.1 E∧(∃ q',(fL (ba last) ej (k+1) (c1,ahead)).1.1 = .rd q')∧x9 V cb kc ka kl F4 (fL (ba last) ej (k+1) (c1,ahead)).1.2 last∧V.cell? ⟨g,i,none⟩=some (.slice ao' (lk.length+1) cap')∧dy V w.heap.size (.slice ao' (lk.length+1) cap') (fL (ba last) ej (k+1) (c1,ahead)).2 F4∧aw w V F F4 (fun k j=>(k=g∧j=i)∨(k=ka∧j=0))):=by
          rintro V rfl
          rw[e1,e2,e3]
          exact⟨hC7,CS.kn qk _ _ _,hK7,hc7,hO7,hsW⟩
        have HR6:=ae hr6
        have hlv4:=ab v0
        clear hsW hC7 hO7 hK7 hK4 hK0 hA7 hoth hc7 e1 e2 e3 hgF4 hxlo hr6 hO6 hf6 hf46 hC4 hs5 hs4 hO4 hOk hst hlk hKk hbx hsk2 hqk hLk ha4 hok4 hfv HK HCL hszw hszr haw hcbw hglo hgnc hxk h0r h1r hlkl
        go_wp2_with fail
        go_region_law (refine hJ rfl (.tmp 56) (.tmp 58) 28 28 rfl _ _ _ (by simp[Act.eval]) (by simp[Act.eval]) (aa HR6) ?_)
        all_goals
          go_wp2_with fail
          obtain⟨z1,z2,z3,z4,z5,z6⟩:=(aa HFIN) _ rfl
          exact⟨⟨k+1,F4,_,by omega,by go_num,z1,z2,z3,z4,z5,z6⟩,by simp[intOf];omega⟩
      · have hkN:k=N:=by omega
        have HK:=ae (And.intro hCk (And.intro hsk2 (And.intro hOk hxk)))
        clear hCk hqk hsk2 hOk hKk
        first
          | (have hlt':¬ (k:Int)<(n:Int):=by have:=aa HM;omega
             go_wp2_with fail)
          | (have hlt':¬ (k:Int)<32:=by have:=aa HM;omega
             go_wp2_with fail)
        go_end0
        rw[hkN] at HK
        exact⟨rfl,Fk,(aa HK).1,x,(aa HK).2.2.2,(aa HK).2.2.1,(aa HK).2.1⟩
def CS.cK (c:CS) (last:Nat) (rs:List (Int→Nat)) (l:List cA):CS × List cA:=match c with
 | .wr s=>((nh (ba last) (((CS.wr s).cB ak 32 (eA 32 rs) l.length).1,⟨#[]⟩) (l.take (min l.length 32))).1,l)
 | .rd q=>((fL (ba last) ej (min ((q.named ak).go 7 32).2.1 32) (((CS.rd q).cB ak 32 (eA 32 rs) 0).1,⟨#[]⟩)).1.1,(fL (ba last) ej (min ((q.named ak).go 7 32).2.1 32) (((CS.rd q).cB ak 32 (eA 32 rs) 0).1,⟨#[]⟩)).2)
structure kE (w:World) (c:CS) (x:Value) (l:List cA) (F:Nat→Prop) (g:Nat):Prop where
 wr:∀ s,c = .wr s→∃ xo xc,x = .slice xo l.length xc∧Db w xo xc l F∧∀ g' o,xo=some ⟨g',o,none⟩→l≠[]→g'≠g
 rd:∀ q,c = .rd q→x = .slice none 0 0∧l=[]
 n:l.length<9223372036854775808
theorem kE.aV {w w':World} {c c':CS} {x:Value} {l:List cA} {F F':Nat→Prop} {P:Nat→Nat→Prop} {g:Nat} (h:kE w c x l F g) (hs:aw w w' F F' P) (hP:∀ k i,k<w.heap.size→P k i→k=g) (hw:∀ s,c' = .wr s→∃ s',c = .wr s') (hr:∀ q,c' = .rd q→∃ q',c = .rd q'):kE w' c' x l F' g:=by
 refine⟨fun s hs'=>?_,fun q hq=>?_,h.n⟩
 ·obtain⟨s',e⟩:=hw s hs'
  obtain⟨xo,xc,e1,e2,e3⟩:=h.wr s' e
  refine⟨xo,xc,e1,⟨e2.cap,fun j f hf=>?_⟩,e3⟩
  obtain⟨h0,g',o,h1,h2,h3,h4,h5,h6,h7⟩:=e2.el j f hf
  have hlt:g'<w.heap.size:=ab h3
  have hne:g'≠g:=e3 g' o h1 (by rintro rfl;simp at hf)
  have hp:∀ i,¬ P g' i:=fun i hp=>hne (hP g' i hlt hp)
  exact⟨h0,g',o,h1,hs.nF hlt h2,(hs.oth g' _ hlt h2 (hp _)).trans h3,(hs.oth g' _ hlt h2 (hp _)).trans h4,(hs.oth g' _ hlt h2 (hp _)).trans h5,(hs.oth g' _ hlt h2 (hp _)).trans h6,(hs.oth g' _ hlt h2 (hp _)).trans h7⟩
 ·obtain⟨q',e⟩:=hr q hq
  exact h.rd q' e
structure ks (w w':World) (c:CS) (x x':Value) (l':List cA) (F':Nat→Prop):Prop where
 wr:∀ s,c = .wr s→x'=x
 rd:∀ q,c = .rd q→dy w' w.heap.size x' l' F'
theorem mP (c:CS) (last:Nat) (rs:List (Int→Nat)) (ro:Option Addr) (rc:Nat) (x:Value) (l:List cA) (cb b g i:Nat) (F:Nat→Prop) (E:Nat→Addr) (w:World) (h:Cd w cb b F c E) (hp:w.cell? ⟨g,i,none⟩=some x) (hX:kE w c x l F g) (hL:Loc w cb F g i) (hR:∃ K,dX dB w K (.slice ro rs.length rc) E rs∧∀ k,K k→¬ F k) (hrs:rs.length<1000) (hroom:c.room 200) :
  Calls Tryz.prog 133 #[.pointer (some ⟨cb,0,none⟩),.pointer (some ⟨g,i,none⟩),.int .u8 (last:Nat),.slice ro rs.length rc] w fun e w'=>e = .returned (.tuple #[])∧∃ F' x',Cd w' cb b F' (c.cK last rs l).1 E∧w'.cell? ⟨g,i,none⟩=some x'∧ks w w' c x x' (c.cK last rs l).2 F'∧aw w w' F F' (fun k j=>k=g∧j=i):=by
 have hmf:=mf
 obtain⟨w3,hw3⟩:∃ w3,w3=((w.alloc (.cells #[.pointer (some ⟨cb,0,none⟩)] 138)).alloc (.cells #[.int .u8 (last:Nat)] 5)).alloc (.cells #[.string ⟨#[]⟩] 9):=⟨_,rfl⟩
 have hf3:Fr (fun _=>False) w w3:=by rw[hw3];exact(((Fr.refl _ _).alloc _).alloc _).alloc _
 have hsz:w3.heap.size=w.heap.size+1+1+1:=by rw[hw3];simp
 have hcbl:=ab h.c0
 have hcl:=h.cl
 have hgl:=hL.lt
 have b0:w3.heap[w.heap.size]?=some (.cells #[.pointer (some ⟨cb,0,none⟩)] 138):=by
  rw[hw3,Below.heap_alloc _ _ _ (by simp;omega),Below.heap_alloc _ _ _ (by simp)]
  exact heap_alloc_new _ _
 have b1:w3.heap[w.heap.size+1]?=some (.cells #[.int .u8 (last:Nat)] 5):=by
  rw[hw3,Below.heap_alloc _ _ _ (by simp)]
  have:=heap_alloc_new (w.alloc (.cells #[.pointer (some ⟨cb,0,none⟩)] 138)) (.cells #[.int .u8 (last:Nat)] 5)
  simpa using this
 have b2:w3.heap[w.heap.size+1+1]?=some (.cells #[.string ⟨#[]⟩] 9):=by
  rw[hw3]
  have:=heap_alloc_new ((w.alloc (.cells #[.pointer (some ⟨cb,0,none⟩)] 138)).alloc (.cells #[.int .u8 (last:Nat)] 5)) (.cells #[.string ⟨#[]⟩] 9)
  simpa using this
 have hnew:∀ k,w.heap.size≤k→¬ F k:=fun k hk hx=>by have:=h.lt k hx;omega
 have hK3:x9 w3 cb w.heap.size (w.heap.size+1+1) (w.heap.size+1) F ⟨#[]⟩ last:=⟨ai b0 rfl,ai b2 rfl,ai b1 rfl,⟨hnew _ (by omega),by omega⟩,⟨hnew _ (by omega),by omega⟩,⟨by simp[World.frozen?,b2],by omega,hnew _ (by omega),by simp only at hcbl;omega,by simp only at hcbl;omega⟩⟩
 have hR3:∃ K,dX dB w3 K (.slice ro rs.length rc) E rs∧∀ k,K k→¬ F k:=by
  obtain⟨K,h1,h2⟩:=hR
  exact⟨K,h1.fr hf3 (fun _ _ h=>h),h2⟩
 have HC:Hid (Calls Tryz.prog 152 #[.pointer (some ⟨cb,0,none⟩),.string ak,.pointer (some ⟨g,i,none⟩),.int .i64 32,.func (.func 153) #[] #[.pointer (some ⟨w.heap.size,0,none⟩),.pointer (some ⟨w.heap.size+1+1,0,none⟩),.pointer (some ⟨w.heap.size+1,0,none⟩)],.slice ro rs.length rc] w3 fun e w'=>e = .returned (.tuple #[])∧∃ F' x',Cd w' cb b F' (c.cK last rs l).1 E∧w'.cell? ⟨g,i,none⟩=some x'∧ks w w' c x x' (c.cK last rs l).2 F'∧aw w w' F F' (fun k j=>k=g∧j=i)):=by
  cases c with
  | wr s =>
   obtain⟨xo,xc,rfl,hV,hne⟩:=hX.wr s rfl
   have hV3:=hV.aV (aw.bD hf3 F (fun _ _=>False)) (fun _ _ _ _ _ h=>h)
   refine(py s rs ro rc last cb b g i w.heap.size (w.heap.size+1+1) (w.heap.size+1) ⟨#[]⟩ F E xo xc l w3 (h.aD hf3) hX.n (ax hf3 hp) (hL.aD hf3) hV3 (fun g' o e hl=>?_) (by omega) hK3 hR3 hrs hroom).mono ?_
   ·obtain⟨f,hf⟩:∃ f,l[0]?=some f:=by
     cases l with
     | nil=>exact absurd rfl hl
     | cons a r=>exact⟨a,rfl⟩
    obtain⟨_,g2,o2,e2,_,c0,_⟩:=hV.el 0 f hf
    rw[e] at e2
    cases e2
    have:=ab c0
    simp only at this
    omega
   ·rintro e w' ⟨rfl,F',hC,hs⟩
    have hs':aw w w' F F' (fun k j=>k=g∧j=i):=(aw.bD hf3 F _).trans (hs.mono (P':=fun k j=>k=w.heap.size+1+1∧j=0) (fun _ _ _ h=>h)) (fun k j hk h=>by omega)
    exact⟨rfl,F',_,hC,(hs.oth g i (by omega) hL.nF (fun h=>by omega)).trans (ax hf3 hp),⟨fun _ _=>rfl,fun q e=>by cases e⟩,hs'⟩
  | rd q =>
   obtain⟨rfl,rfl⟩:=hX.rd q rfl
   refine(p6 q rs ro rc last cb b g i w.heap.size (w.heap.size+1+1) (w.heap.size+1) ⟨#[]⟩ F E w3 (h.aD hf3) (ax hf3 hp) (hL.aD hf3) ⟨by omega,by omega,by omega⟩ hK3 hR3 hrs).mono ?_
   rintro e w' ⟨rfl,F',hC,x',hx',hO,hs⟩
   have hs':aw w w' F F' (fun k j=>k=g∧j=i):=(aw.bD hf3 F _).trans hs (fun k j hk h=>h.elim id (fun h=>by omega))
   exact⟨rfl,F',x',hC,hx',⟨fun s e=>(by cases e),fun _ _=>⟨hO.nF,aK hO.row (by omega),hO.ok⟩⟩,hs'⟩
 have hk0:=hK3.c
 clear h hp hX hL hR hroom hf3 hsz hcbl hcl b0 b1 b2 hnew hK3 hR3 hgl
 go_enter Tryz.func133,Tryz.ntmps133
 rw[hw3] at hk0
 go_wp2_with fail
 rw[← hw3]
 refine(aa HC).mono ?_
 rintro e w' ⟨rfl,hr⟩
 have HR:=ae hr
 clear hr hk0 hw3 HC
 go_wp2_with fail
 go_end0
 exact⟨rfl,aa HR⟩
theorem Tryz.uV (p:Addr) (w:World):(Instr.typeAssert (.iface 157 (.pointer (some p))) 20 157 true).run Tryz.prog w = .ok (.tuple #[.pointer (some p),.bool true]) w:=by kernel_rfl
theorem Tryz.xq (p:Addr) (w:World):(Instr.typeAssert (.iface 158 (.pointer (some p))) 20 158 true).run Tryz.prog w = .ok (.tuple #[.pointer (some p),.bool true]) w:=by kernel_rfl
theorem Tryz.jN (p:Addr) (w:World):(Instr.typeAssert (.iface 158 (.pointer (some p))) 20 157 true).run Tryz.prog w = .ok (.tuple #[.pointer none,.bool false]) w:=by kernel_rfl
theorem Tryz.yJ (p:Addr) (w:World):(Instr.typeAssert (.iface 210 (.pointer (some p))) 20 210 true).run Tryz.prog w = .ok (.tuple #[.pointer (some p),.bool true]) w:=by kernel_rfl
theorem Tryz.ku (p:Addr) (w:World):(Instr.typeAssert (.iface 210 (.pointer (some p))) 20 157 true).run Tryz.prog w = .ok (.tuple #[.pointer none,.bool false]) w:=by kernel_rfl
theorem Tryz.lh (p:Addr) (w:World):(Instr.typeAssert (.iface 210 (.pointer (some p))) 20 158 true).run Tryz.prog w = .ok (.tuple #[.pointer none,.bool false]) w:=by kernel_rfl
theorem Tryz.A2 (p:Addr) (w:World):(Instr.typeAssert (.iface 173 (.pointer (some p))) 20 173 true).run Tryz.prog w = .ok (.tuple #[.pointer (some p),.bool true]) w:=by kernel_rfl
theorem Tryz.lp (p:Addr) (w:World):(Instr.typeAssert (.iface 173 (.pointer (some p))) 20 157 true).run Tryz.prog w = .ok (.tuple #[.pointer none,.bool false]) w:=by kernel_rfl
theorem Tryz.ma (p:Addr) (w:World):(Instr.typeAssert (.iface 173 (.pointer (some p))) 20 158 true).run Tryz.prog w = .ok (.tuple #[.pointer none,.bool false]) w:=by kernel_rfl
theorem Tryz.nG (p:Addr) (w:World):(Instr.typeAssert (.iface 173 (.pointer (some p))) 20 210 true).run Tryz.prog w = .ok (.tuple #[.pointer none,.bool false]) w:=by kernel_rfl
theorem Tryz.wK (p:Addr) (w:World):(Instr.typeAssert (.iface 213 (.pointer (some p))) 20 213 true).run Tryz.prog w = .ok (.tuple #[.pointer (some p),.bool true]) w:=by kernel_rfl
theorem Tryz.jS (p:Addr) (w:World):(Instr.typeAssert (.iface 213 (.pointer (some p))) 20 157 true).run Tryz.prog w = .ok (.tuple #[.pointer none,.bool false]) w:=by kernel_rfl
theorem Tryz.kf (p:Addr) (w:World):(Instr.typeAssert (.iface 213 (.pointer (some p))) 20 158 true).run Tryz.prog w = .ok (.tuple #[.pointer none,.bool false]) w:=by kernel_rfl
theorem Tryz.la (p:Addr) (w:World):(Instr.typeAssert (.iface 213 (.pointer (some p))) 20 210 true).run Tryz.prog w = .ok (.tuple #[.pointer none,.bool false]) w:=by kernel_rfl
theorem Tryz.mK (p:Addr) (w:World):(Instr.typeAssert (.iface 213 (.pointer (some p))) 20 173 true).run Tryz.prog w = .ok (.tuple #[.pointer none,.bool false]) w:=by kernel_rfl
theorem Tryz.yZ (p:Addr) (w:World):(Instr.typeAssert (.iface 215 (.pointer (some p))) 20 215 true).run Tryz.prog w = .ok (.tuple #[.pointer (some p),.bool true]) w:=by kernel_rfl
theorem Tryz.kp (p:Addr) (w:World):(Instr.typeAssert (.iface 215 (.pointer (some p))) 20 157 true).run Tryz.prog w = .ok (.tuple #[.pointer none,.bool false]) w:=by kernel_rfl
theorem Tryz.ly (p:Addr) (w:World):(Instr.typeAssert (.iface 215 (.pointer (some p))) 20 158 true).run Tryz.prog w = .ok (.tuple #[.pointer none,.bool false]) w:=by kernel_rfl
theorem Tryz.mZ (p:Addr) (w:World):(Instr.typeAssert (.iface 215 (.pointer (some p))) 20 210 true).run Tryz.prog w = .ok (.tuple #[.pointer none,.bool false]) w:=by kernel_rfl
theorem Tryz.nL (p:Addr) (w:World):(Instr.typeAssert (.iface 215 (.pointer (some p))) 20 173 true).run Tryz.prog w = .ok (.tuple #[.pointer none,.bool false]) w:=by kernel_rfl
theorem Tryz.lz (p:Addr) (w:World):(Instr.typeAssert (.iface 215 (.pointer (some p))) 20 213 true).run Tryz.prog w = .ok (.tuple #[.pointer none,.bool false]) w:=by kernel_rfl
theorem Tryz.tm (p:Addr) (w:World):(Instr.typeAssert (.iface 145 (.pointer (some p))) 20 145 true).run Tryz.prog w = .ok (.tuple #[.pointer (some p),.bool true]) w:=by kernel_rfl
theorem Tryz.jk (p:Addr) (w:World):(Instr.typeAssert (.iface 145 (.pointer (some p))) 20 157 true).run Tryz.prog w = .ok (.tuple #[.pointer none,.bool false]) w:=by kernel_rfl
theorem Tryz.jK (p:Addr) (w:World):(Instr.typeAssert (.iface 145 (.pointer (some p))) 20 158 true).run Tryz.prog w = .ok (.tuple #[.pointer none,.bool false]) w:=by kernel_rfl
theorem Tryz.kM (p:Addr) (w:World):(Instr.typeAssert (.iface 145 (.pointer (some p))) 20 210 true).run Tryz.prog w = .ok (.tuple #[.pointer none,.bool false]) w:=by kernel_rfl
theorem Tryz.lB (p:Addr) (w:World):(Instr.typeAssert (.iface 145 (.pointer (some p))) 20 173 true).run Tryz.prog w = .ok (.tuple #[.pointer none,.bool false]) w:=by kernel_rfl
theorem Tryz.jW (p:Addr) (w:World):(Instr.typeAssert (.iface 145 (.pointer (some p))) 20 213 true).run Tryz.prog w = .ok (.tuple #[.pointer none,.bool false]) w:=by kernel_rfl
theorem Tryz.kL (p:Addr) (w:World):(Instr.typeAssert (.iface 145 (.pointer (some p))) 20 215 true).run Tryz.prog w = .ok (.tuple #[.pointer none,.bool false]) w:=by kernel_rfl
theorem CS.mR {c:CS} {n:Nat} (h:c.room (n+2)) (v:Nat × List Nat):(c.dA v).1.room n:=CS.uW (CS.bc h _ _ _) _ _
def CS.cu (c:CS) (v:(Nat × List Nat) × Nat × List Nat):CS × (Nat × List Nat) × Nat × List Nat:=
 ((((c.dA v.1).1.bW ey [] v.2.1).1.fK bH 32768 [fun v=>dj 0 32768 v.length] v.2.2).1,(c.dA v.1).2,((c.dA v.1).1.bW ey [] v.2.1).2,(((c.dA v.1).1.bW ey [] v.2.1).1.fK bH 32768 [fun v=>dj 0 32768 v.length] v.2.2).2)
theorem uk (c:CS) (size key:Nat) (root sig:List Nat) (x y:Value) (cb b g o:Nat) (F:Nat→Prop) (E:Nat→Addr) (w:World) (h:Cd w cb b F c E) (hp0:w.cell? ⟨g,o,none⟩=some (.int .u32 (size:Nat))) (hp1:w.cell? ⟨g,o+1,none⟩=some x) (hp2:w.cell? ⟨g,o+2,none⟩=some (.int .u32 (key:Nat))) (hp3:w.cell? ⟨g,o+3,none⟩=some y) (hB:oO w x root F g) (hB2:oO w y sig F g) (hL:∀ i,Loc w cb F g i) (hsz:size<4294967296) (hkey:key<4294967296) (hroom:c.room 4) :
  Calls Tryz.prog 112 #[.pointer (some ⟨cb,0,none⟩),.pointer (some ⟨g,o,none⟩)] w fun e w'=>e = .returned (.tuple #[])∧∃ F',Cd w' cb b F' (c.cu ((size,root),key,sig)).1 E∧w'.cell? ⟨g,o,none⟩=some (.int .u32 ((c.cu ((size,root),key,sig)).2.1.1:Nat))∧w'.cell? ⟨g,o+2,none⟩=some (.int .u32 ((c.cu ((size,root),key,sig)).2.2.1:Nat))∧∃ x' y',w'.cell? ⟨g,o+1,none⟩=some x'∧w'.cell? ⟨g,o+3,none⟩=some y'∧BO w w' c x' (c.cu ((size,root),key,sig)).2.1.2 F' g∧BO w w' c y' (c.cu ((size,root),key,sig)).2.2.2 F' g∧aw w w' F F' (aH g o 4):=by
 have H:=ae (And.intro h (And.intro hB2 hL))
 have HH:=ae (sG c size root x cb b g o F E w h hp0 hp1 hB hL hsz (by simp only[CS.room] at *;omega))
 have hgl:=(hL o).lt
 have hgF:=(hL o).nF
 clear h hB hB2 hL
 go_enter Tryz.func112,Tryz.ntmps112
 go_wp2_with fail
 refine(aa HH).mono ?_
 rintro e w1 ⟨rfl,F1,hC1,hc1,x1,hx1,ho1,hs1⟩
 have hgl1:=Nat.lt_of_lt_of_le hgl hs1.size
 have hgF1:=hs1.nF hgl hgF
 have hp2':w1.cell? ⟨g,o+2,none⟩=some (.int .u32 (key:Nat)):=(hs1.oth g (o+2) hgl hgF (fun h=>by have:=h.2;omega)).trans hp2
 have hp3':w1.cell? ⟨g,o+3,none⟩=some y:=(hs1.oth g (o+3) hgl hgF (fun h=>by have:=h.2;omega)).trans hp3
 have hB1:=(aa H).2.1.aV hs1 (fun k i _ h=>h.1)
 have hr1:(c.dA (size,root)).1.room 2:=CS.mR (by simpa using hroom) _
 have HN:=ae (bZ (c.dA (size,root)).1 ey [] key cb b g (o+2) F1 E (.slice none 0 0) w1 hC1 hp2' (((aa H).2.2 (o+2)).aV hs1) hkey (iV.nil _ w1 F1 g E) (by simp only[CS.room] at *;omega))
 have H1:=ae (And.intro hs1 (And.intro hc1 (And.intro hC1 (And.intro hB1 (And.intro hx1 (And.intro ho1 (And.intro hp3' (And.intro hgF1 hr1))))))))
 clear hs1 hc1 hC1 hB1 hx1 ho1 hp3' hgF1 hr1
 go_wp2_with fail
 refine(aa HN).mono ?_
 rintro e w2 ⟨rfl,F2,hC2,hc2,hs2⟩
 obtain⟨hs1,hc1,hC1,hB1,hx1,ho1,hp3',hgF1,hr1⟩:=aa H1
 have hgl2:=Nat.lt_of_lt_of_le hgl1 hs2.size
 have hgF2:=hs2.nF hgl1 hgF1
 have hP2:∀ k i,k<w1.heap.size→(k=g∧i=o+2)→k=g:=fun k i _ h=>h.1
 have hB2:=hB1.aV hs2 hP2
 have hp3'':w2.cell? ⟨g,o+3,none⟩=some y:=(hs2.oth g (o+3) hgl1 hgF1 (fun h=>by omega)).trans hp3'
 have hr2:=CS.bc (n:=1) hr1 ey [] key
 have HR:=ae (vB ((c.dA (size,root)).1.bW ey [] key).1 bH 0 32768 [] y sig cb b g (o+3) F2 E (.slice none 0 0) w2 hC2 hp3'' hB2.bv ((((aa H).2.2 (o+3)).aV hs1).aV hs2) hB2.len (by decide) (iV.nil _ w2 F2 g E) (by decide) hr2)
 have hx2:w2.cell? ⟨g,o+1,none⟩=some x1:=(hs2.oth g (o+1) hgl1 hgF1 (fun h=>by omega)).trans hx1
 have hz2:w2.cell? ⟨g,o,none⟩=some (.int .u32 ((c.dA (size,root)).2.1:Nat)):=(hs2.oth g o hgl1 hgF1 (fun h=>by omega)).trans hc1
 have ho2:=ho1.aV hs2 hP2
 have hs02:aw w w2 F F2 (aH g o 4):=(hs1.mono (fun k j _ h=>⟨h.1,h.2.1,by have:=h.2.2;omega⟩)).trans hs2 (fun k j _ h=>⟨h.1,by omega,by omega⟩)
 have H2:=ae (And.intro hs02 (And.intro hc2 (And.intro hC2 (And.intro hB2 (And.intro hx2 (And.intro ho2 (And.intro hz2 (And.intro hgF2 hgl2))))))))
 clear hs1 hc1 hC1 hB1 hx1 ho1 hp3' hgF1 hr1 hs2 hc2 hC2 hB2 hx2 ho2 hp3'' hgF2 hr2 hP2 hs02 hz2 H1 HN HH
 go_wp2_with fail
 refine(aa HR).mono ?_
 rintro e w3 ⟨rfl,F3,y3,hC3,hy3,hyo,hyn,hs3⟩
 obtain⟨hs02,hc2,hC2,hB2,hx2,ho2,hz2,hgF2,hgl2⟩:=aa H2
 have hbo:=(yr hC2 hB2 hgl2 hs3 hyo hyn).mode (w0:=w) (c:=c) hs02.size (by rintro q rfl;exact⟨_,rfl⟩)
 have H3:=ae (And.intro hC3 (And.intro ((hs3.oth g o hgl2 hgF2 (fun h=>by omega)).trans hz2) (And.intro ((hs3.oth g (o+2) hgl2 hgF2 (fun h=>by omega)).trans hc2) (And.intro ((hs3.oth g (o+1) hgl2 hgF2 (fun h=>by omega)).trans hx2) (And.intro hy3 (And.intro (ho2.aV hs3 (fun k j _ h=>h.1)) (And.intro hbo (hs02.trans hs3 (fun k j _ h=>⟨h.1,by omega,by omega⟩)))))))))
 clear hC3 hy3 hyo hyn hs3 hs02 hc2 hC2 hB2 hx2 ho2 hz2 hgF2 hgl2 hbo
 go_wp2_with fail
 go_end0
 obtain⟨a1,a2,a3,a4,a5,a6,a7,a8⟩:=aa H3
 exact⟨rfl,F3,a1,a2,a3,x1,y3,a4,a5,a6,a7,a8⟩
variable {L:List Nat}
theorem CS.again.w {c d:CS} (h:c.again d L):∃ s,d = .wr s:=by obtain⟨_,s,_,e,_,_⟩:=h;exact⟨s,e⟩
theorem mv (last:Nat) (s:CS × ByteArray):∀ n,(fL (ba last) ej n s).2.length=n
 | 0=>rfl
 | n+1=>by
  show((fL (ba last) ej n s).2++[_]).length=n+1
  rw[List.length_append,mv last s n];rfl
def CS.sm (c c':CS):Prop:=(∀ s,c' = .wr s→∃ s',c = .wr s')∧(∀ q,c' = .rd q→∃ q',c = .rd q')
theorem CS.pY (c:CS):c.sm c:=⟨fun s h=>⟨s,h⟩,fun q h=>⟨q,h⟩⟩
theorem CS.aI {a b c:CS} (h:a.sm b) (k:b.sm c):a.sm c:=⟨fun s e=>by obtain⟨s',e'⟩:=k.1 s e;exact h.1 s' e',fun q e=>by obtain⟨q',e'⟩:=k.2 q e;exact h.2 q' e'⟩
theorem CS.oC (s s':Wq):(CS.wr s).sm (.wr s'):=⟨fun _ _=>⟨s,rfl⟩,fun _ e=>(by cases e)⟩
theorem CS.oQ (q q':Q):(CS.rd q).sm (.rd q'):=⟨fun _ e=>(by cases e),fun _ _=>⟨q,rfl⟩⟩
theorem CS.fJ (c:CS) (nm:ByteArray) (rs:List (Nat→Nat)) (v:Nat):c.sm (c.fF nm rs v).1:=by
 cases c with
 | wr s=>exact CS.oC _ _
 | rd q=>exact CS.oQ _ _
theorem CS.bS (c:CS) (nm:ByteArray) (rs:List (Nat→Nat)) (v:Nat):c.sm (c.bW nm rs v).1:=by
 cases c with
 | wr s=>exact CS.oC _ _
 | rd q=>exact CS.oQ _ _
theorem CS.AG (c:CS) (nm:ByteArray) (m:Int) (rs:List (ByteArray→Nat)) (v:ByteArray):c.sm (c.dU nm m rs v).1:=by
 cases c with
 | wr s=>exact CS.oC _ _
 | rd q=>exact CS.oQ _ _
theorem CS.km (c:CS) (v:Nat × Nat):c.sm (c.kB v).1:=CS.aI (c.bS dk [] v.1) (CS.bS _ _ _ _)
theorem qK (last:Nat):∀ (xs:List cA) (s:CS × ByteArray),(∃ s',s.1 = .wr s')→∃ s',(nh (ba last) s xs).1 = .wr s'
 | [],s,h=>h
 | x::xs,s,⟨s',h⟩=>qK last xs _ (by
  show ∃ s'',(s.1.bP s.2 last x).1 = .wr s''
  rw[h]
  exact CS.ky _ _ _ _)
theorem mJ (last:Nat) (s:CS × ByteArray) (h:∃ q,s.1 = .rd q):∀ n,∃ q,(fL (ba last) ej n s).1.1 = .rd q
 | 0=>h
 | n+1=>by
  obtain⟨q,hq⟩:=mJ last s h n
  show ∃ q',((fL (ba last) ej n s).1.1.bP (fL (ba last) ej n s).1.2 last ej).1 = .rd q'
  rw[hq]
  exact CS.kn _ _ _ _
theorem CS.jA (c:CS) (last:Nat) (rs:List (Int→Nat)) (l:List cA):c.sm (c.cK last rs l).1:=by
 cases c with
 | wr s =>
  obtain⟨s',e⟩:=qK last (l.take (min l.length 32)) (((CS.wr s).cB ak 32 (eA 32 rs) l.length).1,⟨#[]⟩) ⟨_,rfl⟩
  show(CS.wr s).sm (nh (ba last) (((CS.wr s).cB ak 32 (eA 32 rs) l.length).1,⟨#[]⟩) (l.take (min l.length 32))).1
  rw[e]
  exact CS.oC _ _
 | rd q =>
  obtain⟨q',e⟩:=mJ last (((CS.rd q).cB ak 32 (eA 32 rs) 0).1,⟨#[]⟩) ⟨_,rfl⟩ (min ((q.named ak).go 7 32).2.1 32)
  show(CS.rd q).sm (fL (ba last) ej (min ((q.named ak).go 7 32).2.1 32) (((CS.rd q).cB ak 32 (eA 32 rs) 0).1,⟨#[]⟩)).1.1
  rw[e]
  exact CS.oQ _ _
theorem rJ (last:Nat):∀ (xs:List cA) (s:CS × ByteArray) (n:Nat),s.1.room (n+4 * xs.length)→(nh (ba last) s xs).1.room n
 | [],s,n,h=>by
  show s.1.room n
  simpa using h
 | x::xs,s,n,h=>rJ last xs _ n (CS.kU (n:=n+4 * xs.length) (CS.room_le h (by simp;omega)) s.2 last x)
theorem CS.gu {c:CS} {n:Nat} (h:c.room (n+129)) (last:Nat) (rs:List (Int→Nat)) (l:List cA):(c.cK last rs l).1.room n:=by
 cases c with
 | wr s =>
  have h1:=CS.kD (c:=.wr s) (n:=n+128) h ak 32 (eA 32 rs) l.length
  exact rJ last _ _ n (CS.room_le h1 (by simp;omega))
 | rd q =>
  obtain⟨q',e⟩:=mJ last (((CS.rd q).cB ak 32 (eA 32 rs) 0).1,⟨#[]⟩) ⟨_,rfl⟩ (min ((q.named ak).go 7 32).2.1 32)
  show(fL (ba last) ej (min ((q.named ak).go 7 32).2.1 32) (((CS.rd q).cB ak 32 (eA 32 rs) 0).1,⟨#[]⟩)).1.1.room n
  rw[e]
  simp only[CS.room,CS.len] at *
  omega
structure ed where
 cl:Nat
 nu:Nat
 ac:Nat
 op:Nat
 re:Nat
 ve:Nat
 wa:Nat
 ow:Nat
 fs:List cA
 rs:ByteArray
structure ed.ok (v:ed):Prop where
 cl:v.cl<4294967296
 nu:v.nu<4294967296
 ac:v.ac<4294967296
 op:v.op<256
 re:v.re<4294967296
 ve:v.ve<4294967296
 wa:v.wa<4294967296
 ow:v.ow<4294967296
 rs:v.rs.size<9223372036854775808
structure pG (w:World) (g o:Nat) (v:ed) (x:Value):Prop where
 c0:w.cell? ⟨g,o+0,none⟩=some (.int .u32 (v.cl:Nat))
 c1:w.cell? ⟨g,o+1,none⟩=some (.int .u32 (v.nu:Nat))
 c2:w.cell? ⟨g,o+2,none⟩=some (.int .u32 (v.ac:Nat))
 c3:w.cell? ⟨g,o+3,none⟩=some (.int .u8 (v.op:Nat))
 c4:w.cell? ⟨g,o+4,none⟩=some (.int .u32 (v.re:Nat))
 c5:w.cell? ⟨g,o+5,none⟩=some (.int .u32 (v.ve:Nat))
 c6:w.cell? ⟨g,o+6,none⟩=some (.int .u32 (v.wa:Nat))
 c7:w.cell? ⟨g,o+7,none⟩=some (.int .u32 (v.ow:Nat))
 c8:w.cell? ⟨g,o+8,none⟩=some x
 c9:w.cell? ⟨g,o+9,none⟩=some (.string v.rs)
structure gf (w0 w:World) (cb b g o:Nat) (F0 F:Nat→Prop) (c:CS) (E:Nat→Addr) (v:ed) (x:Value):Prop where
 C:Cd w cb b F c E
 r:pG w g o v x
 s:aw w0 w F0 F (aH g o 10)
 L:∀ i,Loc w cb F g i
theorem gf.aD {w0 w w':World} {cb b g o:Nat} {F0 F:Nat→Prop} {c:CS} {E:Nat→Addr} {v:ed} {x:Value} (h:gf w0 w cb b g o F0 F c E v x) (hf:Fr (fun _=>False) w w'):gf w0 w' cb b g o F0 F c E v x:=
 ⟨h.C.aD hf,⟨ax hf h.r.c0,ax hf h.r.c1,ax hf h.r.c2,ax hf h.r.c3,ax hf h.r.c4,ax hf h.r.c5,ax hf h.r.c6,ax hf h.r.c7,ax hf h.r.c8,ax hf h.r.c9⟩,h.s.trans (aw.bD hf F (fun _ _=>False)) (fun _ _ _ h=>h.elim),fun i=>(h.L i).aD hf⟩
theorem gf.s0 {w0 w w':World} {cb b g o:Nat} {F0 F F':Nat→Prop} {c c':CS} {E:Nat→Addr} {v:ed} {x:Value} (h:gf w0 w cb b g o F0 F c E v x) (n:Nat) (hC:Cd w' cb b F' c' E) (hc:w'.cell? ⟨g,o+0,none⟩=some (.int .u32 (n:Nat))) (hs:aw w w' F F' (fun k j=>k=g∧j=o+0)):gf w0 w' cb b g o F0 F' c' E { v with cl:=n } x:=
 ⟨hC,⟨hc,(hs.oth g (o+1) (h.L 0).lt (h.L 0).nF (fun e=>by omega)).trans h.r.c1,(hs.oth g (o+2) (h.L 0).lt (h.L 0).nF (fun e=>by omega)).trans h.r.c2,(hs.oth g (o+3) (h.L 0).lt (h.L 0).nF (fun e=>by omega)).trans h.r.c3,(hs.oth g (o+4) (h.L 0).lt (h.L 0).nF (fun e=>by omega)).trans h.r.c4,(hs.oth g (o+5) (h.L 0).lt (h.L 0).nF (fun e=>by omega)).trans h.r.c5,(hs.oth g (o+6) (h.L 0).lt (h.L 0).nF (fun e=>by omega)).trans h.r.c6,(hs.oth g (o+7) (h.L 0).lt (h.L 0).nF (fun e=>by omega)).trans h.r.c7,(hs.oth g (o+8) (h.L 0).lt (h.L 0).nF (fun e=>by omega)).trans h.r.c8,(hs.oth g (o+9) (h.L 0).lt (h.L 0).nF (fun e=>by omega)).trans h.r.c9⟩,h.s.trans hs (fun k j _ e=>⟨e.1,by omega,by omega⟩),fun i=>(h.L i).aV hs⟩
theorem gf.s2 {w0 w w':World} {cb b g o:Nat} {F0 F F':Nat→Prop} {c c':CS} {E:Nat→Addr} {v:ed} {x:Value} (h:gf w0 w cb b g o F0 F c E v x) (n:Nat) (hC:Cd w' cb b F' c' E) (hc:w'.cell? ⟨g,o+2,none⟩=some (.int .u32 (n:Nat))) (hs:aw w w' F F' (fun k j=>k=g∧j=o+2)):gf w0 w' cb b g o F0 F' c' E { v with ac:=n } x:=
 ⟨hC,⟨(hs.oth g (o+0) (h.L 0).lt (h.L 0).nF (fun e=>by omega)).trans h.r.c0,(hs.oth g (o+1) (h.L 0).lt (h.L 0).nF (fun e=>by omega)).trans h.r.c1,hc,(hs.oth g (o+3) (h.L 0).lt (h.L 0).nF (fun e=>by omega)).trans h.r.c3,(hs.oth g (o+4) (h.L 0).lt (h.L 0).nF (fun e=>by omega)).trans h.r.c4,(hs.oth g (o+5) (h.L 0).lt (h.L 0).nF (fun e=>by omega)).trans h.r.c5,(hs.oth g (o+6) (h.L 0).lt (h.L 0).nF (fun e=>by omega)).trans h.r.c6,(hs.oth g (o+7) (h.L 0).lt (h.L 0).nF (fun e=>by omega)).trans h.r.c7,(hs.oth g (o+8) (h.L 0).lt (h.L 0).nF (fun e=>by omega)).trans h.r.c8,(hs.oth g (o+9) (h.L 0).lt (h.L 0).nF (fun e=>by omega)).trans h.r.c9⟩,h.s.trans hs (fun k j _ e=>⟨e.1,by omega,by omega⟩),fun i=>(h.L i).aV hs⟩
theorem gf.s3 {w0 w w':World} {cb b g o:Nat} {F0 F F':Nat→Prop} {c c':CS} {E:Nat→Addr} {v:ed} {x:Value} (h:gf w0 w cb b g o F0 F c E v x) (n:Nat) (hC:Cd w' cb b F' c' E) (hc:w'.cell? ⟨g,o+3,none⟩=some (.int .u8 (n:Nat))) (hs:aw w w' F F' (fun k j=>k=g∧j=o+3)):gf w0 w' cb b g o F0 F' c' E { v with op:=n } x:=
 ⟨hC,⟨(hs.oth g (o+0) (h.L 0).lt (h.L 0).nF (fun e=>by omega)).trans h.r.c0,(hs.oth g (o+1) (h.L 0).lt (h.L 0).nF (fun e=>by omega)).trans h.r.c1,(hs.oth g (o+2) (h.L 0).lt (h.L 0).nF (fun e=>by omega)).trans h.r.c2,hc,(hs.oth g (o+4) (h.L 0).lt (h.L 0).nF (fun e=>by omega)).trans h.r.c4,(hs.oth g (o+5) (h.L 0).lt (h.L 0).nF (fun e=>by omega)).trans h.r.c5,(hs.oth g (o+6) (h.L 0).lt (h.L 0).nF (fun e=>by omega)).trans h.r.c6,(hs.oth g (o+7) (h.L 0).lt (h.L 0).nF (fun e=>by omega)).trans h.r.c7,(hs.oth g (o+8) (h.L 0).lt (h.L 0).nF (fun e=>by omega)).trans h.r.c8,(hs.oth g (o+9) (h.L 0).lt (h.L 0).nF (fun e=>by omega)).trans h.r.c9⟩,h.s.trans hs (fun k j _ e=>⟨e.1,by omega,by omega⟩),fun i=>(h.L i).aV hs⟩
theorem gf.s4 {w0 w w':World} {cb b g o:Nat} {F0 F F':Nat→Prop} {c c':CS} {E:Nat→Addr} {v:ed} {x:Value} (h:gf w0 w cb b g o F0 F c E v x) (n:Nat) (hC:Cd w' cb b F' c' E) (hc:w'.cell? ⟨g,o+4,none⟩=some (.int .u32 (n:Nat))) (hs:aw w w' F F' (fun k j=>k=g∧j=o+4)):gf w0 w' cb b g o F0 F' c' E { v with re:=n } x:=
 ⟨hC,⟨(hs.oth g (o+0) (h.L 0).lt (h.L 0).nF (fun e=>by omega)).trans h.r.c0,(hs.oth g (o+1) (h.L 0).lt (h.L 0).nF (fun e=>by omega)).trans h.r.c1,(hs.oth g (o+2) (h.L 0).lt (h.L 0).nF (fun e=>by omega)).trans h.r.c2,(hs.oth g (o+3) (h.L 0).lt (h.L 0).nF (fun e=>by omega)).trans h.r.c3,hc,(hs.oth g (o+5) (h.L 0).lt (h.L 0).nF (fun e=>by omega)).trans h.r.c5,(hs.oth g (o+6) (h.L 0).lt (h.L 0).nF (fun e=>by omega)).trans h.r.c6,(hs.oth g (o+7) (h.L 0).lt (h.L 0).nF (fun e=>by omega)).trans h.r.c7,(hs.oth g (o+8) (h.L 0).lt (h.L 0).nF (fun e=>by omega)).trans h.r.c8,(hs.oth g (o+9) (h.L 0).lt (h.L 0).nF (fun e=>by omega)).trans h.r.c9⟩,h.s.trans hs (fun k j _ e=>⟨e.1,by omega,by omega⟩),fun i=>(h.L i).aV hs⟩
theorem gf.s5 {w0 w w':World} {cb b g o:Nat} {F0 F F':Nat→Prop} {c c':CS} {E:Nat→Addr} {v:ed} {x:Value} (h:gf w0 w cb b g o F0 F c E v x) (n:Nat) (hC:Cd w' cb b F' c' E) (hc:w'.cell? ⟨g,o+5,none⟩=some (.int .u32 (n:Nat))) (hs:aw w w' F F' (fun k j=>k=g∧j=o+5)):gf w0 w' cb b g o F0 F' c' E { v with ve:=n } x:=
 ⟨hC,⟨(hs.oth g (o+0) (h.L 0).lt (h.L 0).nF (fun e=>by omega)).trans h.r.c0,(hs.oth g (o+1) (h.L 0).lt (h.L 0).nF (fun e=>by omega)).trans h.r.c1,(hs.oth g (o+2) (h.L 0).lt (h.L 0).nF (fun e=>by omega)).trans h.r.c2,(hs.oth g (o+3) (h.L 0).lt (h.L 0).nF (fun e=>by omega)).trans h.r.c3,(hs.oth g (o+4) (h.L 0).lt (h.L 0).nF (fun e=>by omega)).trans h.r.c4,hc,(hs.oth g (o+6) (h.L 0).lt (h.L 0).nF (fun e=>by omega)).trans h.r.c6,(hs.oth g (o+7) (h.L 0).lt (h.L 0).nF (fun e=>by omega)).trans h.r.c7,(hs.oth g (o+8) (h.L 0).lt (h.L 0).nF (fun e=>by omega)).trans h.r.c8,(hs.oth g (o+9) (h.L 0).lt (h.L 0).nF (fun e=>by omega)).trans h.r.c9⟩,h.s.trans hs (fun k j _ e=>⟨e.1,by omega,by omega⟩),fun i=>(h.L i).aV hs⟩
theorem gf.s6 {w0 w w':World} {cb b g o:Nat} {F0 F F':Nat→Prop} {c c':CS} {E:Nat→Addr} {v:ed} {x:Value} (h:gf w0 w cb b g o F0 F c E v x) (n:Nat) (hC:Cd w' cb b F' c' E) (hc:w'.cell? ⟨g,o+6,none⟩=some (.int .u32 (n:Nat))) (hs:aw w w' F F' (fun k j=>k=g∧j=o+6)):gf w0 w' cb b g o F0 F' c' E { v with wa:=n } x:=
 ⟨hC,⟨(hs.oth g (o+0) (h.L 0).lt (h.L 0).nF (fun e=>by omega)).trans h.r.c0,(hs.oth g (o+1) (h.L 0).lt (h.L 0).nF (fun e=>by omega)).trans h.r.c1,(hs.oth g (o+2) (h.L 0).lt (h.L 0).nF (fun e=>by omega)).trans h.r.c2,(hs.oth g (o+3) (h.L 0).lt (h.L 0).nF (fun e=>by omega)).trans h.r.c3,(hs.oth g (o+4) (h.L 0).lt (h.L 0).nF (fun e=>by omega)).trans h.r.c4,(hs.oth g (o+5) (h.L 0).lt (h.L 0).nF (fun e=>by omega)).trans h.r.c5,hc,(hs.oth g (o+7) (h.L 0).lt (h.L 0).nF (fun e=>by omega)).trans h.r.c7,(hs.oth g (o+8) (h.L 0).lt (h.L 0).nF (fun e=>by omega)).trans h.r.c8,(hs.oth g (o+9) (h.L 0).lt (h.L 0).nF (fun e=>by omega)).trans h.r.c9⟩,h.s.trans hs (fun k j _ e=>⟨e.1,by omega,by omega⟩),fun i=>(h.L i).aV hs⟩
theorem gf.s7 {w0 w w':World} {cb b g o:Nat} {F0 F F':Nat→Prop} {c c':CS} {E:Nat→Addr} {v:ed} {x:Value} (h:gf w0 w cb b g o F0 F c E v x) (n:Nat) (hC:Cd w' cb b F' c' E) (hc:w'.cell? ⟨g,o+7,none⟩=some (.int .u32 (n:Nat))) (hs:aw w w' F F' (fun k j=>k=g∧j=o+7)):gf w0 w' cb b g o F0 F' c' E { v with ow:=n } x:=
 ⟨hC,⟨(hs.oth g (o+0) (h.L 0).lt (h.L 0).nF (fun e=>by omega)).trans h.r.c0,(hs.oth g (o+1) (h.L 0).lt (h.L 0).nF (fun e=>by omega)).trans h.r.c1,(hs.oth g (o+2) (h.L 0).lt (h.L 0).nF (fun e=>by omega)).trans h.r.c2,(hs.oth g (o+3) (h.L 0).lt (h.L 0).nF (fun e=>by omega)).trans h.r.c3,(hs.oth g (o+4) (h.L 0).lt (h.L 0).nF (fun e=>by omega)).trans h.r.c4,(hs.oth g (o+5) (h.L 0).lt (h.L 0).nF (fun e=>by omega)).trans h.r.c5,(hs.oth g (o+6) (h.L 0).lt (h.L 0).nF (fun e=>by omega)).trans h.r.c6,hc,(hs.oth g (o+8) (h.L 0).lt (h.L 0).nF (fun e=>by omega)).trans h.r.c8,(hs.oth g (o+9) (h.L 0).lt (h.L 0).nF (fun e=>by omega)).trans h.r.c9⟩,h.s.trans hs (fun k j _ e=>⟨e.1,by omega,by omega⟩),fun i=>(h.L i).aV hs⟩
theorem gf.s8 {w0 w w':World} {cb b g o:Nat} {F0 F F':Nat→Prop} {c c':CS} {E:Nat→Addr} {v:ed} {x:Value} (h:gf w0 w cb b g o F0 F c E v x) (y:Value) (hC:Cd w' cb b F' c' E) (hc:w'.cell? ⟨g,o+8,none⟩=some (y)) (hs:aw w w' F F' (fun k j=>k=g∧j=o+8)):gf w0 w' cb b g o F0 F' c' E v y:=
 ⟨hC,⟨(hs.oth g (o+0) (h.L 0).lt (h.L 0).nF (fun e=>by omega)).trans h.r.c0,(hs.oth g (o+1) (h.L 0).lt (h.L 0).nF (fun e=>by omega)).trans h.r.c1,(hs.oth g (o+2) (h.L 0).lt (h.L 0).nF (fun e=>by omega)).trans h.r.c2,(hs.oth g (o+3) (h.L 0).lt (h.L 0).nF (fun e=>by omega)).trans h.r.c3,(hs.oth g (o+4) (h.L 0).lt (h.L 0).nF (fun e=>by omega)).trans h.r.c4,(hs.oth g (o+5) (h.L 0).lt (h.L 0).nF (fun e=>by omega)).trans h.r.c5,(hs.oth g (o+6) (h.L 0).lt (h.L 0).nF (fun e=>by omega)).trans h.r.c6,(hs.oth g (o+7) (h.L 0).lt (h.L 0).nF (fun e=>by omega)).trans h.r.c7,hc,(hs.oth g (o+9) (h.L 0).lt (h.L 0).nF (fun e=>by omega)).trans h.r.c9⟩,h.s.trans hs (fun k j _ e=>⟨e.1,by omega,by omega⟩),fun i=>(h.L i).aV hs⟩
theorem gf.s9 {w0 w w':World} {cb b g o:Nat} {F0 F F':Nat→Prop} {c c':CS} {E:Nat→Addr} {v:ed} {x:Value} (h:gf w0 w cb b g o F0 F c E v x) (y:ByteArray) (hC:Cd w' cb b F' c' E) (hc:w'.cell? ⟨g,o+9,none⟩=some (.string y)) (hs:aw w w' F F' (fun k j=>k=g∧j=o+9)):gf w0 w' cb b g o F0 F' c' E { v with rs:=y } x:=
 ⟨hC,⟨(hs.oth g (o+0) (h.L 0).lt (h.L 0).nF (fun e=>by omega)).trans h.r.c0,(hs.oth g (o+1) (h.L 0).lt (h.L 0).nF (fun e=>by omega)).trans h.r.c1,(hs.oth g (o+2) (h.L 0).lt (h.L 0).nF (fun e=>by omega)).trans h.r.c2,(hs.oth g (o+3) (h.L 0).lt (h.L 0).nF (fun e=>by omega)).trans h.r.c3,(hs.oth g (o+4) (h.L 0).lt (h.L 0).nF (fun e=>by omega)).trans h.r.c4,(hs.oth g (o+5) (h.L 0).lt (h.L 0).nF (fun e=>by omega)).trans h.r.c5,(hs.oth g (o+6) (h.L 0).lt (h.L 0).nF (fun e=>by omega)).trans h.r.c6,(hs.oth g (o+7) (h.L 0).lt (h.L 0).nF (fun e=>by omega)).trans h.r.c7,(hs.oth g (o+8) (h.L 0).lt (h.L 0).nF (fun e=>by omega)).trans h.r.c8,hc⟩,h.s.trans hs (fun k j _ e=>⟨e.1,by omega,by omega⟩),fun i=>(h.L i).aV hs⟩
theorem gf.sId {w0 w w':World} {cb b g o:Nat} {F0 F F':Nat→Prop} {c c':CS} {E:Nat→Addr} {v:ed} {x:Value} (h:gf w0 w cb b g o F0 F c E v x) (n m:Nat) (hC:Cd w' cb b F' c' E) (h0:w'.cell? ⟨g,o+0,none⟩=some (.int .u32 (n:Nat))) (h1:w'.cell? ⟨g,o+1,none⟩=some (.int .u32 (m:Nat))) (hs:aw w w' F F' (aH g o 2)):gf w0 w' cb b g o F0 F' c' E { v with cl:=n,nu:=m } x:=
 ⟨hC,⟨h0,h1,(hs.oth g (o+2) (h.L 0).lt (h.L 0).nF (fun e=>by have:=e.2;omega)).trans h.r.c2,(hs.oth g (o+3) (h.L 0).lt (h.L 0).nF (fun e=>by have:=e.2;omega)).trans h.r.c3,(hs.oth g (o+4) (h.L 0).lt (h.L 0).nF (fun e=>by have:=e.2;omega)).trans h.r.c4,(hs.oth g (o+5) (h.L 0).lt (h.L 0).nF (fun e=>by have:=e.2;omega)).trans h.r.c5,(hs.oth g (o+6) (h.L 0).lt (h.L 0).nF (fun e=>by have:=e.2;omega)).trans h.r.c6,(hs.oth g (o+7) (h.L 0).lt (h.L 0).nF (fun e=>by have:=e.2;omega)).trans h.r.c7,(hs.oth g (o+8) (h.L 0).lt (h.L 0).nF (fun e=>by have:=e.2;omega)).trans h.r.c8,(hs.oth g (o+9) (h.L 0).lt (h.L 0).nF (fun e=>by have:=e.2;omega)).trans h.r.c9⟩,h.s.trans hs (fun k j _ e=>⟨e.1,by have:=e.2;omega,by have:=e.2;omega⟩),fun i=>(h.L i).aV hs⟩
theorem Aw {α:Type} {en:World→Value→α→Prop} {w w1:World} {cb b g i:Nat} {F K0:Nat→Prop} {c:CS} {E:Nat→Addr} {r:α→Nat} {fv:Value} (T:TypeId) (h:Cd w cb b F c E) (hL:Loc w cb F g i) (hF:jC en w1 K0 fv E r) (hf:Fr (fun _=>False) w w1) (hK:∀ k,K0 k→¬ F k∧k≠g) :
  iV en (w1.alloc (.cells #[fv] T)) F g (.slice (some ⟨w1.heap.size,0,none⟩) 1 1) E [r]:=by
 have hb:=aB w1 (.cells #[fv] T)
 have hlt:∀ k,(K0 k∨k=w1.heap.size)→k<(w1.alloc (.cells #[fv] T)).heap.size:=fun k hk=>by
  rcases hk with hk|rfl
  ·exact Nat.lt_of_lt_of_le (hF.lt k hk) hb.size
  ·simp
 refine⟨⟨fun k=>K0 k∨k=w1.heap.size,⟨hlt,⟨_,_,rfl⟩,fun _ _ _ e=>.inr ⟨w1.heap.size,0,by cases e;rfl⟩,fun xo n c' e j r' hr=>?_⟩,fun k hk=>?_⟩,by simp⟩
 ·have ex:xo=some ⟨w1.heap.size,0,none⟩:=by cases e;rfl
  have hj:j=0:=by
   have:=(List.getElem?_eq_some_iff.1 hr).1
   simp at this;exact this
  subst hj
  obtain rfl:r=r':=by simpa using hr
  exact⟨w1.heap.size,0,fv,ex,.inr rfl,by simp,hF.mono (fun k hk=>hb.block k (hF.lt k hk) (fun h=>h)) (fun _ h=>.inl h) hlt⟩
 ·rcases hk with hk|rfl
  ·exact hK k hk
  ·have h1:=hf.size
   have h2:=hL.lt
   exact⟨fun hx=>by have:=h.lt _ hx;omega,by omega⟩
theorem sq {c:CS} {nm:ByteArray} {r:Nat→Nat} {v cb b g o:Nat} {F:Nat→Prop} {E:Nat→Addr} {w w1:World} {fv:Value} (T:TypeId) (h:Cd w cb b F c E) (hp:w.cell? ⟨g,o,none⟩=some (.int .u8 (v:Nat))) (hL:Loc w cb F g o) (hv:v<256) (hR:RR ew w w1 E fv r) (hf:Fr (fun _=>False) w w1) (hroom:c.room 1) :
  Calls Tryz.prog 127 #[.pointer (some ⟨cb,0,none⟩),.string nm,.pointer (some ⟨g,o,none⟩),.slice (some ⟨w1.heap.size,0,none⟩) 1 1] (w1.alloc (.cells #[fv] T)) fun e w'=>e = .returned (.tuple #[])∧∃ F',Cd w' cb b F' (c.fF nm [r] v).1 E∧w'.cell? ⟨g,o,none⟩=some (.int .u8 ((c.fF nm [r] v).2:Nat))∧aw w w' F F' (fun k j=>k=g∧j=o):=by
 obtain⟨K0,hF,hK⟩:=hR
 exact pX T h hp hL hv hF hf hK hroom
theorem iA {c:CS} {nm:ByteArray} {r:Nat→Nat} {v cb b g o:Nat} {F:Nat→Prop} {E:Nat→Addr} {w w1:World} {fv:Value} (T:TypeId) (h:Cd w cb b F c E) (hp:w.cell? ⟨g,o,none⟩=some (.int .u32 (v:Nat))) (hL:Loc w cb F g o) (hv:v<4294967296) (hR:RR eC w w1 E fv r) (hf:Fr (fun _=>False) w w1) (hroom:c.room 1) :
  Calls Tryz.prog 130 #[.pointer (some ⟨cb,0,none⟩),.string nm,.pointer (some ⟨g,o,none⟩),.slice (some ⟨w1.heap.size,0,none⟩) 1 1] (w1.alloc (.cells #[fv] T)) fun e w'=>e = .returned (.tuple #[])∧∃ F',Cd w' cb b F' (c.bW nm [r] v).1 E∧w'.cell? ⟨g,o,none⟩=some (.int .u32 ((c.bW nm [r] v).2:Nat))∧aw w w' F F' (fun k j=>k=g∧j=o):=by
 obtain⟨K0,hF,hK⟩:=hR
 exact yw T h hp hL hv hF hf hK hroom
def CS.q1 (c:CS) (v:ed):CS × Nat × Nat:=c.kB (v.cl,v.nu)
def CS.q2 (c:CS) (v:ed):CS × Nat:=(c.q1 v).1.bW ir [] v.ac
def CS.q3 (c:CS) (v:ed):CS × Nat:=(c.q2 v).1.fF xI [bI 1 7 5] v.op
def CS.q4 (c:CS) (v:ed):CS × Nat:=(c.q3 v).1.bW cS [bI 0 (aW (c.q3 v).2).1 4] v.re
def CS.q5 (c:CS) (v:ed):CS × Nat:=(c.q4 v).1.bW cg [bI 0 (aW (c.q3 v).2).2.1 4] v.ve
def CS.q6 (c:CS) (v:ed):CS × Nat:=(c.q5 v).1.bW jr [bI 0 (aW (c.q3 v).2).2.2.1 4] v.wa
def CS.q7 (c:CS) (v:ed):CS × Nat:=(c.q6 v).1.bW gw [bI 0 (aW (c.q3 v).2).2.2.2.1 4] v.ow
def CS.q8 (c:CS) (v:ed):CS × List cA:=(c.q7 v).1.cK (aW (c.q3 v).2).2.2.2.2.2.2 [lT 0 (aW (c.q3 v).2).2.2.2.2.1 4] v.fs
def CS.q9 (c:CS) (v:ed):CS × ByteArray:=(c.q8 v).1.dU eh 64 [fun v=>dj 0 64 v.size,Ce (aW (c.q3 v).2).2.2.2.2.2.1] v.rs
def CS.bp (c:CS) (v:ed):CS × ed:=((c.q9 v).1,⟨(c.q1 v).2.1,(c.q1 v).2.2,(c.q2 v).2,(c.q3 v).2,(c.q4 v).2,(c.q5 v).2,(c.q6 v).2,(c.q7 v).2,(c.q8 v).2,(c.q9 v).2⟩)
structure DC (w:World) (lb op:Nat) (F:Nat→Prop) (g:Nat):Prop where
 c0:w.cell? ⟨lb,0,none⟩=some (.int .u32 ((aW op).1:Nat))
 c1:w.cell? ⟨lb,1,none⟩=some (.int .u32 ((aW op).2.1:Nat))
 c2:w.cell? ⟨lb,2,none⟩=some (.int .u32 ((aW op).2.2.1:Nat))
 c3:w.cell? ⟨lb,3,none⟩=some (.int .u32 ((aW op).2.2.2.1:Nat))
 c4:w.cell? ⟨lb,4,none⟩=some (.int .i64 (aW op).2.2.2.2.1)
 c5:w.cell? ⟨lb,5,none⟩=some (.int .i64 (aW op).2.2.2.2.2.1)
 c6:w.cell? ⟨lb,6,none⟩=some (.int .u8 ((aW op).2.2.2.2.2.2:Nat))
 nF:¬ F lb
 ng:lb≠g
theorem DC.aV {w w':World} {lb op:Nat} {F F':Nat→Prop} {P:Nat→Nat→Prop} {g:Nat} (h:DC w lb op F g) (hs:aw w w' F F' P) (hP:∀ i,¬ P lb i):DC w' lb op F' g:=
 ⟨(hs.oth lb 0 (ab h.c0) h.nF (hP 0)).trans h.c0,(hs.oth lb 1 (ab h.c0) h.nF (hP 1)).trans h.c1,(hs.oth lb 2 (ab h.c0) h.nF (hP 2)).trans h.c2,(hs.oth lb 3 (ab h.c0) h.nF (hP 3)).trans h.c3,(hs.oth lb 4 (ab h.c0) h.nF (hP 4)).trans h.c4,(hs.oth lb 5 (ab h.c0) h.nF (hP 5)).trans h.c5,(hs.oth lb 6 (ab h.c0) h.nF (hP 6)).trans h.c6,hs.nF (ab h.c0) h.nF,h.ng⟩
theorem gS (c:CS) (v:ed) (x:Value) (cb b g o:Nat) (F:Nat→Prop) (E:Nat→Addr) (w:World) (h:Cd w cb b F c E) (hp:pG w g o v x) (hX:kE w c x v.fs F g) (hL:∀ i,Loc w cb F g i) (hv:v.ok) (hroom:c.room 220) :
  Calls Tryz.prog 108 #[.pointer (some ⟨cb,0,none⟩),.pointer (some ⟨g,o,none⟩)] w fun e w'=>e = .returned (.tuple #[])∧∃ F' x',Cd w' cb b F' (c.bp v).1 E∧pG w' g o { (c.bp v).2 with fs:=v.fs } x'∧ks w w' c x x' (c.bp v).2.fs F'∧aw w w' F F' (aH g o 10):=by
 have hsf:=cZ
 have hmf:=mf
 have R1:(c.q1 v).1.room 218:=CS.jU hroom _
 have R2:(c.q2 v).1.room 217:=CS.bc R1 _ _ _
 have R3:(c.q3 v).1.room 216:=CS.dD R2 _ _ _
 have R4:(c.q4 v).1.room 215:=CS.bc R3 _ _ _
 have R5:(c.q5 v).1.room 214:=CS.bc R4 _ _ _
 have R6:(c.q6 v).1.room 213:=CS.bc R5 _ _ _
 have R7:(c.q7 v).1.room 212:=CS.bc R6 _ _ _
 have R8:(c.q8 v).1.room 83:=CS.gu R7 _ _ _
 have M7:c.sm (c.q7 v).1:=CS.aI (CS.aI (CS.aI (CS.aI (CS.aI (CS.aI (c.km _) (CS.bS _ _ _ _)) (CS.fJ _ _ _ _)) (CS.bS _ _ _ _)) (CS.bS _ _ _ _)) (CS.bS _ _ _ _)) (CS.bS _ _ _ _)
 have HR:=ae (And.intro hroom (And.intro R1 (And.intro R2 (And.intro R3 (And.intro R4 (And.intro R5 (And.intro R6 (And.intro R7 (And.intro R8 M7)))))))))
 clear R1 R2 R3 R4 R5 R6 R7 R8 M7
 have HV:=ae hv
 have HX:=ae hX
 have hT0:gf w w cb b g o F F c E v x:=⟨h,hp,aw.refl _ _ _,hL⟩
 have HI:=ae (pz c (v.cl,v.nu) cb b g o F E w h hp.c0 hp.c1 hL hv.cl hv.nu (CS.room_le hroom (by decide)))
 have HT0:=ae hT0
 clear h hp hX hL hv hT0 hroom
 go_enter Tryz.func108,Tryz.ntmps108
 go_wp2_with fail
 refine(aa HI).mono ?_
 rintro e w1 ⟨rfl,F1,hC1,hi0,hi1,hs1⟩
 have HT1:Hid (gf w w1 cb b g o F F1 (c.q1 v).1 E ⟨(c.q1 v).2.1,(c.q1 v).2.2,v.ac,v.op,v.re,v.ve,v.wa,v.ow,v.fs,v.rs⟩ x):=(aa HT0).sId _ _ hC1 hi0 hi1 hs1
 have HA:=ae (bZ (c.q1 v).1 ir [] v.ac cb b g (o+2) F1 E (.slice none 0 0) w1 (aa HT1).C (aa HT1).r.c2 ((aa HT1).L _) (aa HV).ac (iV.nil _ w1 F1 g E) (CS.room_le (aa HR).2.1 (by decide)))
 clear hC1 hi0 hi1 hs1 HI
 go_wp2_with fail
 refine(aa HA).mono ?_
 rintro e w2 ⟨rfl,F2,hC2,hc2,hs2⟩
 have HT2:Hid (gf w w2 cb b g o F F2 (c.q2 v).1 E ⟨(c.q1 v).2.1,(c.q1 v).2.2,(c.q2 v).2,v.op,v.re,v.ve,v.wa,v.ow,v.fs,v.rs⟩ x):=(aa HT1).s2 _ hC2 hc2 hs2
 have HK2:=ae (fun (V:World) (hv:Fr (fun _=>False) w2 V)=>ax hv (aa HT2).C.g7.k5)
 clear hC2 hc2 hs2 HA
 go_wp2_with fail
 refine bE (n:=7) (m:=7) (S:=fun V=>Fr (fun _=>False) w2 V) (by kernel_rfl) rfl rfl rfl (by kernel_rfl) (by kernel_rfl) ((Fr.refl _ _).drew) (fun hHeld=>?_)
 refine cD (i:=0) (v:=?_) rfl (Or.inl ⟨by rfl,?_⟩) hHeld ?_
 rotate_left
 ·intro V hSw;(try dsimp only at hSw);have q0:=(aa HK2) V hSw;go_simp;(try with_reducible rfl)
 (try simp only[Act.put,bq])
 refine cD (i:=1) (v:=?_) rfl (Or.inl ⟨by rfl,?_⟩) hHeld ?_
 rotate_left
 ·intro V hSw;(try dsimp only at hSw);have q0:=(aa HK2) V hSw;go_simp;(try with_reducible rfl)
 (try simp only[Act.put,bq])
 refine cD (i:=2) (v:=?_) rfl (Or.inl ⟨by rfl,?_⟩) hHeld ?_
 rotate_left
 ·intro V hSw;(try dsimp only at hSw);have q0:=(aa HK2) V hSw;go_simp;(try with_reducible rfl)
 (try simp only[Act.put,bq])
 refine cD (i:=3) (v:=?_) rfl (Or.inl ⟨by rfl,?_⟩) hHeld ?_
 rotate_left
 ·intro V hSw;(try dsimp only at hSw);have q0:=(aa HK2) V hSw;go_simp;(try with_reducible rfl)
 (try simp only[Act.put,bq])
 refine cD (i:=4) (v:=?_) rfl (Or.inl ⟨by rfl,?_⟩) hHeld ?_
 rotate_left
 ·intro V hSw;(try dsimp only at hSw);have q0:=(aa HK2) V hSw;go_simp;(try with_reducible rfl)
 (try simp only[Act.put,bq])
 refine wpAnyH_ready (rs:=[5]) (by kernel_rfl) (by simp) (AllReadyH.cons rfl (fun K hK=>?_) AllReadyH.nil)
 go_simp
 refine(dW 1 7 5 E _ (by decide)).mono ?_
 rintro e w3 ⟨fv1,rfl,K1,hF1,hf1,hK1⟩
 have H3:=ae (And.intro (show RR ew w2 w3 E fv1 (bI 1 7 5) from⟨K1,hF1,hK1.mono (Nat.le_refl _)⟩) ((Fr.refl _ _).drew.trans hf1 (fun _ _ h=>h)))
 obtain⟨Fc1,caps1,rfl,_⟩:=hF1.ex
 clear hF1 hf1 hK1
 go_simp
 refine hK.out _ _ ((aa H3).2) (fun hHeld=>?_)
 clear hK K
 (try simp only[Act.put,bq])
 refine wpAnyH_ready (rs:=[6]) (by kernel_rfl) (by simp) (AllReadyH.cons rfl (fun K hK=>?_) AllReadyH.nil)
 go_simp
 refine hK.out _ _ ((aa H3).2.alloc _) (fun hHeld=>?_)
 clear hK K
 (try simp only[Act.put,bq])
 refine wpAnyH_done (by kernel_rfl) ?_ _
 simp only[fU]
 go_simp
 refine(sq (nm:=xI) _ (aa HT2).C (aa HT2).r.c3 ((aa HT2).L _) (aa HV).op (aa H3).1 (aa H3).2 (CS.room_le (aa HR).2.2.1 (by decide))).mono ?_
 rintro e w4 ⟨rfl,F4,hC4,hc4,hs4⟩
 have HT4:Hid (gf w w4 cb b g o F F4 (c.q3 v).1 E ⟨(c.q1 v).2.1,(c.q1 v).2.2,(c.q2 v).2,(c.q3 v).2,v.re,v.ve,v.wa,v.ow,v.fs,v.rs⟩ x):=(aa HT2).s3 _ hC4 hc4 hs4
 have o4:w4.cell? ⟨g,o+3,none⟩=some (.int .u8 ((c.q3 v).2:Nat)):=(aa HT4).r.c3
 have HLM:=ae (qs (c.q3 v).2 w4)
 unfold eO at HLM
 clear hC4 hc4 hs4 H3 HK2
 go_wp2_with fail
 refine(aa HLM).mono ?_
 rintro e w5 ⟨rfl,hf5⟩
 obtain⟨w6,hw6⟩:∃ w6,w6=w5.alloc (.cells #[.int .u32 ((aW (c.q3 v).2).1:Nat),.int .u32 ((aW (c.q3 v).2).2.1:Nat),.int .u32 ((aW (c.q3 v).2).2.2.1:Nat),.int .u32 ((aW (c.q3 v).2).2.2.2.1:Nat),.int .i64 (aW (c.q3 v).2).2.2.2.2.1,.int .i64 (aW (c.q3 v).2).2.2.2.2.2.1,.int .u8 ((aW (c.q3 v).2).2.2.2.2.2.2:Nat)] 248):=⟨_,rfl⟩
 have hf6:Fr (fun _=>False) w4 w6:=by rw[hw6];exact hf5.alloc _
 have hb6:w6.heap[w5.heap.size]?=some (.cells #[.int .u32 ((aW (c.q3 v).2).1:Nat),.int .u32 ((aW (c.q3 v).2).2.1:Nat),.int .u32 ((aW (c.q3 v).2).2.2.1:Nat),.int .u32 ((aW (c.q3 v).2).2.2.2.1:Nat),.int .i64 (aW (c.q3 v).2).2.2.2.2.1,.int .i64 (aW (c.q3 v).2).2.2.2.2.2.1,.int .u8 ((aW (c.q3 v).2).2.2.2.2.2.2:Nat)] 248):=by rw[hw6];exact heap_alloc_new _ _
 have HT6:=ae ((aa HT4).aD hf6)
 have hl5:=hf5.size
 have HB6:Hid (DC w6 w5.heap.size (c.q3 v).2 F4 g):=⟨ai hb6 rfl,ai hb6 rfl,ai hb6 rfl,ai hb6 rfl,ai hb6 rfl,ai hb6 rfl,ai hb6 rfl,fun hx=>by have:=(aa HT4).C.lt _ hx;omega,by have:=((aa HT4).L 0).lt;omega⟩
 have HW6:=ae hw6
 clear hf5 hw6 hf6 hb6 o4 HLM hl5
 go_wp2_with fail
 rw[← aa HW6]
 clear HW6
 generalize w5.heap.size=lb at *
 have HK4:=ae (fun (V:World) (hv:Fr (fun _=>False) w6 V)=>And.intro (ax hv (aa HT6).C.g7.k4) (ax hv (aa HB6).c0))
 refine bE (n:=9) (m:=9) (S:=fun V=>Fr (fun _=>False) w6 V) (by kernel_rfl) rfl rfl rfl (by kernel_rfl) (by kernel_rfl) ((Fr.refl _ _).drew) (fun hHeld=>?_)
 refine cD (i:=0) (v:=?_) rfl (Or.inl ⟨by rfl,?_⟩) hHeld ?_
 rotate_left
 ·intro V hSw;(try dsimp only at hSw);obtain⟨q0,q1⟩:=(aa HK4) V hSw;go_simp;(try with_reducible rfl)
 (try simp only[Act.put,bq])
 refine cD (i:=1) (v:=?_) rfl (Or.inl ⟨by rfl,?_⟩) hHeld ?_
 rotate_left
 ·intro V hSw;(try dsimp only at hSw);obtain⟨q0,q1⟩:=(aa HK4) V hSw;go_simp;(try with_reducible rfl)
 (try simp only[Act.put,bq])
 refine cD (i:=2) (v:=?_) rfl (Or.inl ⟨by rfl,?_⟩) hHeld ?_
 rotate_left
 ·intro V hSw;(try dsimp only at hSw);obtain⟨q0,q1⟩:=(aa HK4) V hSw;go_simp;(try with_reducible rfl)
 (try simp only[Act.put,bq])
 refine cD (i:=3) (v:=?_) rfl (Or.inl ⟨by rfl,?_⟩) hHeld ?_
 rotate_left
 ·intro V hSw;(try dsimp only at hSw);obtain⟨q0,q1⟩:=(aa HK4) V hSw;go_simp;(try with_reducible rfl)
 (try simp only[Act.put,bq])
 refine cD (i:=4) (v:=?_) rfl (Or.inl ⟨by rfl,?_⟩) hHeld ?_
 rotate_left
 ·intro V hSw;(try dsimp only at hSw);obtain⟨q0,q1⟩:=(aa HK4) V hSw;go_simp;(try with_reducible rfl)
 (try simp only[Act.put,bq])
 refine cD (i:=5) (v:=?_) rfl (Or.inl ⟨by rfl,?_⟩) hHeld ?_
 rotate_left
 ·intro V hSw;(try dsimp only at hSw);obtain⟨q0,q1⟩:=(aa HK4) V hSw;go_simp;(try with_reducible rfl)
 (try simp only[Act.put,bq])
 refine cD (i:=6) (v:=?_) rfl (Or.inl ⟨by rfl,?_⟩) hHeld ?_
 rotate_left
 ·intro V hSw;(try dsimp only at hSw);obtain⟨q0,q1⟩:=(aa HK4) V hSw;go_simp;(try with_reducible rfl)
 (try simp only[Act.put,bq])
 refine wpAnyH_ready (rs:=[7]) (by kernel_rfl) (by simp) (AllReadyH.cons rfl (fun K hK=>?_) AllReadyH.nil)
 go_simp
 refine(gz 0 (aW (c.q3 v).2).1 4 E _ (by decide)).mono ?_
 rintro e w4a ⟨fv1,rfl,K1,hF1,hf1,hK1⟩
 have H3:=ae (And.intro (show RR eC w6 w4a E fv1 (bI 0 (aW (c.q3 v).2).1 4) from⟨K1,hF1,hK1.mono (Nat.le_refl _)⟩) ((Fr.refl _ _).drew.trans hf1 (fun _ _ h=>h)))
 obtain⟨Fc1,caps1,rfl,_⟩:=hF1.ex
 clear hF1 hf1 hK1
 go_simp
 refine hK.out _ _ ((aa H3).2) (fun hHeld=>?_)
 clear hK K
 (try simp only[Act.put,bq])
 refine wpAnyH_ready (rs:=[8]) (by kernel_rfl) (by simp) (AllReadyH.cons rfl (fun K hK=>?_) AllReadyH.nil)
 go_simp
 refine hK.out _ _ ((aa H3).2.alloc _) (fun hHeld=>?_)
 clear hK K
 (try simp only[Act.put,bq])
 refine wpAnyH_done (by kernel_rfl) ?_ _
 simp only[fU]
 go_simp
 refine(iA (nm:=cS) _ (aa HT6).C (aa HT6).r.c4 ((aa HT6).L _) (aa HV).re (aa H3).1 (aa H3).2 (CS.room_le (aa HR).2.2.2.1 (by decide))).mono ?_
 rintro e w4b ⟨rfl,F4b,hC4,hc4,hs4⟩
 have HT4b:Hid (gf w w4b cb b g o F F4b (c.q4 v).1 E ⟨(c.q1 v).2.1,(c.q1 v).2.2,(c.q2 v).2,(c.q3 v).2,(c.q4 v).2,v.ve,v.wa,v.ow,v.fs,v.rs⟩ x):=(aa HT6).s4 _ hC4 hc4 hs4
 have HB4b:=ae ((aa HB6).aV hs4 (fun i h=>(aa HB6).ng h.1))
 clear hC4 hc4 hs4 H3 HK4
 have HK5:=ae (fun (V:World) (hv:Fr (fun _=>False) w4b V)=>And.intro (ax hv (aa HT4b).C.g7.k4) (ax hv (aa HB4b).c1))
 go_wp2_with fail
 refine bE (n:=9) (m:=9) (S:=fun V=>Fr (fun _=>False) w4b V) (by kernel_rfl) rfl rfl rfl (by kernel_rfl) (by kernel_rfl) ((Fr.refl _ _).drew) (fun hHeld=>?_)
 refine cD (i:=0) (v:=?_) rfl (Or.inl ⟨by rfl,?_⟩) hHeld ?_
 rotate_left
 ·intro V hSw;(try dsimp only at hSw);obtain⟨q0,q1⟩:=(aa HK5) V hSw;go_simp;(try with_reducible rfl)
 (try simp only[Act.put,bq])
 refine cD (i:=1) (v:=?_) rfl (Or.inl ⟨by rfl,?_⟩) hHeld ?_
 rotate_left
 ·intro V hSw;(try dsimp only at hSw);obtain⟨q0,q1⟩:=(aa HK5) V hSw;go_simp;(try with_reducible rfl)
 (try simp only[Act.put,bq])
 refine cD (i:=2) (v:=?_) rfl (Or.inl ⟨by rfl,?_⟩) hHeld ?_
 rotate_left
 ·intro V hSw;(try dsimp only at hSw);obtain⟨q0,q1⟩:=(aa HK5) V hSw;go_simp;(try with_reducible rfl)
 (try simp only[Act.put,bq])
 refine cD (i:=3) (v:=?_) rfl (Or.inl ⟨by rfl,?_⟩) hHeld ?_
 rotate_left
 ·intro V hSw;(try dsimp only at hSw);obtain⟨q0,q1⟩:=(aa HK5) V hSw;go_simp;(try with_reducible rfl)
 (try simp only[Act.put,bq])
 refine cD (i:=4) (v:=?_) rfl (Or.inl ⟨by rfl,?_⟩) hHeld ?_
 rotate_left
 ·intro V hSw;(try dsimp only at hSw);obtain⟨q0,q1⟩:=(aa HK5) V hSw;go_simp;(try with_reducible rfl)
 (try simp only[Act.put,bq])
 refine cD (i:=5) (v:=?_) rfl (Or.inl ⟨by rfl,?_⟩) hHeld ?_
 rotate_left
 ·intro V hSw;(try dsimp only at hSw);obtain⟨q0,q1⟩:=(aa HK5) V hSw;go_simp;(try with_reducible rfl)
 (try simp only[Act.put,bq])
 refine cD (i:=6) (v:=?_) rfl (Or.inl ⟨by rfl,?_⟩) hHeld ?_
 rotate_left
 ·intro V hSw;(try dsimp only at hSw);obtain⟨q0,q1⟩:=(aa HK5) V hSw;go_simp;(try with_reducible rfl)
 (try simp only[Act.put,bq])
 refine wpAnyH_ready (rs:=[7]) (by kernel_rfl) (by simp) (AllReadyH.cons rfl (fun K hK=>?_) AllReadyH.nil)
 go_simp
 refine(gz 0 (aW (c.q3 v).2).2.1 4 E _ (by decide)).mono ?_
 rintro e w5a ⟨fv1,rfl,K1,hF1,hf1,hK1⟩
 have H3:=ae (And.intro (show RR eC w4b w5a E fv1 (bI 0 (aW (c.q3 v).2).2.1 4) from⟨K1,hF1,hK1.mono (Nat.le_refl _)⟩) ((Fr.refl _ _).drew.trans hf1 (fun _ _ h=>h)))
 obtain⟨Fc1,caps1,rfl,_⟩:=hF1.ex
 clear hF1 hf1 hK1
 go_simp
 refine hK.out _ _ ((aa H3).2) (fun hHeld=>?_)
 clear hK K
 (try simp only[Act.put,bq])
 refine wpAnyH_ready (rs:=[8]) (by kernel_rfl) (by simp) (AllReadyH.cons rfl (fun K hK=>?_) AllReadyH.nil)
 go_simp
 refine hK.out _ _ ((aa H3).2.alloc _) (fun hHeld=>?_)
 clear hK K
 (try simp only[Act.put,bq])
 refine wpAnyH_done (by kernel_rfl) ?_ _
 simp only[fU]
 go_simp
 refine(iA (nm:=cg) _ (aa HT4b).C (aa HT4b).r.c5 ((aa HT4b).L _) (aa HV).ve (aa H3).1 (aa H3).2 (CS.room_le (aa HR).2.2.2.2.1 (by decide))).mono ?_
 rintro e w5b ⟨rfl,F5b,hC4,hc4,hs4⟩
 have HT5b:Hid (gf w w5b cb b g o F F5b (c.q5 v).1 E ⟨(c.q1 v).2.1,(c.q1 v).2.2,(c.q2 v).2,(c.q3 v).2,(c.q4 v).2,(c.q5 v).2,v.wa,v.ow,v.fs,v.rs⟩ x):=(aa HT4b).s5 _ hC4 hc4 hs4
 have HB5b:=ae ((aa HB4b).aV hs4 (fun i h=>(aa HB4b).ng h.1))
 clear hC4 hc4 hs4 H3 HK5
 have HK6:=ae (fun (V:World) (hv:Fr (fun _=>False) w5b V)=>And.intro (ax hv (aa HT5b).C.g7.k4) (ax hv (aa HB5b).c2))
 go_wp2_with fail
 refine bE (n:=9) (m:=9) (S:=fun V=>Fr (fun _=>False) w5b V) (by kernel_rfl) rfl rfl rfl (by kernel_rfl) (by kernel_rfl) ((Fr.refl _ _).drew) (fun hHeld=>?_)
 refine cD (i:=0) (v:=?_) rfl (Or.inl ⟨by rfl,?_⟩) hHeld ?_
 rotate_left
 ·intro V hSw;(try dsimp only at hSw);obtain⟨q0,q1⟩:=(aa HK6) V hSw;go_simp;(try with_reducible rfl)
 (try simp only[Act.put,bq])
 refine cD (i:=1) (v:=?_) rfl (Or.inl ⟨by rfl,?_⟩) hHeld ?_
 rotate_left
 ·intro V hSw;(try dsimp only at hSw);obtain⟨q0,q1⟩:=(aa HK6) V hSw;go_simp;(try with_reducible rfl)
 (try simp only[Act.put,bq])
 refine cD (i:=2) (v:=?_) rfl (Or.inl ⟨by rfl,?_⟩) hHeld ?_
 rotate_left
 ·intro V hSw;(try dsimp only at hSw);obtain⟨q0,q1⟩:=(aa HK6) V hSw;go_simp;(try with_reducible rfl)
 (try simp only[Act.put,bq])
 refine cD (i:=3) (v:=?_) rfl (Or.inl ⟨by rfl,?_⟩) hHeld ?_
 rotate_left
 ·intro V hSw;(try dsimp only at hSw);obtain⟨q0,q1⟩:=(aa HK6) V hSw;go_simp;(try with_reducible rfl)
 (try simp only[Act.put,bq])
 refine cD (i:=4) (v:=?_) rfl (Or.inl ⟨by rfl,?_⟩) hHeld ?_
 rotate_left
 ·intro V hSw;(try dsimp only at hSw);obtain⟨q0,q1⟩:=(aa HK6) V hSw;go_simp;(try with_reducible rfl)
 (try simp only[Act.put,bq])
 refine cD (i:=5) (v:=?_) rfl (Or.inl ⟨by rfl,?_⟩) hHeld ?_
 rotate_left
 ·intro V hSw;(try dsimp only at hSw);obtain⟨q0,q1⟩:=(aa HK6) V hSw;go_simp;(try with_reducible rfl)
 (try simp only[Act.put,bq])
 refine cD (i:=6) (v:=?_) rfl (Or.inl ⟨by rfl,?_⟩) hHeld ?_
 rotate_left
 ·intro V hSw;(try dsimp only at hSw);obtain⟨q0,q1⟩:=(aa HK6) V hSw;go_simp;(try with_reducible rfl)
 (try simp only[Act.put,bq])
 refine wpAnyH_ready (rs:=[7]) (by kernel_rfl) (by simp) (AllReadyH.cons rfl (fun K hK=>?_) AllReadyH.nil)
 go_simp
 refine(gz 0 (aW (c.q3 v).2).2.2.1 4 E _ (by decide)).mono ?_
 rintro e w6a ⟨fv1,rfl,K1,hF1,hf1,hK1⟩
 have H3:=ae (And.intro (show RR eC w5b w6a E fv1 (bI 0 (aW (c.q3 v).2).2.2.1 4) from⟨K1,hF1,hK1.mono (Nat.le_refl _)⟩) ((Fr.refl _ _).drew.trans hf1 (fun _ _ h=>h)))
 obtain⟨Fc1,caps1,rfl,_⟩:=hF1.ex
 clear hF1 hf1 hK1
 go_simp
 refine hK.out _ _ ((aa H3).2) (fun hHeld=>?_)
 clear hK K
 (try simp only[Act.put,bq])
 refine wpAnyH_ready (rs:=[8]) (by kernel_rfl) (by simp) (AllReadyH.cons rfl (fun K hK=>?_) AllReadyH.nil)
 go_simp
 refine hK.out _ _ ((aa H3).2.alloc _) (fun hHeld=>?_)
 clear hK K
 (try simp only[Act.put,bq])
 refine wpAnyH_done (by kernel_rfl) ?_ _
 simp only[fU]
 go_simp
 refine(iA (nm:=jr) _ (aa HT5b).C (aa HT5b).r.c6 ((aa HT5b).L _) (aa HV).wa (aa H3).1 (aa H3).2 (CS.room_le (aa HR).2.2.2.2.2.1 (by decide))).mono ?_
 rintro e w6b ⟨rfl,F6b,hC4,hc4,hs4⟩
 have HT6b:Hid (gf w w6b cb b g o F F6b (c.q6 v).1 E ⟨(c.q1 v).2.1,(c.q1 v).2.2,(c.q2 v).2,(c.q3 v).2,(c.q4 v).2,(c.q5 v).2,(c.q6 v).2,v.ow,v.fs,v.rs⟩ x):=(aa HT5b).s6 _ hC4 hc4 hs4
 have HB6b:=ae ((aa HB5b).aV hs4 (fun i h=>(aa HB5b).ng h.1))
 clear hC4 hc4 hs4 H3 HK6
 have HK7:=ae (fun (V:World) (hv:Fr (fun _=>False) w6b V)=>And.intro (ax hv (aa HT6b).C.g7.k4) (ax hv (aa HB6b).c3))
 go_wp2_with fail
 refine bE (n:=9) (m:=9) (S:=fun V=>Fr (fun _=>False) w6b V) (by kernel_rfl) rfl rfl rfl (by kernel_rfl) (by kernel_rfl) ((Fr.refl _ _).drew) (fun hHeld=>?_)
 refine cD (i:=0) (v:=?_) rfl (Or.inl ⟨by rfl,?_⟩) hHeld ?_
 rotate_left
 ·intro V hSw;(try dsimp only at hSw);obtain⟨q0,q1⟩:=(aa HK7) V hSw;go_simp;(try with_reducible rfl)
 (try simp only[Act.put,bq])
 refine cD (i:=1) (v:=?_) rfl (Or.inl ⟨by rfl,?_⟩) hHeld ?_
 rotate_left
 ·intro V hSw;(try dsimp only at hSw);obtain⟨q0,q1⟩:=(aa HK7) V hSw;go_simp;(try with_reducible rfl)
 (try simp only[Act.put,bq])
 refine cD (i:=2) (v:=?_) rfl (Or.inl ⟨by rfl,?_⟩) hHeld ?_
 rotate_left
 ·intro V hSw;(try dsimp only at hSw);obtain⟨q0,q1⟩:=(aa HK7) V hSw;go_simp;(try with_reducible rfl)
 (try simp only[Act.put,bq])
 refine cD (i:=3) (v:=?_) rfl (Or.inl ⟨by rfl,?_⟩) hHeld ?_
 rotate_left
 ·intro V hSw;(try dsimp only at hSw);obtain⟨q0,q1⟩:=(aa HK7) V hSw;go_simp;(try with_reducible rfl)
 (try simp only[Act.put,bq])
 refine cD (i:=4) (v:=?_) rfl (Or.inl ⟨by rfl,?_⟩) hHeld ?_
 rotate_left
 ·intro V hSw;(try dsimp only at hSw);obtain⟨q0,q1⟩:=(aa HK7) V hSw;go_simp;(try with_reducible rfl)
 (try simp only[Act.put,bq])
 refine cD (i:=5) (v:=?_) rfl (Or.inl ⟨by rfl,?_⟩) hHeld ?_
 rotate_left
 ·intro V hSw;(try dsimp only at hSw);obtain⟨q0,q1⟩:=(aa HK7) V hSw;go_simp;(try with_reducible rfl)
 (try simp only[Act.put,bq])
 refine cD (i:=6) (v:=?_) rfl (Or.inl ⟨by rfl,?_⟩) hHeld ?_
 rotate_left
 ·intro V hSw;(try dsimp only at hSw);obtain⟨q0,q1⟩:=(aa HK7) V hSw;go_simp;(try with_reducible rfl)
 (try simp only[Act.put,bq])
 refine wpAnyH_ready (rs:=[7]) (by kernel_rfl) (by simp) (AllReadyH.cons rfl (fun K hK=>?_) AllReadyH.nil)
 go_simp
 refine(gz 0 (aW (c.q3 v).2).2.2.2.1 4 E _ (by decide)).mono ?_
 rintro e w7a ⟨fv1,rfl,K1,hF1,hf1,hK1⟩
 have H3:=ae (And.intro (show RR eC w6b w7a E fv1 (bI 0 (aW (c.q3 v).2).2.2.2.1 4) from⟨K1,hF1,hK1.mono (Nat.le_refl _)⟩) ((Fr.refl _ _).drew.trans hf1 (fun _ _ h=>h)))
 obtain⟨Fc1,caps1,rfl,_⟩:=hF1.ex
 clear hF1 hf1 hK1
 go_simp
 refine hK.out _ _ ((aa H3).2) (fun hHeld=>?_)
 clear hK K
 (try simp only[Act.put,bq])
 refine wpAnyH_ready (rs:=[8]) (by kernel_rfl) (by simp) (AllReadyH.cons rfl (fun K hK=>?_) AllReadyH.nil)
 go_simp
 refine hK.out _ _ ((aa H3).2.alloc _) (fun hHeld=>?_)
 clear hK K
 (try simp only[Act.put,bq])
 refine wpAnyH_done (by kernel_rfl) ?_ _
 simp only[fU]
 go_simp
 refine(iA (nm:=gw) _ (aa HT6b).C (aa HT6b).r.c7 ((aa HT6b).L _) (aa HV).ow (aa H3).1 (aa H3).2 (CS.room_le (aa HR).2.2.2.2.2.2.1 (by decide))).mono ?_
 rintro e w7b ⟨rfl,F7b,hC4,hc4,hs4⟩
 have HT7b:Hid (gf w w7b cb b g o F F7b (c.q7 v).1 E ⟨(c.q1 v).2.1,(c.q1 v).2.2,(c.q2 v).2,(c.q3 v).2,(c.q4 v).2,(c.q5 v).2,(c.q6 v).2,(c.q7 v).2,v.fs,v.rs⟩ x):=(aa HT6b).s7 _ hC4 hc4 hs4
 have HB7b:=ae ((aa HB6b).aV hs4 (fun i h=>(aa HB6b).ng h.1))
 clear hC4 hc4 hs4 H3 HK7
 have HK8:=ae (fun (V:World) (hv:Fr (fun _=>False) w7b V)=>And.intro (ax hv (aa HT7b).C.g7.k4) (And.intro (ax hv (aa HB7b).c6) (ax hv (aa HB7b).c4)))
 go_wp2_with fail
 refine bE (n:=11) (m:=11) (S:=fun V=>Fr (fun _=>False) w7b V) (by kernel_rfl) rfl rfl rfl (by kernel_rfl) (by kernel_rfl) ((Fr.refl _ _).drew) (fun hHeld=>?_)
 refine cD (i:=0) (v:=?_) rfl (Or.inl ⟨by rfl,?_⟩) hHeld ?_
 rotate_left
 ·intro V hSw;(try dsimp only at hSw);obtain⟨q0,q1,q2⟩:=(aa HK8) V hSw;go_simp;(try with_reducible rfl)
 (try simp only[Act.put,bq])
 refine cD (i:=1) (v:=?_) rfl (Or.inl ⟨by rfl,?_⟩) hHeld ?_
 rotate_left
 ·intro V hSw;(try dsimp only at hSw);obtain⟨q0,q1,q2⟩:=(aa HK8) V hSw;go_simp;(try with_reducible rfl)
 (try simp only[Act.put,bq])
 refine cD (i:=2) (v:=?_) rfl (Or.inl ⟨by rfl,?_⟩) hHeld ?_
 rotate_left
 ·intro V hSw;(try dsimp only at hSw);obtain⟨q0,q1,q2⟩:=(aa HK8) V hSw;go_simp;(try with_reducible rfl)
 (try simp only[Act.put,bq])
 refine cD (i:=3) (v:=?_) rfl (Or.inl ⟨by rfl,?_⟩) hHeld ?_
 rotate_left
 ·intro V hSw;(try dsimp only at hSw);obtain⟨q0,q1,q2⟩:=(aa HK8) V hSw;go_simp;(try with_reducible rfl)
 (try simp only[Act.put,bq])
 refine cD (i:=4) (v:=?_) rfl (Or.inl ⟨by rfl,?_⟩) hHeld ?_
 rotate_left
 ·intro V hSw;(try dsimp only at hSw);obtain⟨q0,q1,q2⟩:=(aa HK8) V hSw;go_simp;(try with_reducible rfl)
 (try simp only[Act.put,bq])
 refine cD (i:=5) (v:=?_) rfl (Or.inl ⟨by rfl,?_⟩) hHeld ?_
 rotate_left
 ·intro V hSw;(try dsimp only at hSw);obtain⟨q0,q1,q2⟩:=(aa HK8) V hSw;go_simp;(try with_reducible rfl)
 (try simp only[Act.put,bq])
 refine cD (i:=6) (v:=?_) rfl (Or.inl ⟨by rfl,?_⟩) hHeld ?_
 rotate_left
 ·intro V hSw;(try dsimp only at hSw);obtain⟨q0,q1,q2⟩:=(aa HK8) V hSw;go_simp;(try with_reducible rfl)
 (try simp only[Act.put,bq])
 refine cD (i:=7) (v:=?_) rfl (Or.inl ⟨by rfl,?_⟩) hHeld ?_
 rotate_left
 ·intro V hSw;(try dsimp only at hSw);obtain⟨q0,q1,q2⟩:=(aa HK8) V hSw;go_simp;(try with_reducible rfl)
 (try simp only[Act.put,bq])
 refine cD (i:=8) (v:=?_) rfl (Or.inl ⟨by rfl,?_⟩) hHeld ?_
 rotate_left
 ·intro V hSw;(try dsimp only at hSw);obtain⟨q0,q1,q2⟩:=(aa HK8) V hSw;go_simp;(try with_reducible rfl)
 (try simp only[Act.put,bq])
 refine wpAnyH_ready (rs:=[9]) (by kernel_rfl) (by simp) (AllReadyH.cons rfl (fun K hK=>?_) AllReadyH.nil)
 go_simp
 refine(dM 0 (aW (c.q3 v).2).2.2.2.2.1 4 E _ (by decide)).mono ?_
 rintro e w8a ⟨fv1,rfl,K1,hF1,hf1,hK1⟩
 have H3:=ae (And.intro (show RR dB w7b w8a E fv1 (lT 0 (aW (c.q3 v).2).2.2.2.2.1 4) from⟨K1,hF1,hK1.mono (Nat.le_refl _)⟩) ((Fr.refl _ _).drew.trans hf1 (fun _ _ h=>h)))
 obtain⟨Fc1,caps1,rfl,_⟩:=hF1.ex
 clear hF1 hf1 hK1
 go_simp
 refine hK.out _ _ ((aa H3).2) (fun hHeld=>?_)
 clear hK K
 (try simp only[Act.put,bq])
 refine wpAnyH_ready (rs:=[10]) (by kernel_rfl) (by simp) (AllReadyH.cons rfl (fun K hK=>?_) AllReadyH.nil)
 go_simp
 refine hK.out _ _ ((aa H3).2.alloc _) (fun hHeld=>?_)
 clear hK K
 (try simp only[Act.put,bq])
 refine wpAnyH_done (by kernel_rfl) ?_ _
 simp only[fU]
 go_simp
 have hT7:=aa HT7b
 have hfa:=(aa H3).2.trans (aB w8a (.cells #[.func (.func Fc1) #[] caps1] 255)) (fun _ _ h=>h)
 have hru:=(lV 255 hT7.C (hT7.L (o+8)) (aa H3).2 (aa H3).1).ex
 have hXa:kE (w8a.alloc (.cells #[.func (.func Fc1) #[] caps1] 255)) (c.q7 v).1 x v.fs F7b g:=(aa HX).aV (hT7.s.trans (aw.bD hfa F7b (fun _ _=>False)) (fun _ _ _ h=>h.elim)) (fun k i _ h=>h.1) (aa HR).2.2.2.2.2.2.2.2.2.1 (aa HR).2.2.2.2.2.2.2.2.2.2
 refine(mP (c.q7 v).1 (aW (c.q3 v).2).2.2.2.2.2.2 [lT 0 (aW (c.q3 v).2).2.2.2.2.1 4] (some ⟨w8a.heap.size,0,none⟩) 1 x v.fs cb b g (o+8) F7b E _ (hT7.C.aD hfa) (ax hfa hT7.r.c8) hXa ((hT7.L _).aD hfa) (by obtain⟨K,h1,h2⟩:=hru;exact⟨K,h1,fun k hk=>(h2 k hk).1⟩) (by simp) (CS.room_le (aa HR).2.2.2.2.2.2.2.1 (by decide))).mono ?_
 rintro e w8 ⟨rfl,F8,x8,hC8,hx8,hO8,hs8⟩
 have hs8':aw w7b w8 F7b F8 (fun k j=>k=g∧j=o+8):=(aw.bD hfa F7b _).trans hs8 (fun _ _ _ h=>h)
 have HT8:Hid (gf w w8 cb b g o F F8 (c.q8 v).1 E ⟨(c.q1 v).2.1,(c.q1 v).2.2,(c.q2 v).2,(c.q3 v).2,(c.q4 v).2,(c.q5 v).2,(c.q6 v).2,(c.q7 v).2,v.fs,v.rs⟩ x8):=hT7.s8 x8 hC8 hx8 hs8'
 have HB8:=ae ((aa HB7b).aV hs8' (fun i h=>(aa HB7b).ng h.1))
 have hszF:=hfa.size
 have hsz7:=hT7.s.size
 have HO8:Hid ((∀ s,c = .wr s→x8=x)∧(∀ q,c = .rd q→dy w8 w.heap.size x8 (c.q8 v).2 F8)):=by
  refine⟨fun s e=>?_,fun q e=>?_⟩
  ·subst e
   cases hm:((CS.wr s).q7 v).1 with
   | wr s'=>exact hO8.wr s' hm
   | rd q'=>obtain⟨_,e'⟩:=(aa HR).2.2.2.2.2.2.2.2.2.2 q' hm;cases e'
  ·subst e
   cases hm:((CS.rd q).q7 v).1 with
   | wr s'=>obtain⟨_,e'⟩:=(aa HR).2.2.2.2.2.2.2.2.2.1 s' hm;cases e'
   | rd q' =>
    have h9:=hO8.rd q' hm
    exact⟨h9.nF,aK h9.row (by omega),h9.ok⟩
 clear hT7 hfa hru hXa hC8 hx8 hO8 hs8 hs8' H3 HK8 hszF hsz7
 have HRN:Hid (∀ (w9:World),Fr (fun _=>False) w8 w9→Calls Tryz.prog 135 #[.pointer (some ⟨cb,0,none⟩),.string eh,.pointer (some ⟨g,o+9,none⟩),.int .i64 0,.int .i64 64,.slice (some ⟨w9.heap.size,0,none⟩) 1 1] (w9.alloc (.cells #[.func (.func 136) #[] #[.pointer (some ⟨lb,0,none⟩)]] 281)) fun e w'=>e = .returned (.tuple #[])∧∃ F',Cd w' cb b F' (c.q9 v).1 E∧w'.cell? ⟨g,o+9,none⟩=some (.string (c.q9 v).2)∧aw w8 w' F8 F' (fun k j=>k=g∧j=o+9)):=fun w9 hf9=>by
  have hT8:=aa HT8
  have hB8:=aa HB8
  have hf2:=hf9.trans (aB w9 (.cells #[.func (.func 136) #[] #[.pointer (some ⟨lb,0,none⟩)]] 281)) (fun _ _ h=>h)
  have hfn:=vZ (aW (c.q3 v).2).2.2.2.2.2.1 lb E w9 (ax hf9 hB8.c5) (hT8.C.g7.fr hf9 (fun _ h=>h.elim))
  refine(qt (c.q8 v).1 eh 0 64 [Ce (aW (c.q3 v).2).2.2.2.2.2.1] v.rs cb b g (o+9) F8 E _ _ (hT8.C.aD hf2) (ax hf2 hT8.r.c9) ((hT8.L _).aD hf2) (aa HV).rs (by decide) (Aw _ hT8.C (hT8.L (o+9)) hfn hf9 (fun k hk=>?_)) (by simp) (CS.room_le (aa HR).2.2.2.2.2.2.2.2.1 (by decide))).mono ?_
  ·rcases hk with rfl|rfl
   ·exact⟨hB8.nF,hB8.ng⟩
   ·have hlo:=(hT8.L 0).lo
    exact⟨fun hx=>by have:=hT8.C.lo _ hx;omega,by omega⟩
  ·rintro e w' ⟨rfl,F',hC,hc,hs⟩
   exact⟨rfl,F',hC,hc,(aw.bD hf2 F8 _).trans hs (fun _ _ _ h=>h)⟩
 go_wp2_with fail
 refine((aa HRN) w8 (Fr.refl _ _)).mono ?_
 rintro e w10 ⟨rfl,F10,hC10,hc10,hs10⟩
 have hT10:=(aa HT8).s9 _ hC10 hc10 hs10
 have hs010:=(aa HT8).s.size
 have HE:Hid (Cd w10 cb b F10 (c.bp v).1 E∧pG w10 g o { (c.bp v).2 with fs:=v.fs } x8∧ks w w10 c x x8 (c.bp v).2.fs F10∧aw w w10 F F10 (aH g o 10)):=by
  refine⟨hT10.C,hT10.r,⟨fun s e=>(aa HO8).1 s e,fun q e=>?_⟩,hT10.s⟩
  have hgw:=((aa HT0).L 0).lt
  exact((aa HO8).2 q e).aV hs10 (fun k j hb _ h=>by omega)
 clear hT10 hC10 hc10 hs10 hs010 HRN HO8 HT8 HB8 HT0 HT1 HT2 HT4 HT6 HX HR HV
 go_wp2_with fail
 go_end0
 exact⟨rfl,F10,x8,(aa HE).1,(aa HE).2.1,(aa HE).2.2.1,(aa HE).2.2.2⟩
structure iW where
 pl:Nat
 rq:ed
 co:Nat
 dg:List Nat
structure iW.ok (v:iW):Prop where
 pl:v.pl<4294967296
 rq:v.rq.ok
 co:v.co<256
def CS.e1 (c:CS) (v:iW):CS × Nat:=c.bW iu [] v.pl
def CS.e2 (c:CS) (v:iW):CS × ed:=(c.e1 v).1.bp v.rq
def CS.e3 (c:CS) (v:iW):CS × Nat:=(c.e2 v).1.qL v.co
def CS.e4 (c:CS) (v:iW):CS × List Nat:=(c.e3 v).1.bM eb v.dg
def CS.bJ (c:CS) (v:iW):CS × iW:=((c.e4 v).1,⟨(c.e1 v).2,(c.e2 v).2,(c.e3 v).2,(c.e4 v).2⟩)
theorem CS.fP (c:CS) (v:ed):c.sm (c.bp v).1:=CS.aI (CS.aI (CS.aI (CS.aI (CS.aI (CS.aI (CS.aI (CS.aI (c.km _) (CS.bS _ _ _ _)) (CS.fJ _ _ _ _)) (CS.bS _ _ _ _)) (CS.bS _ _ _ _)) (CS.bS _ _ _ _)) (CS.bS _ _ _ _)) (CS.jA _ _ _ _)) (CS.AG _ _ _ _ _)
theorem CS.ot {c:CS} {n:Nat} (h:c.room (n+140)) (v:ed):(c.bp v).1.room n:=by
 have R1:(c.q1 v).1.room (n+138):=CS.jU h _
 have R2:(c.q2 v).1.room (n+137):=CS.bc R1 _ _ _
 have R3:(c.q3 v).1.room (n+136):=CS.dD R2 _ _ _
 have R4:(c.q4 v).1.room (n+135):=CS.bc R3 _ _ _
 have R5:(c.q5 v).1.room (n+134):=CS.bc R4 _ _ _
 have R6:(c.q6 v).1.room (n+133):=CS.bc R5 _ _ _
 have R7:(c.q7 v).1.room (n+132):=CS.bc R6 _ _ _
 have R8:(c.q8 v).1.room (n+3):=CS.gu R7 _ _ _
 have R9:(c.q9 v).1.room (n+2):=CS.gv R8 _ _ _ _
 exact CS.room_le R9 (by omega)
theorem pG.aV {w w':World} {g o:Nat} {v:ed} {x:Value} {F F':Nat→Prop} {P:Nat→Nat→Prop} (h:pG w g o v x) (hs:aw w w' F F' P) (hg:¬ F g) (hP:∀ i,i<10→¬ P g (o+i)):pG w' g o v x:=
 ⟨(hs.oth g (o+0) (ab h.c0) hg (hP 0 (by decide))).trans h.c0,(hs.oth g (o+1) (ab h.c0) hg (hP 1 (by decide))).trans h.c1,(hs.oth g (o+2) (ab h.c0) hg (hP 2 (by decide))).trans h.c2,(hs.oth g (o+3) (ab h.c0) hg (hP 3 (by decide))).trans h.c3,(hs.oth g (o+4) (ab h.c0) hg (hP 4 (by decide))).trans h.c4,(hs.oth g (o+5) (ab h.c0) hg (hP 5 (by decide))).trans h.c5,(hs.oth g (o+6) (ab h.c0) hg (hP 6 (by decide))).trans h.c6,(hs.oth g (o+7) (ab h.c0) hg (hP 7 (by decide))).trans h.c7,(hs.oth g (o+8) (ab h.c0) hg (hP 8 (by decide))).trans h.c8,(hs.oth g (o+9) (ab h.c0) hg (hP 9 (by decide))).trans h.c9⟩
theorem ks.aV {w w1 w2:World} {c:CS} {x x':Value} {l:List cA} {F1 F2:Nat→Prop} {P:Nat→Nat→Prop} {g:Nat} (h:ks w w1 c x x' l F1) (hs:aw w1 w2 F1 F2 P) (hg:g<w.heap.size) (hP:∀ k j,k<w1.heap.size→P k j→k=g):ks w w2 c x x' l F2:=
 ⟨h.wr,fun q e=>(h.rd q e).aV hs (fun k j hb hk hp=>by have:=hP k j hk hp;omega)⟩
theorem ks.of {w0 w w':World} {c c':CS} {x x':Value} {l:List cA} {F':Nat→Prop} (h:ks w w' c' x x' l F') (hm:c.sm c') (hs:w0.heap.size≤w.heap.size):ks w0 w' c x x' l F':=by
 refine⟨fun s e=>?_,fun q e=>?_⟩
 ·cases hc:c' with
  | wr s'=>exact h.wr s' hc
  | rd q'=>obtain⟨_,e'⟩:=hm.2 q' hc;rw[e] at e';cases e'
 ·cases hc:c' with
  | wr s'=>obtain⟨_,e'⟩:=hm.1 s' hc;rw[e] at e';cases e'
  | rd q' =>
   have h9:=h.rd q' hc
   exact⟨h9.nF,aK h9.row hs,h9.ok⟩
structure sO (w:World) (g o:Nat) (v:iW) (x y:Value):Prop where
 c0:w.cell? ⟨g,o,none⟩=some (.int .u32 (v.pl:Nat))
 r:pG w g (o+1) v.rq x
 c11:w.cell? ⟨g,o+11,none⟩=some (.int .u8 (v.co:Nat))
 c12:w.cell? ⟨g,o+12,none⟩=some y
theorem oW (c:CS) (v:iW) (x y:Value) (cb b g o:Nat) (F:Nat→Prop) (E:Nat→Addr) (w:World) (h:Cd w cb b F c E) (hp:sO w g o v x y) (hX:kE w c x v.rq.fs F g) (hY:oO w y v.dg F g) (hL:∀ i,Loc w cb F g i) (hv:v.ok) (hroom:c.room 230) :
  Calls Tryz.prog 110 #[.pointer (some ⟨cb,0,none⟩),.pointer (some ⟨g,o,none⟩)] w fun e w'=>e = .returned (.tuple #[])∧∃ F' x' y',Cd w' cb b F' (c.bJ v).1 E∧sO w' g o { (c.bJ v).2 with rq:={ (c.bJ v).2.rq with fs:=v.rq.fs } } x' y'∧ks w w' c x x' (c.bJ v).2.rq.fs F'∧BO w w' c y' (c.bJ v).2.dg F' g∧aw w w' F F' (aH g o 13):=by
 have R1:(c.e1 v).1.room 229:=CS.bc hroom _ _ _
 have R2:(c.e2 v).1.room 89:=CS.ot R1 _
 have R3:(c.e3 v).1.room 88:=CS.dD R2 _ _ _
 have M1:c.sm (c.e1 v).1:=CS.bS _ _ _ _
 have M3:c.sm (c.e3 v).1:=CS.aI (CS.aI M1 (CS.fP _ _)) (CS.fJ _ _ _ _)
 have hgw:=(hL 0).lt
 have hgF:=(hL 0).nF
 have HR:=ae (And.intro R1 (And.intro R2 (And.intro R3 (And.intro M1 M3))))
 have HV:=ae hv
 have HI:=ae (bZ c iu [] v.pl cb b g o F E (.slice none 0 0) w h hp.c0 (hL _) hv.pl (iV.nil _ w F g E) (CS.room_le hroom (by decide)))
 have H:=ae (And.intro hp (And.intro hX (And.intro hY hL)))
 clear h hp hX hY hL hv hroom R1 R2 R3 M1 M3
 go_enter Tryz.func110,Tryz.ntmps110
 go_wp2_with fail
 refine(aa HI).mono ?_
 rintro e w1 ⟨rfl,F1,hC1,hc1,hs1⟩
 obtain⟨hp,hX,hY,hL⟩:=aa H
 have hL1:=fun i=>(hL i).aV hs1
 have hr1:pG w1 g (o+1) v.rq x:=hp.r.aV hs1 hgF (fun i hi h=>by omega)
 have hX1:kE w1 (c.e1 v).1 x v.rq.fs F1 g:=hX.aV hs1 (fun k i _ h=>h.1) (aa HR).2.2.2.1.1 (aa HR).2.2.2.1.2
 have HQ:=ae (gS (c.e1 v).1 v.rq x cb b g (o+1) F1 E w1 hC1 hr1 hX1 hL1 (aa HV).rq (CS.room_le (aa HR).1 (by decide)))
 have H1:=ae (And.intro hc1 (And.intro ((hs1.oth g (o+11) hgw hgF (fun h=>by omega)).trans hp.c11) (And.intro ((hs1.oth g (o+12) hgw hgF (fun h=>by omega)).trans hp.c12) (And.intro hs1 (And.intro hL1 (hY.aV hs1 (fun k i _ h=>h.1)))))))
 clear hp hX hY hL hL1 hr1 hX1 hC1 hc1 hs1 HI
 go_wp2_with fail
 refine(aa HQ).mono ?_
 rintro e w2 ⟨rfl,F2,x2,hC2,hr2,hO2,hs2⟩
 obtain⟨hc1,h11,h12,hs1,hL1,hY1⟩:=aa H1
 have hg1:=(hL1 0).lt
 have hgF1:=(hL1 0).nF
 have hL2:=fun i=>(hL1 i).aV hs2
 have d0:w2.cell? ⟨g,o,none⟩=some (.int .u32 ((c.e1 v).2:Nat)):=(hs2.oth g o hg1 hgF1 (fun h=>by have:=h.2;omega)).trans hc1
 have d11:w2.cell? ⟨g,o+11,none⟩=some (.int .u8 (v.co:Nat)):=(hs2.oth g (o+11) hg1 hgF1 (fun h=>by have:=h.2;omega)).trans h11
 have d12:w2.cell? ⟨g,o+12,none⟩=some y:=(hs2.oth g (o+12) hg1 hgF1 (fun h=>by have:=h.2;omega)).trans h12
 have hs02:aw w w2 F F2 (aH g o 13):=(hs1.mono (P':=aH g o 13) (fun k j _ h=>⟨h.1,by omega,by omega⟩)).trans hs2 (fun k j _ h=>⟨h.1,by have:=h.2;omega,by have:=h.2;omega⟩)
 have hO2':=hO2.of (aa HR).2.2.2.1 hs1.size
 have HD:=ae (ri (c.e2 v).1 v.co cb b g (o+11) F2 E w2 hC2 d11 (hL2 _) (aa HV).co (CS.room_le (aa HR).2.1 (by decide)))
 have H2:=ae (And.intro d0 (And.intro hr2 (And.intro d12 (And.intro hs02 (And.intro hL2 (And.intro hO2' (hY1.aV hs2 (fun k i _ h=>h.1))))))))
 clear hc1 h11 h12 hs1 hL1 hY1 hg1 hgF1 hL2 d0 d11 d12 hs02 hO2' hC2 hr2 hO2 hs2 H1 HQ
 go_wp2_with fail
 refine(aa HD).mono ?_
 rintro e w3 ⟨rfl,F3,hC3,hc3,hs3⟩
 obtain⟨d0,hr2,d12,hs02,hL2,hO2,hY2⟩:=aa H2
 have hg2:=(hL2 0).lt
 have hgF2:=(hL2 0).nF
 have hL3:=fun i=>(hL2 i).aV hs3
 have hY3:=hY2.aV hs3 (fun k i _ h=>h.1)
 have t12:w3.cell? ⟨g,o+12,none⟩=some y:=(hs3.oth g (o+12) hg2 hgF2 (fun h=>by omega)).trans d12
 have HG:=ae (my (c.e3 v).1 eb y v.dg cb b g (o+12) F3 E w3 hC3 t12 hY3.bv (hL3 _) hY3.len (CS.room_le (aa HR).2.2.1 (by decide)))
 have H3:=ae (And.intro hC3 (And.intro hY3 (And.intro ((hs3.oth g o hg2 hgF2 (fun h=>by omega)).trans d0) (And.intro (hr2.aV hs3 hgF2 (fun i hi h=>by omega)) (And.intro hc3 (And.intro (hs02.trans hs3 (fun k j _ h=>⟨h.1,by omega,by omega⟩)) (And.intro hL3 (hO2.aV hs3 hgw (fun k j _ h=>h.1)))))))))
 clear d0 hr2 d12 hs02 hL2 hO2 hY2 hg2 hgF2 hL3 hY3 t12 hC3 hc3 hs3 H2 HD
 go_wp2_with fail
 refine(aa HG).mono ?_
 rintro e w4 ⟨rfl,F4,y4,hC4,hy4,ho4,hn4,hs4⟩
 obtain⟨hC3,hY3,t0,hr3,hc3,hs03,hL3,hO3⟩:=aa H3
 have hg3:=(hL3 0).lt
 have hgF3:=(hL3 0).nF
 have hmd:∀ q,c = .rd q→∃ q',(c.e3 v).1 = .rd q':=fun q hq=>by
  cases hm:(c.e3 v).1 with
  | wr s'=>obtain⟨_,e'⟩:=(aa HR).2.2.2.2.1 s' hm;rw[hq] at e';cases e'
  | rd q'=>exact⟨q',rfl⟩
 have hbo:BO w w4 c y4 (c.e4 v).2 F4 g:=(yr hC3 hY3 hg3 hs4 ho4 hn4).mode hs03.size hmd
 have HE:Hid (Cd w4 cb b F4 (c.bJ v).1 E∧sO w4 g o { (c.bJ v).2 with rq:={ (c.bJ v).2.rq with fs:=v.rq.fs } } x2 y4∧ks w w4 c x x2 (c.bJ v).2.rq.fs F4∧BO w w4 c y4 (c.bJ v).2.dg F4 g∧aw w w4 F F4 (aH g o 13)):=
  ⟨hC4,⟨(hs4.oth g o hg3 hgF3 (fun h=>by omega)).trans t0,hr3.aV hs4 hgF3 (fun i hi h=>by omega),(hs4.oth g (o+11) hg3 hgF3 (fun h=>by omega)).trans hc3,hy4⟩,hO3.aV hs4 hgw (fun k j _ h=>h.1),hbo,hs03.trans hs4 (fun k j _ h=>⟨h.1,by omega,by omega⟩)⟩
 clear hC3 hY3 t0 hr3 hc3 hs03 hL3 hO3 hg3 hgF3 hbo hmd hC4 hy4 ho4 hn4 hs4 H3 HG
 go_wp2_with fail
 go_end0
 exact⟨rfl,F4,x2,y4,(aa HE).1,(aa HE).2.1,(aa HE).2.2.1,(aa HE).2.2.2.1,(aa HE).2.2.2.2⟩
structure dG where
 au:Nat
 ev:Nat
 fi:Nat
 re:Bool
structure dG.ok (v:dG):Prop where
 au:v.au<4294967296
 ev:v.ev<4294967296
 fi:v.fi<4294967296
def dG.gone (v:dG):Nat:=if v.re=true then 1 else 0
def CS.s1 (c:CS) (v:dG):CS × Nat:=c.bW eI [] v.au
def CS.s2 (c:CS) (v:dG):CS × Nat:=(c.s1 v).1.bW iE [] v.ev
def CS.s3 (c:CS) (v:dG):CS × Nat:=(c.s2 v).1.bW kq [] v.fi
def CS.s4 (c:CS) (v:dG):CS × Nat:=(c.s3 v).1.fF jq [bI 0 1 4] v.gone
def CS.aG (c:CS) (v:dG):CS × dG:=((c.s4 v).1,⟨(c.s1 v).2,(c.s2 v).2,(c.s3 v).2,(((c.s4 v).2:Nat):Int) == 1⟩)
theorem CS.rY (c:CS) (v:dG) (h:v.ok):(c.aG v).2.ok:=⟨CS.cI _ _ _ _ h.au,CS.cI _ _ _ _ h.ev,CS.cI _ _ _ _ h.fi⟩
theorem CS.kX (c:CS) (v:dG):c.sm (c.aG v).1:=CS.aI (CS.aI (CS.aI (CS.bS _ _ _ _) (CS.bS _ _ _ _)) (CS.bS _ _ _ _)) (CS.fJ _ _ _ _)
theorem CS.n8 {c:CS} {n:Nat} (h:c.room (n+4)) (v:dG):(c.aG v).1.room n:=CS.dD (CS.bc (CS.bc (CS.bc h _ _ _) _ _ _) _ _ _) _ _ _
structure DL (w:World) (g:Nat) (v:dG):Prop where
 c0:w.cell? ⟨g,0,none⟩=some (.int .u32 (v.au:Nat))
 c1:w.cell? ⟨g,1,none⟩=some (.int .u32 (v.ev:Nat))
 c2:w.cell? ⟨g,2,none⟩=some (.int .u32 (v.fi:Nat))
 c3:w.cell? ⟨g,3,none⟩=some (.bool v.re)
theorem kN (c:CS) (v:dG) (cb b g:Nat) (F:Nat→Prop) (E:Nat→Addr) (w:World) (h:Cd w cb b F c E) (hp:DL w g v) (hL:∀ i,Loc w cb F g i) (hv:v.ok) (hroom:c.room 4) :
  Calls Tryz.prog 139 #[.pointer (some ⟨cb,0,none⟩),.pointer (some ⟨g,0,none⟩)] w fun e w'=>e = .returned (.tuple #[])∧∃ F',Cd w' cb b F' (c.aG v).1 E∧DL w' g (c.aG v).2∧aw w w' F F' (aH g 0 4):=by
 have hsf:=cZ
 have R1:(c.s1 v).1.room 3:=CS.bc hroom _ _ _
 have R2:(c.s2 v).1.room 2:=CS.bc R1 _ _ _
 have R3:(c.s3 v).1.room 1:=CS.bc R2 _ _ _
 have HR:=ae (And.intro R1 (And.intro R2 R3))
 have HV:=ae hv
 have hgw:=(hL 0).lt
 have hgF:=(hL 0).nF
 have HI:=ae (bZ c eI [] v.au cb b g 0 F E (.slice none 0 0) w h hp.c0 (hL _) hv.au (iV.nil _ w F g E) (CS.room_le hroom (by decide)))
 have H:=ae (And.intro hp hL)
 clear h hp hL hv hroom R1 R2 R3
 go_enter Tryz.func139,Tryz.ntmps139
 go_wp2_with fail
 refine(aa HI).mono ?_
 rintro e w1 ⟨rfl,F1,hC1,hc1,hs1⟩
 obtain⟨hp,hL⟩:=aa H
 have hL1:=fun i=>(hL i).aV hs1
 have HI2:=ae (bZ (c.s1 v).1 iE [] v.ev cb b g 1 F1 E (.slice none 0 0) w1 hC1 ((hs1.oth g 1 hgw hgF (fun h=>by omega)).trans hp.c1) (hL1 _) (aa HV).ev (iV.nil _ w1 F1 g E) (CS.room_le (aa HR).1 (by decide)))
 have H1:=ae (And.intro hc1 (And.intro ((hs1.oth g 2 hgw hgF (fun h=>by omega)).trans hp.c2) (And.intro ((hs1.oth g 3 hgw hgF (fun h=>by omega)).trans hp.c3) (And.intro hs1 hL1))))
 clear hp hL hL1 hC1 hc1 hs1 HI
 go_wp2_with fail
 refine(aa HI2).mono ?_
 rintro e w2 ⟨rfl,F2,hC2,hc2,hs2⟩
 obtain⟨hc1,h2,h3,hs1,hL1⟩:=aa H1
 have hg1:=(hL1 0).lt
 have hgF1:=(hL1 0).nF
 have hL2:=fun i=>(hL1 i).aV hs2
 have HI3:=ae (bZ (c.s2 v).1 kq [] v.fi cb b g 2 F2 E (.slice none 0 0) w2 hC2 ((hs2.oth g 2 hg1 hgF1 (fun h=>by omega)).trans h2) (hL2 _) (aa HV).fi (iV.nil _ w2 F2 g E) (CS.room_le (aa HR).2.1 (by decide)))
 have H2:=ae (And.intro ((hs2.oth g 0 hg1 hgF1 (fun h=>by omega)).trans hc1) (And.intro hc2 (And.intro ((hs2.oth g 3 hg1 hgF1 (fun h=>by omega)).trans h3) (And.intro ((hs1.mono (P':=aH g 0 4) (fun k j _ h=>⟨h.1,by omega,by omega⟩)).trans hs2 (fun k j _ h=>⟨h.1,by omega,by omega⟩)) hL2))))
 clear hc1 h2 h3 hs1 hL1 hg1 hgF1 hL2 hC2 hc2 hs2 H1 HI2
 go_wp2_with fail
 refine(aa HI3).mono ?_
 rintro e w3 ⟨rfl,F3,hC3,hc3,hs3⟩
 obtain⟨d0,d1,d3,hs02,hL2⟩:=aa H2
 have hg2:=(hL2 0).lt
 have hgF2:=(hL2 0).nF
 have hL3:=fun i=>(hL2 i).aV hs3
 have t3:w3.cell? ⟨g,3,none⟩=some (.bool v.re):=(hs3.oth g 3 hg2 hgF2 (fun h=>by omega)).trans d3
 have H3:=ae (And.intro hC3 (And.intro ((hs3.oth g 0 hg2 hgF2 (fun h=>by omega)).trans d0) (And.intro ((hs3.oth g 1 hg2 hgF2 (fun h=>by omega)).trans d1) (And.intro hc3 (And.intro t3 (And.intro (hs02.trans hs3 (fun k j _ h=>⟨h.1,by omega,by omega⟩)) hL3))))))
 have hg3:=(hL3 0).lt
 clear d0 d1 d3 hs02 hL2 hg2 hgF2 hL3 hC3 hc3 hs3 H2 HI3
 have HF:Hid (∀ (n:Nat) (w4:World),n=v.gone→w4=w3.alloc (.cells #[.int .u8 (n:Nat)] 5)→Calls Tryz.prog 128 #[.int .u8 0,.int .u8 1,br E 4] w4 fun e w5=>∃ Fc caps,e = .returned (.func (.func Fc) #[] caps)∧Calls Tryz.prog 127 #[.pointer (some ⟨cb,0,none⟩),.string jq,.pointer (some ⟨w3.heap.size,0,none⟩),.slice (some ⟨w5.heap.size,0,none⟩) 1 1] (w5.alloc (.cells #[.func (.func Fc) #[] caps] 241)) fun e w'=>e = .returned (.tuple #[])∧∃ F',w'.cell? ⟨w3.heap.size,0,none⟩=some (.int .u8 ((c.s4 v).2:Nat))∧w'.cell? ⟨g,3,none⟩=some (.bool v.re)∧w'.frozen? ⟨g,3,none⟩=false∧∀ V,V=w'.setCell ⟨g,3,none⟩ (.bool ((((c.s4 v).2:Nat):Int) == 1))→Cd V cb b F' (c.aG v).1 E∧DL V g (c.aG v).2∧aw w V F F' (aH g 0 4)):=by
  rintro n w4 hn rfl
  refine(dW 0 1 4 E _ (by decide)).mono ?_
  rintro e w5 ⟨fv,rfl,K0,hF,hf,hK⟩
  obtain⟨hC3,d0,d1,d2,t3,hs03,hL3⟩:=aa H3
  have hbx:=aB w3 (.cells #[.int .u8 (n:Nat)] 5)
  have hC4:=hC3.aD hbx
  have hL4:=hC3.box #[.int .u8 (n:Nat)] 5 0
  have hn256:n<256:=by rw[hn];unfold dG.gone;split <;> decide
  have hnum:=pX (nm:=jq) 241 hC4 (by simp) hL4 hn256 hF hf hK (aa HR).2.2
  obtain⟨Fc,caps,rfl,_⟩:=hF.ex
  refine⟨Fc,caps,rfl,hnum.mono ?_⟩
  rintro e w6 ⟨rfl,F6,hC6,hc6,hs6⟩
  have hs36:aw w3 w6 F3 F6 (fun k j=>k=w3.heap.size∧j=0):=(aw.bD hbx F3 _).trans hs6 (fun _ _ _ h=>h)
  have hoth:∀ i v',w3.cell? ⟨g,i,none⟩=some v'→w6.cell? ⟨g,i,none⟩=some v':=fun i v' hv'=>(hs36.oth g i (hL3 0).lt (hL3 0).nF (fun h=>by have:=(hL3 0).lt;omega)).trans hv'
  have hL6:=fun i=>(hL3 i).aV hs36
  subst hn
  refine⟨rfl,F6,hc6,hoth 3 _ t3,(hL6 3).fz,?_⟩
  rintro V rfl
  have hset:∀ i,i≠3→∀ v':Value,(w6.setCell ⟨g,3,none⟩ v').cell? ⟨g,i,none⟩=w6.cell? ⟨g,i,none⟩:=fun i hi v'=>World.cell?_setCell_other _ _ _ _ (by intro e;injection e with _ e2 _;exact hi e2.symm)
  refine⟨hC6.fr ((Fr.refl (fun k=>k=g) _).setCell (.inl rfl) _) (fun k hk e=>(hL6 0).nF (e ▸ hk)) (fun e=>(hL6 0).nc e.symm) (fun k e=>by rw[e];exact(hL6 0).lo),⟨(hset 0 (by decide) _).trans (hoth 0 _ d0),(hset 1 (by decide) _).trans (hoth 1 _ d1),(hset 2 (by decide) _).trans (hoth 2 _ d2),World.cell?_setCell_same _ _ _ (hoth 3 _ t3)⟩,?_⟩
  exact(hs03.trans hs36 (fun k j hk h=>by have:=hs03.size;omega)).trans (aw.set g 3 _) (fun k j _ h=>⟨h.1,by omega,by omega⟩)
 have k4:=(aa H3).1.g7.k4
 have hk40:(w3.alloc (.cells #[.int .u8 0] 5)).cell? ⟨4,0,none⟩=some (br E 4):=ax (aB _ _) k4
 have hk41:(w3.alloc (.cells #[.int .u8 1] 5)).cell? ⟨4,0,none⟩=some (br E 4):=ax (aB _ _) k4
 have hlg3:=ab t3
 have hl4:=ab (aa H3).1.g7.k4
 clear k4 H3
 cases hre:v.re with
 | false =>
  rw[hre] at t3
  have HF0:=ae ((aa HF) 0 (w3.alloc (.cells #[.int .u8 0] 5)) (by simp[dG.gone,hre]) rfl)
  clear HF hk41
  go_wp2_with fail
  refine(aa HF0).mono ?_
  rintro e w5 ⟨Fc,caps,rfl,hcall⟩
  have HC:=ae hcall
  clear hcall HF0
  go_wp2_with fail
  refine(aa HC).mono ?_
  rintro e w6 ⟨rfl,F6,hc6,hc3,hz3,hfin⟩
  have HFIN:=ae hfin
  clear hfin HC t3 hk40 hre
  go_wp2_with fail
  go_end0
  obtain⟨z1,z2,z3⟩:=(aa HFIN) _ rfl
  exact⟨rfl,F6,z1,z2,z3⟩
 | true =>
  rw[hre] at t3
  have HF0:=ae ((aa HF) 1 (w3.alloc (.cells #[.int .u8 1] 5)) (by simp[dG.gone,hre]) rfl)
  clear HF hk40
  go_wp2_with fail
  refine(aa HF0).mono ?_
  rintro e w5 ⟨Fc,caps,rfl,hcall⟩
  have HC:=ae hcall
  clear hcall HF0
  go_wp2_with fail
  refine(aa HC).mono ?_
  rintro e w6 ⟨rfl,F6,hc6,hc3,hz3,hfin⟩
  have HFIN:=ae hfin
  clear hfin HC t3 hk41 hre
  go_wp2_with fail
  go_end0
  obtain⟨z1,z2,z3⟩:=(aa HFIN) _ rfl
  exact⟨rfl,F6,z1,z2,z3⟩
def dG.vs (f:dG):List Value:=[.int .u32 (f.au:Nat),.int .u32 (f.ev:Nat),.int .u32 (f.fi:Nat),.bool f.re]
def Cq (l:List dG):List Value:=l.flatMap dG.vs
theorem Bd (a b:List dG):Cq (a++b)=Cq a++Cq b:=by simp[Cq]
theorem Tryz.BF:(Tryz.prog.info? 161).map (fun i=>(i.zero,i.size,i.bytes))=some (some (.agg #[.int .u32 0,.int .u32 0,.int .u32 0,.bool false]),4,16):=by kernel_rfl
structure gd (w:World) (base:Nat) (x:Value) (l:List dG) (F:Nat→Prop):Prop where
  nF:∀ k,x.ownBlock=some k→¬ F k
  row:w.ownsRow base 161 4 x l.length (Cq l)
  ok:∀ f∈l,f.ok
theorem gd.nil (w:World) (base:Nat) (F:Nat→Prop):gd w base (.slice none 0 0) [] F:=⟨fun _ h=>(by cases h),⟨rfl,.inl ⟨rfl,rfl⟩⟩,fun _ h=>(by cases h)⟩
theorem gd.aV {w w':World} {base:Nat} {x:Value} {l:List dG} {F F':Nat→Prop} {P:Nat→Nat→Prop} (h:gd w base x l F) (hs:aw w w' F F' P) (hP:∀ k j,base≤k→k<w.heap.size→¬ P k j):gd w' base x l F':=
  ⟨fun k hk=>hs.nF (h.row.lt k hk).2 (h.nF k hk),aA h.row (fun k hk=>hs.block (h.row.lt k hk).2 (h.nF k hk) (fun j=>hP k j (h.row.lt k hk).1 (h.row.lt k hk).2)),h.ok⟩
theorem gd.app {w:World} {base:Nat} {v:Value} {l:List dG} {F:Nat→Prop} (h:gd w base v l F) (f:dG) (hf:f.ok) (hb:base≤w.heap.size) (hF:∀ k,F k→k<w.heap.size) (hl:l.length≤1000000) :
    ∃ ao cap w',(Builtin.append_ #[31,31] 31 #[v,.slice (some ⟨w.heap.size,0,none⟩) 1 1]).run Tryz.prog (w.alloc (.cells #[.int .u32 (f.au:Nat),.int .u32 (f.ev:Nat),.int .u32 (f.fi:Nat),.bool f.re] 161)) = .ok (.slice ao (l.length+1) cap) w'∧gd w' base (.slice ao (l.length+1) cap) (l++[f]) F∧Fr (fun g=>v.ownBlock=some g) w w':=by
  obtain⟨i0,hi,hz0,hz1,hz2⟩:=info_parts Tryz.BF
  have hb':=aA (w':=w.alloc (.cells #[.int .u32 (f.au:Nat),.int .u32 (f.ev:Nat),.int .u32 (f.fi:Nat),.bool f.re] 161)) h.row (fun g hg=>Below.heap_alloc _ _ _ (h.row.lt g hg).2)
  obtain⟨v',w',hr,h2,h3,_,h5⟩:=run_append_own_at (P:=Tryz.prog) (w:=w.alloc (.cells #[.int .u32 (f.au:Nat),.int .u32 (f.ev:Nat),.int .u32 (f.fi:Nat),.bool f.re] 161)) base 31 31 161 i0 (.agg #[.int .u32 0,.int .u32 0,.int .u32 0,.bool false]) 4 16 Tryz.underlying31 hi hz0 hz1 hz2 rfl (by decide) v l.length (Cq l) hb' ⟨w.heap.size,0,none⟩ 1 1 f.vs rfl (fun j u hu=>by
    rw[addr_add,World.cell?_alloc_at _ _ _ _ rfl];simpa[dG.vs] using hu) (fun u hu=>by simp[dG.vs] at hu;rcases hu with rfl|rfl|rfl|rfl <;> rfl) (by simp only[maxLen];omega) (by omega) (by simp;omega)
  obtain⟨ao,cap,rfl⟩:=cU h2
  refine⟨ao,cap,w',hr,⟨fun k hk=>?_,by rw[Bd,List.length_append,List.length_singleton];simpa[Cq] using h2,fun x hx=>?_⟩,((aB w _).mono (fun _ _ h=>h.elim)).grown h3 (fun g hg=>.inl hg)⟩
  · rcases h5 with e|e
    · rw[e] at hk;exact h.nF k hk
    · rw[e] at hk
      cases hk
      exact fun hx=>by have:=hF _ hx;simp at this;omega
  · rcases List.mem_append.mp hx with hx|hx
    · exact h.ok x hx
    · rw[List.mem_singleton] at hx;rw[hx];exact hf
structure Dc (w:World) (xo:Option Addr) (xc:Nat) (l:List dG) (F:Nat→Prop):Prop where
  cap:l.length≤xc
  el:∀ (j:Nat) f,l[j]?=some f→f.ok∧∃ g o,xo=some ⟨g,o,none⟩∧¬ F g∧w.cell? ⟨g,o+j * 4,none⟩=some (.int .u32 (f.au:Nat))∧w.cell? ⟨g,o+j * 4+1,none⟩=some (.int .u32 (f.ev:Nat))∧w.cell? ⟨g,o+j * 4+2,none⟩=some (.int .u32 (f.fi:Nat))∧w.cell? ⟨g,o+j * 4+3,none⟩=some (.bool f.re)
theorem Dc.aV {w w':World} {xo:Option Addr} {xc:Nat} {l:List dG} {F F':Nat→Prop} {P:Nat→Nat→Prop} (h:Dc w xo xc l F) (hs:aw w w' F F' P) (hP:∀ g o,xo=some ⟨g,o,none⟩→∀ i,g<w.heap.size→¬ P g i):Dc w' xo xc l F':=by
  refine⟨h.cap,fun j f hf=>?_⟩
  obtain⟨h0,g,o,h1,h2,h3,h4,h5,h6⟩:=h.el j f hf
  have hlt:g<w.heap.size:=ab h3
  have hp:=fun i=>hP g o h1 i hlt
  exact⟨h0,g,o,h1,hs.nF hlt h2,(hs.oth g _ hlt h2 (hp _)).trans h3,(hs.oth g _ hlt h2 (hp _)).trans h4,(hs.oth g _ hlt h2 (hp _)).trans h5,(hs.oth g _ hlt h2 (hp _)).trans h6⟩
def ie:dG:=⟨0,0,0,false⟩
theorem yq:ie.ok:=⟨by decide,by decide,by decide⟩
theorem mS (s:Wq) (cb b g i:Nat) (F:Nat→Prop) (E:Nat→Addr) (xo:Option Addr) (xc:Nat) (l:List dG) (w:World) (h:Cd w cb b F (.wr s) E) (hn:l.length<9223372036854775808) (hp:w.cell? ⟨g,i,none⟩=some (.slice xo l.length xc)) (hL:Loc w cb F g i) (hl:Dc w xo xc l F) (hroom:(CS.wr s).room 300) :
    Calls Tryz.prog 138 #[.pointer (some ⟨cb,0,none⟩),.string aP,.pointer (some ⟨g,i,none⟩),.int .i64 64,.func (.func 139) #[.pointer (some ⟨cb,0,none⟩)] #[],.slice none 0 0] w fun e w'=>e = .returned (.tuple #[])∧∃ F',Cd w' cb b F' (eM (fun c v=>c.aG v) ((CS.wr s).cB aP 64 (eA 64 []) l.length).1 (l.take (min l.length 64))) E∧aw w w' F F' (fun _ _=>False):=by
  have k2:=h.g7.k2
  have hl2:=ab k2
  have hsf:=cZ
  have hent:∀ (x:Value) (W:World),(callFunc 139 (#[.pointer (some ⟨cb,0,none⟩),x])).run Tryz.prog W = .ok (.enter 139 (#[.pointer (some ⟨cb,0,none⟩),x])) W:=fun _ W=>enters Tryz.func139 rfl rfl _ W
  obtain⟨n,hnl⟩:∃ n,n=l.length:=⟨_,rfl⟩
  rw[← hnl] at hn hp ⊢
  have HNL:=ae hnl
  clear hnl
  have hhead:=gg (.wr s) aP n 64 [] cb b F E (.slice none 0 0) w h (by omega) (by decide) ⟨_,dX.nil _ w E,fun _ h=>h.elim⟩ (by decide) (by simp only[CS.room] at *;omega) 3
  obtain⟨c1,hc1⟩:∃ c1,c1=((CS.wr s).cB aP 64 (eA 64 []) n).1:=⟨_,rfl⟩
  have hn1:((CS.wr s).cB aP 64 (eA 64 []) n).2=n:=rfl
  have hroom1:c1.room 299:=by rw[hc1];exact CS.kD hroom _ _ _ _
  have hw1:∃ s,c1 = .wr s:=⟨_,hc1⟩
  rw[← hc1,hn1] at hhead
  rw[← hc1]
  clear hc1 hn1
  have HG:=ae hhead
  clear hhead
  obtain⟨N,hN⟩:∃ N,N=min n 64:=⟨_,rfl⟩
  rw[← hN]
  have hNn:N≤n:=by omega
  have hNm:N≤64:=by omega
  have HM:=ae hN
  clear hN
  have HW:=ae (dM 0 64 2 E (w.alloc (.cells #[.int .i64 n] 3)) (by decide))
  have H:=ae (And.intro h (And.intro hL (And.intro hl (And.intro hroom1 hw1))))
  have hlp:=hL.lt
  clear h hL hl hroom hroom1 hw1
  go_enter Tryz.func138,Tryz.ntmps138
  go_wp2_with fail
  refine(aa HW).mono ?_
  rintro e w1 ⟨fv,rfl,K0,hF,hf1,hK0⟩
  obtain⟨ao,cp,w2,hr,hcall⟩:=(aa HG) w1 fv K0 hF hf1 hK0 none 0 rfl
  obtain⟨Fc,caps,rfl,_⟩:=hF.ex
  have HR:=ae hr
  have HC:=ae hcall
  clear hF hf1 hK0 hr hcall
  go_wp2_with (at_builtin;refine cN rfl _ _ 278 278 rfl _ _ _ rfl rfl (aa HR) ?_)
  refine(aa HC).mono ?_
  rintro e w3 ⟨rfl,F3,hC3,hn3,hlt3,hnF3,hs3⟩
  have H3:=ae (And.intro hC3 hs3)
  clear hC3 hs3 hlt3 hnF3
  by_cases hnm:n≤64
  all_goals
    go_wp2_with fail
    go_loopw [32] (fun iv wr=>∃ (k:Nat) (Fk:Nat→Prop),k≤N∧iv = .int .i64 (k:Nat)∧Cd wr cb b Fk (eM (fun c v=>c.aG v) c1 (l.take k)) E∧(∃ s',eM (fun c v=>c.aG v) c1 (l.take k) = .wr s')∧(eM (fun c v=>c.aG v) c1 (l.take k)).room (299 - 4 * k)∧aw w wr F Fk (fun _ _=>False)) (fun iv _=>N - (intOf iv).toNat)
    case atStart=>exact⟨0,F3,Nat.zero_le _,rfl,(aa H3).1,(aa H).2.2.2.2,(aa H).2.2.2.1,(aa H3).2⟩
    case round =>
      obtain⟨k,Fk,hk,rfl,hCk,⟨sk,hsk⟩,hrk,hsk2⟩:=hrel
      by_cases hlt:k<N
      · have hlt':(k:Int)<(n:Int):=by omega
        have hltm:(k:Int)<64:=by have:=aa HM;omega
        obtain⟨f,hfk⟩:∃ f,l[k]?=some f:=⟨l[k]'(by have:=aa HNL;omega),List.getElem?_eq_getElem (by have:=aa HNL;omega)⟩
        have hlk:=(aa H).2.2.1.aV hsk2 (fun _ _ _ _ _ h=>h)
        obtain⟨hfok,eg,eo,rfl,hegF,e0,e1,e2,e3⟩:=hlk.el k f hfk
        have hpr:wr.cell? ⟨g,i,none⟩=some (.slice (some ⟨eg,eo,none⟩) n xc):=(hsk2.oth g i hlp (aa H).2.1.nF (fun h=>h)).trans hp
        obtain⟨st,hst⟩:∃ st,st=eM (fun c v=>c.aG v) c1 (l.take k):=⟨_,rfl⟩
        rw[← hst] at hCk hsk hrk
        rw[hsk] at hCk hrk
        have h0r:wr.cell? ⟨cb,0,none⟩=some (.pointer (some ⟨b,0,none⟩)):=hCk.c0
        have h1r:wr.cell? ⟨cb,1,none⟩=some (.pointer none):=hCk.c1
        have hlg:=ab hpr
        have hlcr:=ab h0r
        have hler:=ab e0
        have hcapk:k≤xc:=by have:=(aa H).2.2.1.cap;have:=aa HNL;omega
        have hbx:=aB wr (.cells #[.int .u32 (f.au:Nat),.int .u32 (f.ev:Nat),.int .u32 (f.fi:Nat),.bool f.re] 161)
        have hblk:=heap_alloc_new wr (.cells #[.int .u32 (f.au:Nat),.int .u32 (f.ev:Nat),.int .u32 (f.fi:Nat),.bool f.re] 161)
        have HCL:=ae (kN (.wr sk) f cb b wr.heap.size Fk E _ (hCk.aD hbx) ⟨ai (o:=0) hblk rfl,ai (o:=1) hblk rfl,ai (o:=2) hblk rfl,ai (o:=3) hblk rfl⟩ (fun i=>hCk.box _ _ i) hfok (CS.room_le hrk (by omega)))
        have HK:=ae (And.intro hrk (And.intro hsk2 (And.intro hfk (And.intro hsk (And.intro hst hbx)))))
        clear hCk hrk hsk2 hfk hsk hst hlk hfok hblk hbx hegF
        go_wp2_with fail
        refine(aa HCL).mono ?_
        rintro e w4 ⟨rfl,F4,hC4,_,hs4⟩
        obtain⟨hrk,hsk2,hfk,hsk,hst,hbx⟩:=aa HK
        have hs5:aw wr w4 Fk F4 (fun k _=>k=wr.heap.size):=(aw.bD hbx Fk _).trans hs4 (fun k j _ h=>h.1)
        have es:=tu (fun c v=>c.aG v) c1 l k f hfk
        rw[← hst,hsk] at es
        have HFIN:Hid (Cd w4 cb b F4 (eM (fun c v=>c.aG v) c1 (l.take (k+1))) E∧(∃ s',eM (fun c v=>c.aG v) c1 (l.take (k+1)) = .wr s')∧(eM (fun c v=>c.aG v) c1 (l.take (k+1))).room (299 - 4 * (k+1))∧aw w w4 F F4 (fun _ _=>False)):=by
          rw[es]
          exact⟨hC4,⟨_,rfl⟩,CS.n8 (CS.room_le hrk (by omega)) _,hsk2.trans hs5 (fun k j hk h=>by have:=hsk2.size;omega)⟩
        have h1w:w4.cell? ⟨cb,1,none⟩=some (.pointer none):=hC4.c1
        have hlc4:=ab h1w
        clear hC4 hs4 hs5 hrk hsk2 hfk hsk hst hbx es HK HCL e0 e1 e2 e3 hpr h0r h1r
        go_wp2_with fail
        exact⟨⟨k+1,F4,by omega,by go_num,(aa HFIN).1,(aa HFIN).2.1,(aa HFIN).2.2.1,(aa HFIN).2.2.2⟩,by simp[intOf];omega⟩
      · have hkN:k=N:=by omega
        have HK:=ae (And.intro hCk hsk2)
        clear hCk hsk hrk hsk2
        first
          | (have hlt':¬ (k:Int)<(n:Int):=by have:=aa HM;omega
             go_wp2_with fail)
          | (have hlt':¬ (k:Int)<64:=by have:=aa HM;omega
             go_wp2_with fail)
        go_end0
        rw[hkN] at HK
        exact⟨rfl,Fk,(aa HK).1,(aa HK).2⟩
end Go.Proofs.YtdcopmkgmbiikaaGreatDoor
