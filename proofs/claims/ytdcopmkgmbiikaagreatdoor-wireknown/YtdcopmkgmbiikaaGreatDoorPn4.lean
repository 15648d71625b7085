import Derived.Test.YtdcopmkgmbiikaaGreatDoorPn3
import Derived.Test.YtdcopmkgmbiikaaGreatDoorPn2
import Derived.Deep.Cut
import Derived.Deep.CutRange
set_option maxRecDepth 100000
set_option maxHeartbeats 4000000
set_option linter.unusedSimpArgs false
namespace Go.Proofs.YtdcopmkgmbiikaaGreatDoor
open Go.RowKit
variable {L:List Nat}
theorem jE {α:Type} (each:CS→α→CS × α) (z:α) (c:CS):∀ n,(bg each z n c).2.length=n
 | 0=>rfl
 | n+1=>by
  show((bg each z n c).2++[_]).length=n+1
  rw[List.length_append,jE each z c n];rfl
theorem CS.db (c:CS) (k:Nat):c.sm (c.aE k):=CS.dL _ _ _ _
theorem yN.aP {w w':World} {g o:Nat} {v:gr} {x y:Value} {F F':Nat→Prop} {P:Nat→Nat→Prop} (h:yN w g o v x y) (hs:ar w w' F F' P) (hg:¬ F g) (hP:∀ i,i<7→¬ P g (o+i)):yN w' g o v x y:=
 ⟨(hs.oth g o (ab h.c0) hg (hP 0 (by decide))).trans h.c0,(hs.oth g (o+1) (ab h.c0) hg (hP 1 (by decide))).trans h.c1,(hs.oth g (o+2) (ab h.c0) hg (hP 2 (by decide))).trans h.c2,(hs.oth g (o+3) (ab h.c0) hg (hP 3 (by decide))).trans h.c3,(hs.oth g (o+4) (ab h.c0) hg (hP 4 (by decide))).trans h.c4,(hs.oth g (o+5) (ab h.c0) hg (hP 5 (by decide))).trans h.c5,(hs.oth g (o+6) (ab h.c0) hg (hP 6 (by decide))).trans h.c6⟩
theorem rA.aP {w w':World} {g o:Nat} {v:gw} {x y:Value} {F F':Nat→Prop} {P:Nat→Nat→Prop} (h:rA w g o v x y) (hs:ar w w' F F' P) (hg:¬ F g) (hP:∀ i,i<13→¬ P g (o+i)):rA w' g o v x y:=
 ⟨(hs.oth g o (ab h.c0) hg (hP 0 (by decide))).trans h.c0,h.r.aP hs hg (fun i hi=>by have:=hP (1+i) (by omega);rwa [← Nat.add_assoc] at this),(hs.oth g (o+11) (ab h.c0) hg (hP 11 (by decide))).trans h.c11,(hs.oth g (o+12) (ab h.c0) hg (hP 12 (by decide))).trans h.c12⟩
theorem ix (c:CS) (v:dv) (x:Value) (cb b g:Nat) (F:Nat→Prop) (E:Nat→Addr) (w:World) (h:Cd w cb b F c E) (hp:ou w g 0 v x) (hX:jF w c x v.fs F g) (hL:∀ i,Loc w cb F g i) (hv:v.ok) (hroom:c.room 221) :
  Calls Tryz.prog 68 #[.pointer (some ⟨cb,0,none⟩),.iface 157 (.pointer (some ⟨g,0,none⟩))] w fun e w'=>e = .returned (.tuple #[])∧∃ F' x',Cd w' cb b F' ((c.aE 1).aZ v).1 E∧ou w' g 0 { ((c.aE 1).aZ v).2 with fs:=v.fs } x'∧kg w w' c x x' ((c.aE 1).aZ v).2.fs F'∧ar w w' F F' (aC g 0 10):=by
 have t0:=Tryz.sd
 have HF:=ae (eZ c 1 cb b F E w h (by decide) (by simp only[CS.room] at *;omega))
 have hgF:=(hL 0).nF
 have hM:=c.db 1
 have H:=ae (And.intro hp (And.intro hL hX))
 clear h hp hL hX
 go_enter Tryz.func68,Tryz.ntmps68
 go_wp2_with fail
 refine(aa HF).mono ?_
 rintro e w1 ⟨rfl,F1,hC1,hs1⟩
 have HH:=ae (gL (c.aE 1) v x cb b g 0 F1 E w1 hC1 ((aa H).1.aP hs1 hgF (fun _ _ h=>h)) ((aa H).2.2.aP (c':=c.aE 1) hs1 (fun _ _ _ h=>h.elim) hM.1 hM.2) (fun i=>((aa H).2.1 i).aP hs1) hv (CS.cA (by simp only[CS.room] at *;omega) 1))
 have H1:=ae hs1
 clear hC1 hs1
 go_wp2_with fail
 refine(aa HH).mono ?_
 rintro e w2 ⟨rfl,F2,x2,hC2,hr2,ho2,hs2⟩
 have H2:=ae (And.intro hC2 (And.intro (hr2) (And.intro (ho2.of hM (aa H1).size) (((aa H1).mono (fun _ _ _ h=>h.elim)).trans hs2 (fun _ _ _ h=>h)))))
 clear hC2 hr2 ho2 hs2
 go_wp2_with fail
 go_end0
 exact⟨rfl,F2,x2,aa H2⟩
theorem n9 (c:CS) (v:gr) (x y:Value) (cb b g:Nat) (F:Nat→Prop) (E:Nat→Addr) (w:World) (h:Cd w cb b F c E) (hp:yN w g 0 v x y) (hX:jF w c x v.fs F g) (hY:tb w c y v.hi F g) (hL:∀ i,Loc w cb F g i) (hv:v.ok) (hroom:c.room 501) :
  Calls Tryz.prog 68 #[.pointer (some ⟨cb,0,none⟩),.iface 158 (.pointer (some ⟨g,0,none⟩))] w fun e w'=>e = .returned (.tuple #[])∧∃ F' x' y',Cd w' cb b F' ((c.aE 2).bp v).1 E∧yN w' g 0 ((c.aE 2).bp v).2 x' y'∧kg w w' c x x' ((c.aE 2).bp v).2.fs F'∧yO w w' c y y' ((c.aE 2).bp v).2.hi F'∧ar w w' F F' (aC g 0 7):=by
 have t0:=Tryz.vq
 have t1:=Tryz.jC
 have HF:=ae (eZ c 2 cb b F E w h (by decide) (by simp only[CS.room] at *;omega))
 have hgF:=(hL 0).nF
 have hM:=c.db 2
 have H:=ae (And.intro hp (And.intro hL (And.intro hX hY)))
 clear h hp hL hX hY
 go_enter Tryz.func68,Tryz.ntmps68
 go_wp2_with fail
 refine(aa HF).mono ?_
 rintro e w1 ⟨rfl,F1,hC1,hs1⟩
 have HH:=ae (lg (c.aE 2) v x y cb b g 0 F1 E w1 hC1 ((aa H).1.aP hs1 hgF (fun _ _ h=>h)) ((aa H).2.2.1.aP (c':=c.aE 2) hs1 (fun _ _ _ h=>h.elim) hM.1 hM.2) ((aa H).2.2.2.aP (c':=c.aE 2) hs1 (fun _ _ _ h=>h.elim) hM) (fun i=>((aa H).2.1 i).aP hs1) hv (CS.cA (by simp only[CS.room] at *;omega) 2))
 have H1:=ae hs1
 clear hC1 hs1
 go_wp2_with fail
 refine(aa HH).mono ?_
 rintro e w2 ⟨rfl,F2,x2,y2,hC2,hr2,ho2,hq2,hs2⟩
 have H2:=ae (And.intro hC2 (And.intro (hr2) (And.intro (ho2.of hM (aa H1).size) (And.intro (hq2.of hM (aa H1).size) (((aa H1).mono (fun _ _ _ h=>h.elim)).trans hs2 (fun _ _ _ h=>h))))))
 clear hC2 hr2 ho2 hq2 hs2
 go_wp2_with fail
 go_end0
 exact⟨rfl,F2,x2,y2,aa H2⟩
theorem qI (c:CS) (v:gw) (x y:Value) (cb b g:Nat) (F:Nat→Prop) (E:Nat→Addr) (w:World) (h:Cd w cb b F c E) (hp:rA w g 0 v x y) (hX:jF w c x v.rq.fs F g) (hY:n5 w y v.dg F g) (hL:∀ i,Loc w cb F g i) (hv:v.ok) (hroom:c.room 231) :
  Calls Tryz.prog 68 #[.pointer (some ⟨cb,0,none⟩),.iface 210 (.pointer (some ⟨g,0,none⟩))] w fun e w'=>e = .returned (.tuple #[])∧∃ F' x' y',Cd w' cb b F' ((c.aE 3).bD v).1 E∧rA w' g 0 { ((c.aE 3).bD v).2 with rq:={ ((c.aE 3).bD v).2.rq with fs:=v.rq.fs } } x' y'∧kg w w' c x x' ((c.aE 3).bD v).2.rq.fs F'∧BO w w' c y' ((c.aE 3).bD v).2.dg F' g∧ar w w' F F' (aC g 0 13):=by
 have t0:=Tryz.wh
 have t1:=Tryz.j0
 have t2:=Tryz.kF
 have HF:=ae (eZ c 3 cb b F E w h (by decide) (by simp only[CS.room] at *;omega))
 have hgF:=(hL 0).nF
 have hM:=c.db 3
 have H:=ae (And.intro hp (And.intro hL (And.intro hX hY)))
 clear h hp hL hX hY
 go_enter Tryz.func68,Tryz.ntmps68
 go_wp2_with fail
 refine(aa HF).mono ?_
 rintro e w1 ⟨rfl,F1,hC1,hs1⟩
 have HH:=ae (nZ (c.aE 3) v x y cb b g 0 F1 E w1 hC1 ((aa H).1.aP hs1 hgF (fun _ _ h=>h)) ((aa H).2.2.1.aP (c':=c.aE 3) hs1 (fun _ _ _ h=>h.elim) hM.1 hM.2) ((aa H).2.2.2.aP hs1 (fun _ _ _ h=>h.elim)) (fun i=>((aa H).2.1 i).aP hs1) hv (CS.cA (by simp only[CS.room] at *;omega) 3))
 have H1:=ae hs1
 clear hC1 hs1
 go_wp2_with fail
 refine(aa HH).mono ?_
 rintro e w2 ⟨rfl,F2,x2,y2,hC2,hr2,ho2,hq2,hs2⟩
 have H2:=ae (And.intro hC2 (And.intro (hr2) (And.intro (ho2.of hM (aa H1).size) (And.intro (hq2.mode (w0:=w) (c:=c) (aa H1).size (by rintro q rfl;exact⟨_,rfl⟩)) (((aa H1).mono (fun _ _ _ h=>h.elim)).trans hs2 (fun _ _ _ h=>h))))))
 clear hC2 hr2 ho2 hq2 hs2
 go_wp2_with fail
 go_end0
 exact⟨rfl,F2,x2,y2,aa H2⟩
theorem nB {s:Wq} {c:CS} (h:(CS.wr s).sm c):c = .wr c.wq:=by
 cases c with
 | wr s'=>rfl
 | rd q=>obtain⟨_,e⟩:=h.2 q rfl;cases e
theorem AQ {q:Q} {c:CS} (h:(CS.rd q).sm c):c = .rd c.rq:=by
 cases c with
 | wr s'=>obtain⟨_,e⟩:=h.1 s' rfl;cases e
 | rd q=>rfl
theorem qY {α:Type} (each:CS→α→CS × α) (he:∀ (c:CS) (v:α),c.sm (each c v).1):∀ (xs:List α) (c:CS),c.sm (dK each c xs)
 | [],c=>CS.o8 c
 | x::xs,c=>CS.ax (he c x) (qY each he xs _)
theorem qN {α:Type} (each:CS→α→CS × α) (z:α) (he:∀ (c:CS) (v:α),c.sm (each c v).1) (c:CS):∀ n,c.sm (bg each z n c).1
 | 0=>CS.o8 c
 | n+1=>CS.ax (qN each z he c n) (he _ _)
theorem j8:∀ (xs:List dB) {c:CS} {n:Nat},c.room (n+4 * xs.length)→(dK (fun c v=>c.aB v) c xs).room n
 | [],c,n,h=>by simpa[dK] using h
 | x::xs,c,n,h=>j8 xs (CS.iy (n:=n+4 * xs.length) (CS.room_le h (by simp;omega)) x)
theorem CS.tX (c:CS) (nm:ByteArray) (m:Int) (rs:List (Int→Nat)) (v:Nat):c.sm (c.cv nm m rs v).1:=by
 cases c with
 | wr s=>exact CS.nW _ _
 | rd q=>exact CS.nR _ _
theorem CS.xO (c:CS) (l:List dB):c.sm (c.jo l).1:=by
 cases c with
 | wr s=>exact CS.ax (CS.tX _ _ _ _ _) (qY _ CS.kj _ _)
 | rd q=>exact CS.ax (CS.tX _ _ _ _ _) (qN _ _ CS.kj _ _)
theorem CS.l9 (s:Wq) {n:Nat} (h:(CS.wr s).room (n+257)) (l:List dB):((CS.wr s).jo l).1.room n:=by
 have h1:=CS.gU (c:=.wr s) (n:=n+256) h aK 64 (dU 64 []) l.length
 exact j8 _ (CS.room_le h1 (by simp;omega))
theorem CS.lC (c:CS) (v:gr):c.sm (c.bp v).1:=CS.ax (CS.ax (CS.ax (CS.ax (CS.ax (c.gO _) (CS.dL _ _ _ _)) (CS.bo _ _ _ _)) (CS.bo _ _ _ _)) (CS.eQ _ _ _ _)) (CS.xO _ _)
theorem CS.vh (c:CS) (nm:ByteArray) (v:List Nat):c.sm (c.bA nm v).1:=by
 cases c with
 | wr s=>exact CS.nW _ _
 | rd q=>exact CS.nR _ _
theorem CS.nQ (c:CS) (v:gw):c.sm (c.bD v).1:=CS.ax (CS.ax (CS.ax (CS.bo _ _ _ _) (CS.ef _ _)) (CS.dL _ _ _ _)) (CS.vh _ _ _)
def cI (v:dv):Wq:=((gV.aE 1).aZ v).1.wq
def eG (v:gr):Wq:=((gV.aE 2).bp v).1.wq
def bc (l:List Nat):CS × dv:=((gg l).aE 1).aZ ⟨0,0,0,0,0,0,0,0,[],⟨#[]⟩⟩
def kM (l:List Nat):CS × gr:=((gg l).aE 2).bp ⟨0,0,0,0,0,[],[]⟩
def bm (l:List Nat):CS × gw:=((gg l).aE 3).bD ⟨0,⟨0,0,0,0,0,0,0,0,[],⟨#[]⟩⟩,0,[]⟩
theorem kh (v:dv):((gV.aE 1).aZ v).1 = .wr (cI v):=nB (CS.ax (CS.db gV 1) (CS.ef _ _))
theorem ll (v:gr):((gV.aE 2).bp v).1 = .wr (eG v):=nB (CS.ax (CS.db gV 2) (CS.lC _ _))
theorem qE (l:List Nat):(bc l).1 = .rd (bc l).1.rq:=AQ (CS.ax (CS.db (gg l) 1) (CS.ef _ _))
theorem uA (l:List Nat):(bm l).1 = .rd (bm l).1.rq:=AQ (CS.ax (CS.db (gg l) 3) (CS.nQ _ _))
theorem mW (v:dv):(CS.wr (cI v)).room 0:=by
 rw[← kh]
 exact CS.dX (n:=0) (CS.cA (ew 141 (by decide)) 1) v
theorem oe (v:gr):(CS.wr (eG v)).room 0:=by
 rw[← ll]
 have R0:(gV.aE 2).room 500:=CS.cA (ew 501 (by decide)) 2
 have R1:((gV.aE 2).a1 v).1.room 498:=CS.ej R0 _
 have R2:((gV.aE 2).a2 v).1.room 497:=CS.ch R1 _ _ _
 have R3:((gV.aE 2).a3 v).1.room 496:=CS.aF R2 _ _ _
 have R4:((gV.aE 2).a4 v).1.room 495:=CS.aF R3 _ _ _
 have R5:((gV.aE 2).a5 v).1.room 366:=CS.dN R4 _ _ _
 have M5:(gV.aE 2).sm ((gV.aE 2).a5 v).1:=CS.ax (CS.ax (CS.ax (CS.ax (CS.gO _ _) (CS.dL _ _ _ _)) (CS.bo _ _ _ _)) (CS.bo _ _ _ _)) (CS.eQ _ _ _ _)
 have e:=nB (CS.ax (CS.db gV 2) M5)
 show(((gV.aE 2).a5 v).1.jo v.hi).1.room 0
 rw[e] at R5 ⊢
 exact CS.l9 _ (CS.room_le R5 (by decide)) _
structure kz (w:World) (x:Value) (l:List cj):Prop where
 v:∃ xo xc,x = .slice xo l.length xc∧B8 w xo xc l (fun _=>False)
 len:l.length<9223372036854775808
structure ue (w:World) (x:Value) (l:List dB):Prop where
 v:∃ xo xc,x = .slice xo l.length xc∧Cb w xo xc l (fun _=>False)
 len:l.length<9223372036854775808
theorem kz.aR {w w1:World} {x:Value} {l:List cj} (h:kz w x l) (hf:Fr (fun _=>False) w w1):kz w1 x l:=by
 obtain⟨⟨xo,xc,e,hv⟩,hn⟩:=h
 exact⟨⟨xo,xc,e,hv.aP (ar.bh hf _ (fun _ _=>False)) (fun _ _ _ _ _ h=>h)⟩,hn⟩
theorem ue.aR {w w1:World} {x:Value} {l:List dB} (h:ue w x l) (hf:Fr (fun _=>False) w w1):ue w1 x l:=by
 obtain⟨⟨xo,xc,e,hv⟩,hn⟩:=h
 exact⟨⟨xo,xc,e,hv.aP (ar.bh hf _ (fun _ _=>False)) (fun _ _ _ _ _ h=>h)⟩,hn⟩
theorem kz.CD {w w1:World} {x:Value} {l:List cj} {F:Nat→Prop} {s:Wq} (h:kz w x l) (hf:Fr (fun _=>False) w w1) (hF:∀ k,F k→w.heap.size≤k) (g:Nat) (hg:w.heap.size≤g):jF w1 (.wr s) x l F g:=by
 obtain⟨⟨xo,xc,e,hv⟩,hn⟩:=h
 have hv1:=hv.aP (ar.bh hf _ (fun _ _=>False)) (fun _ _ _ _ _ h=>h)
 refine⟨fun _ _=>⟨xo,xc,e,⟨hv.cap,fun j f hj=>?_⟩,fun g' o' e' hl=>?_⟩,fun q e=>(by cases e),hn⟩
 ·obtain⟨h0,g',o,h1,_,h3⟩:=hv.el j f hj
  obtain⟨_,g2,o2,h1',_,h3'⟩:=hv1.el j f hj
  obtain⟨rfl,rfl⟩:g2=g'∧o2=o:=by rw[h1] at h1';injection h1' with e1;injection e1 with e2 e3;exact⟨e2.symm,e3.symm⟩
  have hlt:g2<w.heap.size:=ab h3.1
  exact⟨h0,g2,o2,h1,fun hx=>by have:=hF g2 hx;omega,h3'⟩
 ·obtain⟨f,hj⟩:∃ f,l[0]?=some f:=by cases l with
   | nil=>exact absurd rfl hl
   | cons a t=>exact⟨a,rfl⟩
  obtain⟨_,g2,o2,h1,_,h3⟩:=hv.el 0 f hj
  rw[e'] at h1
  injection h1 with e1
  injection e1 with e2 e3
  have hlt:g2<w.heap.size:=ab h3.1
  omega
theorem ue.sux {w w1:World} {x:Value} {l:List dB} {F:Nat→Prop} {s:Wq} (h:ue w x l) (hf:Fr (fun _=>False) w w1) (hF:∀ k,F k→w.heap.size≤k) (g:Nat) (hg:w.heap.size≤g):tb w1 (.wr s) x l F g:=by
 obtain⟨⟨xo,xc,e,hv⟩,hn⟩:=h
 have hv1:=hv.aP (ar.bh hf _ (fun _ _=>False)) (fun _ _ _ _ _ h=>h)
 refine⟨fun _ _=>⟨xo,xc,e,⟨hv.cap,fun j f hj=>?_⟩,fun g' o' e' hl=>?_⟩,fun q e=>(by cases e),hn⟩
 ·obtain⟨h0,g',o,h1,_,h3⟩:=hv.el j f hj
  obtain⟨_,g2,o2,h1',_,h3'⟩:=hv1.el j f hj
  obtain⟨rfl,rfl⟩:g2=g'∧o2=o:=by rw[h1] at h1';injection h1' with e1;injection e1 with e2 e3;exact⟨e2.symm,e3.symm⟩
  have hlt:g2<w.heap.size:=ab h3.1
  exact⟨h0,g2,o2,h1,fun hx=>by have:=hF g2 hx;omega,h3'⟩
 ·obtain⟨f,hj⟩:∃ f,l[0]?=some f:=by cases l with
   | nil=>exact absurd rfl hl
   | cons a t=>exact⟨a,rfl⟩
  obtain⟨_,g2,o2,h1,_,h3⟩:=hv.el 0 f hj
  rw[e'] at h1
  injection h1 with e1
  injection e1 with e2 e3
  have hlt:g2<w.heap.size:=ab h3.1
  omega
def dv.aL (v:dv) (x:Value):Array Value:=#[.int .u32 (v.cl:Nat),.int .u32 (v.nu:Nat),.int .u32 (v.ac:Nat),.int .u8 (v.op:Nat),.int .u32 (v.re:Nat),.int .u32 (v.ve:Nat),.int .u32 (v.wa:Nat),.int .u32 (v.ow:Nat),x,.string v.rs]
def gr.aL (v:gr) (x y:Value):Array Value:=#[.int .u32 (v.cl:Nat),.int .u32 (v.nu:Nat),.int .u8 (v.co:Nat),.int .u32 (v.re:Nat),.int .u32 (v.ve:Nat),x,y]
def gw.aL (v:gw) (x y:Value):Array Value:=#[.int .u32 (v.pl:Nat),.int .u32 (v.rq.cl:Nat),.int .u32 (v.rq.nu:Nat),.int .u32 (v.rq.ac:Nat),.int .u8 (v.rq.op:Nat),.int .u32 (v.rq.re:Nat),.int .u32 (v.rq.ve:Nat),.int .u32 (v.rq.wa:Nat),.int .u32 (v.rq.ow:Nat),x,.string v.rq.rs,.int .u8 (v.co:Nat),y]
theorem fZ (v:dv) (x:Value) (E:Nat→Addr) (w:World) (hg:G6 w E) (hw:9≤w.heap.size) (hx:kz w x v.fs) (hv:v.ok) :
  Calls Tryz.prog 13 #[.agg (v.aL x)] w fun e w'=>cH w w' e (cI v) E:=by
 have hr:=mW v
 obtain⟨wb,hwb⟩:∃ wb,w.alloc (.cells (v.aL x) 30)=wb:=⟨_,rfl⟩
 have hbx:Fr (fun _=>False) w wb:=by rw[← hwb];exact al _ _
 have hx':=hx.aR hbx
 have hp:=qX (v.aL x) (cI v) E wb (hg.fr hbx (fun _ h=>h.elim)) (by have:=hbx.size;omega) (fun w1 cb b F hC hcs hL hF hf=>by
  have hF':∀ k,F k→wb.heap.size≤k:=fun k hk=>by have:=hF k hk;omega
  refine(ix gV v x cb b wb.heap.size F E w1 hC ⟨hcs 0 _ rfl,hcs 1 _ rfl,hcs 2 _ rfl,hcs 3 _ rfl,hcs 4 _ rfl,hcs 5 _ rfl,hcs 6 _ rfl,hcs 7 _ rfl,hcs 8 _ rfl,hcs 9 _ rfl⟩ (hx'.CD hf hF' _ (Nat.le_refl _)) hL hv (ew 221 (by decide))).mono ?_
  rintro e w' ⟨rfl,F',_,hC',_,_,hs⟩
  exact⟨rfl,F',by rw[← kh];exact hC',hs.mono (fun k j _ h=>h.1)⟩) (jm hr)
 refine(m9 _ _ _ _ _ _ _ _ _ _ w (fun e w'=>cH w w' e (cI v) E) ?_).mono (fun e w' h=>h.2)
 show Calls Tryz.prog 29 #[.agg (v.aL x)] (w.alloc (.cells (v.aL x) 30)) _
 rw[hwb]
 exact hp.mono (fun e w' h=>by rw[← hwb] at h;exact cH.box h)
theorem vm (v:gr) (x y:Value) (E:Nat→Addr) (w:World) (hg:G6 w E) (hw:9≤w.heap.size) (hx:kz w x v.fs) (hy:ue w y v.hi) (hv:v.ok) :
  Calls Tryz.prog 14 #[.agg (v.aL x y)] w fun e w'=>cH w w' e (eG v) E:=by
 have hr:=oe v
 obtain⟨wb,hwb⟩:∃ wb,w.alloc (.cells (v.aL x y) 33)=wb:=⟨_,rfl⟩
 have hbx:Fr (fun _=>False) w wb:=by rw[← hwb];exact al _ _
 have hx':=hx.aR hbx
 have hy':=hy.aR hbx
 have hp:=sE (v.aL x y) (eG v) E wb (hg.fr hbx (fun _ h=>h.elim)) (by have:=hbx.size;omega) (fun w1 cb b F hC hcs hL hF hf=>by
  have hF':∀ k,F k→wb.heap.size≤k:=fun k hk=>by have:=hF k hk;omega
  refine(n9 gV v x y cb b wb.heap.size F E w1 hC ⟨hcs 0 _ rfl,hcs 1 _ rfl,hcs 2 _ rfl,hcs 3 _ rfl,hcs 4 _ rfl,hcs 5 _ rfl,hcs 6 _ rfl⟩ (hx'.CD hf hF' _ (Nat.le_refl _)) (hy'.sux hf hF' _ (Nat.le_refl _)) hL hv (ew 501 (by decide))).mono ?_
  rintro e w' ⟨rfl,F',_,_,hC',_,_,_,hs⟩
  exact⟨rfl,F',by rw[← ll];exact hC',hs.mono (fun k j _ h=>h.1)⟩) (jm hr)
 refine(oW _ _ _ _ _ _ _ w (fun e w'=>cH w w' e (eG v) E) ?_).mono (fun e w' h=>h.2)
 show Calls Tryz.prog 30 #[.agg (v.aL x y)] (w.alloc (.cells (v.aL x y) 33)) _
 rw[hwb]
 exact hp.mono (fun e w' h=>by rw[← hwb] at h;exact cH.box h)
theorem mz (xo:Option Addr) (n xc:Nat) (w:World) (Q:World→Array Value→Value→Prop) (h:Calls Tryz.prog 77 #[.slice xo n xc] (w.alloc (.cells #[.int .u32 0,.int .u32 0,.int .u32 0,.int .u8 0,.int .u32 0,.int .u32 0,.int .u32 0,.int .u32 0,.slice none 0 0,.string ⟨#[]⟩] 30)) fun e w'=>∃ v0 v1 v2 v3 v4 v5 v6 v7 v8 v9 err,e = .returned (.tuple #[.agg #[v0,v1,v2,v3,v4,v5,v6,v7,v8,v9],err])∧(∀ v∈([v0,v1,v2,v3,v4,v5,v6,v7,v8,v9]:List Value),v.oneCell'=true)∧Fr (fun _=>False) (w.alloc (.cells #[.int .u32 0,.int .u32 0,.int .u32 0,.int .u8 0,.int .u32 0,.int .u32 0,.int .u32 0,.int .u32 0,.slice none 0 0,.string ⟨#[]⟩] 30)) w'∧Q w' #[v0,v1,v2,v3,v4,v5,v6,v7,v8,v9] err) :
  Calls Tryz.prog 34 #[.slice xo n xc] w fun e w'=>∃ vs err,e = .returned (.tuple #[.agg vs,err])∧∃ w2,Q w2 vs err∧Fr (fun k=>k=w.heap.size) w2 w'∧(∀ F,ar w2 w' F F (fun k _=>k=w.heap.size))∧Fr (fun _=>False) w w'∧w2.heap[w.heap.size]?=some (.cells #[.int .u32 0,.int .u32 0,.int .u32 0,.int .u8 0,.int .u32 0,.int .u32 0,.int .u32 0,.int .u32 0,.slice none 0 0,.string ⟨#[]⟩] 30):=by
 have H:=ae h
 clear h
 go_enter Tryz.func34,Tryz.ntmps34
 go_wp2_with fail
 refine(aa H).mono ?_
 rintro e w5 ⟨v0,v1,v2,v3,v4,v5,v6,v7,v8,v9,err,rfl,hone,hf5,hq⟩
 have hst0:∀ (a:Addr) (m:Mode) (W:World),(store a v0 m).run Tryz.prog W=stored Tryz.prog W a v0 m:=fun _ _ _=>run_store _ _ _ _ _ (hone v0 (by simp))
 have hst1:∀ (a:Addr) (m:Mode) (W:World),(store a v1 m).run Tryz.prog W=stored Tryz.prog W a v1 m:=fun _ _ _=>run_store _ _ _ _ _ (hone v1 (by simp))
 have hst2:∀ (a:Addr) (m:Mode) (W:World),(store a v2 m).run Tryz.prog W=stored Tryz.prog W a v2 m:=fun _ _ _=>run_store _ _ _ _ _ (hone v2 (by simp))
 have hst3:∀ (a:Addr) (m:Mode) (W:World),(store a v3 m).run Tryz.prog W=stored Tryz.prog W a v3 m:=fun _ _ _=>run_store _ _ _ _ _ (hone v3 (by simp))
 have hst4:∀ (a:Addr) (m:Mode) (W:World),(store a v4 m).run Tryz.prog W=stored Tryz.prog W a v4 m:=fun _ _ _=>run_store _ _ _ _ _ (hone v4 (by simp))
 have hst5:∀ (a:Addr) (m:Mode) (W:World),(store a v5 m).run Tryz.prog W=stored Tryz.prog W a v5 m:=fun _ _ _=>run_store _ _ _ _ _ (hone v5 (by simp))
 have hst6:∀ (a:Addr) (m:Mode) (W:World),(store a v6 m).run Tryz.prog W=stored Tryz.prog W a v6 m:=fun _ _ _=>run_store _ _ _ _ _ (hone v6 (by simp))
 have hst7:∀ (a:Addr) (m:Mode) (W:World),(store a v7 m).run Tryz.prog W=stored Tryz.prog W a v7 m:=fun _ _ _=>run_store _ _ _ _ _ (hone v7 (by simp))
 have hst8:∀ (a:Addr) (m:Mode) (W:World),(store a v8 m).run Tryz.prog W=stored Tryz.prog W a v8 m:=fun _ _ _=>run_store _ _ _ _ _ (hone v8 (by simp))
 have hst9:∀ (a:Addr) (m:Mode) (W:World),(store a v9 m).run Tryz.prog W=stored Tryz.prog W a v9 m:=fun _ _ _=>run_store _ _ _ _ _ (hone v9 (by simp))
 have hrb5:w5.heap[w.heap.size]?=some (.cells #[.int .u32 0,.int .u32 0,.int .u32 0,.int .u8 0,.int .u32 0,.int .u32 0,.int .u32 0,.int .u32 0,.slice none 0 0,.string ⟨#[]⟩] 30):=(hf5.block w.heap.size (by simp) (fun h=>h)).trans (heap_alloc_new _ _)
 have hr05:w5.cell? ⟨w.heap.size,0,none⟩=some (.int .u32 0):=by simp[World.cell?,hrb5]
 have hr15:w5.cell? ⟨w.heap.size,1,none⟩=some (.int .u32 0):=by simp[World.cell?,hrb5]
 have hr25:w5.cell? ⟨w.heap.size,2,none⟩=some (.int .u32 0):=by simp[World.cell?,hrb5]
 have hr35:w5.cell? ⟨w.heap.size,3,none⟩=some (.int .u8 0):=by simp[World.cell?,hrb5]
 have hr45:w5.cell? ⟨w.heap.size,4,none⟩=some (.int .u32 0):=by simp[World.cell?,hrb5]
 have hr55:w5.cell? ⟨w.heap.size,5,none⟩=some (.int .u32 0):=by simp[World.cell?,hrb5]
 have hr65:w5.cell? ⟨w.heap.size,6,none⟩=some (.int .u32 0):=by simp[World.cell?,hrb5]
 have hr75:w5.cell? ⟨w.heap.size,7,none⟩=some (.int .u32 0):=by simp[World.cell?,hrb5]
 have hr85:w5.cell? ⟨w.heap.size,8,none⟩=some (.slice none 0 0):=by simp[World.cell?,hrb5]
 have hr95:w5.cell? ⟨w.heap.size,9,none⟩=some (.string ⟨#[]⟩):=by simp[World.cell?,hrb5]
 have hrz5:∀ i,w5.frozen? ⟨w.heap.size,i,none⟩=false:=fun i=>by simp[World.frozen?,hrb5]
 have hrl5:=ab hr05
 have H5:=ae (And.intro hf5 (And.intro hq hrb5))
 clear hf5 hq hone hrb5
 go_wp2_with fail
 refine bodyPost_ret (v:=.tuple #[.agg #[v0,v1,v2,v3,v4,v5,v6,v7,v8,v9],err]) (by simp[results,Tryz.results34,go_sem,hr05,hr15,hr25,hr35,hr45,hr55,hr65,hr75,hr85,hr95]) rfl ?_
 have hf05:Fr (fun _=>False) w w5:=(al w _).trans (aa H5).1 (fun _ _ h=>h)
 exact⟨_,_,rfl,w5,(aa H5).2.1,((((((((((Fr.refl (fun k=>k=w.heap.size) w5).setCell (.inl rfl) _).setCell (.inl rfl) _).setCell (.inl rfl) _).setCell (.inl rfl) _).setCell (.inl rfl) _).setCell (.inl rfl) _).setCell (.inl rfl) _).setCell (.inl rfl) _).setCell (.inl rfl) _).setCell (.inl rfl) _,fun F=>((((((((((ar.refl w5 F (fun k _=>k=w.heap.size)).trans (ar.set w.heap.size 0 _) (fun k j _ h=>h.1)).trans (ar.set w.heap.size 1 _) (fun k j _ h=>h.1)).trans (ar.set w.heap.size 2 _) (fun k j _ h=>h.1)).trans (ar.set w.heap.size 3 _) (fun k j _ h=>h.1)).trans (ar.set w.heap.size 4 _) (fun k j _ h=>h.1)).trans (ar.set w.heap.size 5 _) (fun k j _ h=>h.1)).trans (ar.set w.heap.size 6 _) (fun k j _ h=>h.1)).trans (ar.set w.heap.size 7 _) (fun k j _ h=>h.1)).trans (ar.set w.heap.size 8 _) (fun k j _ h=>h.1)).trans (ar.set w.heap.size 9 _) (fun k j _ h=>h.1),((((((((((hf05).setCell (.inr (Nat.le_refl _)) _).setCell (.inr (Nat.le_refl _)) _).setCell (.inr (Nat.le_refl _)) _).setCell (.inr (Nat.le_refl _)) _).setCell (.inr (Nat.le_refl _)) _).setCell (.inr (Nat.le_refl _)) _).setCell (.inr (Nat.le_refl _)) _).setCell (.inr (Nat.le_refl _)) _).setCell (.inr (Nat.le_refl _)) _).setCell (.inr (Nat.le_refl _)) _,(aa H5).2.2⟩
theorem qV (xo:Option Addr) (n xc:Nat) (w:World) (Q:World→Array Value→Value→Prop) (h:Calls Tryz.prog 79 #[.slice xo n xc] (w.alloc (.cells #[.int .u32 0,.int .u32 0,.int .u32 0,.int .u32 0,.int .u8 0,.int .u32 0,.int .u32 0,.int .u32 0,.int .u32 0,.slice none 0 0,.string ⟨#[]⟩,.int .u8 0,.slice none 0 0] 35)) fun e w'=>∃ v0 v1 v2 v3 v4 v5 v6 v7 v8 v9 v10 v11 v12 err,e = .returned (.tuple #[.agg #[v0,v1,v2,v3,v4,v5,v6,v7,v8,v9,v10,v11,v12],err])∧(∀ v∈([v0,v1,v2,v3,v4,v5,v6,v7,v8,v9,v10,v11,v12]:List Value),v.oneCell'=true)∧Fr (fun _=>False) (w.alloc (.cells #[.int .u32 0,.int .u32 0,.int .u32 0,.int .u32 0,.int .u8 0,.int .u32 0,.int .u32 0,.int .u32 0,.int .u32 0,.slice none 0 0,.string ⟨#[]⟩,.int .u8 0,.slice none 0 0] 35)) w'∧Q w' #[v0,v1,v2,v3,v4,v5,v6,v7,v8,v9,v10,v11,v12] err) :
  Calls Tryz.prog 36 #[.slice xo n xc] w fun e w'=>∃ vs err,e = .returned (.tuple #[.agg vs,err])∧∃ w2,Q w2 vs err∧Fr (fun k=>k=w.heap.size) w2 w'∧(∀ F,ar w2 w' F F (fun k _=>k=w.heap.size))∧Fr (fun _=>False) w w'∧w2.heap[w.heap.size]?=some (.cells #[.int .u32 0,.int .u32 0,.int .u32 0,.int .u32 0,.int .u8 0,.int .u32 0,.int .u32 0,.int .u32 0,.int .u32 0,.slice none 0 0,.string ⟨#[]⟩,.int .u8 0,.slice none 0 0] 35):=by
 have H:=ae h
 clear h
 go_enter Tryz.func36,Tryz.ntmps36
 go_wp2_with fail
 refine(aa H).mono ?_
 rintro e w5 ⟨v0,v1,v2,v3,v4,v5,v6,v7,v8,v9,v10,v11,v12,err,rfl,hone,hf5,hq⟩
 have hst0:∀ (a:Addr) (m:Mode) (W:World),(store a v0 m).run Tryz.prog W=stored Tryz.prog W a v0 m:=fun _ _ _=>run_store _ _ _ _ _ (hone v0 (by simp))
 have hst1:∀ (a:Addr) (m:Mode) (W:World),(store a v1 m).run Tryz.prog W=stored Tryz.prog W a v1 m:=fun _ _ _=>run_store _ _ _ _ _ (hone v1 (by simp))
 have hst2:∀ (a:Addr) (m:Mode) (W:World),(store a v2 m).run Tryz.prog W=stored Tryz.prog W a v2 m:=fun _ _ _=>run_store _ _ _ _ _ (hone v2 (by simp))
 have hst3:∀ (a:Addr) (m:Mode) (W:World),(store a v3 m).run Tryz.prog W=stored Tryz.prog W a v3 m:=fun _ _ _=>run_store _ _ _ _ _ (hone v3 (by simp))
 have hst4:∀ (a:Addr) (m:Mode) (W:World),(store a v4 m).run Tryz.prog W=stored Tryz.prog W a v4 m:=fun _ _ _=>run_store _ _ _ _ _ (hone v4 (by simp))
 have hst5:∀ (a:Addr) (m:Mode) (W:World),(store a v5 m).run Tryz.prog W=stored Tryz.prog W a v5 m:=fun _ _ _=>run_store _ _ _ _ _ (hone v5 (by simp))
 have hst6:∀ (a:Addr) (m:Mode) (W:World),(store a v6 m).run Tryz.prog W=stored Tryz.prog W a v6 m:=fun _ _ _=>run_store _ _ _ _ _ (hone v6 (by simp))
 have hst7:∀ (a:Addr) (m:Mode) (W:World),(store a v7 m).run Tryz.prog W=stored Tryz.prog W a v7 m:=fun _ _ _=>run_store _ _ _ _ _ (hone v7 (by simp))
 have hst8:∀ (a:Addr) (m:Mode) (W:World),(store a v8 m).run Tryz.prog W=stored Tryz.prog W a v8 m:=fun _ _ _=>run_store _ _ _ _ _ (hone v8 (by simp))
 have hst9:∀ (a:Addr) (m:Mode) (W:World),(store a v9 m).run Tryz.prog W=stored Tryz.prog W a v9 m:=fun _ _ _=>run_store _ _ _ _ _ (hone v9 (by simp))
 have hst10:∀ (a:Addr) (m:Mode) (W:World),(store a v10 m).run Tryz.prog W=stored Tryz.prog W a v10 m:=fun _ _ _=>run_store _ _ _ _ _ (hone v10 (by simp))
 have hst11:∀ (a:Addr) (m:Mode) (W:World),(store a v11 m).run Tryz.prog W=stored Tryz.prog W a v11 m:=fun _ _ _=>run_store _ _ _ _ _ (hone v11 (by simp))
 have hst12:∀ (a:Addr) (m:Mode) (W:World),(store a v12 m).run Tryz.prog W=stored Tryz.prog W a v12 m:=fun _ _ _=>run_store _ _ _ _ _ (hone v12 (by simp))
 have hrb5:w5.heap[w.heap.size]?=some (.cells #[.int .u32 0,.int .u32 0,.int .u32 0,.int .u32 0,.int .u8 0,.int .u32 0,.int .u32 0,.int .u32 0,.int .u32 0,.slice none 0 0,.string ⟨#[]⟩,.int .u8 0,.slice none 0 0] 35):=(hf5.block w.heap.size (by simp) (fun h=>h)).trans (heap_alloc_new _ _)
 have hr05:w5.cell? ⟨w.heap.size,0,none⟩=some (.int .u32 0):=by simp[World.cell?,hrb5]
 have hr15:w5.cell? ⟨w.heap.size,1,none⟩=some (.int .u32 0):=by simp[World.cell?,hrb5]
 have hr25:w5.cell? ⟨w.heap.size,2,none⟩=some (.int .u32 0):=by simp[World.cell?,hrb5]
 have hr35:w5.cell? ⟨w.heap.size,3,none⟩=some (.int .u32 0):=by simp[World.cell?,hrb5]
 have hr45:w5.cell? ⟨w.heap.size,4,none⟩=some (.int .u8 0):=by simp[World.cell?,hrb5]
 have hr55:w5.cell? ⟨w.heap.size,5,none⟩=some (.int .u32 0):=by simp[World.cell?,hrb5]
 have hr65:w5.cell? ⟨w.heap.size,6,none⟩=some (.int .u32 0):=by simp[World.cell?,hrb5]
 have hr75:w5.cell? ⟨w.heap.size,7,none⟩=some (.int .u32 0):=by simp[World.cell?,hrb5]
 have hr85:w5.cell? ⟨w.heap.size,8,none⟩=some (.int .u32 0):=by simp[World.cell?,hrb5]
 have hr95:w5.cell? ⟨w.heap.size,9,none⟩=some (.slice none 0 0):=by simp[World.cell?,hrb5]
 have hr105:w5.cell? ⟨w.heap.size,10,none⟩=some (.string ⟨#[]⟩):=by simp[World.cell?,hrb5]
 have hr115:w5.cell? ⟨w.heap.size,11,none⟩=some (.int .u8 0):=by simp[World.cell?,hrb5]
 have hr125:w5.cell? ⟨w.heap.size,12,none⟩=some (.slice none 0 0):=by simp[World.cell?,hrb5]
 have hrz5:∀ i,w5.frozen? ⟨w.heap.size,i,none⟩=false:=fun i=>by simp[World.frozen?,hrb5]
 have hrl5:=ab hr05
 have H5:=ae (And.intro hf5 (And.intro hq hrb5))
 clear hf5 hq hone hrb5
 go_wp2_with fail
 refine bodyPost_ret (v:=.tuple #[.agg #[v0,v1,v2,v3,v4,v5,v6,v7,v8,v9,v10,v11,v12],err]) (by simp[results,Tryz.results36,go_sem,hr05,hr15,hr25,hr35,hr45,hr55,hr65,hr75,hr85,hr95,hr105,hr115,hr125]) rfl ?_
 have hf05:Fr (fun _=>False) w w5:=(al w _).trans (aa H5).1 (fun _ _ h=>h)
 exact⟨_,_,rfl,w5,(aa H5).2.1,(((((((((((((Fr.refl (fun k=>k=w.heap.size) w5).setCell (.inl rfl) _).setCell (.inl rfl) _).setCell (.inl rfl) _).setCell (.inl rfl) _).setCell (.inl rfl) _).setCell (.inl rfl) _).setCell (.inl rfl) _).setCell (.inl rfl) _).setCell (.inl rfl) _).setCell (.inl rfl) _).setCell (.inl rfl) _).setCell (.inl rfl) _).setCell (.inl rfl) _,fun F=>(((((((((((((ar.refl w5 F (fun k _=>k=w.heap.size)).trans (ar.set w.heap.size 0 _) (fun k j _ h=>h.1)).trans (ar.set w.heap.size 1 _) (fun k j _ h=>h.1)).trans (ar.set w.heap.size 2 _) (fun k j _ h=>h.1)).trans (ar.set w.heap.size 3 _) (fun k j _ h=>h.1)).trans (ar.set w.heap.size 4 _) (fun k j _ h=>h.1)).trans (ar.set w.heap.size 5 _) (fun k j _ h=>h.1)).trans (ar.set w.heap.size 6 _) (fun k j _ h=>h.1)).trans (ar.set w.heap.size 7 _) (fun k j _ h=>h.1)).trans (ar.set w.heap.size 8 _) (fun k j _ h=>h.1)).trans (ar.set w.heap.size 9 _) (fun k j _ h=>h.1)).trans (ar.set w.heap.size 10 _) (fun k j _ h=>h.1)).trans (ar.set w.heap.size 11 _) (fun k j _ h=>h.1)).trans (ar.set w.heap.size 12 _) (fun k j _ h=>h.1),(((((((((((((hf05).setCell (.inr (Nat.le_refl _)) _).setCell (.inr (Nat.le_refl _)) _).setCell (.inr (Nat.le_refl _)) _).setCell (.inr (Nat.le_refl _)) _).setCell (.inr (Nat.le_refl _)) _).setCell (.inr (Nat.le_refl _)) _).setCell (.inr (Nat.le_refl _)) _).setCell (.inr (Nat.le_refl _)) _).setCell (.inr (Nat.le_refl _)) _).setCell (.inr (Nat.le_refl _)) _).setCell (.inr (Nat.le_refl _)) _).setCell (.inr (Nat.le_refl _)) _).setCell (.inr (Nat.le_refl _)) _,(aa H5).2.2⟩
theorem sM (xo:Option Addr) (n xc:Nat) (w:World) (Q:World→Array Value→Value→Prop) (h:Calls Tryz.prog 48 #[.slice xo n xc] (w.alloc (.cells #[.int .u32 0,.slice none 0 0] 25)) fun e w'=>∃ v0 v1 err,e = .returned (.tuple #[.agg #[v0,v1],err])∧(∀ v∈([v0,v1]:List Value),v.oneCell'=true)∧Fr (fun _=>False) (w.alloc (.cells #[.int .u32 0,.slice none 0 0] 25)) w'∧Q w' #[v0,v1] err) :
  Calls Tryz.prog 22 #[.slice xo n xc] w fun e w'=>∃ vs err,e = .returned (.tuple #[.agg vs,err])∧∃ w2,Q w2 vs err∧Fr (fun k=>k=w.heap.size) w2 w'∧(∀ F,ar w2 w' F F (fun k _=>k=w.heap.size))∧Fr (fun _=>False) w w'∧w2.heap[w.heap.size]?=some (.cells #[.int .u32 0,.slice none 0 0] 25):=by
 have H:=ae h
 clear h
 go_enter Tryz.func22,Tryz.ntmps22
 go_wp2_with fail
 refine(aa H).mono ?_
 rintro e w5 ⟨v0,v1,err,rfl,hone,hf5,hq⟩
 have hst0:∀ (a:Addr) (m:Mode) (W:World),(store a v0 m).run Tryz.prog W=stored Tryz.prog W a v0 m:=fun _ _ _=>run_store _ _ _ _ _ (hone v0 (by simp))
 have hst1:∀ (a:Addr) (m:Mode) (W:World),(store a v1 m).run Tryz.prog W=stored Tryz.prog W a v1 m:=fun _ _ _=>run_store _ _ _ _ _ (hone v1 (by simp))
 have hrb5:w5.heap[w.heap.size]?=some (.cells #[.int .u32 0,.slice none 0 0] 25):=(hf5.block w.heap.size (by simp) (fun h=>h)).trans (heap_alloc_new _ _)
 have hr05:w5.cell? ⟨w.heap.size,0,none⟩=some (.int .u32 0):=by simp[World.cell?,hrb5]
 have hr15:w5.cell? ⟨w.heap.size,1,none⟩=some (.slice none 0 0):=by simp[World.cell?,hrb5]
 have hrz5:∀ i,w5.frozen? ⟨w.heap.size,i,none⟩=false:=fun i=>by simp[World.frozen?,hrb5]
 have hrl5:=ab hr05
 have H5:=ae (And.intro hf5 (And.intro hq hrb5))
 clear hf5 hq hone hrb5
 go_wp2_with fail
 refine bodyPost_ret (v:=.tuple #[.agg #[v0,v1],err]) (by simp[results,Tryz.results22,go_sem,hr05,hr15]) rfl ?_
 have hf05:Fr (fun _=>False) w w5:=(al w _).trans (aa H5).1 (fun _ _ h=>h)
 exact⟨_,_,rfl,w5,(aa H5).2.1,((Fr.refl (fun k=>k=w.heap.size) w5).setCell (.inl rfl) _).setCell (.inl rfl) _,fun F=>((ar.refl w5 F (fun k _=>k=w.heap.size)).trans (ar.set w.heap.size 0 _) (fun k j _ h=>h.1)).trans (ar.set w.heap.size 1 _) (fun k j _ h=>h.1),((hf05).setCell (.inr (Nat.le_refl _)) _).setCell (.inr (Nat.le_refl _)) _,(aa H5).2.2⟩
theorem oq (xo:Option Addr) (n xc:Nat) (w:World) (Q:World→Array Value→Value→Prop) (h:Calls Tryz.prog 80 #[.slice xo n xc] (w.alloc (.cells #[.int .u32 0,.slice none 0 0,.int .u32 0,.slice none 0 0] 37)) fun e w'=>∃ v0 v1 v2 v3 err,e = .returned (.tuple #[.agg #[v0,v1,v2,v3],err])∧(∀ v∈([v0,v1,v2,v3]:List Value),v.oneCell'=true)∧Fr (fun _=>False) (w.alloc (.cells #[.int .u32 0,.slice none 0 0,.int .u32 0,.slice none 0 0] 37)) w'∧Q w' #[v0,v1,v2,v3] err) :
  Calls Tryz.prog 37 #[.slice xo n xc] w fun e w'=>∃ vs err,e = .returned (.tuple #[.agg vs,err])∧∃ w2,Q w2 vs err∧Fr (fun k=>k=w.heap.size) w2 w'∧(∀ F,ar w2 w' F F (fun k _=>k=w.heap.size))∧Fr (fun _=>False) w w'∧w2.heap[w.heap.size]?=some (.cells #[.int .u32 0,.slice none 0 0,.int .u32 0,.slice none 0 0] 37):=by
 have H:=ae h
 clear h
 go_enter Tryz.func37,Tryz.ntmps37
 go_wp2_with fail
 refine(aa H).mono ?_
 rintro e w5 ⟨v0,v1,v2,v3,err,rfl,hone,hf5,hq⟩
 have hst0:∀ (a:Addr) (m:Mode) (W:World),(store a v0 m).run Tryz.prog W=stored Tryz.prog W a v0 m:=fun _ _ _=>run_store _ _ _ _ _ (hone v0 (by simp))
 have hst1:∀ (a:Addr) (m:Mode) (W:World),(store a v1 m).run Tryz.prog W=stored Tryz.prog W a v1 m:=fun _ _ _=>run_store _ _ _ _ _ (hone v1 (by simp))
 have hst2:∀ (a:Addr) (m:Mode) (W:World),(store a v2 m).run Tryz.prog W=stored Tryz.prog W a v2 m:=fun _ _ _=>run_store _ _ _ _ _ (hone v2 (by simp))
 have hst3:∀ (a:Addr) (m:Mode) (W:World),(store a v3 m).run Tryz.prog W=stored Tryz.prog W a v3 m:=fun _ _ _=>run_store _ _ _ _ _ (hone v3 (by simp))
 have hrb5:w5.heap[w.heap.size]?=some (.cells #[.int .u32 0,.slice none 0 0,.int .u32 0,.slice none 0 0] 37):=(hf5.block w.heap.size (by simp) (fun h=>h)).trans (heap_alloc_new _ _)
 have hr05:w5.cell? ⟨w.heap.size,0,none⟩=some (.int .u32 0):=by simp[World.cell?,hrb5]
 have hr15:w5.cell? ⟨w.heap.size,1,none⟩=some (.slice none 0 0):=by simp[World.cell?,hrb5]
 have hr25:w5.cell? ⟨w.heap.size,2,none⟩=some (.int .u32 0):=by simp[World.cell?,hrb5]
 have hr35:w5.cell? ⟨w.heap.size,3,none⟩=some (.slice none 0 0):=by simp[World.cell?,hrb5]
 have hrz5:∀ i,w5.frozen? ⟨w.heap.size,i,none⟩=false:=fun i=>by simp[World.frozen?,hrb5]
 have hrl5:=ab hr05
 have H5:=ae (And.intro hf5 (And.intro hq hrb5))
 clear hf5 hq hone hrb5
 go_wp2_with fail
 refine bodyPost_ret (v:=.tuple #[.agg #[v0,v1,v2,v3],err]) (by simp[results,Tryz.results37,go_sem,hr05,hr15,hr25,hr35]) rfl ?_
 have hf05:Fr (fun _=>False) w w5:=(al w _).trans (aa H5).1 (fun _ _ h=>h)
 exact⟨_,_,rfl,w5,(aa H5).2.1,((((Fr.refl (fun k=>k=w.heap.size) w5).setCell (.inl rfl) _).setCell (.inl rfl) _).setCell (.inl rfl) _).setCell (.inl rfl) _,fun F=>((((ar.refl w5 F (fun k _=>k=w.heap.size)).trans (ar.set w.heap.size 0 _) (fun k j _ h=>h.1)).trans (ar.set w.heap.size 1 _) (fun k j _ h=>h.1)).trans (ar.set w.heap.size 2 _) (fun k j _ h=>h.1)).trans (ar.set w.heap.size 3 _) (fun k j _ h=>h.1),((((hf05).setCell (.inr (Nat.le_refl _)) _).setCell (.inr (Nat.le_refl _)) _).setCell (.inr (Nat.le_refl _)) _).setCell (.inr (Nat.le_refl _)) _,(aa H5).2.2⟩
theorem qt (xo:Option Addr) (n xc:Nat) (w:World) (Q:World→Array Value→Value→Prop) (h:Calls Tryz.prog 81 #[.slice xo n xc] (w.alloc (.cells #[.slice none 0 0] 40)) fun e w'=>∃ v0 err,e = .returned (.tuple #[.agg #[v0],err])∧(∀ v∈([v0]:List Value),v.oneCell'=true)∧Fr (fun _=>False) (w.alloc (.cells #[.slice none 0 0] 40)) w'∧Q w' #[v0] err) :
  Calls Tryz.prog 38 #[.slice xo n xc] w fun e w'=>∃ vs err,e = .returned (.tuple #[.agg vs,err])∧∃ w2,Q w2 vs err∧Fr (fun k=>k=w.heap.size) w2 w'∧(∀ F,ar w2 w' F F (fun k _=>k=w.heap.size))∧Fr (fun _=>False) w w'∧w2.heap[w.heap.size]?=some (.cells #[.slice none 0 0] 40):=by
 have H:=ae h
 clear h
 go_enter Tryz.func38,Tryz.ntmps38
 go_wp2_with fail
 refine(aa H).mono ?_
 rintro e w5 ⟨v0,err,rfl,hone,hf5,hq⟩
 have hst0:∀ (a:Addr) (m:Mode) (W:World),(store a v0 m).run Tryz.prog W=stored Tryz.prog W a v0 m:=fun _ _ _=>run_store _ _ _ _ _ (hone v0 (by simp))
 have hrb5:w5.heap[w.heap.size]?=some (.cells #[.slice none 0 0] 40):=(hf5.block w.heap.size (by simp) (fun h=>h)).trans (heap_alloc_new _ _)
 have hr05:w5.cell? ⟨w.heap.size,0,none⟩=some (.slice none 0 0):=by simp[World.cell?,hrb5]
 have hrz5:∀ i,w5.frozen? ⟨w.heap.size,i,none⟩=false:=fun i=>by simp[World.frozen?,hrb5]
 have hrl5:=ab hr05
 have H5:=ae (And.intro hf5 (And.intro hq hrb5))
 clear hf5 hq hone hrb5
 go_wp2_with fail
 refine bodyPost_ret (v:=.tuple #[.agg #[v0],err]) (by simp[results,Tryz.results38,go_sem,hr05]) rfl ?_
 have hf05:Fr (fun _=>False) w w5:=(al w _).trans (aa H5).1 (fun _ _ h=>h)
 exact⟨_,_,rfl,w5,(aa H5).2.1,(Fr.refl (fun k=>k=w.heap.size) w5).setCell (.inl rfl) _,fun F=>(ar.refl w5 F (fun k _=>k=w.heap.size)).trans (ar.set w.heap.size 0 _) (fun k j _ h=>h.1),(hf05).setCell (.inr (Nat.le_refl _)) _,(aa H5).2.2⟩
theorem ia {w w':World} {lo n e:Nat} {x:Value} {xs:List Value} {F F':Nat→Prop} {P:Nat→Nat→Prop} (h:w.ownsRow lo e 1 x n xs) (hn:∀ k,x.ownBlock=some k→¬ F k) (hs:ar w w' F F' P) (hP:∀ k j,P k j→k<lo):w'.ownsRow lo e 1 x n xs∧∀ k,x.ownBlock=some k→¬ F' k:=
 ⟨av h (fun k hk=>hs.block (h.lt k hk).2 (hn k hk) (fun j hp=>by have:=hP k j hp;have:=(h.lt k hk).1;omega)),fun k hk=>hs.nF (h.lt k hk).2 (hn k hk)⟩
theorem BO.own {w0 w:World} {q:Q} {x':Value} {l':List Nat} {F:Nat→Prop} {g lo:Nat} (h:BO w0 w (.rd q) x' l' F g) (hlo:lo≤w0.heap.size):w.ownsRow lo 5 1 x' l'.length (cellsOf l')∧(∀ k,x'.ownBlock=some k→¬ F k)∧x'.oneCell'=true:=by
 have hown:=h.val q rfl
 refine⟨ed hown hlo,fun k hk=>?_,?_⟩
 ·obtain⟨m,c,e⟩:=sg hown hk
  exact(h.bv.bv.at_ k 0 m c e).2
 ·obtain⟨xo,xc,rfl⟩:=h.bv.bv.src.form
  rfl
theorem kW (w:World) (F:Nat→Prop) (g:Nat):n5 w (.slice none 0 0) [] F g:=⟨⟨.inl ⟨rfl,rfl⟩,fun _ _ _ _ e=>(by cases e)⟩,fun _ _ _ _ e=>(by cases e),by decide⟩
theorem oY {w:World} {lo n:Nat} {x:Value} {xs:List Value} {e:Nat} (h:w.ownsRow lo e 1 x n xs):x.oneCell'=true:=by
 rcases h.2 with ⟨rfl,_⟩|⟨g,cap,cur,rfl,_⟩ <;> rfl
theorem jt {w w':World} {v:Value} {x:ByteArray × Nat × Nat} {E:Nat→Addr} {k0:Nat} {vs:Array Value} {t:TypeId} (h:df w v x E) (hf:Fr (fun k=>k=k0) w w') (hb:w.heap[k0]?=some (.cells vs t)) (hne:t≠83):df w' v x E:=by
 rcases h with h|⟨h1,h7,fb,rfl,hbb⟩
 ·exact .inl h
 ·have hlt:fb<w.heap.size:=by
   rcases Nat.lt_or_ge fb w.heap.size with hx|hx
   ·exact hx
   ·rw[Array.getElem?_eq_none hx] at hbb;cases hbb
  refine .inr ⟨h1,h7,fb,rfl,(hf.block fb hlt (fun e=>?_)).trans hbb⟩
  rw[e,hb] at hbb
  simp[aJ] at hbb
  exact hne hbb.2
theorem ob (x:Value) (l:List Nat) (E:Nat→Addr) (w:World) (hg:G6 w E) (hw:9≤w.heap.size) (hx:Src w x l) (hl:l.length≤140737488355328) :
  Calls Tryz.prog 22 #[x] w fun e w'=>∃ vs err,e = .returned (.tuple #[.agg vs,err])∧df w' err (bq l).1.rq.fin E∧((bq l).1.rq.fin.2.2≠0→vs = #[.int .u32 0,.slice none 0 0])∧((bq l).1.rq.fin.2.2=0→∃ y,vs = #[.int .u32 ((bq l).2.1:Nat),y]∧w'.ownsRow w.heap.size 5 1 y (bq l).2.2.length (cellsOf (bq l).2.2))∧Fr (fun _=>False) w w':=by
 obtain⟨xo,xc,rfl⟩:=hx.form
 obtain⟨wb,hwb⟩:∃ wb,w.alloc (.cells #[.int .u32 0,.slice none 0 0] 25)=wb:=⟨_,rfl⟩
 have hbx:Fr (fun _=>False) w wb:=by rw[← hwb];exact al _ _
 have hsb:wb.heap.size=w.heap.size+1:=by rw[← hwb];simp
 have hp:=wZ _ l (bq l).1.rq (fun w' F _ vs=>∃ y,vs = #[.int .u32 ((bq l).2.1:Nat),y]∧w'.ownsRow (w.heap.size+2) 5 1 y (bq l).2.2.length (cellsOf (bq l).2.2)∧∀ k,y.ownBlock=some k→¬ F k) E wb (hg.fr hbx (fun _ h=>h.elim)) (by omega) (hx.fr hbx (fun _ _ _ _ _ h=>h)) hl
  (fun w2 w' F F' P g vs ⟨y,h1,h2,h3⟩ hs hP=>by
   obtain⟨h4,h5⟩:=ia h2 h3 hs (fun k j hp=>by have:=hP k j hp;omega)
   exact⟨y,h1,h4,h5⟩)
  (fun w1 cb b F g hC h0 h1 hL hF hgg hf=>by
   refine(lE (gg l) 0 [] (.slice none 0 0) cb b g F E w1 hC h0 h1 (kW w1 F g) hL (by decide) (by simp only[CS.room,CS.len,gg];omega)).mono ?_
   rintro e w' ⟨rfl,F',hC',hc0,y,hc1,hb,hs⟩
   have hlt:=(hL 0).lt
   obtain⟨ho,hn,h1c⟩:=BO.own (lo:=w.heap.size+2) hb (by omega)
   exact⟨rfl,F',hC',_,y,hc0,hc1,fun v hv=>by
    simp at hv
    rcases hv with rfl|rfl
    ·rfl
    ·exact h1c,⟨y,rfl,ho,hn⟩,hs.mono (fun k j _ h=>h.1)⟩)
 refine(sM xo l.length xc w (fun w' vs err=>df w' err (bq l).1.rq.fin E∧((bq l).1.rq.fin.2.2≠0→vs = #[.int .u32 0,.slice none 0 0])∧((bq l).1.rq.fin.2.2=0→∃ (y:Value) (F:Nat→Prop),vs = #[.int .u32 ((bq l).2.1:Nat),y]∧w'.ownsRow (w.heap.size+2) 5 1 y (bq l).2.2.length (cellsOf (bq l).2.2)∧∀ k,y.ownBlock=some k→¬ F k)) ?_).mono ?_
 ·rw[hwb]
  refine hp.mono ?_
  rintro e w' ⟨vs,err,rfl,hE,hz,hr,hf⟩
  by_cases h0:(bq l).1.rq.fin.2.2=0
  ·obtain⟨F',g,⟨y,rfl,ho,hn⟩,_⟩:=hr h0
   exact⟨_,_,err,rfl,fun v hv=>by
    simp at hv
    rcases hv with rfl|rfl
    ·rfl
    ·exact oY ho,hf,hE,fun h=>absurd h0 h,fun _=>⟨y,F',rfl,ho,hn⟩⟩
  ·obtain rfl:=hz h0
   exact⟨_,_,err,rfl,fun v hv=>by
    simp at hv
    rcases hv with rfl|rfl <;> rfl,hf,hE,fun _=>rfl,fun h=>absurd h h0⟩
 ·rintro e w' ⟨vs,err,rfl,w2,⟨hE,hz,hr⟩,hf1,hs,hf,hrb⟩
  refine⟨vs,err,rfl,jt hE hf1 hrb (by decide),hz,fun h0=>?_,hf⟩
  obtain⟨y,F,h1,ho,hn⟩:=hr h0
  exact⟨y,h1,aH (ia ho hn (hs F) (fun k j h=>by omega)).1 (by omega)⟩
theorem B9 (x:Value) (l:List Nat) (E:Nat→Addr) (w:World) (hg:G6 w E) (hw:9≤w.heap.size) (hx:Src w x l) (hl:l.length≤140737488355328) :
  Calls Tryz.prog 37 #[x] w fun e w'=>∃ vs err,e = .returned (.tuple #[.agg vs,err])∧df w' err (aM l).1.rq.fin E∧((aM l).1.rq.fin.2.2≠0→vs = #[.int .u32 0,.slice none 0 0,.int .u32 0,.slice none 0 0])∧((aM l).1.rq.fin.2.2=0→∃ y z,vs = #[.int .u32 ((aM l).2.1.1:Nat),y,.int .u32 ((aM l).2.2.1:Nat),z]∧w'.ownsRow w.heap.size 5 1 y (aM l).2.1.2.length (cellsOf (aM l).2.1.2)∧w'.ownsRow w.heap.size 5 1 z (aM l).2.2.2.length (cellsOf (aM l).2.2.2))∧Fr (fun _=>False) w w':=by
 obtain⟨xo,xc,rfl⟩:=hx.form
 obtain⟨wb,hwb⟩:∃ wb,w.alloc (.cells #[.int .u32 0,.slice none 0 0,.int .u32 0,.slice none 0 0] 37)=wb:=⟨_,rfl⟩
 have hbx:Fr (fun _=>False) w wb:=by rw[← hwb];exact al _ _
 have hsb:wb.heap.size=w.heap.size+1:=by rw[← hwb];simp
 have hp:=sa _ l (aM l).1.rq (fun w' F _ vs=>∃ y z,vs = #[.int .u32 ((aM l).2.1.1:Nat),y,.int .u32 ((aM l).2.2.1:Nat),z]∧(w'.ownsRow (w.heap.size+2) 5 1 y (aM l).2.1.2.length (cellsOf (aM l).2.1.2)∧∀ k,y.ownBlock=some k→¬ F k)∧w'.ownsRow (w.heap.size+2) 5 1 z (aM l).2.2.2.length (cellsOf (aM l).2.2.2)∧∀ k,z.ownBlock=some k→¬ F k) E wb (hg.fr hbx (fun _ h=>h.elim)) (by omega) (hx.fr hbx (fun _ _ _ _ _ h=>h)) hl
  (fun w2 w' F F' P g vs ⟨y,z,h1,h2,h3⟩ hs hP=>⟨y,z,h1,ia h2.1 h2.2 hs (fun k j hp=>by have:=hP k j hp;omega),ia h3.1 h3.2 hs (fun k j hp=>by have:=hP k j hp;omega)⟩)
  (fun w1 cb b F g hC h0 h1 h2 h3 hL hF hgg hf=>by
   refine(oQ (gg l) 0 0 [] [] (.slice none 0 0) (.slice none 0 0) cb b g F E w1 hC h0 h1 h2 h3 (kW w1 F g) (kW w1 F g) hL (by decide) (by decide) (by simp only[CS.room,CS.len,gg];omega)).mono ?_
   rintro e w' ⟨rfl,F',hC',hc0,hc2,y,z,hc1,hc3,hb,hb2,hs⟩
   have hlt:=(hL 0).lt
   obtain⟨ho,hn,h1c⟩:=BO.own (lo:=w.heap.size+2) hb (by omega)
   obtain⟨ho2,hn2,h1c2⟩:=BO.own (lo:=w.heap.size+2) hb2 (by omega)
   exact⟨rfl,F',hC',_,y,_,z,hc0,hc1,hc2,hc3,fun v hv=>by
    simp at hv
    rcases hv with rfl|rfl|rfl|rfl
    ·rfl
    ·exact h1c
    ·rfl
    ·exact h1c2,⟨y,z,rfl,⟨ho,hn⟩,ho2,hn2⟩,hs.mono (fun k j _ h=>h.1)⟩)
 refine(oq xo l.length xc w (fun w' vs err=>df w' err (aM l).1.rq.fin E∧((aM l).1.rq.fin.2.2≠0→vs = #[.int .u32 0,.slice none 0 0,.int .u32 0,.slice none 0 0])∧((aM l).1.rq.fin.2.2=0→∃ (y z:Value) (F:Nat→Prop),vs = #[.int .u32 ((aM l).2.1.1:Nat),y,.int .u32 ((aM l).2.2.1:Nat),z]∧(w'.ownsRow (w.heap.size+2) 5 1 y (aM l).2.1.2.length (cellsOf (aM l).2.1.2)∧∀ k,y.ownBlock=some k→¬ F k)∧w'.ownsRow (w.heap.size+2) 5 1 z (aM l).2.2.2.length (cellsOf (aM l).2.2.2)∧∀ k,z.ownBlock=some k→¬ F k)) ?_).mono ?_
 ·rw[hwb]
  refine hp.mono ?_
  rintro e w' ⟨vs,err,rfl,hE,hz,hr,hf⟩
  by_cases h0:(aM l).1.rq.fin.2.2=0
  ·obtain⟨F',g,⟨y,z,rfl,ho,ho2⟩,_⟩:=hr h0
   exact⟨_,_,_,_,err,rfl,fun v hv=>by
    simp at hv
    rcases hv with rfl|rfl|rfl|rfl
    ·rfl
    ·exact oY ho.1
    ·rfl
    ·exact oY ho2.1,hf,hE,fun h=>absurd h0 h,fun _=>⟨y,z,F',rfl,ho,ho2⟩⟩
  ·obtain rfl:=hz h0
   exact⟨_,_,_,_,err,rfl,fun v hv=>by
    simp at hv
    rcases hv with rfl|rfl|rfl|rfl <;> rfl,hf,hE,fun _=>rfl,fun h=>absurd h h0⟩
 ·rintro e w' ⟨vs,err,rfl,w2,⟨hE,hz,hr⟩,hf1,hs,hf,hrb⟩
  refine⟨vs,err,rfl,jt hE hf1 hrb (by decide),hz,fun h0=>?_,hf⟩
  obtain⟨y,z,F,h1,ho,ho2⟩:=hr h0
  exact⟨y,z,h1,aH (ia ho.1 ho.2 (hs F) (fun k j h=>by omega)).1 (by omega),aH (ia ho2.1 ho2.2 (hs F) (fun k j h=>by omega)).1 (by omega)⟩
theorem u9 (l:List Nat):∃ q,(bf l).1 = .rd q:=by
 have key:∀ n c,(∃ q,c=CS.rd q)→∃ q,(bg (fun c v=>c.bA aW v) [] n c).1 = .rd q:=by
  intro n
  induction n with
  | zero=>intro c h;exact h
  | succ n ih =>
   intro c h
   obtain⟨q,hq⟩:=ih c h
   show ∃ q,((bg (fun c v=>c.bA aW v) [] n c).1.bA aW []).1 = .rd q
   rw[hq]
   exact⟨_,rfl⟩
 exact key _ _ ⟨_,rfl⟩
theorem uE (l:List Nat):(bf l).1 = .rd (bf l).1.rq:=by
 obtain⟨q,hq⟩:=u9 l
 rw[hq]
 rfl
theorem getProof (x:Value) (l:List Nat) (E:Nat→Addr) (w:World) (hg:G6 w E) (hw:9≤w.heap.size) (hx:Src w x l) (hl:l.length≤140737488355328) :
  Calls Tryz.prog 38 #[x] w fun e w'=>∃ vs err,e = .returned (.tuple #[.agg vs,err])∧df w' err (bf l).1.rq.fin E∧((bf l).1.rq.fin.2.2≠0→vs = #[.slice none 0 0])∧((bf l).1.rq.fin.2.2=0→∃ y,vs = #[y]∧iD w' w.heap.size y (bf l).2 (fun _=>False))∧Fr (fun _=>False) w w':=by
 obtain⟨xo,xc,rfl⟩:=hx.form
 obtain⟨wb,hwb⟩:∃ wb,w.alloc (.cells #[.slice none 0 0] 40)=wb:=⟨_,rfl⟩
 have hbx:Fr (fun _=>False) w wb:=by rw[← hwb];exact al _ _
 have hsb:wb.heap.size=w.heap.size+1:=by rw[← hwb];simp
 have hp:=uz _ l (bf l).1.rq (fun w' F _ vs=>∃ y,vs = #[y]∧iD w' (w.heap.size+2) y (bf l).2 F) E wb (hg.fr hbx (fun _ h=>h.elim)) (by omega) (hx.fr hbx (fun _ _ _ _ _ h=>h)) hl
  (fun w2 w' F F' P g vs ⟨y,h1,h2⟩ hs hP=>⟨y,h1,h2.aP hs (fun k j hk _ hp=>by have:=hP k j hp;omega)⟩)
  (fun w1 cb b F g hC h0 hL hF hgg hf=>by
   refine(mB _ cb b g F E w1 hC h0 (hL 0)).mono ?_
   rintro e w' ⟨rfl,F',hC',y,hc,hO,hs⟩
   have hlt:=(hL 0).lt
   obtain⟨yo,yc,e1⟩:=hO.form
   exact⟨rfl,F',by rw[← uE];exact hC',y,hc,fun v hv=>by
    simp at hv
    rw[hv,e1]
    rfl,⟨y,rfl,hO.base (by omega)⟩,hs.mono (fun k j _ h=>h.1)⟩)
 refine(qt xo l.length xc w (fun w' vs err=>df w' err (bf l).1.rq.fin E∧((bf l).1.rq.fin.2.2≠0→vs = #[.slice none 0 0])∧((bf l).1.rq.fin.2.2=0→∃ (y:Value) (F:Nat→Prop),vs = #[y]∧iD w' (w.heap.size+2) y (bf l).2 F)) ?_).mono ?_
 ·rw[hwb]
  refine hp.mono ?_
  rintro e w' ⟨vs,err,rfl,hE,hz,hr,hf⟩
  by_cases h0:(bf l).1.rq.fin.2.2=0
  ·obtain⟨F',g,⟨y,rfl,hO⟩,_⟩:=hr h0
   obtain⟨yo,yc,e1⟩:=hO.form
   exact⟨_,err,rfl,fun v hv=>by
    simp at hv
    rw[hv,e1]
    rfl,hf,hE,fun h=>absurd h0 h,fun _=>⟨y,F',rfl,hO⟩⟩
  ·obtain rfl:=hz h0
   exact⟨_,err,rfl,fun v hv=>by
    simp at hv
    rw[hv]
    rfl,hf,hE,fun _=>rfl,fun h=>absurd h h0⟩
 ·rintro e w' ⟨vs,err,rfl,w2,⟨hE,hz,hr⟩,hf1,hs,hf,hrb⟩
  refine⟨vs,err,rfl,jt hE hf1 hrb (by decide),hz,fun h0=>?_,hf⟩
  obtain⟨y,F,h1,hO⟩:=hr h0
  have hO':=(hO.aP (hs F) (fun k j hk _ h=>by omega)).base (show w.heap.size≤w.heap.size+2 by omega)
  obtain⟨us,a1,a2,a3,a4,a5⟩:=hO'.us
  exact⟨y,h1,fun _ _ h=>h,us,a1,a2,a3,fun j u k hu hk=>⟨fun h=>h,(a4 j u k hu hk).2⟩,a5⟩
theorem cW {w:World} {lo n z:Nat} {x:Value} {xs:List Value} {e:Nat} (h:w.ownsRow lo e z x n xs):x.oneCell'=true:=by
 rcases h.2 with ⟨rfl,_⟩|⟨g,cap,cur,rfl,_⟩ <;> rfl
theorem fH.fin {w:World} {b b':Nat} {x:Value} {l:List cj} {F:Nat→Prop} (h:fH w b x l F) (hb:b'≤b):fH w b' x l (fun _=>False):=⟨fun _ _ h=>h,aH h.row hb,h.ok⟩
theorem jN.fin {w:World} {b b':Nat} {x:Value} {l:List dB} {F:Nat→Prop} (h:jN w b x l F) (hb:b'≤b):jN w b' x l (fun _=>False):=⟨fun _ _ h=>h,aH h.row hb,h.ok⟩
theorem um (w:World) (q:Q) (F:Nat→Prop) (g:Nat):jF w (.rd q) (.slice none 0 0) [] F g:=⟨fun s e=>(by cases e),fun _ _=>⟨rfl,rfl⟩,by decide⟩
structure uG (w:World) (base:Nat) (x:Value) (l:List Nat) (F:Nat→Prop):Prop where
 nF:∀ k,x.ownBlock=some k→¬ F k
 row:w.ownsRow base 5 1 x l.length (cellsOf l)
theorem uG.aP {w w':World} {base:Nat} {x:Value} {l:List Nat} {F F':Nat→Prop} {P:Nat→Nat→Prop} (h:uG w base x l F) (hs:ar w w' F F' P) (hP:∀ k j,base≤k→k<w.heap.size→¬ P k j):uG w' base x l F':=
 ⟨fun k hk=>hs.nF (h.row.lt k hk).2 (h.nF k hk),av h.row (fun k hk=>hs.block (h.row.lt k hk).2 (h.nF k hk) (fun j=>hP k j (h.row.lt k hk).1 (h.row.lt k hk).2))⟩
theorem uG.fin {w:World} {b b':Nat} {x:Value} {l:List Nat} {F:Nat→Prop} (h:uG w b x l F) (hb:b'≤b):uG w b' x l (fun _=>False):=⟨fun _ _ h=>h,aH h.row hb⟩
theorem ou.fs {w:World} {g o:Nat} (v:dv) (l:List cj) {x:Value} (h:ou w g o { v with fs:=l } x):ou w g o v x:=⟨h.c0,h.c1,h.c2,h.c3,h.c4,h.c5,h.c6,h.c7,h.c8,h.c9⟩
theorem rA.fs {w:World} {g o:Nat} (v:gw) (l:List cj) {x y:Value} (h:rA w g o { v with rq:={ v.rq with fs:=l } } x y):rA w g o v x y:=⟨h.c0,h.r.fs v.rq l,h.c11,h.c12⟩
def gS:dv:=⟨0,0,0,0,0,0,0,0,[],⟨#[]⟩⟩
def pd:gw:=⟨0,gS,0,[]⟩
theorem rN:gS.ok:=⟨by decide,by decide,by decide,by decide,by decide,by decide,by decide,by decide,by decide⟩
theorem wI:pd.ok:=⟨by decide,rN,by decide⟩
theorem oP (l:List Nat):((gg l).aE 1).aZ gS=bc l:=rfl
theorem su (l:List Nat):((gg l).aE 3).bD pd=bm l:=rfl
theorem kY (l:List Nat) (cb b g:Nat) (F:Nat→Prop) (E:Nat→Addr) (w:World) (h:Cd w cb b F (gg l) E) (hp:ou w g 0 gS (.slice none 0 0)) (hL:∀ i,Loc w cb F g i) (hroom:(gg l).room 221) :
  Calls Tryz.prog 68 #[.pointer (some ⟨cb,0,none⟩),.iface 157 (.pointer (some ⟨g,0,none⟩))] w fun e w'=>e = .returned (.tuple #[])∧∃ F' y,Cd w' cb b F' (.rd (bc l).1.rq) E∧ou w' g 0 (bc l).2 y∧kg w w' (gg l) (.slice none 0 0) y (bc l).2.fs F'∧ar w w' F F' (aC g 0 10):=by
 have HW:=ix (gg l) gS (.slice none 0 0) cb b g F E w h hp (um w _ F g) hL rN hroom
 rw[oP] at HW
 refine HW.mono ?_
 rintro e w' ⟨rfl,F',y,hC,hcl,ho,hs⟩
 exact⟨rfl,F',y,by rw[← qE];exact hC,hcl.fs _ _,ho,hs⟩
theorem ox (l:List Nat) (cb b g:Nat) (F:Nat→Prop) (E:Nat→Addr) (w:World) (h:Cd w cb b F (gg l) E) (hp:rA w g 0 pd (.slice none 0 0) (.slice none 0 0)) (hL:∀ i,Loc w cb F g i) (hroom:(gg l).room 231) :
  Calls Tryz.prog 68 #[.pointer (some ⟨cb,0,none⟩),.iface 210 (.pointer (some ⟨g,0,none⟩))] w fun e w'=>e = .returned (.tuple #[])∧∃ F' y z,Cd w' cb b F' (.rd (bm l).1.rq) E∧rA w' g 0 (bm l).2 y z∧kg w w' (gg l) (.slice none 0 0) y (bm l).2.rq.fs F'∧BO w w' (gg l) z (bm l).2.dg F' g∧ar w w' F F' (aC g 0 13):=by
 have HW:=qI (gg l) pd (.slice none 0 0) (.slice none 0 0) cb b g F E w h hp (um w _ F g) (kW w F g) hL wI hroom
 rw[su] at HW
 refine HW.mono ?_
 rintro e w' ⟨rfl,F',y,z,hC,hcl,ho,hb,hs⟩
 exact⟨rfl,F',y,z,by rw[← uA];exact hC,hcl.fs _ _,ho,hb,hs⟩
theorem A0 (x:Value) (l:List Nat) (E:Nat→Addr) (w:World) (hg:G6 w E) (hw:9≤w.heap.size) (hx:Src w x l) (hl:l.length≤140737488355328) :
  Calls Tryz.prog 34 #[x] w fun e w'=>∃ vs err,e = .returned (.tuple #[.agg vs,err])∧df w' err (bc l).1.rq.fin E∧((bc l).1.rq.fin.2.2≠0→vs = #[.int .u32 0,.int .u32 0,.int .u32 0,.int .u8 0,.int .u32 0,.int .u32 0,.int .u32 0,.int .u32 0,.slice none 0 0,.string ⟨#[]⟩])∧((bc l).1.rq.fin.2.2=0→∃ y,vs=((bc l).2.aL y)∧fH w' (w.heap.size) y (bc l).2.fs (fun _=>False))∧Fr (fun _=>False) w w':=by
 obtain⟨xo,xc,rfl⟩:=hx.form
 obtain⟨wb,hwb⟩:∃ wb,w.alloc (.cells #[.int .u32 0,.int .u32 0,.int .u32 0,.int .u8 0,.int .u32 0,.int .u32 0,.int .u32 0,.int .u32 0,.slice none 0 0,.string ⟨#[]⟩] 30)=wb:=⟨_,rfl⟩
 have hbx:Fr (fun _=>False) w wb:=by rw[← hwb];exact al _ _
 have hsb:wb.heap.size=w.heap.size+1:=by rw[← hwb];simp
 have hp:=qG _ l (bc l).1.rq (fun w' F _ vs=>∃ y,vs=((bc l).2.aL y)∧fH w' (w.heap.size+2) y (bc l).2.fs F) E wb (hg.fr hbx (fun _ h=>h.elim)) (by omega) (hx.fr hbx (fun _ _ _ _ _ h=>h)) hl
  (fun w2 w' F F' P g vs ⟨y,h1,hoy⟩ hs hP=>⟨y,h1,hoy.aP hs (fun k j hb hk hp=>by have:=hP k j hp;omega)⟩)
  (fun w1 cb b F g hC h0 h1 h2 h3 h4 h5 h6 h7 h8 h9 hL hF hgg hf=>by
   have hlt:=(hL 0).lt
   refine(kY l cb b g F E w1 hC ⟨h0,h1,h2,h3,h4,h5,h6,h7,h8,h9⟩ hL (by simp only[CS.room,CS.len,gg];omega)).mono ?_
   rintro e w' ⟨rfl,F',y,hC',hcl,hby,hs⟩
   have hoy:fH w' (w.heap.size+2) y (bc l).2.fs F':=by have h9:=hby.rd _ rfl;exact⟨h9.nF,aH h9.row (by omega),h9.ok⟩
   have hrowy:=hoy.row
   exact⟨rfl,F',hC',_,_,_,_,_,_,_,_,_,_,hcl.c0,hcl.c1,hcl.c2,hcl.c3,hcl.c4,hcl.c5,hcl.c6,hcl.c7,hcl.c8,hcl.c9,fun v hv=>by
    simp only[List.mem_cons,List.not_mem_nil,or_false] at hv
    rcases hv with rfl|rfl|rfl|rfl|rfl|rfl|rfl|rfl|rfl|rfl
    all_goals first|rfl|exact cW (by assumption),⟨y,rfl,hoy⟩,hs.mono (fun k j _ h=>h.1)⟩)
 refine(mz xo l.length xc w (fun w' vs err=>df w' err (bc l).1.rq.fin E∧((bc l).1.rq.fin.2.2≠0→vs = #[.int .u32 0,.int .u32 0,.int .u32 0,.int .u8 0,.int .u32 0,.int .u32 0,.int .u32 0,.int .u32 0,.slice none 0 0,.string ⟨#[]⟩])∧((bc l).1.rq.fin.2.2=0→∃ (y:Value) (F:Nat→Prop),vs=((bc l).2.aL y)∧fH w' (w.heap.size+2) y (bc l).2.fs F)) ?_).mono ?_
 ·rw[hwb]
  refine hp.mono ?_
  rintro e w' ⟨vs,err,rfl,hE,hz,hr,hf⟩
  by_cases h0:(bc l).1.rq.fin.2.2=0
  ·obtain⟨F',g,⟨y,rfl,hoy⟩,_⟩:=hr h0
   have hrowy:=hoy.row
   exact⟨_,_,_,_,_,_,_,_,_,_,err,rfl,fun v hv=>by
    simp only[List.mem_cons,List.not_mem_nil,or_false] at hv
    rcases hv with rfl|rfl|rfl|rfl|rfl|rfl|rfl|rfl|rfl|rfl
    all_goals first|rfl|exact cW (by assumption),hf,hE,fun h=>absurd h0 h,fun _=>⟨y,F',rfl,hoy⟩⟩
  ·obtain rfl:=hz h0
   exact⟨_,_,_,_,_,_,_,_,_,_,err,rfl,fun v hv=>by
    simp only[List.mem_cons,List.not_mem_nil,or_false] at hv
    rcases hv with rfl|rfl|rfl|rfl|rfl|rfl|rfl|rfl|rfl|rfl <;> rfl,hf,hE,fun _=>rfl,fun h=>absurd h h0⟩
 ·rintro e w' ⟨vs,err,rfl,w2,⟨hE,hz,hr⟩,hf1,hs,hf,hrb⟩
  refine⟨vs,err,rfl,jt hE hf1 hrb (by decide),hz,fun h0=>?_,hf⟩
  obtain⟨y,F,h1,hoy⟩:=hr h0
  exact⟨y,h1,(hoy.aP (hs F) (fun k j hb hk hp=>by omega)).fin (by omega)⟩
theorem CM (x:Value) (l:List Nat) (E:Nat→Addr) (w:World) (hg:G6 w E) (hw:9≤w.heap.size) (hx:Src w x l) (hl:l.length≤140737488355328) :
  Calls Tryz.prog 36 #[x] w fun e w'=>∃ vs err,e = .returned (.tuple #[.agg vs,err])∧df w' err (bm l).1.rq.fin E∧((bm l).1.rq.fin.2.2≠0→vs = #[.int .u32 0,.int .u32 0,.int .u32 0,.int .u32 0,.int .u8 0,.int .u32 0,.int .u32 0,.int .u32 0,.int .u32 0,.slice none 0 0,.string ⟨#[]⟩,.int .u8 0,.slice none 0 0])∧((bm l).1.rq.fin.2.2=0→∃ y z,vs=((bm l).2.aL y z)∧fH w' (w.heap.size) y (bm l).2.rq.fs (fun _=>False)∧uG w' (w.heap.size) z (bm l).2.dg (fun _=>False))∧Fr (fun _=>False) w w':=by
 obtain⟨xo,xc,rfl⟩:=hx.form
 obtain⟨wb,hwb⟩:∃ wb,w.alloc (.cells #[.int .u32 0,.int .u32 0,.int .u32 0,.int .u32 0,.int .u8 0,.int .u32 0,.int .u32 0,.int .u32 0,.int .u32 0,.slice none 0 0,.string ⟨#[]⟩,.int .u8 0,.slice none 0 0] 35)=wb:=⟨_,rfl⟩
 have hbx:Fr (fun _=>False) w wb:=by rw[← hwb];exact al _ _
 have hsb:wb.heap.size=w.heap.size+1:=by rw[← hwb];simp
 have hp:=uC _ l (bm l).1.rq (fun w' F _ vs=>∃ y z,vs=((bm l).2.aL y z)∧fH w' (w.heap.size+2) y (bm l).2.rq.fs F∧uG w' (w.heap.size+2) z (bm l).2.dg F) E wb (hg.fr hbx (fun _ h=>h.elim)) (by omega) (hx.fr hbx (fun _ _ _ _ _ h=>h)) hl
  (fun w2 w' F F' P g vs ⟨y,z,h1,hoy,hoz⟩ hs hP=>⟨y,z,h1,hoy.aP hs (fun k j hb hk hp=>by have:=hP k j hp;omega),hoz.aP hs (fun k j hb hk hp=>by have:=hP k j hp;omega)⟩)
  (fun w1 cb b F g hC h0 h1 h2 h3 h4 h5 h6 h7 h8 h9 h10 h11 h12 hL hF hgg hf=>by
   have hlt:=(hL 0).lt
   refine(ox l cb b g F E w1 hC ⟨h0,⟨h1,h2,h3,h4,h5,h6,h7,h8,h9,h10⟩,h11,h12⟩ hL (by simp only[CS.room,CS.len,gg];omega)).mono ?_
   rintro e w' ⟨rfl,F',y,z,hC',hcl,hby,hbz,hs⟩
   have hoy:fH w' (w.heap.size+2) y (bm l).2.rq.fs F':=by have h9:=hby.rd _ rfl;exact⟨h9.nF,aH h9.row (by omega),h9.ok⟩
   have hrowy:=hoy.row
   have hoz:uG w' (w.heap.size+2) z (bm l).2.dg F':=by obtain⟨h7,h8,_⟩:=BO.own (lo:=w.heap.size+2) hbz (by omega);exact⟨h8,h7⟩
   have hrowz:=hoz.row
   exact⟨rfl,F',hC',_,_,_,_,_,_,_,_,_,_,_,_,_,hcl.c0,hcl.r.c0,hcl.r.c1,hcl.r.c2,hcl.r.c3,hcl.r.c4,hcl.r.c5,hcl.r.c6,hcl.r.c7,hcl.r.c8,hcl.r.c9,hcl.c11,hcl.c12,fun v hv=>by
    simp only[List.mem_cons,List.not_mem_nil,or_false] at hv
    rcases hv with rfl|rfl|rfl|rfl|rfl|rfl|rfl|rfl|rfl|rfl|rfl|rfl|rfl
    all_goals first|rfl|exact cW (by assumption),⟨y,z,rfl,hoy,hoz⟩,hs.mono (fun k j _ h=>h.1)⟩)
 refine(qV xo l.length xc w (fun w' vs err=>df w' err (bm l).1.rq.fin E∧((bm l).1.rq.fin.2.2≠0→vs = #[.int .u32 0,.int .u32 0,.int .u32 0,.int .u32 0,.int .u8 0,.int .u32 0,.int .u32 0,.int .u32 0,.int .u32 0,.slice none 0 0,.string ⟨#[]⟩,.int .u8 0,.slice none 0 0])∧((bm l).1.rq.fin.2.2=0→∃ (y z:Value) (F:Nat→Prop),vs=((bm l).2.aL y z)∧fH w' (w.heap.size+2) y (bm l).2.rq.fs F∧uG w' (w.heap.size+2) z (bm l).2.dg F)) ?_).mono ?_
 ·rw[hwb]
  refine hp.mono ?_
  rintro e w' ⟨vs,err,rfl,hE,hz,hr,hf⟩
  by_cases h0:(bm l).1.rq.fin.2.2=0
  ·obtain⟨F',g,⟨y,z,rfl,hoy,hoz⟩,_⟩:=hr h0
   have hrowy:=hoy.row
   have hrowz:=hoz.row
   exact⟨_,_,_,_,_,_,_,_,_,_,_,_,_,err,rfl,fun v hv=>by
    simp only[List.mem_cons,List.not_mem_nil,or_false] at hv
    rcases hv with rfl|rfl|rfl|rfl|rfl|rfl|rfl|rfl|rfl|rfl|rfl|rfl|rfl
    all_goals first|rfl|exact cW (by assumption),hf,hE,fun h=>absurd h0 h,fun _=>⟨y,z,F',rfl,hoy,hoz⟩⟩
  ·obtain rfl:=hz h0
   exact⟨_,_,_,_,_,_,_,_,_,_,_,_,_,err,rfl,fun v hv=>by
    simp only[List.mem_cons,List.not_mem_nil,or_false] at hv
    rcases hv with rfl|rfl|rfl|rfl|rfl|rfl|rfl|rfl|rfl|rfl|rfl|rfl|rfl <;> rfl,hf,hE,fun _=>rfl,fun h=>absurd h h0⟩
 ·rintro e w' ⟨vs,err,rfl,w2,⟨hE,hz,hr⟩,hf1,hs,hf,hrb⟩
  refine⟨vs,err,rfl,jt hE hf1 hrb (by decide),hz,fun h0=>?_,hf⟩
  obtain⟨y,z,F,h1,hoy,hoz⟩:=hr h0
  exact⟨y,z,h1,(hoy.aP (hs F) (fun k j hb hk hp=>by omega)).fin (by omega),(hoz.aP (hs F) (fun k j hb hk hp=>by omega)).fin (by omega)⟩
def dv.is (v:dv):Bool:=!(v.cl == 0 && v.nu == 0) || v.ac != 0 || v.op != 0 || v.re != 0 || v.ve != 0 || v.wa != 0 || v.ow != 0 || v.fs.length != 0 || !v.rs.toList.isEmpty
def gr.is (v:gr):Bool:=!(v.cl == 0 && v.nu == 0) || v.co != 0 || v.re != 0 || v.ve != 0 || v.fs.length != 0 || v.hi.length != 0
def gw.is (v:gw):Bool:=v.pl != 0 || v.rq.is || v.co != 0 || v.dg.length != 0
theorem da (m:Nat):(((m:Nat):Int) != 0)=(m != 0):=by
 rw[Bool.eq_iff_iff]
 simp
theorem bU (v:dv) (xo:Option Addr) (xc:Nat) (w:World) (hv:v.ok) (hn:v.fs.length<9223372036854775808):Calls Tryz.prog 163 #[.agg (v.aL (.slice xo v.fs.length xc))] w fun e w'=>e = .returned (.bool v.is)∧Fr (fun _=>False) w w':=by
 obtain⟨cl,nu,ac,op,re,ve,wa,ow,fs,rs⟩:=v
 obtain⟨h1,h2,h3,h4,h5,h6,h7,h8,h9⟩:=hv
 simp only[dv.aL] at *
 obtain⟨n,hfs⟩:∃ n,fs.length=n:=⟨_,rfl⟩
 rw[hfs] at hn ⊢
 go_enter Tryz.func163,Tryz.ntmps163
 go_wp2_with fail
 all_goals
  go_ret
  refine⟨?_,al _ _⟩
  simp_all [dv.is]
theorem cQ (v:gr) (xo:Option Addr) (xc:Nat) (yo:Option Addr) (yc:Nat) (w:World) (hv:v.ok) (hn:v.fs.length<9223372036854775808) (hm:v.hi.length<9223372036854775808):Calls Tryz.prog 164 #[.agg (v.aL (.slice xo v.fs.length xc) (.slice yo v.hi.length yc))] w fun e w'=>e = .returned (.bool v.is)∧Fr (fun _=>False) w w':=by
 obtain⟨cl,nu,co,re,ve,fs,hi⟩:=v
 obtain⟨h1,h2,h3,h4,h5⟩:=hv
 simp only[gr.aL] at *
 obtain⟨n,hfs⟩:∃ n,fs.length=n:=⟨_,rfl⟩
 obtain⟨m,hhi⟩:∃ m,hi.length=m:=⟨_,rfl⟩
 rw[hfs] at hn ⊢
 rw[hhi] at hm ⊢
 go_enter Tryz.func164,Tryz.ntmps164
 go_wp2_with fail
 all_goals
  go_ret
  refine⟨?_,al _ _⟩
  simp_all [gr.is,da]
theorem dh (v:gw) (xo:Option Addr) (xc:Nat) (yo:Option Addr) (yc:Nat) (w:World) (hv:v.ok) (hn:v.rq.fs.length<9223372036854775808) (hm:v.dg.length<9223372036854775808):Calls Tryz.prog 165 #[.agg (v.aL (.slice xo v.rq.fs.length xc) (.slice yo v.dg.length yc))] w fun e w'=>e = .returned (.bool v.is)∧Fr (fun _=>False) w w':=by
 obtain⟨pl,rq,co,dg⟩:=v
 obtain⟨h1,h2,h3⟩:=hv
 simp only at h1 h2 h3 hn hm
 have HR:Hid (∀ wx,Calls Tryz.prog 163 #[.agg (rq.aL (.slice xo rq.fs.length xc))] wx fun e w'=>e = .returned (.bool rq.is)∧Fr (fun _=>False) wx w'):=fun wx=>bU rq xo xc wx h2 hn
 obtain⟨B,hB⟩:∃ B,rq.is=B:=⟨_,rfl⟩
 simp only[dv.aL,hB] at HR
 have HB:=ae hB
 clear hB
 simp only[gw.aL]
 obtain⟨m,hdg⟩:∃ m,dg.length=m:=⟨_,rfl⟩
 rw[hdg] at hm ⊢
 go_enter Tryz.func165,Tryz.ntmps165
 go_wp2_with (first|(go_at_call 163;refine((aa HR) _).mono ?_;rintro e w1 ⟨rfl,hf1⟩;have hl1:=Nat.lt_of_lt_of_le (show w.heap.size<(w.alloc _).heap.size by simp) hf1.size;have hc11:=(hf1.cell (p:=⟨w.heap.size,11,none⟩) (by simp) (fun h=>h)).trans (show _=some (Value.int .u8 (co:Nat)) by simp);have hc12:=(hf1.cell (p:=⟨w.heap.size,12,none⟩) (by simp) (fun h=>h)).trans (show _=some (Value.slice yo m yc) by simp);have HF:=ae ((al w _).trans hf1 (fun _ _ h=>h));clear hf1))
 all_goals
  go_ret
  refine⟨?_,?_⟩
  ·have hB:=aa HB
   clear HB HR
   simp_all [gw.is,da]
  ·first|exact aa HF|exact al _ _
structure cd where
 kd:Nat
 rq:dv
 icl:Nat
 inu:Nat
 an:gr
 co:Nat
 ev:gw
 le:Nat
structure cd.ok (v:cd):Prop where
 kd:v.kd<256
 rq:v.rq.ok
 icl:v.icl<4294967296
 inu:v.inu<4294967296
 an:v.an.ok
 co:v.co<256
 ev:v.ev.ok
 le:v.le<4294967296
structure cd.lens (v:cd):Prop where
 rq:v.rq.fs.length<9223372036854775808
 an:v.an.fs.length<9223372036854775808
 hi:v.an.hi.length<9223372036854775808
 ev:v.ev.rq.fs.length<9223372036854775808
 dg:v.ev.dg.length<9223372036854775808
def cd.is (v:cd):Bool:=v.rq.is || !(v.icl == 0 && v.inu == 0) || v.an.is || v.co != 0 || v.ev.is || v.le != 0
def nD:gr:=⟨0,0,0,0,0,[],[]⟩
def cd.cut (v:cd):cd:=match v.kd with
 | 1=>{ v with rq:=gS }
 | 2=>{ v with icl:=0,inu:=0 }
 | 3=>{ v with an:=nD }
 | 4=>{ v with icl:=0,inu:=0,co:=0 }
 | 5=>{ v with ev:=pd }
 | 6=>{ v with le:=0 }
 | _=>v
def cd.beside (v:cd):Bool:=v.cut.is
def cd.aL (v:cd) (x0 x1 x2 x3 x4:Value):Array Value:=#[.int .u8 (v.kd:Nat),.int .u32 (v.rq.cl:Nat),.int .u32 (v.rq.nu:Nat),.int .u32 (v.rq.ac:Nat),.int .u8 (v.rq.op:Nat),.int .u32 (v.rq.re:Nat),.int .u32 (v.rq.ve:Nat),.int .u32 (v.rq.wa:Nat),.int .u32 (v.rq.ow:Nat),x0,.string v.rq.rs,.int .u32 (v.icl:Nat),.int .u32 (v.inu:Nat),.int .u32 (v.an.cl:Nat),.int .u32 (v.an.nu:Nat),.int .u8 (v.an.co:Nat),.int .u32 (v.an.re:Nat),.int .u32 (v.an.ve:Nat),x1,x2,.int .u8 (v.co:Nat),.int .u32 (v.ev.pl:Nat),.int .u32 (v.ev.rq.cl:Nat),.int .u32 (v.ev.rq.nu:Nat),.int .u32 (v.ev.rq.ac:Nat),.int .u8 (v.ev.rq.op:Nat),.int .u32 (v.ev.rq.re:Nat),.int .u32 (v.ev.rq.ve:Nat),.int .u32 (v.ev.rq.wa:Nat),.int .u32 (v.ev.rq.ow:Nat),x3,.string v.ev.rq.rs,.int .u8 (v.ev.co:Nat),x4,.int .u32 (v.le:Nat)]
theorem wg (v:cd) (a0 a1 a2 a3 a4:Option Addr) (c0 c1 c2 c3 c4:Nat) (w:World) (hv:v.ok) (hn:v.lens) (hk:∀ i,1≤i→i≤6→v.kd≠i):Calls Tryz.prog 145 #[.agg (v.aL (.slice a0 v.rq.fs.length c0) (.slice a1 v.an.fs.length c1) (.slice a2 v.an.hi.length c2) (.slice a3 v.ev.rq.fs.length c3) (.slice a4 v.ev.dg.length c4))] w fun e w'=>e = .returned (.bool v.beside)∧Fr (fun _=>False) w w':=by
 have HR:Hid (∀ wx,Calls Tryz.prog 163 #[.agg #[.int .u32 (v.rq.cl:Nat),.int .u32 (v.rq.nu:Nat),.int .u32 (v.rq.ac:Nat),.int .u8 (v.rq.op:Nat),.int .u32 (v.rq.re:Nat),.int .u32 (v.rq.ve:Nat),.int .u32 (v.rq.wa:Nat),.int .u32 (v.rq.ow:Nat),.slice a0 v.rq.fs.length c0,.string v.rq.rs]] wx fun e w'=>e = .returned (.bool (v.rq).is)∧Fr (fun _=>False) wx w'):=fun wx=>bU (v.rq) a0 c0 wx hv.rq hn.rq
 have HA:Hid (∀ wx,Calls Tryz.prog 164 #[.agg #[.int .u32 (v.an.cl:Nat),.int .u32 (v.an.nu:Nat),.int .u8 (v.an.co:Nat),.int .u32 (v.an.re:Nat),.int .u32 (v.an.ve:Nat),.slice a1 v.an.fs.length c1,.slice a2 v.an.hi.length c2]] wx fun e w'=>e = .returned (.bool (v.an).is)∧Fr (fun _=>False) wx w'):=fun wx=>cQ (v.an) a1 c1 a2 c2 wx hv.an hn.an hn.hi
 have HE:Hid (∀ wx,Calls Tryz.prog 165 #[.agg #[.int .u32 (v.ev.pl:Nat),.int .u32 (v.ev.rq.cl:Nat),.int .u32 (v.ev.rq.nu:Nat),.int .u32 (v.ev.rq.ac:Nat),.int .u8 (v.ev.rq.op:Nat),.int .u32 (v.ev.rq.re:Nat),.int .u32 (v.ev.rq.ve:Nat),.int .u32 (v.ev.rq.wa:Nat),.int .u32 (v.ev.rq.ow:Nat),.slice a3 v.ev.rq.fs.length c3,.string v.ev.rq.rs,.int .u8 (v.ev.co:Nat),.slice a4 v.ev.dg.length c4]] wx fun e w'=>e = .returned (.bool (v.ev).is)∧Fr (fun _=>False) wx w'):=fun wx=>dh (v.ev) a3 c3 a4 c4 wx hv.ev hn.ev hn.dg
 have HC:Hid (v.beside=(((((v.rq).is || !(v.icl == 0 && v.inu == 0)) || (v.an).is) || v.co != 0) || (v.ev).is || v.le != 0)):=by
  have e:v.cut=v:=by
   have h1:=hk 1;have h2:=hk 2;have h3:=hk 3;have h4:=hk 4;have h5:=hk 5;have h6:=hk 6
   unfold cd.cut
   split <;> first|rfl|(rename_i h;exact absurd h (hk _ (by decide) (by decide)))
  show v.cut.is=_
  rw[e]
  rfl
 obtain⟨hv1,hv2,hv3,hv4,hv5,hv6,hv7,hv8⟩:=hv
 obtain⟨hn1,hn2,hn3,hn4,hn5⟩:=hn
 generalize v.beside=R at HC ⊢
 generalize (v.rq).is=B1 at HR HC
 generalize (v.an).is=B2 at HA HC
 generalize (v.ev).is=B3 at HE HC
 have m1:((v.kd:Int) == 1)=false:=by have:=hk 1 (by decide) (by decide);simp;omega
 have m2:((v.kd:Int) == 2)=false:=by have:=hk 2 (by decide) (by decide);simp;omega
 have m3:((v.kd:Int) == 3)=false:=by have:=hk 3 (by decide) (by decide);simp;omega
 have m4:((v.kd:Int) == 4)=false:=by have:=hk 4 (by decide) (by decide);simp;omega
 have m5:((v.kd:Int) == 5)=false:=by have:=hk 5 (by decide) (by decide);simp;omega
 have m6:((v.kd:Int) == 6)=false:=by have:=hk 6 (by decide) (by decide);simp;omega
 simp only[cd.aL]
 clear hn1 hn2 hn3 hn4 hn5 hv2 hv5 hv7
 go_enter Tryz.func145,Tryz.ntmps145
 go_wp2_with (first
  | (go_at_call 163;refine((aa HR) _).mono ?_;rintro e w1 ⟨rfl,hf1⟩;have p11:=(hf1.cell (p:=⟨w.heap.size,11,none⟩) (by simp) (fun h=>h)).trans (show _=some ((Value.int .u32 (v.icl:Nat))) by rw[World.cell?_alloc_at _ _ _ _ rfl];rfl);have p12:=(hf1.cell (p:=⟨w.heap.size,12,none⟩) (by simp) (fun h=>h)).trans (show _=some ((Value.int .u32 (v.inu:Nat))) by rw[World.cell?_alloc_at _ _ _ _ rfl];rfl);have p13:=(hf1.cell (p:=⟨w.heap.size,13,none⟩) (by simp) (fun h=>h)).trans (show _=some ((Value.int .u32 (v.an.cl:Nat))) by rw[World.cell?_alloc_at _ _ _ _ rfl];rfl);have p14:=(hf1.cell (p:=⟨w.heap.size,14,none⟩) (by simp) (fun h=>h)).trans (show _=some ((Value.int .u32 (v.an.nu:Nat))) by rw[World.cell?_alloc_at _ _ _ _ rfl];rfl);have p15:=(hf1.cell (p:=⟨w.heap.size,15,none⟩) (by simp) (fun h=>h)).trans (show _=some ((Value.int .u8 (v.an.co:Nat))) by rw[World.cell?_alloc_at _ _ _ _ rfl];rfl);have p16:=(hf1.cell (p:=⟨w.heap.size,16,none⟩) (by simp) (fun h=>h)).trans (show _=some ((Value.int .u32 (v.an.re:Nat))) by rw[World.cell?_alloc_at _ _ _ _ rfl];rfl);have p17:=(hf1.cell (p:=⟨w.heap.size,17,none⟩) (by simp) (fun h=>h)).trans (show _=some ((Value.int .u32 (v.an.ve:Nat))) by rw[World.cell?_alloc_at _ _ _ _ rfl];rfl);have p18:=(hf1.cell (p:=⟨w.heap.size,18,none⟩) (by simp) (fun h=>h)).trans (show _=some ((Value.slice a1 v.an.fs.length c1)) by rw[World.cell?_alloc_at _ _ _ _ rfl];rfl);have p19:=(hf1.cell (p:=⟨w.heap.size,19,none⟩) (by simp) (fun h=>h)).trans (show _=some ((Value.slice a2 v.an.hi.length c2)) by rw[World.cell?_alloc_at _ _ _ _ rfl];rfl);have p20:=(hf1.cell (p:=⟨w.heap.size,20,none⟩) (by simp) (fun h=>h)).trans (show _=some ((Value.int .u8 (v.co:Nat))) by rw[World.cell?_alloc_at _ _ _ _ rfl];rfl);have p21:=(hf1.cell (p:=⟨w.heap.size,21,none⟩) (by simp) (fun h=>h)).trans (show _=some ((Value.int .u32 (v.ev.pl:Nat))) by rw[World.cell?_alloc_at _ _ _ _ rfl];rfl);have p22:=(hf1.cell (p:=⟨w.heap.size,22,none⟩) (by simp) (fun h=>h)).trans (show _=some ((Value.int .u32 (v.ev.rq.cl:Nat))) by rw[World.cell?_alloc_at _ _ _ _ rfl];rfl);have p23:=(hf1.cell (p:=⟨w.heap.size,23,none⟩) (by simp) (fun h=>h)).trans (show _=some ((Value.int .u32 (v.ev.rq.nu:Nat))) by rw[World.cell?_alloc_at _ _ _ _ rfl];rfl);have p24:=(hf1.cell (p:=⟨w.heap.size,24,none⟩) (by simp) (fun h=>h)).trans (show _=some ((Value.int .u32 (v.ev.rq.ac:Nat))) by rw[World.cell?_alloc_at _ _ _ _ rfl];rfl);have p25:=(hf1.cell (p:=⟨w.heap.size,25,none⟩) (by simp) (fun h=>h)).trans (show _=some ((Value.int .u8 (v.ev.rq.op:Nat))) by rw[World.cell?_alloc_at _ _ _ _ rfl];rfl);have p26:=(hf1.cell (p:=⟨w.heap.size,26,none⟩) (by simp) (fun h=>h)).trans (show _=some ((Value.int .u32 (v.ev.rq.re:Nat))) by rw[World.cell?_alloc_at _ _ _ _ rfl];rfl);have p27:=(hf1.cell (p:=⟨w.heap.size,27,none⟩) (by simp) (fun h=>h)).trans (show _=some ((Value.int .u32 (v.ev.rq.ve:Nat))) by rw[World.cell?_alloc_at _ _ _ _ rfl];rfl);have p28:=(hf1.cell (p:=⟨w.heap.size,28,none⟩) (by simp) (fun h=>h)).trans (show _=some ((Value.int .u32 (v.ev.rq.wa:Nat))) by rw[World.cell?_alloc_at _ _ _ _ rfl];rfl);have p29:=(hf1.cell (p:=⟨w.heap.size,29,none⟩) (by simp) (fun h=>h)).trans (show _=some ((Value.int .u32 (v.ev.rq.ow:Nat))) by rw[World.cell?_alloc_at _ _ _ _ rfl];rfl);have p30:=(hf1.cell (p:=⟨w.heap.size,30,none⟩) (by simp) (fun h=>h)).trans (show _=some ((Value.slice a3 v.ev.rq.fs.length c3)) by rw[World.cell?_alloc_at _ _ _ _ rfl];rfl);have p31:=(hf1.cell (p:=⟨w.heap.size,31,none⟩) (by simp) (fun h=>h)).trans (show _=some ((Value.string v.ev.rq.rs)) by rw[World.cell?_alloc_at _ _ _ _ rfl];rfl);have p32:=(hf1.cell (p:=⟨w.heap.size,32,none⟩) (by simp) (fun h=>h)).trans (show _=some ((Value.int .u8 (v.ev.co:Nat))) by rw[World.cell?_alloc_at _ _ _ _ rfl];rfl);have p33:=(hf1.cell (p:=⟨w.heap.size,33,none⟩) (by simp) (fun h=>h)).trans (show _=some ((Value.slice a4 v.ev.dg.length c4)) by rw[World.cell?_alloc_at _ _ _ _ rfl];rfl);have p34:=(hf1.cell (p:=⟨w.heap.size,34,none⟩) (by simp) (fun h=>h)).trans (show _=some ((Value.int .u32 (v.le:Nat))) by rw[World.cell?_alloc_at _ _ _ _ rfl];rfl);have F1:=ae ((al w _).trans hf1 (fun _ _ h=>h));clear hf1)
  | (go_at_call 164;refine((aa HA) _).mono ?_;rintro e w2 ⟨rfl,hf2⟩;have r20:=(hf2.cell (p:=⟨w.heap.size,20,none⟩) (ab p20) (fun h=>h)).trans p20;have r21:=(hf2.cell (p:=⟨w.heap.size,21,none⟩) (ab p21) (fun h=>h)).trans p21;have r22:=(hf2.cell (p:=⟨w.heap.size,22,none⟩) (ab p22) (fun h=>h)).trans p22;have r23:=(hf2.cell (p:=⟨w.heap.size,23,none⟩) (ab p23) (fun h=>h)).trans p23;have r24:=(hf2.cell (p:=⟨w.heap.size,24,none⟩) (ab p24) (fun h=>h)).trans p24;have r25:=(hf2.cell (p:=⟨w.heap.size,25,none⟩) (ab p25) (fun h=>h)).trans p25;have r26:=(hf2.cell (p:=⟨w.heap.size,26,none⟩) (ab p26) (fun h=>h)).trans p26;have r27:=(hf2.cell (p:=⟨w.heap.size,27,none⟩) (ab p27) (fun h=>h)).trans p27;have r28:=(hf2.cell (p:=⟨w.heap.size,28,none⟩) (ab p28) (fun h=>h)).trans p28;have r29:=(hf2.cell (p:=⟨w.heap.size,29,none⟩) (ab p29) (fun h=>h)).trans p29;have r30:=(hf2.cell (p:=⟨w.heap.size,30,none⟩) (ab p30) (fun h=>h)).trans p30;have r31:=(hf2.cell (p:=⟨w.heap.size,31,none⟩) (ab p31) (fun h=>h)).trans p31;have r32:=(hf2.cell (p:=⟨w.heap.size,32,none⟩) (ab p32) (fun h=>h)).trans p32;have r33:=(hf2.cell (p:=⟨w.heap.size,33,none⟩) (ab p33) (fun h=>h)).trans p33;have r34:=(hf2.cell (p:=⟨w.heap.size,34,none⟩) (ab p34) (fun h=>h)).trans p34;have F2:=ae ((aa F1).trans hf2 (fun _ _ h=>h));clear hf2)
  | (go_at_call 165;refine((aa HE) _).mono ?_;rintro e w3 ⟨rfl,hf3⟩;have s34:=(hf3.cell (p:=⟨w.heap.size,34,none⟩) (ab r34) (fun h=>h)).trans r34;have F3:=ae ((aa F2).trans hf3 (fun _ _ h=>h));clear hf3))
 all_goals
  go_ret
  refine⟨?_,?_⟩
  ·have hC:=aa HC
   clear HC HR HA HE
   simp_all [da]
  ·first|exact aa F3|exact aa F2|exact aa F1
theorem xu (v:cd) (a0 a1 a2 a3 a4:Option Addr) (c0 c1 c2 c3 c4:Nat) (w:World) (hv:v.ok) (hn:v.lens) (hk:v.kd=1):Calls Tryz.prog 145 #[.agg (v.aL (.slice a0 v.rq.fs.length c0) (.slice a1 v.an.fs.length c1) (.slice a2 v.an.hi.length c2) (.slice a3 v.ev.rq.fs.length c3) (.slice a4 v.ev.dg.length c4))] w fun e w'=>e = .returned (.bool v.beside)∧Fr (fun _=>False) w w':=by
 have HR:Hid (∀ wx,Calls Tryz.prog 163 #[.agg #[.int .u32 0,.int .u32 0,.int .u32 0,.int .u8 0,.int .u32 0,.int .u32 0,.int .u32 0,.int .u32 0,.slice none 0 0,.string ⟨#[]⟩]] wx fun e w'=>e = .returned (.bool (gS).is)∧Fr (fun _=>False) wx w'):=fun wx=>bU (gS) none 0 wx rN (by decide)
 have HA:Hid (∀ wx,Calls Tryz.prog 164 #[.agg #[.int .u32 (v.an.cl:Nat),.int .u32 (v.an.nu:Nat),.int .u8 (v.an.co:Nat),.int .u32 (v.an.re:Nat),.int .u32 (v.an.ve:Nat),.slice a1 v.an.fs.length c1,.slice a2 v.an.hi.length c2]] wx fun e w'=>e = .returned (.bool (v.an).is)∧Fr (fun _=>False) wx w'):=fun wx=>cQ (v.an) a1 c1 a2 c2 wx hv.an hn.an hn.hi
 have HE:Hid (∀ wx,Calls Tryz.prog 165 #[.agg #[.int .u32 (v.ev.pl:Nat),.int .u32 (v.ev.rq.cl:Nat),.int .u32 (v.ev.rq.nu:Nat),.int .u32 (v.ev.rq.ac:Nat),.int .u8 (v.ev.rq.op:Nat),.int .u32 (v.ev.rq.re:Nat),.int .u32 (v.ev.rq.ve:Nat),.int .u32 (v.ev.rq.wa:Nat),.int .u32 (v.ev.rq.ow:Nat),.slice a3 v.ev.rq.fs.length c3,.string v.ev.rq.rs,.int .u8 (v.ev.co:Nat),.slice a4 v.ev.dg.length c4]] wx fun e w'=>e = .returned (.bool (v.ev).is)∧Fr (fun _=>False) wx w'):=fun wx=>dh (v.ev) a3 c3 a4 c4 wx hv.ev hn.ev hn.dg
 have HC:Hid (v.beside=(((((gS).is || !(v.icl == 0 && v.inu == 0)) || (v.an).is) || v.co != 0) || (v.ev).is || v.le != 0)):=by
  have e:v.cut = { v with rq:=gS } := by simp only[cd.cut,hk]
  show v.cut.is=_
  rw[e]
  rfl
 obtain⟨hv1,hv2,hv3,hv4,hv5,hv6,hv7,hv8⟩:=hv
 obtain⟨hn1,hn2,hn3,hn4,hn5⟩:=hn
 generalize v.beside=R at HC ⊢
 generalize (gS).is=B1 at HR HC
 generalize (v.an).is=B2 at HA HC
 generalize (v.ev).is=B3 at HE HC
 simp only[cd.aL,hk]
 clear hn1 hn2 hn3 hn4 hn5 hv2 hv5 hv7
 go_enter Tryz.func145,Tryz.ntmps145
 go_wp2_with (first
  | (go_at_call 163;refine((aa HR) _).mono ?_;rintro e w1 ⟨rfl,hf1⟩;have p11:=(hf1.cell (p:=⟨w.heap.size,11,none⟩) (by simp) (fun h=>h)).trans (show _=some ((Value.int .u32 (v.icl:Nat))) by rw[World.cell?_alloc_at _ _ _ _ rfl];rfl);have p12:=(hf1.cell (p:=⟨w.heap.size,12,none⟩) (by simp) (fun h=>h)).trans (show _=some ((Value.int .u32 (v.inu:Nat))) by rw[World.cell?_alloc_at _ _ _ _ rfl];rfl);have p13:=(hf1.cell (p:=⟨w.heap.size,13,none⟩) (by simp) (fun h=>h)).trans (show _=some ((Value.int .u32 (v.an.cl:Nat))) by rw[World.cell?_alloc_at _ _ _ _ rfl];rfl);have p14:=(hf1.cell (p:=⟨w.heap.size,14,none⟩) (by simp) (fun h=>h)).trans (show _=some ((Value.int .u32 (v.an.nu:Nat))) by rw[World.cell?_alloc_at _ _ _ _ rfl];rfl);have p15:=(hf1.cell (p:=⟨w.heap.size,15,none⟩) (by simp) (fun h=>h)).trans (show _=some ((Value.int .u8 (v.an.co:Nat))) by rw[World.cell?_alloc_at _ _ _ _ rfl];rfl);have p16:=(hf1.cell (p:=⟨w.heap.size,16,none⟩) (by simp) (fun h=>h)).trans (show _=some ((Value.int .u32 (v.an.re:Nat))) by rw[World.cell?_alloc_at _ _ _ _ rfl];rfl);have p17:=(hf1.cell (p:=⟨w.heap.size,17,none⟩) (by simp) (fun h=>h)).trans (show _=some ((Value.int .u32 (v.an.ve:Nat))) by rw[World.cell?_alloc_at _ _ _ _ rfl];rfl);have p18:=(hf1.cell (p:=⟨w.heap.size,18,none⟩) (by simp) (fun h=>h)).trans (show _=some ((Value.slice a1 v.an.fs.length c1)) by rw[World.cell?_alloc_at _ _ _ _ rfl];rfl);have p19:=(hf1.cell (p:=⟨w.heap.size,19,none⟩) (by simp) (fun h=>h)).trans (show _=some ((Value.slice a2 v.an.hi.length c2)) by rw[World.cell?_alloc_at _ _ _ _ rfl];rfl);have p20:=(hf1.cell (p:=⟨w.heap.size,20,none⟩) (by simp) (fun h=>h)).trans (show _=some ((Value.int .u8 (v.co:Nat))) by rw[World.cell?_alloc_at _ _ _ _ rfl];rfl);have p21:=(hf1.cell (p:=⟨w.heap.size,21,none⟩) (by simp) (fun h=>h)).trans (show _=some ((Value.int .u32 (v.ev.pl:Nat))) by rw[World.cell?_alloc_at _ _ _ _ rfl];rfl);have p22:=(hf1.cell (p:=⟨w.heap.size,22,none⟩) (by simp) (fun h=>h)).trans (show _=some ((Value.int .u32 (v.ev.rq.cl:Nat))) by rw[World.cell?_alloc_at _ _ _ _ rfl];rfl);have p23:=(hf1.cell (p:=⟨w.heap.size,23,none⟩) (by simp) (fun h=>h)).trans (show _=some ((Value.int .u32 (v.ev.rq.nu:Nat))) by rw[World.cell?_alloc_at _ _ _ _ rfl];rfl);have p24:=(hf1.cell (p:=⟨w.heap.size,24,none⟩) (by simp) (fun h=>h)).trans (show _=some ((Value.int .u32 (v.ev.rq.ac:Nat))) by rw[World.cell?_alloc_at _ _ _ _ rfl];rfl);have p25:=(hf1.cell (p:=⟨w.heap.size,25,none⟩) (by simp) (fun h=>h)).trans (show _=some ((Value.int .u8 (v.ev.rq.op:Nat))) by rw[World.cell?_alloc_at _ _ _ _ rfl];rfl);have p26:=(hf1.cell (p:=⟨w.heap.size,26,none⟩) (by simp) (fun h=>h)).trans (show _=some ((Value.int .u32 (v.ev.rq.re:Nat))) by rw[World.cell?_alloc_at _ _ _ _ rfl];rfl);have p27:=(hf1.cell (p:=⟨w.heap.size,27,none⟩) (by simp) (fun h=>h)).trans (show _=some ((Value.int .u32 (v.ev.rq.ve:Nat))) by rw[World.cell?_alloc_at _ _ _ _ rfl];rfl);have p28:=(hf1.cell (p:=⟨w.heap.size,28,none⟩) (by simp) (fun h=>h)).trans (show _=some ((Value.int .u32 (v.ev.rq.wa:Nat))) by rw[World.cell?_alloc_at _ _ _ _ rfl];rfl);have p29:=(hf1.cell (p:=⟨w.heap.size,29,none⟩) (by simp) (fun h=>h)).trans (show _=some ((Value.int .u32 (v.ev.rq.ow:Nat))) by rw[World.cell?_alloc_at _ _ _ _ rfl];rfl);have p30:=(hf1.cell (p:=⟨w.heap.size,30,none⟩) (by simp) (fun h=>h)).trans (show _=some ((Value.slice a3 v.ev.rq.fs.length c3)) by rw[World.cell?_alloc_at _ _ _ _ rfl];rfl);have p31:=(hf1.cell (p:=⟨w.heap.size,31,none⟩) (by simp) (fun h=>h)).trans (show _=some ((Value.string v.ev.rq.rs)) by rw[World.cell?_alloc_at _ _ _ _ rfl];rfl);have p32:=(hf1.cell (p:=⟨w.heap.size,32,none⟩) (by simp) (fun h=>h)).trans (show _=some ((Value.int .u8 (v.ev.co:Nat))) by rw[World.cell?_alloc_at _ _ _ _ rfl];rfl);have p33:=(hf1.cell (p:=⟨w.heap.size,33,none⟩) (by simp) (fun h=>h)).trans (show _=some ((Value.slice a4 v.ev.dg.length c4)) by rw[World.cell?_alloc_at _ _ _ _ rfl];rfl);have p34:=(hf1.cell (p:=⟨w.heap.size,34,none⟩) (by simp) (fun h=>h)).trans (show _=some ((Value.int .u32 (v.le:Nat))) by rw[World.cell?_alloc_at _ _ _ _ rfl];rfl);have F1:=ae ((al w _).trans hf1 (fun _ _ h=>h));clear hf1)
  | (go_at_call 164;refine((aa HA) _).mono ?_;rintro e w2 ⟨rfl,hf2⟩;have r20:=(hf2.cell (p:=⟨w.heap.size,20,none⟩) (ab p20) (fun h=>h)).trans p20;have r21:=(hf2.cell (p:=⟨w.heap.size,21,none⟩) (ab p21) (fun h=>h)).trans p21;have r22:=(hf2.cell (p:=⟨w.heap.size,22,none⟩) (ab p22) (fun h=>h)).trans p22;have r23:=(hf2.cell (p:=⟨w.heap.size,23,none⟩) (ab p23) (fun h=>h)).trans p23;have r24:=(hf2.cell (p:=⟨w.heap.size,24,none⟩) (ab p24) (fun h=>h)).trans p24;have r25:=(hf2.cell (p:=⟨w.heap.size,25,none⟩) (ab p25) (fun h=>h)).trans p25;have r26:=(hf2.cell (p:=⟨w.heap.size,26,none⟩) (ab p26) (fun h=>h)).trans p26;have r27:=(hf2.cell (p:=⟨w.heap.size,27,none⟩) (ab p27) (fun h=>h)).trans p27;have r28:=(hf2.cell (p:=⟨w.heap.size,28,none⟩) (ab p28) (fun h=>h)).trans p28;have r29:=(hf2.cell (p:=⟨w.heap.size,29,none⟩) (ab p29) (fun h=>h)).trans p29;have r30:=(hf2.cell (p:=⟨w.heap.size,30,none⟩) (ab p30) (fun h=>h)).trans p30;have r31:=(hf2.cell (p:=⟨w.heap.size,31,none⟩) (ab p31) (fun h=>h)).trans p31;have r32:=(hf2.cell (p:=⟨w.heap.size,32,none⟩) (ab p32) (fun h=>h)).trans p32;have r33:=(hf2.cell (p:=⟨w.heap.size,33,none⟩) (ab p33) (fun h=>h)).trans p33;have r34:=(hf2.cell (p:=⟨w.heap.size,34,none⟩) (ab p34) (fun h=>h)).trans p34;have F2:=ae ((aa F1).trans hf2 (fun _ _ h=>h));clear hf2)
  | (go_at_call 165;refine((aa HE) _).mono ?_;rintro e w3 ⟨rfl,hf3⟩;have s34:=(hf3.cell (p:=⟨w.heap.size,34,none⟩) (ab r34) (fun h=>h)).trans r34;have F3:=ae ((aa F2).trans hf3 (fun _ _ h=>h));clear hf3))
 all_goals
  go_ret
  refine⟨?_,?_⟩
  ·have hC:=aa HC
   clear HC HR HA HE
   simp_all [da]
  ·first|exact aa F3|exact aa F2|exact aa F1
theorem yf (v:cd) (a0 a1 a2 a3 a4:Option Addr) (c0 c1 c2 c3 c4:Nat) (w:World) (hv:v.ok) (hn:v.lens) (hk:v.kd=2):Calls Tryz.prog 145 #[.agg (v.aL (.slice a0 v.rq.fs.length c0) (.slice a1 v.an.fs.length c1) (.slice a2 v.an.hi.length c2) (.slice a3 v.ev.rq.fs.length c3) (.slice a4 v.ev.dg.length c4))] w fun e w'=>e = .returned (.bool v.beside)∧Fr (fun _=>False) w w':=by
 have HR:Hid (∀ wx,Calls Tryz.prog 163 #[.agg #[.int .u32 (v.rq.cl:Nat),.int .u32 (v.rq.nu:Nat),.int .u32 (v.rq.ac:Nat),.int .u8 (v.rq.op:Nat),.int .u32 (v.rq.re:Nat),.int .u32 (v.rq.ve:Nat),.int .u32 (v.rq.wa:Nat),.int .u32 (v.rq.ow:Nat),.slice a0 v.rq.fs.length c0,.string v.rq.rs]] wx fun e w'=>e = .returned (.bool (v.rq).is)∧Fr (fun _=>False) wx w'):=fun wx=>bU (v.rq) a0 c0 wx hv.rq hn.rq
 have HA:Hid (∀ wx,Calls Tryz.prog 164 #[.agg #[.int .u32 (v.an.cl:Nat),.int .u32 (v.an.nu:Nat),.int .u8 (v.an.co:Nat),.int .u32 (v.an.re:Nat),.int .u32 (v.an.ve:Nat),.slice a1 v.an.fs.length c1,.slice a2 v.an.hi.length c2]] wx fun e w'=>e = .returned (.bool (v.an).is)∧Fr (fun _=>False) wx w'):=fun wx=>cQ (v.an) a1 c1 a2 c2 wx hv.an hn.an hn.hi
 have HE:Hid (∀ wx,Calls Tryz.prog 165 #[.agg #[.int .u32 (v.ev.pl:Nat),.int .u32 (v.ev.rq.cl:Nat),.int .u32 (v.ev.rq.nu:Nat),.int .u32 (v.ev.rq.ac:Nat),.int .u8 (v.ev.rq.op:Nat),.int .u32 (v.ev.rq.re:Nat),.int .u32 (v.ev.rq.ve:Nat),.int .u32 (v.ev.rq.wa:Nat),.int .u32 (v.ev.rq.ow:Nat),.slice a3 v.ev.rq.fs.length c3,.string v.ev.rq.rs,.int .u8 (v.ev.co:Nat),.slice a4 v.ev.dg.length c4]] wx fun e w'=>e = .returned (.bool (v.ev).is)∧Fr (fun _=>False) wx w'):=fun wx=>dh (v.ev) a3 c3 a4 c4 wx hv.ev hn.ev hn.dg
 have HC:Hid (v.beside=(((((v.rq).is || !(0 == 0 && 0 == 0)) || (v.an).is) || v.co != 0) || (v.ev).is || v.le != 0)):=by
  have e:v.cut = { v with icl:=0,inu:=0 } := by simp only[cd.cut,hk]
  show v.cut.is=_
  rw[e]
  rfl
 obtain⟨hv1,hv2,hv3,hv4,hv5,hv6,hv7,hv8⟩:=hv
 obtain⟨hn1,hn2,hn3,hn4,hn5⟩:=hn
 generalize v.beside=R at HC ⊢
 generalize (v.rq).is=B1 at HR HC
 generalize (v.an).is=B2 at HA HC
 generalize (v.ev).is=B3 at HE HC
 simp only[cd.aL,hk]
 clear hn1 hn2 hn3 hn4 hn5 hv2 hv5 hv7
 go_enter Tryz.func145,Tryz.ntmps145
 go_wp2_with (first
  | (go_at_call 163;refine((aa HR) _).mono ?_;rintro e w1 ⟨rfl,hf1⟩;have p11:=(hf1.cell (p:=⟨w.heap.size,11,none⟩) (by simp) (fun h=>h)).trans (show _=some ((Value.int .u32 0)) by rw[World.cell?_alloc_at _ _ _ _ rfl];rfl);have p12:=(hf1.cell (p:=⟨w.heap.size,12,none⟩) (by simp) (fun h=>h)).trans (show _=some ((Value.int .u32 0)) by rw[World.cell?_alloc_at _ _ _ _ rfl];rfl);have p13:=(hf1.cell (p:=⟨w.heap.size,13,none⟩) (by simp) (fun h=>h)).trans (show _=some ((Value.int .u32 (v.an.cl:Nat))) by rw[World.cell?_alloc_at _ _ _ _ rfl];rfl);have p14:=(hf1.cell (p:=⟨w.heap.size,14,none⟩) (by simp) (fun h=>h)).trans (show _=some ((Value.int .u32 (v.an.nu:Nat))) by rw[World.cell?_alloc_at _ _ _ _ rfl];rfl);have p15:=(hf1.cell (p:=⟨w.heap.size,15,none⟩) (by simp) (fun h=>h)).trans (show _=some ((Value.int .u8 (v.an.co:Nat))) by rw[World.cell?_alloc_at _ _ _ _ rfl];rfl);have p16:=(hf1.cell (p:=⟨w.heap.size,16,none⟩) (by simp) (fun h=>h)).trans (show _=some ((Value.int .u32 (v.an.re:Nat))) by rw[World.cell?_alloc_at _ _ _ _ rfl];rfl);have p17:=(hf1.cell (p:=⟨w.heap.size,17,none⟩) (by simp) (fun h=>h)).trans (show _=some ((Value.int .u32 (v.an.ve:Nat))) by rw[World.cell?_alloc_at _ _ _ _ rfl];rfl);have p18:=(hf1.cell (p:=⟨w.heap.size,18,none⟩) (by simp) (fun h=>h)).trans (show _=some ((Value.slice a1 v.an.fs.length c1)) by rw[World.cell?_alloc_at _ _ _ _ rfl];rfl);have p19:=(hf1.cell (p:=⟨w.heap.size,19,none⟩) (by simp) (fun h=>h)).trans (show _=some ((Value.slice a2 v.an.hi.length c2)) by rw[World.cell?_alloc_at _ _ _ _ rfl];rfl);have p20:=(hf1.cell (p:=⟨w.heap.size,20,none⟩) (by simp) (fun h=>h)).trans (show _=some ((Value.int .u8 (v.co:Nat))) by rw[World.cell?_alloc_at _ _ _ _ rfl];rfl);have p21:=(hf1.cell (p:=⟨w.heap.size,21,none⟩) (by simp) (fun h=>h)).trans (show _=some ((Value.int .u32 (v.ev.pl:Nat))) by rw[World.cell?_alloc_at _ _ _ _ rfl];rfl);have p22:=(hf1.cell (p:=⟨w.heap.size,22,none⟩) (by simp) (fun h=>h)).trans (show _=some ((Value.int .u32 (v.ev.rq.cl:Nat))) by rw[World.cell?_alloc_at _ _ _ _ rfl];rfl);have p23:=(hf1.cell (p:=⟨w.heap.size,23,none⟩) (by simp) (fun h=>h)).trans (show _=some ((Value.int .u32 (v.ev.rq.nu:Nat))) by rw[World.cell?_alloc_at _ _ _ _ rfl];rfl);have p24:=(hf1.cell (p:=⟨w.heap.size,24,none⟩) (by simp) (fun h=>h)).trans (show _=some ((Value.int .u32 (v.ev.rq.ac:Nat))) by rw[World.cell?_alloc_at _ _ _ _ rfl];rfl);have p25:=(hf1.cell (p:=⟨w.heap.size,25,none⟩) (by simp) (fun h=>h)).trans (show _=some ((Value.int .u8 (v.ev.rq.op:Nat))) by rw[World.cell?_alloc_at _ _ _ _ rfl];rfl);have p26:=(hf1.cell (p:=⟨w.heap.size,26,none⟩) (by simp) (fun h=>h)).trans (show _=some ((Value.int .u32 (v.ev.rq.re:Nat))) by rw[World.cell?_alloc_at _ _ _ _ rfl];rfl);have p27:=(hf1.cell (p:=⟨w.heap.size,27,none⟩) (by simp) (fun h=>h)).trans (show _=some ((Value.int .u32 (v.ev.rq.ve:Nat))) by rw[World.cell?_alloc_at _ _ _ _ rfl];rfl);have p28:=(hf1.cell (p:=⟨w.heap.size,28,none⟩) (by simp) (fun h=>h)).trans (show _=some ((Value.int .u32 (v.ev.rq.wa:Nat))) by rw[World.cell?_alloc_at _ _ _ _ rfl];rfl);have p29:=(hf1.cell (p:=⟨w.heap.size,29,none⟩) (by simp) (fun h=>h)).trans (show _=some ((Value.int .u32 (v.ev.rq.ow:Nat))) by rw[World.cell?_alloc_at _ _ _ _ rfl];rfl);have p30:=(hf1.cell (p:=⟨w.heap.size,30,none⟩) (by simp) (fun h=>h)).trans (show _=some ((Value.slice a3 v.ev.rq.fs.length c3)) by rw[World.cell?_alloc_at _ _ _ _ rfl];rfl);have p31:=(hf1.cell (p:=⟨w.heap.size,31,none⟩) (by simp) (fun h=>h)).trans (show _=some ((Value.string v.ev.rq.rs)) by rw[World.cell?_alloc_at _ _ _ _ rfl];rfl);have p32:=(hf1.cell (p:=⟨w.heap.size,32,none⟩) (by simp) (fun h=>h)).trans (show _=some ((Value.int .u8 (v.ev.co:Nat))) by rw[World.cell?_alloc_at _ _ _ _ rfl];rfl);have p33:=(hf1.cell (p:=⟨w.heap.size,33,none⟩) (by simp) (fun h=>h)).trans (show _=some ((Value.slice a4 v.ev.dg.length c4)) by rw[World.cell?_alloc_at _ _ _ _ rfl];rfl);have p34:=(hf1.cell (p:=⟨w.heap.size,34,none⟩) (by simp) (fun h=>h)).trans (show _=some ((Value.int .u32 (v.le:Nat))) by rw[World.cell?_alloc_at _ _ _ _ rfl];rfl);have F1:=ae ((al w _).trans hf1 (fun _ _ h=>h));clear hf1)
  | (go_at_call 164;refine((aa HA) _).mono ?_;rintro e w2 ⟨rfl,hf2⟩;have r20:=(hf2.cell (p:=⟨w.heap.size,20,none⟩) (ab p20) (fun h=>h)).trans p20;have r21:=(hf2.cell (p:=⟨w.heap.size,21,none⟩) (ab p21) (fun h=>h)).trans p21;have r22:=(hf2.cell (p:=⟨w.heap.size,22,none⟩) (ab p22) (fun h=>h)).trans p22;have r23:=(hf2.cell (p:=⟨w.heap.size,23,none⟩) (ab p23) (fun h=>h)).trans p23;have r24:=(hf2.cell (p:=⟨w.heap.size,24,none⟩) (ab p24) (fun h=>h)).trans p24;have r25:=(hf2.cell (p:=⟨w.heap.size,25,none⟩) (ab p25) (fun h=>h)).trans p25;have r26:=(hf2.cell (p:=⟨w.heap.size,26,none⟩) (ab p26) (fun h=>h)).trans p26;have r27:=(hf2.cell (p:=⟨w.heap.size,27,none⟩) (ab p27) (fun h=>h)).trans p27;have r28:=(hf2.cell (p:=⟨w.heap.size,28,none⟩) (ab p28) (fun h=>h)).trans p28;have r29:=(hf2.cell (p:=⟨w.heap.size,29,none⟩) (ab p29) (fun h=>h)).trans p29;have r30:=(hf2.cell (p:=⟨w.heap.size,30,none⟩) (ab p30) (fun h=>h)).trans p30;have r31:=(hf2.cell (p:=⟨w.heap.size,31,none⟩) (ab p31) (fun h=>h)).trans p31;have r32:=(hf2.cell (p:=⟨w.heap.size,32,none⟩) (ab p32) (fun h=>h)).trans p32;have r33:=(hf2.cell (p:=⟨w.heap.size,33,none⟩) (ab p33) (fun h=>h)).trans p33;have r34:=(hf2.cell (p:=⟨w.heap.size,34,none⟩) (ab p34) (fun h=>h)).trans p34;have F2:=ae ((aa F1).trans hf2 (fun _ _ h=>h));clear hf2)
  | (go_at_call 165;refine((aa HE) _).mono ?_;rintro e w3 ⟨rfl,hf3⟩;have s34:=(hf3.cell (p:=⟨w.heap.size,34,none⟩) (ab r34) (fun h=>h)).trans r34;have F3:=ae ((aa F2).trans hf3 (fun _ _ h=>h));clear hf3))
 all_goals
  go_ret
  refine⟨?_,?_⟩
  ·have hC:=aa HC
   clear HC HR HA HE
   simp_all [da]
  ·first|exact aa F3|exact aa F2|exact aa F1
theorem wF (v:cd) (a0 a1 a2 a3 a4:Option Addr) (c0 c1 c2 c3 c4:Nat) (w:World) (hv:v.ok) (hn:v.lens) (hk:v.kd=3):Calls Tryz.prog 145 #[.agg (v.aL (.slice a0 v.rq.fs.length c0) (.slice a1 v.an.fs.length c1) (.slice a2 v.an.hi.length c2) (.slice a3 v.ev.rq.fs.length c3) (.slice a4 v.ev.dg.length c4))] w fun e w'=>e = .returned (.bool v.beside)∧Fr (fun _=>False) w w':=by
 have HR:Hid (∀ wx,Calls Tryz.prog 163 #[.agg #[.int .u32 (v.rq.cl:Nat),.int .u32 (v.rq.nu:Nat),.int .u32 (v.rq.ac:Nat),.int .u8 (v.rq.op:Nat),.int .u32 (v.rq.re:Nat),.int .u32 (v.rq.ve:Nat),.int .u32 (v.rq.wa:Nat),.int .u32 (v.rq.ow:Nat),.slice a0 v.rq.fs.length c0,.string v.rq.rs]] wx fun e w'=>e = .returned (.bool (v.rq).is)∧Fr (fun _=>False) wx w'):=fun wx=>bU (v.rq) a0 c0 wx hv.rq hn.rq
 have HA:Hid (∀ wx,Calls Tryz.prog 164 #[.agg #[.int .u32 0,.int .u32 0,.int .u8 0,.int .u32 0,.int .u32 0,.slice none 0 0,.slice none 0 0]] wx fun e w'=>e = .returned (.bool (nD).is)∧Fr (fun _=>False) wx w'):=fun wx=>cQ (nD) none 0 none 0 wx ⟨by decide,by decide,by decide,by decide,by decide⟩ (by decide) (by decide)
 have HE:Hid (∀ wx,Calls Tryz.prog 165 #[.agg #[.int .u32 (v.ev.pl:Nat),.int .u32 (v.ev.rq.cl:Nat),.int .u32 (v.ev.rq.nu:Nat),.int .u32 (v.ev.rq.ac:Nat),.int .u8 (v.ev.rq.op:Nat),.int .u32 (v.ev.rq.re:Nat),.int .u32 (v.ev.rq.ve:Nat),.int .u32 (v.ev.rq.wa:Nat),.int .u32 (v.ev.rq.ow:Nat),.slice a3 v.ev.rq.fs.length c3,.string v.ev.rq.rs,.int .u8 (v.ev.co:Nat),.slice a4 v.ev.dg.length c4]] wx fun e w'=>e = .returned (.bool (v.ev).is)∧Fr (fun _=>False) wx w'):=fun wx=>dh (v.ev) a3 c3 a4 c4 wx hv.ev hn.ev hn.dg
 have HC:Hid (v.beside=(((((v.rq).is || !(v.icl == 0 && v.inu == 0)) || (nD).is) || v.co != 0) || (v.ev).is || v.le != 0)):=by
  have e:v.cut = { v with an:=nD } := by simp only[cd.cut,hk]
  show v.cut.is=_
  rw[e]
  rfl
 obtain⟨hv1,hv2,hv3,hv4,hv5,hv6,hv7,hv8⟩:=hv
 obtain⟨hn1,hn2,hn3,hn4,hn5⟩:=hn
 generalize v.beside=R at HC ⊢
 generalize (v.rq).is=B1 at HR HC
 generalize (nD).is=B2 at HA HC
 generalize (v.ev).is=B3 at HE HC
 simp only[cd.aL,hk]
 clear hn1 hn2 hn3 hn4 hn5 hv2 hv5 hv7
 go_enter Tryz.func145,Tryz.ntmps145
 go_wp2_with (first
  | (go_at_call 163;refine((aa HR) _).mono ?_;rintro e w1 ⟨rfl,hf1⟩;have p11:=(hf1.cell (p:=⟨w.heap.size,11,none⟩) (by simp) (fun h=>h)).trans (show _=some ((Value.int .u32 (v.icl:Nat))) by rw[World.cell?_alloc_at _ _ _ _ rfl];rfl);have p12:=(hf1.cell (p:=⟨w.heap.size,12,none⟩) (by simp) (fun h=>h)).trans (show _=some ((Value.int .u32 (v.inu:Nat))) by rw[World.cell?_alloc_at _ _ _ _ rfl];rfl);have p13:=(hf1.cell (p:=⟨w.heap.size,13,none⟩) (by simp) (fun h=>h)).trans (show _=some ((Value.int .u32 0)) by rw[World.cell?_alloc_at _ _ _ _ rfl];rfl);have p14:=(hf1.cell (p:=⟨w.heap.size,14,none⟩) (by simp) (fun h=>h)).trans (show _=some ((Value.int .u32 0)) by rw[World.cell?_alloc_at _ _ _ _ rfl];rfl);have p15:=(hf1.cell (p:=⟨w.heap.size,15,none⟩) (by simp) (fun h=>h)).trans (show _=some ((Value.int .u8 0)) by rw[World.cell?_alloc_at _ _ _ _ rfl];rfl);have p16:=(hf1.cell (p:=⟨w.heap.size,16,none⟩) (by simp) (fun h=>h)).trans (show _=some ((Value.int .u32 0)) by rw[World.cell?_alloc_at _ _ _ _ rfl];rfl);have p17:=(hf1.cell (p:=⟨w.heap.size,17,none⟩) (by simp) (fun h=>h)).trans (show _=some ((Value.int .u32 0)) by rw[World.cell?_alloc_at _ _ _ _ rfl];rfl);have p18:=(hf1.cell (p:=⟨w.heap.size,18,none⟩) (by simp) (fun h=>h)).trans (show _=some ((Value.slice none 0 0)) by rw[World.cell?_alloc_at _ _ _ _ rfl];rfl);have p19:=(hf1.cell (p:=⟨w.heap.size,19,none⟩) (by simp) (fun h=>h)).trans (show _=some ((Value.slice none 0 0)) by rw[World.cell?_alloc_at _ _ _ _ rfl];rfl);have p20:=(hf1.cell (p:=⟨w.heap.size,20,none⟩) (by simp) (fun h=>h)).trans (show _=some ((Value.int .u8 (v.co:Nat))) by rw[World.cell?_alloc_at _ _ _ _ rfl];rfl);have p21:=(hf1.cell (p:=⟨w.heap.size,21,none⟩) (by simp) (fun h=>h)).trans (show _=some ((Value.int .u32 (v.ev.pl:Nat))) by rw[World.cell?_alloc_at _ _ _ _ rfl];rfl);have p22:=(hf1.cell (p:=⟨w.heap.size,22,none⟩) (by simp) (fun h=>h)).trans (show _=some ((Value.int .u32 (v.ev.rq.cl:Nat))) by rw[World.cell?_alloc_at _ _ _ _ rfl];rfl);have p23:=(hf1.cell (p:=⟨w.heap.size,23,none⟩) (by simp) (fun h=>h)).trans (show _=some ((Value.int .u32 (v.ev.rq.nu:Nat))) by rw[World.cell?_alloc_at _ _ _ _ rfl];rfl);have p24:=(hf1.cell (p:=⟨w.heap.size,24,none⟩) (by simp) (fun h=>h)).trans (show _=some ((Value.int .u32 (v.ev.rq.ac:Nat))) by rw[World.cell?_alloc_at _ _ _ _ rfl];rfl);have p25:=(hf1.cell (p:=⟨w.heap.size,25,none⟩) (by simp) (fun h=>h)).trans (show _=some ((Value.int .u8 (v.ev.rq.op:Nat))) by rw[World.cell?_alloc_at _ _ _ _ rfl];rfl);have p26:=(hf1.cell (p:=⟨w.heap.size,26,none⟩) (by simp) (fun h=>h)).trans (show _=some ((Value.int .u32 (v.ev.rq.re:Nat))) by rw[World.cell?_alloc_at _ _ _ _ rfl];rfl);have p27:=(hf1.cell (p:=⟨w.heap.size,27,none⟩) (by simp) (fun h=>h)).trans (show _=some ((Value.int .u32 (v.ev.rq.ve:Nat))) by rw[World.cell?_alloc_at _ _ _ _ rfl];rfl);have p28:=(hf1.cell (p:=⟨w.heap.size,28,none⟩) (by simp) (fun h=>h)).trans (show _=some ((Value.int .u32 (v.ev.rq.wa:Nat))) by rw[World.cell?_alloc_at _ _ _ _ rfl];rfl);have p29:=(hf1.cell (p:=⟨w.heap.size,29,none⟩) (by simp) (fun h=>h)).trans (show _=some ((Value.int .u32 (v.ev.rq.ow:Nat))) by rw[World.cell?_alloc_at _ _ _ _ rfl];rfl);have p30:=(hf1.cell (p:=⟨w.heap.size,30,none⟩) (by simp) (fun h=>h)).trans (show _=some ((Value.slice a3 v.ev.rq.fs.length c3)) by rw[World.cell?_alloc_at _ _ _ _ rfl];rfl);have p31:=(hf1.cell (p:=⟨w.heap.size,31,none⟩) (by simp) (fun h=>h)).trans (show _=some ((Value.string v.ev.rq.rs)) by rw[World.cell?_alloc_at _ _ _ _ rfl];rfl);have p32:=(hf1.cell (p:=⟨w.heap.size,32,none⟩) (by simp) (fun h=>h)).trans (show _=some ((Value.int .u8 (v.ev.co:Nat))) by rw[World.cell?_alloc_at _ _ _ _ rfl];rfl);have p33:=(hf1.cell (p:=⟨w.heap.size,33,none⟩) (by simp) (fun h=>h)).trans (show _=some ((Value.slice a4 v.ev.dg.length c4)) by rw[World.cell?_alloc_at _ _ _ _ rfl];rfl);have p34:=(hf1.cell (p:=⟨w.heap.size,34,none⟩) (by simp) (fun h=>h)).trans (show _=some ((Value.int .u32 (v.le:Nat))) by rw[World.cell?_alloc_at _ _ _ _ rfl];rfl);have F1:=ae ((al w _).trans hf1 (fun _ _ h=>h));clear hf1)
  | (go_at_call 164;refine((aa HA) _).mono ?_;rintro e w2 ⟨rfl,hf2⟩;have r20:=(hf2.cell (p:=⟨w.heap.size,20,none⟩) (ab p20) (fun h=>h)).trans p20;have r21:=(hf2.cell (p:=⟨w.heap.size,21,none⟩) (ab p21) (fun h=>h)).trans p21;have r22:=(hf2.cell (p:=⟨w.heap.size,22,none⟩) (ab p22) (fun h=>h)).trans p22;have r23:=(hf2.cell (p:=⟨w.heap.size,23,none⟩) (ab p23) (fun h=>h)).trans p23;have r24:=(hf2.cell (p:=⟨w.heap.size,24,none⟩) (ab p24) (fun h=>h)).trans p24;have r25:=(hf2.cell (p:=⟨w.heap.size,25,none⟩) (ab p25) (fun h=>h)).trans p25;have r26:=(hf2.cell (p:=⟨w.heap.size,26,none⟩) (ab p26) (fun h=>h)).trans p26;have r27:=(hf2.cell (p:=⟨w.heap.size,27,none⟩) (ab p27) (fun h=>h)).trans p27;have r28:=(hf2.cell (p:=⟨w.heap.size,28,none⟩) (ab p28) (fun h=>h)).trans p28;have r29:=(hf2.cell (p:=⟨w.heap.size,29,none⟩) (ab p29) (fun h=>h)).trans p29;have r30:=(hf2.cell (p:=⟨w.heap.size,30,none⟩) (ab p30) (fun h=>h)).trans p30;have r31:=(hf2.cell (p:=⟨w.heap.size,31,none⟩) (ab p31) (fun h=>h)).trans p31;have r32:=(hf2.cell (p:=⟨w.heap.size,32,none⟩) (ab p32) (fun h=>h)).trans p32;have r33:=(hf2.cell (p:=⟨w.heap.size,33,none⟩) (ab p33) (fun h=>h)).trans p33;have r34:=(hf2.cell (p:=⟨w.heap.size,34,none⟩) (ab p34) (fun h=>h)).trans p34;have F2:=ae ((aa F1).trans hf2 (fun _ _ h=>h));clear hf2)
  | (go_at_call 165;refine((aa HE) _).mono ?_;rintro e w3 ⟨rfl,hf3⟩;have s34:=(hf3.cell (p:=⟨w.heap.size,34,none⟩) (ab r34) (fun h=>h)).trans r34;have F3:=ae ((aa F2).trans hf3 (fun _ _ h=>h));clear hf3))
 all_goals
  go_ret
  refine⟨?_,?_⟩
  ·have hC:=aa HC
   clear HC HR HA HE
   simp_all [da]
  ·first|exact aa F3|exact aa F2|exact aa F1
theorem xm (v:cd) (a0 a1 a2 a3 a4:Option Addr) (c0 c1 c2 c3 c4:Nat) (w:World) (hv:v.ok) (hn:v.lens) (hk:v.kd=4):Calls Tryz.prog 145 #[.agg (v.aL (.slice a0 v.rq.fs.length c0) (.slice a1 v.an.fs.length c1) (.slice a2 v.an.hi.length c2) (.slice a3 v.ev.rq.fs.length c3) (.slice a4 v.ev.dg.length c4))] w fun e w'=>e = .returned (.bool v.beside)∧Fr (fun _=>False) w w':=by
 have HR:Hid (∀ wx,Calls Tryz.prog 163 #[.agg #[.int .u32 (v.rq.cl:Nat),.int .u32 (v.rq.nu:Nat),.int .u32 (v.rq.ac:Nat),.int .u8 (v.rq.op:Nat),.int .u32 (v.rq.re:Nat),.int .u32 (v.rq.ve:Nat),.int .u32 (v.rq.wa:Nat),.int .u32 (v.rq.ow:Nat),.slice a0 v.rq.fs.length c0,.string v.rq.rs]] wx fun e w'=>e = .returned (.bool (v.rq).is)∧Fr (fun _=>False) wx w'):=fun wx=>bU (v.rq) a0 c0 wx hv.rq hn.rq
 have HA:Hid (∀ wx,Calls Tryz.prog 164 #[.agg #[.int .u32 (v.an.cl:Nat),.int .u32 (v.an.nu:Nat),.int .u8 (v.an.co:Nat),.int .u32 (v.an.re:Nat),.int .u32 (v.an.ve:Nat),.slice a1 v.an.fs.length c1,.slice a2 v.an.hi.length c2]] wx fun e w'=>e = .returned (.bool (v.an).is)∧Fr (fun _=>False) wx w'):=fun wx=>cQ (v.an) a1 c1 a2 c2 wx hv.an hn.an hn.hi
 have HE:Hid (∀ wx,Calls Tryz.prog 165 #[.agg #[.int .u32 (v.ev.pl:Nat),.int .u32 (v.ev.rq.cl:Nat),.int .u32 (v.ev.rq.nu:Nat),.int .u32 (v.ev.rq.ac:Nat),.int .u8 (v.ev.rq.op:Nat),.int .u32 (v.ev.rq.re:Nat),.int .u32 (v.ev.rq.ve:Nat),.int .u32 (v.ev.rq.wa:Nat),.int .u32 (v.ev.rq.ow:Nat),.slice a3 v.ev.rq.fs.length c3,.string v.ev.rq.rs,.int .u8 (v.ev.co:Nat),.slice a4 v.ev.dg.length c4]] wx fun e w'=>e = .returned (.bool (v.ev).is)∧Fr (fun _=>False) wx w'):=fun wx=>dh (v.ev) a3 c3 a4 c4 wx hv.ev hn.ev hn.dg
 have HC:Hid (v.beside=(((((v.rq).is || !(0 == 0 && 0 == 0)) || (v.an).is) || 0 != 0) || (v.ev).is || v.le != 0)):=by
  have e:v.cut = { v with icl:=0,inu:=0,co:=0 } := by simp only[cd.cut,hk]
  show v.cut.is=_
  rw[e]
  rfl
 obtain⟨hv1,hv2,hv3,hv4,hv5,hv6,hv7,hv8⟩:=hv
 obtain⟨hn1,hn2,hn3,hn4,hn5⟩:=hn
 generalize v.beside=R at HC ⊢
 generalize (v.rq).is=B1 at HR HC
 generalize (v.an).is=B2 at HA HC
 generalize (v.ev).is=B3 at HE HC
 simp only[cd.aL,hk]
 clear hn1 hn2 hn3 hn4 hn5 hv2 hv5 hv7
 go_enter Tryz.func145,Tryz.ntmps145
 go_wp2_with (first
  | (go_at_call 163;refine((aa HR) _).mono ?_;rintro e w1 ⟨rfl,hf1⟩;have p11:=(hf1.cell (p:=⟨w.heap.size,11,none⟩) (by simp) (fun h=>h)).trans (show _=some ((Value.int .u32 0)) by rw[World.cell?_alloc_at _ _ _ _ rfl];rfl);have p12:=(hf1.cell (p:=⟨w.heap.size,12,none⟩) (by simp) (fun h=>h)).trans (show _=some ((Value.int .u32 0)) by rw[World.cell?_alloc_at _ _ _ _ rfl];rfl);have p13:=(hf1.cell (p:=⟨w.heap.size,13,none⟩) (by simp) (fun h=>h)).trans (show _=some ((Value.int .u32 (v.an.cl:Nat))) by rw[World.cell?_alloc_at _ _ _ _ rfl];rfl);have p14:=(hf1.cell (p:=⟨w.heap.size,14,none⟩) (by simp) (fun h=>h)).trans (show _=some ((Value.int .u32 (v.an.nu:Nat))) by rw[World.cell?_alloc_at _ _ _ _ rfl];rfl);have p15:=(hf1.cell (p:=⟨w.heap.size,15,none⟩) (by simp) (fun h=>h)).trans (show _=some ((Value.int .u8 (v.an.co:Nat))) by rw[World.cell?_alloc_at _ _ _ _ rfl];rfl);have p16:=(hf1.cell (p:=⟨w.heap.size,16,none⟩) (by simp) (fun h=>h)).trans (show _=some ((Value.int .u32 (v.an.re:Nat))) by rw[World.cell?_alloc_at _ _ _ _ rfl];rfl);have p17:=(hf1.cell (p:=⟨w.heap.size,17,none⟩) (by simp) (fun h=>h)).trans (show _=some ((Value.int .u32 (v.an.ve:Nat))) by rw[World.cell?_alloc_at _ _ _ _ rfl];rfl);have p18:=(hf1.cell (p:=⟨w.heap.size,18,none⟩) (by simp) (fun h=>h)).trans (show _=some ((Value.slice a1 v.an.fs.length c1)) by rw[World.cell?_alloc_at _ _ _ _ rfl];rfl);have p19:=(hf1.cell (p:=⟨w.heap.size,19,none⟩) (by simp) (fun h=>h)).trans (show _=some ((Value.slice a2 v.an.hi.length c2)) by rw[World.cell?_alloc_at _ _ _ _ rfl];rfl);have p20:=(hf1.cell (p:=⟨w.heap.size,20,none⟩) (by simp) (fun h=>h)).trans (show _=some ((Value.int .u8 0)) by rw[World.cell?_alloc_at _ _ _ _ rfl];rfl);have p21:=(hf1.cell (p:=⟨w.heap.size,21,none⟩) (by simp) (fun h=>h)).trans (show _=some ((Value.int .u32 (v.ev.pl:Nat))) by rw[World.cell?_alloc_at _ _ _ _ rfl];rfl);have p22:=(hf1.cell (p:=⟨w.heap.size,22,none⟩) (by simp) (fun h=>h)).trans (show _=some ((Value.int .u32 (v.ev.rq.cl:Nat))) by rw[World.cell?_alloc_at _ _ _ _ rfl];rfl);have p23:=(hf1.cell (p:=⟨w.heap.size,23,none⟩) (by simp) (fun h=>h)).trans (show _=some ((Value.int .u32 (v.ev.rq.nu:Nat))) by rw[World.cell?_alloc_at _ _ _ _ rfl];rfl);have p24:=(hf1.cell (p:=⟨w.heap.size,24,none⟩) (by simp) (fun h=>h)).trans (show _=some ((Value.int .u32 (v.ev.rq.ac:Nat))) by rw[World.cell?_alloc_at _ _ _ _ rfl];rfl);have p25:=(hf1.cell (p:=⟨w.heap.size,25,none⟩) (by simp) (fun h=>h)).trans (show _=some ((Value.int .u8 (v.ev.rq.op:Nat))) by rw[World.cell?_alloc_at _ _ _ _ rfl];rfl);have p26:=(hf1.cell (p:=⟨w.heap.size,26,none⟩) (by simp) (fun h=>h)).trans (show _=some ((Value.int .u32 (v.ev.rq.re:Nat))) by rw[World.cell?_alloc_at _ _ _ _ rfl];rfl);have p27:=(hf1.cell (p:=⟨w.heap.size,27,none⟩) (by simp) (fun h=>h)).trans (show _=some ((Value.int .u32 (v.ev.rq.ve:Nat))) by rw[World.cell?_alloc_at _ _ _ _ rfl];rfl);have p28:=(hf1.cell (p:=⟨w.heap.size,28,none⟩) (by simp) (fun h=>h)).trans (show _=some ((Value.int .u32 (v.ev.rq.wa:Nat))) by rw[World.cell?_alloc_at _ _ _ _ rfl];rfl);have p29:=(hf1.cell (p:=⟨w.heap.size,29,none⟩) (by simp) (fun h=>h)).trans (show _=some ((Value.int .u32 (v.ev.rq.ow:Nat))) by rw[World.cell?_alloc_at _ _ _ _ rfl];rfl);have p30:=(hf1.cell (p:=⟨w.heap.size,30,none⟩) (by simp) (fun h=>h)).trans (show _=some ((Value.slice a3 v.ev.rq.fs.length c3)) by rw[World.cell?_alloc_at _ _ _ _ rfl];rfl);have p31:=(hf1.cell (p:=⟨w.heap.size,31,none⟩) (by simp) (fun h=>h)).trans (show _=some ((Value.string v.ev.rq.rs)) by rw[World.cell?_alloc_at _ _ _ _ rfl];rfl);have p32:=(hf1.cell (p:=⟨w.heap.size,32,none⟩) (by simp) (fun h=>h)).trans (show _=some ((Value.int .u8 (v.ev.co:Nat))) by rw[World.cell?_alloc_at _ _ _ _ rfl];rfl);have p33:=(hf1.cell (p:=⟨w.heap.size,33,none⟩) (by simp) (fun h=>h)).trans (show _=some ((Value.slice a4 v.ev.dg.length c4)) by rw[World.cell?_alloc_at _ _ _ _ rfl];rfl);have p34:=(hf1.cell (p:=⟨w.heap.size,34,none⟩) (by simp) (fun h=>h)).trans (show _=some ((Value.int .u32 (v.le:Nat))) by rw[World.cell?_alloc_at _ _ _ _ rfl];rfl);have F1:=ae ((al w _).trans hf1 (fun _ _ h=>h));clear hf1)
  | (go_at_call 164;refine((aa HA) _).mono ?_;rintro e w2 ⟨rfl,hf2⟩;have r20:=(hf2.cell (p:=⟨w.heap.size,20,none⟩) (ab p20) (fun h=>h)).trans p20;have r21:=(hf2.cell (p:=⟨w.heap.size,21,none⟩) (ab p21) (fun h=>h)).trans p21;have r22:=(hf2.cell (p:=⟨w.heap.size,22,none⟩) (ab p22) (fun h=>h)).trans p22;have r23:=(hf2.cell (p:=⟨w.heap.size,23,none⟩) (ab p23) (fun h=>h)).trans p23;have r24:=(hf2.cell (p:=⟨w.heap.size,24,none⟩) (ab p24) (fun h=>h)).trans p24;have r25:=(hf2.cell (p:=⟨w.heap.size,25,none⟩) (ab p25) (fun h=>h)).trans p25;have r26:=(hf2.cell (p:=⟨w.heap.size,26,none⟩) (ab p26) (fun h=>h)).trans p26;have r27:=(hf2.cell (p:=⟨w.heap.size,27,none⟩) (ab p27) (fun h=>h)).trans p27;have r28:=(hf2.cell (p:=⟨w.heap.size,28,none⟩) (ab p28) (fun h=>h)).trans p28;have r29:=(hf2.cell (p:=⟨w.heap.size,29,none⟩) (ab p29) (fun h=>h)).trans p29;have r30:=(hf2.cell (p:=⟨w.heap.size,30,none⟩) (ab p30) (fun h=>h)).trans p30;have r31:=(hf2.cell (p:=⟨w.heap.size,31,none⟩) (ab p31) (fun h=>h)).trans p31;have r32:=(hf2.cell (p:=⟨w.heap.size,32,none⟩) (ab p32) (fun h=>h)).trans p32;have r33:=(hf2.cell (p:=⟨w.heap.size,33,none⟩) (ab p33) (fun h=>h)).trans p33;have r34:=(hf2.cell (p:=⟨w.heap.size,34,none⟩) (ab p34) (fun h=>h)).trans p34;have F2:=ae ((aa F1).trans hf2 (fun _ _ h=>h));clear hf2)
  | (go_at_call 165;refine((aa HE) _).mono ?_;rintro e w3 ⟨rfl,hf3⟩;have s34:=(hf3.cell (p:=⟨w.heap.size,34,none⟩) (ab r34) (fun h=>h)).trans r34;have F3:=ae ((aa F2).trans hf3 (fun _ _ h=>h));clear hf3))
 all_goals
  go_ret
  refine⟨?_,?_⟩
  ·have hC:=aa HC
   clear HC HR HA HE
   simp_all [da]
  ·first|exact aa F3|exact aa F2|exact aa F1
theorem wB (v:cd) (a0 a1 a2 a3 a4:Option Addr) (c0 c1 c2 c3 c4:Nat) (w:World) (hv:v.ok) (hn:v.lens) (hk:v.kd=5):Calls Tryz.prog 145 #[.agg (v.aL (.slice a0 v.rq.fs.length c0) (.slice a1 v.an.fs.length c1) (.slice a2 v.an.hi.length c2) (.slice a3 v.ev.rq.fs.length c3) (.slice a4 v.ev.dg.length c4))] w fun e w'=>e = .returned (.bool v.beside)∧Fr (fun _=>False) w w':=by
 have HR:Hid (∀ wx,Calls Tryz.prog 163 #[.agg #[.int .u32 (v.rq.cl:Nat),.int .u32 (v.rq.nu:Nat),.int .u32 (v.rq.ac:Nat),.int .u8 (v.rq.op:Nat),.int .u32 (v.rq.re:Nat),.int .u32 (v.rq.ve:Nat),.int .u32 (v.rq.wa:Nat),.int .u32 (v.rq.ow:Nat),.slice a0 v.rq.fs.length c0,.string v.rq.rs]] wx fun e w'=>e = .returned (.bool (v.rq).is)∧Fr (fun _=>False) wx w'):=fun wx=>bU (v.rq) a0 c0 wx hv.rq hn.rq
 have HA:Hid (∀ wx,Calls Tryz.prog 164 #[.agg #[.int .u32 (v.an.cl:Nat),.int .u32 (v.an.nu:Nat),.int .u8 (v.an.co:Nat),.int .u32 (v.an.re:Nat),.int .u32 (v.an.ve:Nat),.slice a1 v.an.fs.length c1,.slice a2 v.an.hi.length c2]] wx fun e w'=>e = .returned (.bool (v.an).is)∧Fr (fun _=>False) wx w'):=fun wx=>cQ (v.an) a1 c1 a2 c2 wx hv.an hn.an hn.hi
 have HE:Hid (∀ wx,Calls Tryz.prog 165 #[.agg #[.int .u32 0,.int .u32 0,.int .u32 0,.int .u32 0,.int .u8 0,.int .u32 0,.int .u32 0,.int .u32 0,.int .u32 0,.slice none 0 0,.string ⟨#[]⟩,.int .u8 0,.slice none 0 0]] wx fun e w'=>e = .returned (.bool (pd).is)∧Fr (fun _=>False) wx w'):=fun wx=>dh (pd) none 0 none 0 wx wI (by decide) (by decide)
 have HC:Hid (v.beside=(((((v.rq).is || !(v.icl == 0 && v.inu == 0)) || (v.an).is) || v.co != 0) || (pd).is || v.le != 0)):=by
  have e:v.cut = { v with ev:=pd } := by simp only[cd.cut,hk]
  show v.cut.is=_
  rw[e]
  rfl
 obtain⟨hv1,hv2,hv3,hv4,hv5,hv6,hv7,hv8⟩:=hv
 obtain⟨hn1,hn2,hn3,hn4,hn5⟩:=hn
 generalize v.beside=R at HC ⊢
 generalize (v.rq).is=B1 at HR HC
 generalize (v.an).is=B2 at HA HC
 generalize (pd).is=B3 at HE HC
 simp only[cd.aL,hk]
 clear hn1 hn2 hn3 hn4 hn5 hv2 hv5 hv7
 go_enter Tryz.func145,Tryz.ntmps145
 go_wp2_with (first
  | (go_at_call 163;refine((aa HR) _).mono ?_;rintro e w1 ⟨rfl,hf1⟩;have p11:=(hf1.cell (p:=⟨w.heap.size,11,none⟩) (by simp) (fun h=>h)).trans (show _=some ((Value.int .u32 (v.icl:Nat))) by rw[World.cell?_alloc_at _ _ _ _ rfl];rfl);have p12:=(hf1.cell (p:=⟨w.heap.size,12,none⟩) (by simp) (fun h=>h)).trans (show _=some ((Value.int .u32 (v.inu:Nat))) by rw[World.cell?_alloc_at _ _ _ _ rfl];rfl);have p13:=(hf1.cell (p:=⟨w.heap.size,13,none⟩) (by simp) (fun h=>h)).trans (show _=some ((Value.int .u32 (v.an.cl:Nat))) by rw[World.cell?_alloc_at _ _ _ _ rfl];rfl);have p14:=(hf1.cell (p:=⟨w.heap.size,14,none⟩) (by simp) (fun h=>h)).trans (show _=some ((Value.int .u32 (v.an.nu:Nat))) by rw[World.cell?_alloc_at _ _ _ _ rfl];rfl);have p15:=(hf1.cell (p:=⟨w.heap.size,15,none⟩) (by simp) (fun h=>h)).trans (show _=some ((Value.int .u8 (v.an.co:Nat))) by rw[World.cell?_alloc_at _ _ _ _ rfl];rfl);have p16:=(hf1.cell (p:=⟨w.heap.size,16,none⟩) (by simp) (fun h=>h)).trans (show _=some ((Value.int .u32 (v.an.re:Nat))) by rw[World.cell?_alloc_at _ _ _ _ rfl];rfl);have p17:=(hf1.cell (p:=⟨w.heap.size,17,none⟩) (by simp) (fun h=>h)).trans (show _=some ((Value.int .u32 (v.an.ve:Nat))) by rw[World.cell?_alloc_at _ _ _ _ rfl];rfl);have p18:=(hf1.cell (p:=⟨w.heap.size,18,none⟩) (by simp) (fun h=>h)).trans (show _=some ((Value.slice a1 v.an.fs.length c1)) by rw[World.cell?_alloc_at _ _ _ _ rfl];rfl);have p19:=(hf1.cell (p:=⟨w.heap.size,19,none⟩) (by simp) (fun h=>h)).trans (show _=some ((Value.slice a2 v.an.hi.length c2)) by rw[World.cell?_alloc_at _ _ _ _ rfl];rfl);have p20:=(hf1.cell (p:=⟨w.heap.size,20,none⟩) (by simp) (fun h=>h)).trans (show _=some ((Value.int .u8 (v.co:Nat))) by rw[World.cell?_alloc_at _ _ _ _ rfl];rfl);have p21:=(hf1.cell (p:=⟨w.heap.size,21,none⟩) (by simp) (fun h=>h)).trans (show _=some ((Value.int .u32 0)) by rw[World.cell?_alloc_at _ _ _ _ rfl];rfl);have p22:=(hf1.cell (p:=⟨w.heap.size,22,none⟩) (by simp) (fun h=>h)).trans (show _=some ((Value.int .u32 0)) by rw[World.cell?_alloc_at _ _ _ _ rfl];rfl);have p23:=(hf1.cell (p:=⟨w.heap.size,23,none⟩) (by simp) (fun h=>h)).trans (show _=some ((Value.int .u32 0)) by rw[World.cell?_alloc_at _ _ _ _ rfl];rfl);have p24:=(hf1.cell (p:=⟨w.heap.size,24,none⟩) (by simp) (fun h=>h)).trans (show _=some ((Value.int .u32 0)) by rw[World.cell?_alloc_at _ _ _ _ rfl];rfl);have p25:=(hf1.cell (p:=⟨w.heap.size,25,none⟩) (by simp) (fun h=>h)).trans (show _=some ((Value.int .u8 0)) by rw[World.cell?_alloc_at _ _ _ _ rfl];rfl);have p26:=(hf1.cell (p:=⟨w.heap.size,26,none⟩) (by simp) (fun h=>h)).trans (show _=some ((Value.int .u32 0)) by rw[World.cell?_alloc_at _ _ _ _ rfl];rfl);have p27:=(hf1.cell (p:=⟨w.heap.size,27,none⟩) (by simp) (fun h=>h)).trans (show _=some ((Value.int .u32 0)) by rw[World.cell?_alloc_at _ _ _ _ rfl];rfl);have p28:=(hf1.cell (p:=⟨w.heap.size,28,none⟩) (by simp) (fun h=>h)).trans (show _=some ((Value.int .u32 0)) by rw[World.cell?_alloc_at _ _ _ _ rfl];rfl);have p29:=(hf1.cell (p:=⟨w.heap.size,29,none⟩) (by simp) (fun h=>h)).trans (show _=some ((Value.int .u32 0)) by rw[World.cell?_alloc_at _ _ _ _ rfl];rfl);have p30:=(hf1.cell (p:=⟨w.heap.size,30,none⟩) (by simp) (fun h=>h)).trans (show _=some ((Value.slice none 0 0)) by rw[World.cell?_alloc_at _ _ _ _ rfl];rfl);have p31:=(hf1.cell (p:=⟨w.heap.size,31,none⟩) (by simp) (fun h=>h)).trans (show _=some ((Value.string ⟨#[]⟩)) by rw[World.cell?_alloc_at _ _ _ _ rfl];rfl);have p32:=(hf1.cell (p:=⟨w.heap.size,32,none⟩) (by simp) (fun h=>h)).trans (show _=some ((Value.int .u8 0)) by rw[World.cell?_alloc_at _ _ _ _ rfl];rfl);have p33:=(hf1.cell (p:=⟨w.heap.size,33,none⟩) (by simp) (fun h=>h)).trans (show _=some ((Value.slice none 0 0)) by rw[World.cell?_alloc_at _ _ _ _ rfl];rfl);have p34:=(hf1.cell (p:=⟨w.heap.size,34,none⟩) (by simp) (fun h=>h)).trans (show _=some ((Value.int .u32 (v.le:Nat))) by rw[World.cell?_alloc_at _ _ _ _ rfl];rfl);have F1:=ae ((al w _).trans hf1 (fun _ _ h=>h));clear hf1)
  | (go_at_call 164;refine((aa HA) _).mono ?_;rintro e w2 ⟨rfl,hf2⟩;have r20:=(hf2.cell (p:=⟨w.heap.size,20,none⟩) (ab p20) (fun h=>h)).trans p20;have r21:=(hf2.cell (p:=⟨w.heap.size,21,none⟩) (ab p21) (fun h=>h)).trans p21;have r22:=(hf2.cell (p:=⟨w.heap.size,22,none⟩) (ab p22) (fun h=>h)).trans p22;have r23:=(hf2.cell (p:=⟨w.heap.size,23,none⟩) (ab p23) (fun h=>h)).trans p23;have r24:=(hf2.cell (p:=⟨w.heap.size,24,none⟩) (ab p24) (fun h=>h)).trans p24;have r25:=(hf2.cell (p:=⟨w.heap.size,25,none⟩) (ab p25) (fun h=>h)).trans p25;have r26:=(hf2.cell (p:=⟨w.heap.size,26,none⟩) (ab p26) (fun h=>h)).trans p26;have r27:=(hf2.cell (p:=⟨w.heap.size,27,none⟩) (ab p27) (fun h=>h)).trans p27;have r28:=(hf2.cell (p:=⟨w.heap.size,28,none⟩) (ab p28) (fun h=>h)).trans p28;have r29:=(hf2.cell (p:=⟨w.heap.size,29,none⟩) (ab p29) (fun h=>h)).trans p29;have r30:=(hf2.cell (p:=⟨w.heap.size,30,none⟩) (ab p30) (fun h=>h)).trans p30;have r31:=(hf2.cell (p:=⟨w.heap.size,31,none⟩) (ab p31) (fun h=>h)).trans p31;have r32:=(hf2.cell (p:=⟨w.heap.size,32,none⟩) (ab p32) (fun h=>h)).trans p32;have r33:=(hf2.cell (p:=⟨w.heap.size,33,none⟩) (ab p33) (fun h=>h)).trans p33;have r34:=(hf2.cell (p:=⟨w.heap.size,34,none⟩) (ab p34) (fun h=>h)).trans p34;have F2:=ae ((aa F1).trans hf2 (fun _ _ h=>h));clear hf2)
  | (go_at_call 165;refine((aa HE) _).mono ?_;rintro e w3 ⟨rfl,hf3⟩;have s34:=(hf3.cell (p:=⟨w.heap.size,34,none⟩) (ab r34) (fun h=>h)).trans r34;have F3:=ae ((aa F2).trans hf3 (fun _ _ h=>h));clear hf3))
 all_goals
  go_ret
  refine⟨?_,?_⟩
  ·have hC:=aa HC
   clear HC HR HA HE
   simp_all [da]
  ·first|exact aa F3|exact aa F2|exact aa F1
theorem wi (v:cd) (a0 a1 a2 a3 a4:Option Addr) (c0 c1 c2 c3 c4:Nat) (w:World) (hv:v.ok) (hn:v.lens) (hk:v.kd=6):Calls Tryz.prog 145 #[.agg (v.aL (.slice a0 v.rq.fs.length c0) (.slice a1 v.an.fs.length c1) (.slice a2 v.an.hi.length c2) (.slice a3 v.ev.rq.fs.length c3) (.slice a4 v.ev.dg.length c4))] w fun e w'=>e = .returned (.bool v.beside)∧Fr (fun _=>False) w w':=by
 have HR:Hid (∀ wx,Calls Tryz.prog 163 #[.agg #[.int .u32 (v.rq.cl:Nat),.int .u32 (v.rq.nu:Nat),.int .u32 (v.rq.ac:Nat),.int .u8 (v.rq.op:Nat),.int .u32 (v.rq.re:Nat),.int .u32 (v.rq.ve:Nat),.int .u32 (v.rq.wa:Nat),.int .u32 (v.rq.ow:Nat),.slice a0 v.rq.fs.length c0,.string v.rq.rs]] wx fun e w'=>e = .returned (.bool (v.rq).is)∧Fr (fun _=>False) wx w'):=fun wx=>bU (v.rq) a0 c0 wx hv.rq hn.rq
 have HA:Hid (∀ wx,Calls Tryz.prog 164 #[.agg #[.int .u32 (v.an.cl:Nat),.int .u32 (v.an.nu:Nat),.int .u8 (v.an.co:Nat),.int .u32 (v.an.re:Nat),.int .u32 (v.an.ve:Nat),.slice a1 v.an.fs.length c1,.slice a2 v.an.hi.length c2]] wx fun e w'=>e = .returned (.bool (v.an).is)∧Fr (fun _=>False) wx w'):=fun wx=>cQ (v.an) a1 c1 a2 c2 wx hv.an hn.an hn.hi
 have HE:Hid (∀ wx,Calls Tryz.prog 165 #[.agg #[.int .u32 (v.ev.pl:Nat),.int .u32 (v.ev.rq.cl:Nat),.int .u32 (v.ev.rq.nu:Nat),.int .u32 (v.ev.rq.ac:Nat),.int .u8 (v.ev.rq.op:Nat),.int .u32 (v.ev.rq.re:Nat),.int .u32 (v.ev.rq.ve:Nat),.int .u32 (v.ev.rq.wa:Nat),.int .u32 (v.ev.rq.ow:Nat),.slice a3 v.ev.rq.fs.length c3,.string v.ev.rq.rs,.int .u8 (v.ev.co:Nat),.slice a4 v.ev.dg.length c4]] wx fun e w'=>e = .returned (.bool (v.ev).is)∧Fr (fun _=>False) wx w'):=fun wx=>dh (v.ev) a3 c3 a4 c4 wx hv.ev hn.ev hn.dg
 have HC:Hid (v.beside=(((((v.rq).is || !(v.icl == 0 && v.inu == 0)) || (v.an).is) || v.co != 0) || (v.ev).is || 0 != 0)):=by
  have e:v.cut = { v with le:=0 } := by simp only[cd.cut,hk]
  show v.cut.is=_
  rw[e]
  rfl
 obtain⟨hv1,hv2,hv3,hv4,hv5,hv6,hv7,hv8⟩:=hv
 obtain⟨hn1,hn2,hn3,hn4,hn5⟩:=hn
 generalize v.beside=R at HC ⊢
 generalize (v.rq).is=B1 at HR HC
 generalize (v.an).is=B2 at HA HC
 generalize (v.ev).is=B3 at HE HC
 simp only[cd.aL,hk]
 clear hn1 hn2 hn3 hn4 hn5 hv2 hv5 hv7
 go_enter Tryz.func145,Tryz.ntmps145
 go_wp2_with (first
  | (go_at_call 163;refine((aa HR) _).mono ?_;rintro e w1 ⟨rfl,hf1⟩;have p11:=(hf1.cell (p:=⟨w.heap.size,11,none⟩) (by simp) (fun h=>h)).trans (show _=some ((Value.int .u32 (v.icl:Nat))) by rw[World.cell?_alloc_at _ _ _ _ rfl];rfl);have p12:=(hf1.cell (p:=⟨w.heap.size,12,none⟩) (by simp) (fun h=>h)).trans (show _=some ((Value.int .u32 (v.inu:Nat))) by rw[World.cell?_alloc_at _ _ _ _ rfl];rfl);have p13:=(hf1.cell (p:=⟨w.heap.size,13,none⟩) (by simp) (fun h=>h)).trans (show _=some ((Value.int .u32 (v.an.cl:Nat))) by rw[World.cell?_alloc_at _ _ _ _ rfl];rfl);have p14:=(hf1.cell (p:=⟨w.heap.size,14,none⟩) (by simp) (fun h=>h)).trans (show _=some ((Value.int .u32 (v.an.nu:Nat))) by rw[World.cell?_alloc_at _ _ _ _ rfl];rfl);have p15:=(hf1.cell (p:=⟨w.heap.size,15,none⟩) (by simp) (fun h=>h)).trans (show _=some ((Value.int .u8 (v.an.co:Nat))) by rw[World.cell?_alloc_at _ _ _ _ rfl];rfl);have p16:=(hf1.cell (p:=⟨w.heap.size,16,none⟩) (by simp) (fun h=>h)).trans (show _=some ((Value.int .u32 (v.an.re:Nat))) by rw[World.cell?_alloc_at _ _ _ _ rfl];rfl);have p17:=(hf1.cell (p:=⟨w.heap.size,17,none⟩) (by simp) (fun h=>h)).trans (show _=some ((Value.int .u32 (v.an.ve:Nat))) by rw[World.cell?_alloc_at _ _ _ _ rfl];rfl);have p18:=(hf1.cell (p:=⟨w.heap.size,18,none⟩) (by simp) (fun h=>h)).trans (show _=some ((Value.slice a1 v.an.fs.length c1)) by rw[World.cell?_alloc_at _ _ _ _ rfl];rfl);have p19:=(hf1.cell (p:=⟨w.heap.size,19,none⟩) (by simp) (fun h=>h)).trans (show _=some ((Value.slice a2 v.an.hi.length c2)) by rw[World.cell?_alloc_at _ _ _ _ rfl];rfl);have p20:=(hf1.cell (p:=⟨w.heap.size,20,none⟩) (by simp) (fun h=>h)).trans (show _=some ((Value.int .u8 (v.co:Nat))) by rw[World.cell?_alloc_at _ _ _ _ rfl];rfl);have p21:=(hf1.cell (p:=⟨w.heap.size,21,none⟩) (by simp) (fun h=>h)).trans (show _=some ((Value.int .u32 (v.ev.pl:Nat))) by rw[World.cell?_alloc_at _ _ _ _ rfl];rfl);have p22:=(hf1.cell (p:=⟨w.heap.size,22,none⟩) (by simp) (fun h=>h)).trans (show _=some ((Value.int .u32 (v.ev.rq.cl:Nat))) by rw[World.cell?_alloc_at _ _ _ _ rfl];rfl);have p23:=(hf1.cell (p:=⟨w.heap.size,23,none⟩) (by simp) (fun h=>h)).trans (show _=some ((Value.int .u32 (v.ev.rq.nu:Nat))) by rw[World.cell?_alloc_at _ _ _ _ rfl];rfl);have p24:=(hf1.cell (p:=⟨w.heap.size,24,none⟩) (by simp) (fun h=>h)).trans (show _=some ((Value.int .u32 (v.ev.rq.ac:Nat))) by rw[World.cell?_alloc_at _ _ _ _ rfl];rfl);have p25:=(hf1.cell (p:=⟨w.heap.size,25,none⟩) (by simp) (fun h=>h)).trans (show _=some ((Value.int .u8 (v.ev.rq.op:Nat))) by rw[World.cell?_alloc_at _ _ _ _ rfl];rfl);have p26:=(hf1.cell (p:=⟨w.heap.size,26,none⟩) (by simp) (fun h=>h)).trans (show _=some ((Value.int .u32 (v.ev.rq.re:Nat))) by rw[World.cell?_alloc_at _ _ _ _ rfl];rfl);have p27:=(hf1.cell (p:=⟨w.heap.size,27,none⟩) (by simp) (fun h=>h)).trans (show _=some ((Value.int .u32 (v.ev.rq.ve:Nat))) by rw[World.cell?_alloc_at _ _ _ _ rfl];rfl);have p28:=(hf1.cell (p:=⟨w.heap.size,28,none⟩) (by simp) (fun h=>h)).trans (show _=some ((Value.int .u32 (v.ev.rq.wa:Nat))) by rw[World.cell?_alloc_at _ _ _ _ rfl];rfl);have p29:=(hf1.cell (p:=⟨w.heap.size,29,none⟩) (by simp) (fun h=>h)).trans (show _=some ((Value.int .u32 (v.ev.rq.ow:Nat))) by rw[World.cell?_alloc_at _ _ _ _ rfl];rfl);have p30:=(hf1.cell (p:=⟨w.heap.size,30,none⟩) (by simp) (fun h=>h)).trans (show _=some ((Value.slice a3 v.ev.rq.fs.length c3)) by rw[World.cell?_alloc_at _ _ _ _ rfl];rfl);have p31:=(hf1.cell (p:=⟨w.heap.size,31,none⟩) (by simp) (fun h=>h)).trans (show _=some ((Value.string v.ev.rq.rs)) by rw[World.cell?_alloc_at _ _ _ _ rfl];rfl);have p32:=(hf1.cell (p:=⟨w.heap.size,32,none⟩) (by simp) (fun h=>h)).trans (show _=some ((Value.int .u8 (v.ev.co:Nat))) by rw[World.cell?_alloc_at _ _ _ _ rfl];rfl);have p33:=(hf1.cell (p:=⟨w.heap.size,33,none⟩) (by simp) (fun h=>h)).trans (show _=some ((Value.slice a4 v.ev.dg.length c4)) by rw[World.cell?_alloc_at _ _ _ _ rfl];rfl);have p34:=(hf1.cell (p:=⟨w.heap.size,34,none⟩) (by simp) (fun h=>h)).trans (show _=some ((Value.int .u32 0)) by rw[World.cell?_alloc_at _ _ _ _ rfl];rfl);have F1:=ae ((al w _).trans hf1 (fun _ _ h=>h));clear hf1)
  | (go_at_call 164;refine((aa HA) _).mono ?_;rintro e w2 ⟨rfl,hf2⟩;have r20:=(hf2.cell (p:=⟨w.heap.size,20,none⟩) (ab p20) (fun h=>h)).trans p20;have r21:=(hf2.cell (p:=⟨w.heap.size,21,none⟩) (ab p21) (fun h=>h)).trans p21;have r22:=(hf2.cell (p:=⟨w.heap.size,22,none⟩) (ab p22) (fun h=>h)).trans p22;have r23:=(hf2.cell (p:=⟨w.heap.size,23,none⟩) (ab p23) (fun h=>h)).trans p23;have r24:=(hf2.cell (p:=⟨w.heap.size,24,none⟩) (ab p24) (fun h=>h)).trans p24;have r25:=(hf2.cell (p:=⟨w.heap.size,25,none⟩) (ab p25) (fun h=>h)).trans p25;have r26:=(hf2.cell (p:=⟨w.heap.size,26,none⟩) (ab p26) (fun h=>h)).trans p26;have r27:=(hf2.cell (p:=⟨w.heap.size,27,none⟩) (ab p27) (fun h=>h)).trans p27;have r28:=(hf2.cell (p:=⟨w.heap.size,28,none⟩) (ab p28) (fun h=>h)).trans p28;have r29:=(hf2.cell (p:=⟨w.heap.size,29,none⟩) (ab p29) (fun h=>h)).trans p29;have r30:=(hf2.cell (p:=⟨w.heap.size,30,none⟩) (ab p30) (fun h=>h)).trans p30;have r31:=(hf2.cell (p:=⟨w.heap.size,31,none⟩) (ab p31) (fun h=>h)).trans p31;have r32:=(hf2.cell (p:=⟨w.heap.size,32,none⟩) (ab p32) (fun h=>h)).trans p32;have r33:=(hf2.cell (p:=⟨w.heap.size,33,none⟩) (ab p33) (fun h=>h)).trans p33;have r34:=(hf2.cell (p:=⟨w.heap.size,34,none⟩) (ab p34) (fun h=>h)).trans p34;have F2:=ae ((aa F1).trans hf2 (fun _ _ h=>h));clear hf2)
  | (go_at_call 165;refine((aa HE) _).mono ?_;rintro e w3 ⟨rfl,hf3⟩;have s34:=(hf3.cell (p:=⟨w.heap.size,34,none⟩) (ab r34) (fun h=>h)).trans r34;have F3:=ae ((aa F2).trans hf3 (fun _ _ h=>h));clear hf3))
 all_goals
  go_ret
  refine⟨?_,?_⟩
  ·have hC:=aa HC
   clear HC HR HA HE
   simp_all [da]
  ·first|exact aa F3|exact aa F2|exact aa F1
theorem sR (v:cd) (a0 a1 a2 a3 a4:Option Addr) (c0 c1 c2 c3 c4:Nat) (w:World) (hv:v.ok) (hn:v.lens):Calls Tryz.prog 145 #[.agg (v.aL (.slice a0 v.rq.fs.length c0) (.slice a1 v.an.fs.length c1) (.slice a2 v.an.hi.length c2) (.slice a3 v.ev.rq.fs.length c3) (.slice a4 v.ev.dg.length c4))] w fun e w'=>e = .returned (.bool v.beside)∧Fr (fun _=>False) w w':=by
 by_cases h1:v.kd=1
 ·exact xu v a0 a1 a2 a3 a4 c0 c1 c2 c3 c4 w hv hn h1
 by_cases h2:v.kd=2
 ·exact yf v a0 a1 a2 a3 a4 c0 c1 c2 c3 c4 w hv hn h2
 by_cases h3:v.kd=3
 ·exact wF v a0 a1 a2 a3 a4 c0 c1 c2 c3 c4 w hv hn h3
 by_cases h4:v.kd=4
 ·exact xm v a0 a1 a2 a3 a4 c0 c1 c2 c3 c4 w hv hn h4
 by_cases h5:v.kd=5
 ·exact wB v a0 a1 a2 a3 a4 c0 c1 c2 c3 c4 w hv hn h5
 by_cases h6:v.kd=6
 ·exact wi v a0 a1 a2 a3 a4 c0 c1 c2 c3 c4 w hv hn h6
 exact wg v a0 a1 a2 a3 a4 c0 c1 c2 c3 c4 w hv hn (fun i h1 h2=>by omega)
variable {L:List Nat}
def CS.m1 (c:CS) (v:cd):CS × Nat:=c.fe ay [bC 1 7 5,gh v.beside] v.kd
def CS.pM (c:CS) (k:Nat) (v:cd):CS × cd:=
 if k=1 then ((c.aZ v.rq).1,{ v with kd:=1,rq:=(c.aZ v.rq).2 })
 else if k=2 then ((c.ky (v.icl,v.inu)).1,{ v with kd:=2,icl:=(c.ky (v.icl,v.inu)).2.1,inu:=(c.ky (v.icl,v.inu)).2.2 })
 else if k=3 then ((c.bp v.an).1,{ v with kd:=3,an:=(c.bp v.an).2 })
 else if k=4 then (((c.ky (v.icl,v.inu)).1.fe eW [bC 1 15 4] v.co).1,{ v with kd:=4,icl:=(c.ky (v.icl,v.inu)).2.1,inu:=(c.ky (v.icl,v.inu)).2.2,co:=((c.ky (v.icl,v.inu)).1.fe eW [bC 1 15 4] v.co).2 })
 else if k=5 then ((c.bD v.ev).1,{ v with kd:=5,ev:=(c.bD v.ev).2 })
 else if k=6 then ((c.bL ck [] v.le).1,{ v with kd:=6,le:=(c.bL ck [] v.le).2 })
 else (c,{ v with kd:=k })
def CS.cZ (c:CS) (v:cd):CS × cd:=(c.m1 v).1.pM (c.m1 v).2 v
def kn:cd:=⟨0,gS,0,0,nD,0,pd,0⟩
variable {L:List Nat}
def dt (l:List Nat):CS × cd:=((gg l).aE 7).cZ kn
def cy (v:cd):Wq:=((gV.aE 7).cZ v).1.wq
theorem o7.out {s t:Wq} (h:o7 s t):s.out=t.out:=by unfold Wq.out;rw[h.1,h.2]
def yl (s:Wq) (c:CS) (L:List PT):Prop:=∃ t,c = .wr t∧o7 t (pK s L)
theorem yl.nil (s:Wq):yl s (.wr s) []:=⟨s,rfl,o7.refl s⟩
theorem yl.then {s t:Wq} {c:CS} {a b:List PT} (h:o7 t (pK s a)) (k:yl t c b):yl s c (a++b):=by
 obtain⟨u,rfl,e⟩:=k
 refine⟨u,rfl,e.trans ?_⟩
 rw[xU]
 exact uf b h
def C1 (cl nu:Nat):List PT:=[⟨cV,4,cl,[],0⟩,⟨ep,4,nu,[],0⟩]
def xL (h:dB):List PT:=[⟨eL,4,h.au,[],0⟩,⟨jx,4,h.ev,[],0⟩,⟨lP,4,h.fi,[],0⟩,⟨jM,1,h.gone,[],0⟩]
def CU (l:List dB):List PT:=⟨aK,4,l.length,[],kT 0 64 2 (l.length:Int)⟩::l.flatMap xL
def js (z:Nat) (r:List Nat):List PT:=[⟨cB,4,z,[],0⟩,⟨dp,6,0,r,cu 1 32 r.length⟩]
theorem Src.yw {w:World} {x:Value} (h:Src w x []) (w':World):Src w' x []:=by
 rcases h with h|⟨g,o,c,hx,_⟩|h
 ·exact .inl h
 ·exact .inr (.inl ⟨g,o,c,hx,fun j v hv=>by simp[cellsOf] at hv⟩)
 ·exact .inr (.inr h)
structure BW (w:World) (x:Value) (l:List Nat) (F:Nat→Prop):Prop where
 src:Src w x l
 at_:l=[]∨∀ g o m c,x = .slice (some ⟨g,o,none⟩) m c→g<w.heap.size∧¬ F g
theorem BW.aP {w w':World} {x:Value} {l:List Nat} {F F':Nat→Prop} {P:Nat→Nat→Prop} (h:BW w x l F) (hs:ar w w' F F' P) (hP:∀ g i,g<w.heap.size→¬ P g i):BW w' x l F':=by
 rcases h.at_ with rfl|hat
 ·exact⟨h.src.yw w',.inl rfl⟩
 ·have:=(show BV w x l F from⟨h.src,hat⟩).aP hs (fun g o m c e i=>hP g i (hat g o m c e).1)
  exact⟨this.src,.inr this.at_⟩
theorem BW.aR {w w':World} {x:Value} {l:List Nat} {F:Nat→Prop} (h:BW w x l F) (hf:Fr (fun _=>False) w w'):BW w' x l F:=h.aP (ar.bh hf F (fun _ _=>False)) (fun _ _ _ h=>h)
structure Dh (w:World) (xo:Option Addr) (xc:Nat) (ps:List (List Nat)) (F:Nat→Prop):Prop where
 cap:ps.length≤xc
 el:∀ (j:Nat) p,ps[j]?=some p→∃ g o x,xo=some ⟨g,o,none⟩∧¬ F g∧w.cell? ⟨g,o+j,none⟩=some x∧BW w x p F∧p.length<9223372036854775808
theorem Dh.aP {w w':World} {xo:Option Addr} {xc:Nat} {ps:List (List Nat)} {F F':Nat→Prop} {P:Nat→Nat→Prop} (h:Dh w xo xc ps F) (hs:ar w w' F F' P) (hP:∀ k j,k<w.heap.size→¬ P k j):Dh w' xo xc ps F':=by
 refine⟨h.cap,fun j p hp=>?_⟩
 obtain⟨g,o,x,h1,h2,h3,h4,h5⟩:=h.el j p hp
 have hlt:=ab h3
 exact⟨g,o,x,h1,hs.nF hlt h2,(hs.oth g (o+j) hlt h2 (hP g _ hlt)).trans h3,h4.aP hs hP,h5⟩
structure C4 (w:World) (xo:Option Addr) (xc:Nat) (ps:List (List Nat)):Prop where
 cap:ps.length≤xc
 len:ps.length<9223372036854775808
 el:∀ (j:Nat) p,ps[j]?=some p→∃ g o x,xo=some ⟨g,o,none⟩∧w.cell? ⟨g,o+j,none⟩=some x∧Src w x p∧(p=[]∨∀ g o m c,x = .slice (some ⟨g,o,none⟩) m c→g<w.heap.size)∧p.length<9223372036854775808
theorem zs {w w1:World} {x:Value} {p:List Nat} (h:Src w x p) (hf:Fr (fun _=>False) w w1):Src w1 x p:=h.fr hf (fun _ _ _ _ _ h=>h)
theorem C4.aR {w w1:World} {xo:Option Addr} {xc:Nat} {ps:List (List Nat)} (h:C4 w xo xc ps) (hf:Fr (fun _=>False) w w1):C4 w1 xo xc ps:=by
 refine⟨h.cap,h.len,fun j p hp=>?_⟩
 obtain⟨g,o,x,h1,h2,h3,h4,h5⟩:=h.el j p hp
 exact⟨g,o,x,h1,(hf.cell (p:=⟨g,o+j,none⟩) (ab h2) (fun h=>h)).trans h2,zs h3 hf,h4.imp id (fun h4 g o m c e=>Nat.lt_of_lt_of_le (h4 g o m c e) hf.size),h5⟩
theorem Cw (k:Nat) (h:k≤1000000000):wrap64 ((k:Int)+1)=(k:Int)+1:=by unfold wrap64;omega
def tZ (used gone:Bool) (l:List cj):List PT:=⟨ak,4,l.length,[],if 32<l.length then 2 else if used=false∧0<l.length then 4 else 0⟩::p5 (if gone then 3 else 2) ⟨#[]⟩ l
theorem zb (a v:ByteArray) (i:Nat) (h0:i=0→a=⟨#[]⟩):fb [fun v=>cu 1 64 v.size,kf a] v=if cu 1 64 v.size=0∧0<i∧sle v a=true then 6 else cu 1 64 v.size:=by
 simp only[fb]
 by_cases hz:cu 1 64 v.size=0
 ·rw[if_pos hz]
  by_cases hi:i=0
  ·have ha:=h0 hi
   subst ha
   have hs:1≤v.size:=by
    unfold cu at hz
    split at hz
    ·cases hz
    ·split at hz
     ·cases hz
     ·omega
   have hsl:sle v ⟨#[]⟩=false:=by
    unfold sle
    have e0:(ByteArray.mk #[]).toList=[]:=by rw[Lib.toList_data]
    have e1:v.toList≠[]:=by
     rw[Lib.toList_data]
     intro e
     have h3:v.data.size=0:=by rw[← Array.length_toList,e];rfl
     have h2:v.data.size=v.size:=rfl
     omega
    rw[e0,show Op.bytesLess v.toList []=false by cases v.toList <;> rfl]
    simpa using e1
   have e6:kf ⟨#[]⟩ v=0:=by unfold kf;rw[hsl];rfl
   rw[e6,hz]
   simp[hi]
  ·have hi':0<i:=by omega
   by_cases hs:sle v a=true
   ·have e6:kf a v=6:=by unfold kf;rw[if_pos hs]
    rw[e6,hz]
    simp[hi',hs]
   ·have e6:kf a v=0:=by unfold kf;rw[if_neg hs]
    rw[e6,hz]
    simp[hs]
 ·rw[if_neg hz,if_neg (fun h=>hz h.1)]
theorem aX {P:Program} {ops:Array Oper} {Q:Exit→Act→World→Prop} {a:Act} {w:World} {rest:List Oper} (k:Nat) {x1 x2 x3 x4 x5} (h:wpList P ops Q (Oper.mk (some k) x1 x2 x3 x4 x5::rest) a w):wpList P ops Q (Oper.mk (some k) x1 x2 x3 x4 x5::rest) a w:=h
theorem fx {P:Program} {ops:Array Oper} {Q:Exit→Act→World→Prop} {a:Act} {w:World} {rest:List Oper} {x1 x2 x3 x4 x5} (h:wpList P ops Q (Oper.mk none x1 x2 x3 x4 x5::rest) a w):wpList P ops Q (Oper.mk none x1 x2 x3 x4 x5::rest) a w:=h
theorem pR {P:Program} {w w':World} {ops:Array Oper} {rest:List Oper} {o:Oper} {a:Act} {Q:Exit→Act→World→Prop} (hgd:o.guard=none) (s x:Operand) (t u:TypeId)
  (ho:o.op = .call { callee:=.builtin .append,args:=#[s,x],argTypes:=#[t,u] }) (vs vx v':Value) (hs:a.eval s=vs) (hx:a.eval x=vx) (hr:(Builtin.append_ #[t,u] o.type #[vs,vx]).run P w = .ok v' w')
  (h:wpList P ops Q rest (a.put o.dst v') w'):wpList P ops Q (o::rest) a w:=by
 refine wpList_plain hgd fun K hK=>?_
 unfold Oper.wp execOp
 simp only[ho,resolve,invoke,builtin,Sem.run_bind,Sem.run_pure,Result.andThen_ok,List.map_toArray,List.map_cons,List.map_nil,hs,hx,hr]
 exact hK _ _ h
theorem pj {w':World} {b:Nat} (olds news:List Value) (hb:w'.heap[b]?=some (.cells olds.toArray 110)) (ho:olds.length=5) (hl:news.length=5) (h1:∀ v∈news,v.oneCell'=true) :
  ∃ W4,(Instr.storeAt 110 (.pointer (some ⟨b,0,none⟩)) (.agg news.toArray)).run Tryz.prog w' = .ok () W4∧W4.heap[b]?=some (.cells news.toArray 110)∧Fr (fun k=>k=b) w' W4:=
 bz (P:=Tryz.prog) (ty:=110) olds news hb (by rw[ho,hl]) (by rw[hl];exact Tryz.cX) h1
theorem n6 (nm:ByteArray) (k u wy r z:Int) (xo:Option Addr) (n xc:Nat) (so:Bool) (w:World) (hz:(if so=true then r else wy)=z) :
  Calls Tryz.prog 89 #[.agg #[.string nm,.int .i64 k,.int .u64 u,.slice xo n xc,.int .i64 wy],.bool so,.int .i64 r] w fun e w'=>e = .returned (.agg #[.string nm,.int .i64 k,.int .u64 u,.slice xo n xc,.int .i64 z])∧Fr (fun _=>False) w w':=by
 rw[← hz]
 exact xe nm k u wy r xo n xc so w
theorem PL.CI {w:World} {base:Nat} {v:Value} {L:List PV} (h:PL w base v L):∃ ao cap,v = .slice ao L.length cap∧(ao=none→cap=0):=by
 rcases h.row.2 with ⟨e,e2⟩|⟨g,cap,cur,e,_⟩
 ·have:L.length=0:=e2
  exact⟨none,0,by rw[e,this],fun _=>rfl⟩
 ·exact⟨some ⟨g,0,none⟩,cap,e,fun e=>by cases e⟩
end Go.Proofs.YtdcopmkgmbiikaaGreatDoor
namespace Go.Proofs.YtdcopmkgmbiikaaGreatDoor
open Go.RowKit
end Go.Proofs.YtdcopmkgmbiikaaGreatDoor
namespace Go.Proofs.YtdcopmkgmbiikaaGreatDoor
open Go.RowKit
def ry (A B:List PT):Prop:=∀ (out:List Nat) (X:List PT),eH out (A++X)=eH out (B++X)
theorem ry.refl (A:List PT):ry A A:=fun _ _=>rfl
theorem ry.trans {A B C:List PT} (h:ry A B) (k:ry B C):ry A C:=fun out X=>(h out X).trans (k out X)
theorem ry.ahead {A B:List PT} (h:ry A B):∀ C:List PT,ry (C++A) (C++B)
 | []=>h
 | p::r=>fun out X=>by
  have ih:=h.ahead r
  simp only[List.cons_append]
  unfold eH
  by_cases hw:p.wy≠0
  ·rw[if_pos hw,if_pos hw]
  ·rw[if_neg hw,if_neg hw]
   exact ih _ X
theorem ry.behind {A B:List PT} (h:ry A B) (C:List PT):ry (A++C) (B++C):=fun out X=>by
 rw[List.append_assoc,List.append_assoc]
 exact h out (C++X)
theorem ry.wrong {p:PT} (h:p.wy≠0) (a b:List PT):ry (p::a) (p::b):=fun out X=>by
 simp only[List.cons_append]
 unfold eH
 rw[if_pos h,if_pos h]
theorem ry.put {A B:List PT} (h:ry A B) (out:List Nat):eH out A=eH out B:=by
 have:=h out []
 simpa using this
theorem xC {α:Type} (r q:α→Nat) (x:α):fb [r,q] x=if r x=0 then q x else r x:=by
 simp only[fb]
 by_cases h:r x=0 <;> by_cases h2:q x=0 <;> simp[h,h2]
theorem oG (n:Nat) (M:Int) (z:Nat):kT 0 M z (n:Int)=if M<(n:Int) then z else 0:=by
 unfold kT
 by_cases h:M<(n:Int)
 ·rw[if_pos (.inr h),if_pos h]
 ·rw[if_neg (by omega),if_neg h]
theorem yz (n:Nat) (M:Int):fb (dU 32 [kT 0 M 4]) (n:Int)=if 32<n then 2 else if M<(n:Int) then 4 else 0:=by
 unfold dU
 rw[xC,oG,oG]
 by_cases h:32<n
 ·rw[if_pos (show(32:Int)<(n:Int) by omega),if_neg (by decide),if_pos h]
 ·rw[if_neg (show ¬ (32:Int)<(n:Int) by omega),if_pos rfl,if_neg h]
def us (op:Nat):Bool × Bool × Bool × Bool × Bool:=
 if op=1 then (false,false,true,true,false) else if op=2 then (true,true,false,true,false) else if op=3∨op=4∨op=6 then (true,true,false,false,false) else (true,false,false,false,decide (op=7))
def uc (nm:ByteArray) (v:Nat) (used:Bool):PT:=⟨nm,4,v,[],if used=false∧v≠0 then 4 else 0⟩
def rk (v:dv):List PT:=
 C1 v.cl v.nu++([⟨ju,4,v.ac,[],0⟩,⟨wL,1,v.op,[],bC 1 7 5 v.op⟩,uc dc v.re (us v.op).1,⟨cg,4,v.ve,[],if v.op=6∧1<v.ve then 4 else (uc cg v.ve (us v.op).2.1).wy⟩,uc gF v.wa (us v.op).2.2.1,uc ig v.ow (us v.op).2.2.1]++(tZ (us v.op).2.2.2.1 (decide (v.op=2)) v.fs++[⟨eb,6,0,bytesOf v.rs,if cu 0 64 v.rs.size=0 then (if (us v.op).2.2.2.2=false∧v.rs.size≠0 then 4 else 0) else cu 0 64 v.rs.size⟩]))
theorem Ae (n:Int) (rs:ByteArray):fb [fun v:ByteArray=>cu 0 64 v.size,Ak n] rs=if cu 0 64 rs.size=0 then (if n<(rs.size:Int) then 4 else 0) else cu 0 64 rs.size:=by
 rw[xC]
 unfold Ak
 rw[oG]
end Go.Proofs.YtdcopmkgmbiikaaGreatDoor
