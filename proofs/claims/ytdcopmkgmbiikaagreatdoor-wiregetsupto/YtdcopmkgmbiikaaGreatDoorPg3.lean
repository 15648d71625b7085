import Derived.Test.YtdcopmkgmbiikaaGreatDoorPg2
import Derived.Test.YtdcopmkgmbiikaaGreatDoorPg1
import Derived.Test.YtdcopmkgmbiikaaGreatDoorKFai
import Derived.Test.YtdcopmkgmbiikaaGreatDoorKTld
import Derived.Test.YtdcopmkgmbiikaaGreatDoorKAwl
set_option maxRecDepth 1000000
set_option maxHeartbeats 4000000
namespace Go.Proofs.YtdcopmkgmbiikaaGreatDoor
open Go.RowKit
theorem mC (q:Q) (cb b g i:Nat) (F:Nat→Prop) (E:Nat→Addr) (w:World) (h:Cd w cb b F (.rd q) E) (hp:w.cell? ⟨g,i,none⟩=some (.slice none 0 0)) (hL:Loc w cb F g i) :
    Calls Tryz.prog 138 #[.pointer (some ⟨cb,0,none⟩),.string aP,.pointer (some ⟨g,i,none⟩),.int .i64 64,.func (.func 139) #[.pointer (some ⟨cb,0,none⟩)] #[],.slice none 0 0] w fun e w'=>e = .returned (.tuple #[])∧∃ F',Cd w' cb b F' (bt (fun c v=>c.aG v) ie (min ((q.named aP).go 7 64).2.1 64) ((CS.rd q).cB aP 64 (eA 64 []) 0).1).1 E∧∃ x,w'.cell? ⟨g,i,none⟩=some x∧gd w' w.heap.size x (bt (fun c v=>c.aG v) ie (min ((q.named aP).go 7 64).2.1 64) ((CS.rd q).cB aP 64 (eA 64 []) 0).1).2 F'∧aw w w' F F' (fun k j=>k=g∧j=i):=by
  have k2:=h.g7.k2
  have hl2:=ab k2
  have hsf:=cZ
  have hent:∀ (x:Value) (W:World),(callFunc 139 (#[.pointer (some ⟨cb,0,none⟩),x])).run Tryz.prog W = .ok (.enter 139 (#[.pointer (some ⟨cb,0,none⟩),x])) W:=fun _ W=>enters Tryz.func139 rfl rfl _ W
  have hhead:=gg (.rd q) aP 0 64 [] cb b F E (.slice none 0 0) w h (by omega) (by decide) ⟨_,dX.nil _ w E,fun _ h=>h.elim⟩ (by decide) (by simp only[CS.room,CS.len];omega) 3
  obtain⟨c1,hc1⟩:∃ c1,c1=((CS.rd q).cB aP 64 (eA 64 []) 0).1:=⟨_,rfl⟩
  obtain⟨n,hn⟩:∃ n,n=((q.named aP).go 7 64).2.1:=⟨_,rfl⟩
  have hn1:((CS.rd q).cB aP 64 (eA 64 []) 0).2=(n:Int):=by rw[hn];rfl
  have hq1:∃ q',c1 = .rd q':=⟨_,hc1⟩
  have hnlt:n<4294967296:=by rw[hn];exact(q.named aP).go_lt 7 64
  rw[← hc1,hn1] at hhead
  rw[← hc1,← hn]
  clear hc1 hn1 hn
  have HG:=ae hhead
  clear hhead
  obtain⟨N,hN⟩:∃ N,N=min n 64:=⟨_,rfl⟩
  rw[← hN]
  have hNm:N≤64:=by omega
  have HM:=ae hN
  clear hN
  have HW:=ae (dM 0 64 2 E (w.alloc (.cells #[.int .i64 0] 3)) (by decide))
  have H:=ae (And.intro h (And.intro hL hq1))
  have hlp:=hL.lt
  clear h hL hq1
  go_enter Tryz.func138,Tryz.ntmps138
  go_wp2_with fail
  refine(aa HW).mono ?_
  rintro e w1 ⟨fv,rfl,K0,hF,hf1,hK0⟩
  obtain⟨ao,cp,w2,hr,hcall⟩:=(aa HG) w1 fv K0 hF hf1 hK0 none 0 rfl
  obtain⟨Fc,caps,rfl,_⟩:=hF.ex
  have HR:=ae hr
  have HC:=ae hcall
  clear hF hf1 hK0 hr hcall
  go_wp2_with (at_builtin;refine cN rfl _ _ 278 278 rfl _ _ _ rfl rfl (aa HR) ?_)
  refine(aa HC).mono ?_
  rintro e w3 ⟨rfl,F3,hC3,hn3,hlt3,hnF3,hs3⟩
  have H3:=ae (And.intro hC3 hs3)
  clear hC3 hs3 hlt3 hnF3
  by_cases hnm:n≤64
  all_goals
    go_wp2_with fail
    go_loopw [32] (fun iv wr=>∃ (k:Nat) (Fk:Nat→Prop) (x:Value),k≤N∧iv = .int .i64 (k:Nat)∧Cd wr cb b Fk (bt (fun c v=>c.aG v) ie k c1).1 E∧(∃ q',(bt (fun c v=>c.aG v) ie k c1).1 = .rd q')∧wr.cell? ⟨g,i,none⟩=some x∧gd wr w.heap.size x (bt (fun c v=>c.aG v) ie k c1).2 Fk∧aw w wr F Fk (fun k j=>k=g∧j=i)) (fun iv _=>N - (intOf iv).toNat)
    case atStart =>
      obtain⟨hC3,hs3⟩:=aa H3
      exact⟨0,F3,.slice none 0 0,Nat.zero_le _,rfl,hC3,(aa H).2.2,(hs3.oth g i hlp (aa H).2.1.nF (fun h=>h)).trans hp,gd.nil _ _ _,hs3.mono (fun _ _ _ h=>h.elim)⟩
    case round =>
      obtain⟨k,Fk,x,hk,rfl,hCk,⟨qk,hqk⟩,hxk,hOk,hsk2⟩:=hrel
      by_cases hlt:k<N
      · have hlt':(k:Int)<(n:Int):=by have:=aa HM;omega
        have hltm:(k:Int)<64:=by have:=aa HM;omega
        obtain⟨st,hst⟩:∃ st,st=(bt (fun c v=>c.aG v) ie k c1).1:=⟨_,rfl⟩
        obtain⟨lk,hlk⟩:∃ lk,lk=(bt (fun c v=>c.aG v) ie k c1).2:=⟨_,rfl⟩
        have hlkl:lk.length=k:=by rw[hlk];exact oT _ _ _ _
        rw[← hst] at hCk hqk
        rw[← hlk] at hOk
        rw[hqk] at hCk
        have h0r:wr.cell? ⟨cb,0,none⟩=some (.pointer none):=hCk.c0
        have h1r:wr.cell? ⟨cb,1,none⟩=some (.pointer (some ⟨b,0,none⟩)):=hCk.c1
        have hlg:=ab hxk
        have hlcr:=ab h0r
        have hLk:=(aa H).2.1.aV hsk2
        have hbx:=aB wr (.cells #[.int .u32 0,.int .u32 0,.int .u32 0,.bool false] 161)
        have hblk:=heap_alloc_new wr (.cells #[.int .u32 0,.int .u32 0,.int .u32 0,.bool false] 161)
        have HCL:=ae (kN (.rd qk) ie cb b wr.heap.size Fk E _ (hCk.aD hbx) ⟨ai (o:=0) hblk rfl,ai (o:=1) hblk rfl,ai (o:=2) hblk rfl,ai (o:=3) hblk rfl⟩ (fun i=>hCk.box _ _ i) yq (by simp only[CS.room,CS.len];omega))
        have HK:=ae (And.intro hsk2 (And.intro hqk (And.intro hst (And.intro hlk (And.intro hbx (And.intro hOk hLk))))))
        have HLK:=ae hlkl
        clear hCk hsk2 hqk hst hlk hblk hbx hOk hLk hlkl
        go_wp2_with fail
        refine(aa HCL).mono ?_
        have hlkl:=aa HLK
        rintro e w4 ⟨rfl,F4,hC4,hp4v,hs4⟩
        have hok4:=CS.rY (.rd qk) ie yq
        obtain⟨hsk2,hqk,hst,hlk,hbx,hOk,hLk⟩:=aa HK
        obtain⟨f,hfv⟩:∃ f,f=((CS.rd qk).aG ie).2:=⟨_,rfl⟩
        rw[← hfv] at hp4v hok4
        obtain⟨v0,v1,v2,v3⟩:=hp4v
        have hs5:aw wr w4 Fk F4 (fun k j=>k=wr.heap.size∧0≤j):=(aw.bD hbx Fk _).trans hs4 (fun k j _ h=>⟨h.1,by omega⟩)
        have hszw:=hsk2.size
        have hszr:=hs5.size
        have hO4:gd w4.drew w.heap.size x lk F4:=by
          have h1:=hOk.aV hs5 (fun k j hb hk h=>by omega)
          exact⟨h1.nF,aA h1.row (fun _ _=>rfl),h1.ok⟩
        obtain⟨xo,xc,rfl⟩:=cU hOk.row
        obtain⟨ao',cap',w6,hr6,hO6,hf6⟩:=hO4.app f hok4 (by show w.heap.size≤w4.heap.size;omega) (fun k hk=>hC4.lt k hk) (by omega)
        have h0w:w4.cell? ⟨cb,1,none⟩=some (.pointer (some ⟨b,0,none⟩)):=hC4.c1
        have hp4:w4.cell? ⟨g,i,none⟩=some (.slice xo lk.length xc):=(hs5.oth g i hlg hLk.nF (fun h=>by omega)).trans hxk
        have fz4:w4.frozen? ⟨g,i,none⟩=false:=(hs5.fz g i hlg hLk.nF).trans hLk.fz
        have hlg4:=ab hp4
        have hxlo:∀ k,(Value.slice xo lk.length xc).ownBlock=some k→w.heap.size≤k:=fun k hk=>(hOk.row.lt k hk).1
        have hp6:w6.cell? ⟨g,i,none⟩=some (.slice xo lk.length xc):=(hf6.cell (p:=⟨g,i,none⟩) hlg4 (fun h=>by have:=hxlo g h;omega)).trans hp4
        have fz6:w6.frozen? ⟨g,i,none⟩=false:=(hf6.frozen (p:=⟨g,i,none⟩) hlg4 (fun h=>by have:=hxlo g h;omega)).trans fz4
        have hf46:Fr (fun k=>(Value.slice xo lk.length xc).ownBlock=some k) w4 w6:=⟨hf6.os,hf6.tape,hf6.output,hf6.size,hf6.block⟩
        have hgF4:¬ F4 g:=hs5.nF hlg hLk.nF
        have hsW:aw w (w6.setCell ⟨g,i,none⟩ (.slice ao' (lk.length+1) cap')) F F4 (fun k j=>k=g∧j=i):=((hsk2.trans hs5 (fun k j hk h=>by omega)).grow hf46 hxlo).trans (aw.set g i _) (fun _ _ _ h=>h)
        have hcbw:=ab (aa H).1.c0
        have hglo:=(aa H).2.1.lo
        have hgnc:=(aa H).2.1.nc
        have hC7:Cd (w6.setCell ⟨g,i,none⟩ (.slice ao' (lk.length+1) cap')) cb b F4 ((CS.rd qk).aG ie).1 E:=
          (hC4.fr hf46 (fun kk hk hS=>hO4.nF kk hS hk) (fun hS=>by have:=hxlo cb hS;simp only at hcbw;omega) (fun kk hS=>by have:=hxlo kk hS;omega)).fr ((Fr.refl (fun kk=>kk=g) _).setCell (.inl rfl) _) (fun kk hk e=>hgF4 (e ▸ hk)) (fun e=>hgnc e.symm) (fun kk e=>by rw[e];exact hglo)
        have hO7:gd (w6.setCell ⟨g,i,none⟩ (.slice ao' (lk.length+1) cap')) w.heap.size (.slice ao' (lk.length+1) cap') (lk++[f]) F4:=hO6.aV (aw.set g i _) (fun kk j hb _ h=>by omega)
        have hc7:(w6.setCell ⟨g,i,none⟩ (.slice ao' (lk.length+1) cap')).cell? ⟨g,i,none⟩=some (.slice ao' (lk.length+1) cap'):=World.cell?_setCell_same _ _ _ hp6
        have e1:(bt (fun c v=>c.aG v) ie (k+1) c1).1=((CS.rd qk).aG ie).1:=by
          show((bt (fun c v=>c.aG v) ie k c1).1.aG ie).1=_
          rw[← hst,hqk]
        have e3:(bt (fun c v=>c.aG v) ie (k+1) c1).2=lk++[f]:=by
          show(bt (fun c v=>c.aG v) ie k c1).2++[((bt (fun c v=>c.aG v) ie k c1).1.aG ie).2]=_
          rw[← hst,← hlk,hqk,hfv]
        have HFIN:Hid (∀ V,V=w6.setCell ⟨g,i,none⟩ (.slice ao' (lk.length+1) cap')→Cd V cb b F4 (bt (fun c v=>c.aG v) ie (k+1) c1).1 E∧(∃ q',(bt (fun c v=>c.aG v) ie (k+1) c1).1 = .rd q')∧V.cell? ⟨g,i,none⟩=some (.slice ao' (lk.length+1) cap')∧gd V w.heap.size (.slice ao' (lk.length+1) cap') (bt (fun c v=>c.aG v) ie (k+1) c1).2 F4∧aw w V F F4 (fun k j=>k=g∧j=i)):=by
          rintro V rfl
          rw[e1,e3]
          exact⟨hC7,⟨_,rfl⟩,hc7,hO7,hsW⟩
        have HR6:=ae hr6
        have hlv4:=ab v0
        clear hsW hC7 hO7 hc7 e1 e3 hgF4 hxlo hr6 hO6 hf6 hf46 hC4 hs5 hs4 hO4 hOk hst hlk hbx hsk2 hqk hLk hok4 hfv HK HCL hszw hszr hcbw hglo hgnc hxk h0r h1r hlkl
        go_wp2_with fail
        go_region_law (refine hJ rfl (.tmp 56) (.tmp 58) 31 31 rfl _ _ _ (by simp[Act.eval]) (by simp[Act.eval]) (aa HR6) ?_)
        all_goals
          go_wp2_with fail
          obtain⟨z1,z2,z4,z5,z6⟩:=(aa HFIN) _ rfl
          exact⟨⟨k+1,F4,_,by omega,by go_num,z1,z2,z4,z5,z6⟩,by simp[intOf];omega⟩
      · have hkN:k=N:=by omega
        have HK:=ae (And.intro hCk (And.intro hsk2 (And.intro hOk hxk)))
        clear hCk hqk hsk2 hOk
        first
          | (have hlt':¬ (k:Int)<(n:Int):=by have:=aa HM;omega
             go_wp2_with fail)
          | (have hlt':¬ (k:Int)<64:=by have:=aa HM;omega
             go_wp2_with fail)
        go_end0
        rw[hkN] at HK
        exact⟨rfl,Fk,(aa HK).1,x,(aa HK).2.2.2,(aa HK).2.2.1,(aa HK).2.1⟩
def CS.mW (c:CS) (l:List dG):CS × List dG:=match c with
 | .wr s=>(eM (fun c v=>c.aG v) ((CS.wr s).cB aP 64 (eA 64 []) l.length).1 (l.take (min l.length 64)),l)
 | .rd q=>bt (fun c v=>c.aG v) ie (min ((q.named aP).go 7 64).2.1 64) ((CS.rd q).cB aP 64 (eA 64 []) 0).1
structure u6 (w:World) (c:CS) (x:Value) (l:List dG) (F:Nat→Prop) (g:Nat):Prop where
 wr:∀ s,c = .wr s→∃ xo xc,x = .slice xo l.length xc∧Dc w xo xc l F∧∀ g' o,xo=some ⟨g',o,none⟩→l≠[]→g'≠g
 rd:∀ q,c = .rd q→x = .slice none 0 0∧l=[]
 n:l.length<9223372036854775808
theorem u6.aV {w w':World} {c c':CS} {x:Value} {l:List dG} {F F':Nat→Prop} {P:Nat→Nat→Prop} {g:Nat} (h:u6 w c x l F g) (hs:aw w w' F F' P) (hP:∀ k i,k<w.heap.size→P k i→k=g) (hm:c.sm c'):u6 w' c' x l F' g:=by
 refine⟨fun s hs'=>?_,fun q hq=>?_,h.n⟩
 ·obtain⟨s',e⟩:=hm.1 s hs'
  obtain⟨xo,xc,e1,e2,e3⟩:=h.wr s' e
  refine⟨xo,xc,e1,⟨e2.cap,fun j f hf=>?_⟩,e3⟩
  obtain⟨h0,g',o,h1,h2,h3,h4,h5,h6⟩:=e2.el j f hf
  have hlt:g'<w.heap.size:=ab h3
  have hne:g'≠g:=e3 g' o h1 (by rintro rfl;simp at hf)
  have hp:∀ i,¬ P g' i:=fun i hp=>hne (hP g' i hlt hp)
  exact⟨h0,g',o,h1,hs.nF hlt h2,(hs.oth g' _ hlt h2 (hp _)).trans h3,(hs.oth g' _ hlt h2 (hp _)).trans h4,(hs.oth g' _ hlt h2 (hp _)).trans h5,(hs.oth g' _ hlt h2 (hp _)).trans h6⟩
 ·obtain⟨q',e⟩:=hm.2 q hq
  exact h.rd q' e
structure zc (w w':World) (c:CS) (x x':Value) (l':List dG) (F':Nat→Prop):Prop where
 wr:∀ s,c = .wr s→x'=x
 rd:∀ q,c = .rd q→gd w' w.heap.size x' l' F'
theorem zc.of {w0 w w':World} {c c':CS} {x x':Value} {l:List dG} {F':Nat→Prop} (h:zc w w' c' x x' l F') (hm:c.sm c') (hs:w0.heap.size≤w.heap.size):zc w0 w' c x x' l F':=by
 refine⟨fun s e=>?_,fun q e=>?_⟩
 ·cases hc:c' with
  | wr s'=>exact h.wr s' hc
  | rd q'=>obtain⟨_,e'⟩:=hm.2 q' hc;rw[e] at e';cases e'
 ·cases hc:c' with
  | wr s'=>obtain⟨_,e'⟩:=hm.1 s' hc;rw[e] at e';cases e'
  | rd q' =>
   have h9:=h.rd q' hc
   exact⟨h9.nF,aK h9.row hs,h9.ok⟩
theorem yh (c:CS) (x:Value) (l:List dG) (cb b g i:Nat) (F:Nat→Prop) (E:Nat→Addr) (w:World) (h:Cd w cb b F c E) (hp:w.cell? ⟨g,i,none⟩=some x) (hX:u6 w c x l F g) (hL:Loc w cb F g i) (hroom:c.room 300) :
  Calls Tryz.prog 138 #[.pointer (some ⟨cb,0,none⟩),.string aP,.pointer (some ⟨g,i,none⟩),.int .i64 64,.func (.func 139) #[.pointer (some ⟨cb,0,none⟩)] #[],.slice none 0 0] w fun e w'=>e = .returned (.tuple #[])∧∃ F' x',Cd w' cb b F' (c.mW l).1 E∧w'.cell? ⟨g,i,none⟩=some x'∧zc w w' c x x' (c.mW l).2 F'∧aw w w' F F' (fun k j=>k=g∧j=i):=by
 cases c with
 | wr s =>
  obtain⟨xo,xc,rfl,hV,_⟩:=hX.wr s rfl
  refine(mS s cb b g i F E xo xc l w h hX.n hp hL hV hroom).mono ?_
  rintro e w' ⟨rfl,F',hC,hs⟩
  exact⟨rfl,F',_,hC,(hs.oth g i hL.lt hL.nF (fun h=>h)).trans hp,⟨fun _ _=>rfl,fun q e=>by cases e⟩,hs.mono (fun _ _ _ h=>h.elim)⟩
 | rd q =>
  obtain⟨rfl,rfl⟩:=hX.rd q rfl
  refine(mC q cb b g i F E w h hp hL).mono ?_
  rintro e w' ⟨rfl,F',hC,x',hx',hO,hs⟩
  exact⟨rfl,F',x',hC,hx',⟨fun s e=>(by cases e),fun _ _=>hO⟩,hs⟩
structure hI where
 cl:Nat
 nu:Nat
 co:Nat
 re:Nat
 ve:Nat
 fs:List cA
 hi:List dG
structure hI.ok (v:hI):Prop where
 cl:v.cl<4294967296
 nu:v.nu<4294967296
 co:v.co<256
 re:v.re<4294967296
 ve:v.ve<4294967296
def CS.a1 (c:CS) (v:hI):CS × Nat × Nat:=c.kB (v.cl,v.nu)
def CS.a2 (c:CS) (v:hI):CS × Nat:=(c.a1 v).1.qL v.co
def CS.a3 (c:CS) (v:hI):CS × Nat:=(c.a2 v).1.bW cS [] v.re
def CS.a4 (c:CS) (v:hI):CS × Nat:=(c.a3 v).1.bW cg [] v.ve
def CS.a5 (c:CS) (v:hI):CS × List cA:=(c.a4 v).1.cK 2 [] v.fs
def CS.a6 (c:CS) (v:hI):CS × List dG:=(c.a5 v).1.mW v.hi
def CS.bF (c:CS) (v:hI):CS × hI:=((c.a6 v).1,⟨(c.a1 v).2.1,(c.a1 v).2.2,(c.a2 v).2,(c.a3 v).2,(c.a4 v).2,(c.a5 v).2,(c.a6 v).2⟩)
structure x6 (w:World) (g o:Nat) (v:hI) (x y:Value):Prop where
 c0:w.cell? ⟨g,o,none⟩=some (.int .u32 (v.cl:Nat))
 c1:w.cell? ⟨g,o+1,none⟩=some (.int .u32 (v.nu:Nat))
 c2:w.cell? ⟨g,o+2,none⟩=some (.int .u8 (v.co:Nat))
 c3:w.cell? ⟨g,o+3,none⟩=some (.int .u32 (v.re:Nat))
 c4:w.cell? ⟨g,o+4,none⟩=some (.int .u32 (v.ve:Nat))
 c5:w.cell? ⟨g,o+5,none⟩=some x
 c6:w.cell? ⟨g,o+6,none⟩=some y
theorem mN (c:CS) (v:hI) (x y:Value) (cb b g o:Nat) (F:Nat→Prop) (E:Nat→Addr) (w:World) (h:Cd w cb b F c E) (hp:x6 w g o v x y) (hX:kE w c x v.fs F g) (hY:u6 w c y v.hi F g) (hL:∀ i,Loc w cb F g i) (hv:v.ok) (hroom:c.room 500) :
  Calls Tryz.prog 109 #[.pointer (some ⟨cb,0,none⟩),.pointer (some ⟨g,o,none⟩)] w fun e w'=>e = .returned (.tuple #[])∧∃ F' x' y',Cd w' cb b F' (c.bF v).1 E∧x6 w' g o (c.bF v).2 x' y'∧ks w w' c x x' (c.bF v).2.fs F'∧zc w w' c y y' (c.bF v).2.hi F'∧aw w w' F F' (aH g o 7):=by
 have hmf:=mf
 have R1:(c.a1 v).1.room 498:=CS.jU hroom _
 have R2:(c.a2 v).1.room 497:=CS.dD R1 _ _ _
 have R3:(c.a3 v).1.room 496:=CS.bc R2 _ _ _
 have R4:(c.a4 v).1.room 495:=CS.bc R3 _ _ _
 have R5:(c.a5 v).1.room 366:=CS.gu R4 _ _ _
 have M4:c.sm (c.a4 v).1:=CS.aI (CS.aI (CS.aI (c.km _) (CS.fJ _ _ _ _)) (CS.bS _ _ _ _)) (CS.bS _ _ _ _)
 have M5:c.sm (c.a5 v).1:=CS.aI M4 (CS.jA _ _ _ _)
 have hgw:=(hL 0).lt
 have hgF:=(hL 0).nF
 have HR:=ae (And.intro R1 (And.intro R2 (And.intro R3 (And.intro R4 (And.intro R5 (And.intro M4 M5))))))
 have HV:=ae hv
 have HI:=ae (pz c (v.cl,v.nu) cb b g o F E w h hp.c0 hp.c1 hL hv.cl hv.nu (CS.room_le hroom (by decide)))
 have H:=ae (And.intro hp (And.intro hX (And.intro hY hL)))
 clear h hp hX hY hL hv hroom R1 R2 R3 R4 R5 M4 M5
 go_enter Tryz.func109,Tryz.ntmps109
 go_wp2_with fail
 refine(aa HI).mono ?_
 rintro e w1 ⟨rfl,F1,hC1,i0,i1,hs1⟩
 obtain⟨hp,hX,hY,hL⟩:=aa H
 have hL1:=fun i=>(hL i).aV hs1
 have oth1:∀ i,2≤i→∀ z,w.cell? ⟨g,o+i,none⟩=some z→w1.cell? ⟨g,o+i,none⟩=some z:=fun i hi z hz=>(hs1.oth g (o+i) hgw hgF (fun h=>by have:=h.2;omega)).trans hz
 have HD:=ae (ri (c.a1 v).1 v.co cb b g (o+2) F1 E w1 hC1 (oth1 2 (by decide) _ hp.c2) (hL1 _) (aa HV).co (CS.room_le (aa HR).1 (by decide)))
 have H1:=ae (And.intro i0 (And.intro i1 (And.intro (oth1 3 (by decide) _ hp.c3) (And.intro (oth1 4 (by decide) _ hp.c4) (And.intro (oth1 5 (by decide) _ hp.c5) (And.intro (oth1 6 (by decide) _ hp.c6) (And.intro (hs1.mono (P':=aH g o 7) (fun k j _ h=>⟨h.1,h.2.1,by have:=h.2;omega⟩)) hL1)))))))
 clear hp hX hY hL hL1 oth1 hC1 i0 i1 hs1 HI
 go_wp2_with fail
 refine(aa HD).mono ?_
 rintro e w2 ⟨rfl,F2,hC2,hc2,hs2⟩
 obtain⟨i0,i1,i3,i4,i5,i6,hs01,hL1⟩:=aa H1
 have oth2:∀ i,i≠2→∀ z,w1.cell? ⟨g,o+i,none⟩=some z→w2.cell? ⟨g,o+i,none⟩=some z:=fun i hi z hz=>(hs2.oth g (o+i) (hL1 0).lt (hL1 0).nF (fun h=>by omega)).trans hz
 have hL2:=fun i=>(hL1 i).aV hs2
 have HN:=ae (bZ (c.a2 v).1 cS [] v.re cb b g (o+3) F2 E (.slice none 0 0) w2 hC2 (oth2 3 (by decide) _ i3) (hL2 _) (aa HV).re (iV.nil _ w2 F2 g E) (CS.room_le (aa HR).2.1 (by decide)))
 have H2:=ae (And.intro (oth2 0 (by decide) _ i0) (And.intro (oth2 1 (by decide) _ i1) (And.intro hc2 (And.intro (oth2 4 (by decide) _ i4) (And.intro (oth2 5 (by decide) _ i5) (And.intro (oth2 6 (by decide) _ i6) (And.intro (hs01.trans hs2 (fun k j _ h=>⟨h.1,by omega,by omega⟩)) hL2)))))))
 clear i0 i1 i3 i4 i5 i6 hs01 hL1 oth2 hL2 hC2 hc2 hs2 H1 HD
 go_wp2_with fail
 refine(aa HN).mono ?_
 rintro e w3 ⟨rfl,F3,hC3,hc3,hs3⟩
 obtain⟨i0,i1,i2,i4,i5,i6,hs02,hL2⟩:=aa H2
 have oth3:∀ i,i≠3→∀ z,w2.cell? ⟨g,o+i,none⟩=some z→w3.cell? ⟨g,o+i,none⟩=some z:=fun i hi z hz=>(hs3.oth g (o+i) (hL2 0).lt (hL2 0).nF (fun h=>by omega)).trans hz
 have hL3:=fun i=>(hL2 i).aV hs3
 have HN4:=ae (bZ (c.a3 v).1 cg [] v.ve cb b g (o+4) F3 E (.slice none 0 0) w3 hC3 (oth3 4 (by decide) _ i4) (hL3 _) (aa HV).ve (iV.nil _ w3 F3 g E) (CS.room_le (aa HR).2.2.1 (by decide)))
 have H3:=ae (And.intro (oth3 0 (by decide) _ i0) (And.intro (oth3 1 (by decide) _ i1) (And.intro (oth3 2 (by decide) _ i2) (And.intro hc3 (And.intro (oth3 5 (by decide) _ i5) (And.intro (oth3 6 (by decide) _ i6) (And.intro (hs02.trans hs3 (fun k j _ h=>⟨h.1,by omega,by omega⟩)) hL3)))))))
 clear i0 i1 i2 i4 i5 i6 hs02 hL2 oth3 hL3 hC3 hc3 hs3 H2 HN
 go_wp2_with fail
 refine(aa HN4).mono ?_
 rintro e w4 ⟨rfl,F4,hC4,hc4,hs4⟩
 obtain⟨i0,i1,i2,i3,i5,i6,hs03,hL3⟩:=aa H3
 have oth4:∀ i,i≠4→∀ z,w3.cell? ⟨g,o+i,none⟩=some z→w4.cell? ⟨g,o+i,none⟩=some z:=fun i hi z hz=>(hs4.oth g (o+i) (hL3 0).lt (hL3 0).nF (fun h=>by omega)).trans hz
 have hL4:=fun i=>(hL3 i).aV hs4
 have hs04:=hs03.trans hs4 (fun k j _ h=>⟨h.1,by omega,by omega⟩)
 have hX4:kE w4 (c.a4 v).1 x v.fs F4 g:=(aa H).2.1.aV hs04 (fun k i _ h=>h.1) (aa HR).2.2.2.2.2.1.1 (aa HR).2.2.2.2.2.1.2
 have HFD:=ae (mP (c.a4 v).1 2 [] none 0 x v.fs cb b g (o+5) F4 E w4 hC4 (oth4 5 (by decide) _ i5) hX4 (hL4 _) ⟨_,dX.nil _ w4 E,fun _ h=>h.elim⟩ (by decide) (CS.room_le (aa HR).2.2.2.1 (by decide)))
 have H4:=ae (And.intro (oth4 0 (by decide) _ i0) (And.intro (oth4 1 (by decide) _ i1) (And.intro (oth4 2 (by decide) _ i2) (And.intro (oth4 3 (by decide) _ i3) (And.intro hc4 (And.intro (oth4 6 (by decide) _ i6) (And.intro hs04 hL4)))))))
 clear i0 i1 i2 i3 i5 i6 hs03 hL3 oth4 hL4 hs04 hX4 hC4 hc4 hs4 H3 HN4
 go_wp2_with fail
 refine(aa HFD).mono ?_
 rintro e w5 ⟨rfl,F5,x5,hC5,hc5,hO5,hs5⟩
 obtain⟨i0,i1,i2,i3,i4,i6,hs04,hL4⟩:=aa H4
 have oth5:∀ i,i≠5→∀ z,w4.cell? ⟨g,o+i,none⟩=some z→w5.cell? ⟨g,o+i,none⟩=some z:=fun i hi z hz=>(hs5.oth g (o+i) (hL4 0).lt (hL4 0).nF (fun h=>by omega)).trans hz
 have hL5:=fun i=>(hL4 i).aV hs5
 have hs05:=hs04.trans hs5 (fun k j _ h=>⟨h.1,by omega,by omega⟩)
 have hY5:u6 w5 (c.a5 v).1 y v.hi F5 g:=(aa H).2.2.1.aV hs05 (fun k i _ h=>h.1) (aa HR).2.2.2.2.2.2
 have hO5':=hO5.of (aa HR).2.2.2.2.2.1 hs04.size
 have HHI:=ae (yh (c.a5 v).1 y v.hi cb b g (o+6) F5 E w5 hC5 (oth5 6 (by decide) _ i6) hY5 (hL5 _) (CS.room_le (aa HR).2.2.2.2.1 (by decide)))
 have H5:=ae (And.intro (oth5 0 (by decide) _ i0) (And.intro (oth5 1 (by decide) _ i1) (And.intro (oth5 2 (by decide) _ i2) (And.intro (oth5 3 (by decide) _ i3) (And.intro (oth5 4 (by decide) _ i4) (And.intro hc5 (And.intro hs05 (And.intro hL5 hO5'))))))))
 clear i0 i1 i2 i3 i4 i6 hs04 hL4 oth5 hL5 hs05 hY5 hO5' hC5 hc5 hO5 hs5 H4 HFD
 go_wp2_with fail
 refine(aa HHI).mono ?_
 rintro e w6 ⟨rfl,F6,y6,hC6,hc6,hO6,hs6⟩
 obtain⟨i0,i1,i2,i3,i4,i5,hs05,hL5,hO5⟩:=aa H5
 have oth6:∀ i,i≠6→∀ z,w5.cell? ⟨g,o+i,none⟩=some z→w6.cell? ⟨g,o+i,none⟩=some z:=fun i hi z hz=>(hs6.oth g (o+i) (hL5 0).lt (hL5 0).nF (fun h=>by omega)).trans hz
 have HE:Hid (Cd w6 cb b F6 (c.bF v).1 E∧x6 w6 g o (c.bF v).2 x5 y6∧ks w w6 c x x5 (c.bF v).2.fs F6∧zc w w6 c y y6 (c.bF v).2.hi F6∧aw w w6 F F6 (aH g o 7)):=
  ⟨hC6,⟨oth6 0 (by decide) _ i0,oth6 1 (by decide) _ i1,oth6 2 (by decide) _ i2,oth6 3 (by decide) _ i3,oth6 4 (by decide) _ i4,oth6 5 (by decide) _ i5,hc6⟩,hO5.aV hs6 hgw (fun k j _ h=>h.1),hO6.of (aa HR).2.2.2.2.2.2 hs05.size,hs05.trans hs6 (fun k j _ h=>⟨h.1,by omega,by omega⟩)⟩
 clear i0 i1 i2 i3 i4 i5 hs05 hL5 hO5 oth6 hC6 hc6 hO6 hs6 H5 HHI
 go_wp2_with fail
 go_end0
 exact⟨rfl,F6,x5,y6,(aa HE).1,(aa HE).2.1,(aa HE).2.2.1,(aa HE).2.2.2.1,(aa HE).2.2.2.2⟩
theorem cz (x:Value) (l:List Nat) (w:World) (hx:Src w x l) (hl:l.length≤8) :
  Calls Tryz.prog 146 #[x] w fun e w'=>e = .returned (.int .u64 (val l))∧w'=w:=by
 have HX:=ae hx
 obtain⟨xo,xc,rfl⟩:=hx.form
 clear hx
 go_enter Tryz.func146,Tryz.ntmps146
 go_wp2_with fail
 go_loop [3,4] (fun x i=>∃ k:Nat,k≤l.length∧i = .int .i64 k∧x = .int .u64 (val (l.take k))) (fun _ i=>l.length - (intOf i).toNat)
 case atStart=>exact⟨0,Nat.zero_le _,rfl,rfl⟩
 case round =>
  obtain⟨k,hk,rfl,rfl⟩:=hrel
  by_cases hlt:k<l.length
  ·obtain⟨g,o,rfl,hcell⟩:=pe (aa HX) k hlt
   have hv:=gZ (l.take k)
   have hv2:val (l.take k)<72057594037927936:=by
    refine Nat.lt_of_lt_of_le hv (Nat.le_trans (Nat.pow_le_pow_right (by decide) (show(l.take k).length≤7 by simp;omega)) (by decide))
   have HE:=ae (sa (l.take k) l[k])
   generalize val (l.take k)=y at *
   go_wp2
   refine⟨⟨k+1,by omega,by go_num,?_⟩,by simp[intOf];omega⟩
   rw[List.take_add_one,List.getElem?_eq_getElem hlt,Option.toList_some,aa HE]
   congr 1
  ·go_wp2
   go_ret
   rw[List.take_of_length_le (by omega)]
   exact⟨rfl,rfl⟩
theorem BC (x:Nat):x &&& 2139095040=x / 8388608 % 256 * 8388608:=by
 have e1:(2139095040:Nat)=(2 ^ 8 - 1) * 2 ^ 23:=by decide
 have e2:x / 8388608 % 256 * 8388608=x / 2 ^ 23 % 2 ^ 8 * 2 ^ 23:=rfl
 rw[e1,e2]
 apply Nat.eq_of_testBit_eq
 intro i
 rw[Nat.testBit_and,Nat.testBit_mul_two_pow,Nat.testBit_mul_two_pow,Nat.testBit_two_pow_sub_one,Nat.testBit_mod_two_pow,Nat.testBit_div_two_pow]
 by_cases h:23≤i
 ·rw[show i - 23+23=i from by omega]
  simp[h,Bool.and_comm]
 ·simp[h]
theorem wA (x:Nat):ch x=((x / 8388608 % 256 != 255) && (x != 2147483648)):=by
 unfold ch
 rw[BC,Bool.eq_iff_iff]
 simp
 omega
theorem mO (x:Nat) (w:World) (hx:x<18446744073709551616):Calls Tryz.prog 121 #[.int .u64 x] w fun e w'=>e = .returned (.bool (ch x))∧w'=w:=by
 rw[wA]
 have hw:IntKind.u64.wrap ((x:Int) / 8388608)=((x / 8388608:Nat):Int):=by rw[IntKind.wrap_u64];omega
 by_cases h:(x:Int) / 8388608 % 256=255
 ·have h2:x / 8388608 % 256=255:=by omega
  go_enter Tryz.func121,Tryz.ntmps121
  go_wp2
  all_goals
   go_ret
   refine⟨congrArg (fun b=>Ending.returned (.bool b)) ?_,rfl⟩
   simp[h2]
 ·have h2:¬ x / 8388608 % 256=255:=by omega
  have e2:((x:Int) != 2147483648)=(x != 2147483648):=by rw[Bool.eq_iff_iff];simp;omega
  have e1:((x:Int) / 8388608 % 256 != 255)=true:=by simp[h]
  go_enter Tryz.func121,Tryz.ntmps121
  go_wp2
  all_goals
   go_ret
   refine⟨congrArg (fun b=>Ending.returned (.bool b)) ?_,rfl⟩
   simp[h2]
def bh (xo:Option Addr) (len xc:Nat) (place last:Int) (nm fw:ByteArray) (fa fy:Int):Value:=
 .agg #[.slice xo len xc,.int .i64 place,.int .i64 last,.string nm,.string fw,.int .i64 fa,.int .i64 fy]
theorem zu (xo:Option Addr) (len xc:Nat) (place last fa fy:Int) (nm fw s:ByteArray) (u:Nat) (n m:Int) (w:World) :
  Calls Tryz.prog 125 #[bh xo len xc place last nm fw fa fy,.agg #[.int .i64 10,.int .u64 u,.string s,.int .i64 n,.int .i64 m]] w fun e w'=>e = .returned (.tuple #[bh xo len xc place last s fw fa fy,.int .u64 0,.slice none 0 0])∧Fr (fun _=>False) w w':=by
 unfold bh
 go_enter Tryz.func125,Tryz.ntmps125
 go_wp2_with fail
 exact bodyPost_ret (v:=.tuple #[bh xo len xc place last s fw fa fy,.int .u64 0,.slice none 0 0]) (by simp[results,Tryz.results125,go_sem,bh]) rfl ⟨rfl,aN w _ _ _⟩
theorem rH (xo:Option Addr) (len xc:Nat) (place last fa fy:Int) (nm fw s:ByteArray) (k:Int) (u:Nat) (n m:Int) (w:World) (h10:k≠10) (hy:fy≠0) :
  Calls Tryz.prog 125 #[bh xo len xc place last nm fw fa fy,.agg #[.int .i64 k,.int .u64 u,.string s,.int .i64 n,.int .i64 m]] w fun e w'=>e = .returned (.tuple #[bh xo len xc place last nm fw fa fy,.int .u64 0,.slice none 0 0])∧Fr (fun _=>False) w w':=by
 have b10:(k == 10)=false:=by simp[h10]
 have by0:(fy != 0)=true:=by rw[bne_iff_ne];exact hy
 clear h10 hy
 unfold bh
 go_enter Tryz.func125,Tryz.ntmps125
 go_wp2_with fail
 exact bodyPost_ret (v:=.tuple #[bh xo len xc place last nm fw fa fy,.int .u64 0,.slice none 0 0]) (by simp[results,Tryz.results125,go_sem,bh]) rfl ⟨rfl,aN w _ _ _⟩
theorem zi (xo:Option Addr) (len xc:Nat) (place last fa:Int) (nm fw s:ByteArray) (u:Nat) (m:Int) (w:World) :
  Calls Tryz.prog 125 #[bh xo len xc place last nm fw fa 0,.agg #[.int .i64 9,.int .u64 u,.string s,.int .i64 0,.int .i64 m]] w fun e w'=>e = .returned (.tuple #[bh xo len xc place last nm fw fa 0,.int .u64 0,.slice none 0 0])∧Fr (fun _=>False) w w':=by
 unfold bh
 go_enter Tryz.func125,Tryz.ntmps125
 go_wp2_with fail
 exact bodyPost_ret (v:=.tuple #[bh xo len xc place last nm fw fa 0,.int .u64 0,.slice none 0 0]) (by simp[results,Tryz.results125,go_sem,bh]) rfl ⟨rfl,aN w _ _ _⟩
theorem BP (xo:Option Addr) (len xc:Nat) (place last fa:Int) (nm fw s:ByteArray) (u:Nat) (n m:Int) (w:World) (hn:n≠0) :
  Calls Tryz.prog 125 #[bh xo len xc place last nm fw fa 0,.agg #[.int .i64 9,.int .u64 u,.string s,.int .i64 n,.int .i64 m]] w fun e w'=>e = .returned (.tuple #[bh xo len xc last last nm nm last n,.int .u64 0,.slice none 0 0])∧Fr (fun _=>False) w w':=by
 have bn:(n != 0)=true:=by rw[bne_iff_ne];exact hn
 clear hn
 unfold bh
 go_enter Tryz.func125,Tryz.ntmps125
 go_wp2_with fail
 exact bodyPost_ret (v:=.tuple #[bh xo len xc last last nm nm last n,.int .u64 0,.slice none 0 0]) (by simp[results,Tryz.results125,go_sem,bh]) rfl ⟨rfl,aN w _ _ _⟩
theorem nr (xo:Option Addr) (len xc place:Nat) (last fa:Int) (nm fw s:ByteArray) (u:Nat) (n m:Int) (w:World) (hp:place≤len) (hs:len<1+place) :
  Calls Tryz.prog 125 #[bh xo len xc place last nm fw fa 0,.agg #[.int .i64 1,.int .u64 u,.string s,.int .i64 n,.int .i64 m]] w fun e w'=>e = .returned (.tuple #[bh xo len xc place last nm nm place 1,.int .u64 0,.slice none 0 0])∧Fr (fun _=>False) w w':=by
 have hw:IntKind.i64.wrap ((len:Int) - place)=(len:Int) - place:=by rw[IntKind.wrap_i64];omega
 have hd:decide ((len:Int) - place<1)=true:=by simp;omega
 unfold bh
 go_enter Tryz.func125,Tryz.ntmps125
 go_wp2_with fail
 exact bodyPost_ret (v:=.tuple #[bh xo len xc place last nm nm place 1,.int .u64 0,.slice none 0 0]) (by simp[results,Tryz.results125,go_sem,bh]) rfl ⟨rfl,aN w _ _ _⟩
theorem oe (xo:Option Addr) (len xc place:Nat) (last fa:Int) (nm fw s:ByteArray) (u:Nat) (n m:Int) (w:World) (hp:place≤len) (hs:len<2+place) :
  Calls Tryz.prog 125 #[bh xo len xc place last nm fw fa 0,.agg #[.int .i64 2,.int .u64 u,.string s,.int .i64 n,.int .i64 m]] w fun e w'=>e = .returned (.tuple #[bh xo len xc place last nm nm place 1,.int .u64 0,.slice none 0 0])∧Fr (fun _=>False) w w':=by
 have hw:IntKind.i64.wrap ((len:Int) - place)=(len:Int) - place:=by rw[IntKind.wrap_i64];omega
 have hd:decide ((len:Int) - place<2)=true:=by simp;omega
 unfold bh
 go_enter Tryz.func125,Tryz.ntmps125
 go_wp2_with fail
 exact bodyPost_ret (v:=.tuple #[bh xo len xc place last nm nm place 1,.int .u64 0,.slice none 0 0]) (by simp[results,Tryz.results125,go_sem,bh]) rfl ⟨rfl,aN w _ _ _⟩
theorem nH (xo:Option Addr) (len xc place:Nat) (last fa:Int) (nm fw s:ByteArray) (u:Nat) (n m:Int) (w:World) (hp:place≤len) (hs:len<4+place) :
  Calls Tryz.prog 125 #[bh xo len xc place last nm fw fa 0,.agg #[.int .i64 4,.int .u64 u,.string s,.int .i64 n,.int .i64 m]] w fun e w'=>e = .returned (.tuple #[bh xo len xc place last nm nm place 1,.int .u64 0,.slice none 0 0])∧Fr (fun _=>False) w w':=by
 have hw:IntKind.i64.wrap ((len:Int) - place)=(len:Int) - place:=by rw[IntKind.wrap_i64];omega
 have hd:decide ((len:Int) - place<4)=true:=by simp;omega
 unfold bh
 go_enter Tryz.func125,Tryz.ntmps125
 go_wp2_with fail
 exact bodyPost_ret (v:=.tuple #[bh xo len xc place last nm nm place 1,.int .u64 0,.slice none 0 0]) (by simp[results,Tryz.results125,go_sem,bh]) rfl ⟨rfl,aN w _ _ _⟩
theorem nw (xo:Option Addr) (len xc place:Nat) (last fa:Int) (nm fw s:ByteArray) (u:Nat) (n m:Int) (w:World) (hp:place≤len) (hs:len<8+place) :
  Calls Tryz.prog 125 #[bh xo len xc place last nm fw fa 0,.agg #[.int .i64 8,.int .u64 u,.string s,.int .i64 n,.int .i64 m]] w fun e w'=>e = .returned (.tuple #[bh xo len xc place last nm nm place 1,.int .u64 0,.slice none 0 0])∧Fr (fun _=>False) w w':=by
 have hw:IntKind.i64.wrap ((len:Int) - place)=(len:Int) - place:=by rw[IntKind.wrap_i64];omega
 have hd:decide ((len:Int) - place<8)=true:=by simp;omega
 unfold bh
 go_enter Tryz.func125,Tryz.ntmps125
 go_wp2_with fail
 exact bodyPost_ret (v:=.tuple #[bh xo len xc place last nm nm place 1,.int .u64 0,.slice none 0 0]) (by simp[results,Tryz.results125,go_sem,bh]) rfl ⟨rfl,aN w _ _ _⟩
theorem nI (xo:Option Addr) (len xc place:Nat) (last fa:Int) (nm fw s:ByteArray) (u:Nat) (n m:Int) (w:World) (hp:place≤len) (hs:len<4+place) :
  Calls Tryz.prog 125 #[bh xo len xc place last nm fw fa 0,.agg #[.int .i64 5,.int .u64 u,.string s,.int .i64 n,.int .i64 m]] w fun e w'=>e = .returned (.tuple #[bh xo len xc place last nm nm place 1,.int .u64 0,.slice none 0 0])∧Fr (fun _=>False) w w':=by
 have hw:IntKind.i64.wrap ((len:Int) - place)=(len:Int) - place:=by rw[IntKind.wrap_i64];omega
 have hd:decide ((len:Int) - place<4)=true:=by simp;omega
 unfold bh
 go_enter Tryz.func125,Tryz.ntmps125
 go_wp2_with fail
 exact bodyPost_ret (v:=.tuple #[bh xo len xc place last nm nm place 1,.int .u64 0,.slice none 0 0]) (by simp[results,Tryz.results125,go_sem,bh]) rfl ⟨rfl,aN w _ _ _⟩
theorem nX (xo:Option Addr) (len xc place:Nat) (last fa:Int) (nm fw s:ByteArray) (u:Nat) (n m:Int) (w:World) (hp:place≤len) (hs:len<4+place) :
  Calls Tryz.prog 125 #[bh xo len xc place last nm fw fa 0,.agg #[.int .i64 6,.int .u64 u,.string s,.int .i64 n,.int .i64 m]] w fun e w'=>e = .returned (.tuple #[bh xo len xc place last nm nm place 1,.int .u64 0,.slice none 0 0])∧Fr (fun _=>False) w w':=by
 have hw:IntKind.i64.wrap ((len:Int) - place)=(len:Int) - place:=by rw[IntKind.wrap_i64];omega
 have hd:decide ((len:Int) - place<4)=true:=by simp;omega
 unfold bh
 go_enter Tryz.func125,Tryz.ntmps125
 go_wp2_with fail
 exact bodyPost_ret (v:=.tuple #[bh xo len xc place last nm nm place 1,.int .u64 0,.slice none 0 0]) (by simp[results,Tryz.results125,go_sem,bh]) rfl ⟨rfl,aN w _ _ _⟩
theorem nN (xo:Option Addr) (len xc place:Nat) (last fa:Int) (nm fw s:ByteArray) (u:Nat) (n m:Int) (w:World) (hp:place≤len) (hs:len<4+place) :
  Calls Tryz.prog 125 #[bh xo len xc place last nm fw fa 0,.agg #[.int .i64 7,.int .u64 u,.string s,.int .i64 n,.int .i64 m]] w fun e w'=>e = .returned (.tuple #[bh xo len xc place last nm nm place 1,.int .u64 0,.slice none 0 0])∧Fr (fun _=>False) w w':=by
 have hw:IntKind.i64.wrap ((len:Int) - place)=(len:Int) - place:=by rw[IntKind.wrap_i64];omega
 have hd:decide ((len:Int) - place<4)=true:=by simp;omega
 unfold bh
 go_enter Tryz.func125,Tryz.ntmps125
 go_wp2_with fail
 exact bodyPost_ret (v:=.tuple #[bh xo len xc place last nm nm place 1,.int .u64 0,.slice none 0 0]) (by simp[results,Tryz.results125,go_sem,bh]) rfl ⟨rfl,aN w _ _ _⟩
theorem fx {w:World} {xo:Option Addr} {all:List Nat} {xc place n:Nat} (hx:Src w (.slice xo all.length xc) all) (hlc:all.length≤xc) (hs:n+place≤all.length) (hn:0<n):Src w (.slice (Option.map (fun x=>x.add place) xo) n (xc - place)) ((all.drop place).take n):=by
 have h:=hx.cut place n hs hlc
 rw[if_neg (by omega)] at h
 exact h
theorem tb (xo:Option Addr) (all:List Nat) (xc place:Nat) (last fa:Int) (nm fw s:ByteArray) (u:Nat) (n m:Int) (w:World) (hx:Src w (.slice xo all.length xc) all) (hlc:all.length≤xc) (hl:all.length≤140737488355328) (hs:1+place≤all.length) :
  Calls Tryz.prog 125 #[bh xo all.length xc place last nm fw fa 0,.agg #[.int .i64 1,.int .u64 u,.string s,.int .i64 n,.int .i64 m]] w fun e w'=>e = .returned (.tuple #[bh xo all.length xc ((place+1:Nat):Int) place nm fw fa 0,.int .u64 (val ((all.drop place).take 1)),.slice none 0 0])∧Fr (fun _=>False) w w':=by
 have hw:IntKind.i64.wrap ((all.length:Int) - place)=(all.length:Int) - place:=by rw[IntKind.wrap_i64];omega
 have hd:decide ((all.length:Int) - place<1)=false:=by simp;omega
 have hcut:=fx (n:=1) hx hlc hs (by decide)
 have hlen:((all.drop place).take 1).length≤8:=by simp;omega
 generalize (all.drop place).take 1=l at *
 have HX:=ae (And.intro hcut hlen)
 clear hx hcut hlen
 generalize all.length=len at *
 unfold bh
 go_enter Tryz.func125,Tryz.ntmps125
 go_wp2_with fail
 refine(cz _ l _ ((aa HX).1.fr (aN w _ _ _) (fun _ _ _ _ _ h=>h)) (aa HX).2).mono ?_
 rintro e w' ⟨rfl,rfl⟩
 go_wp2_with fail
 exact bodyPost_ret (v:=.tuple #[bh xo len xc ((place+1:Nat):Int) place nm fw fa 0,.int .u64 (val l),.slice none 0 0]) (by simp[results,Tryz.results125,go_sem,bh]) rfl ⟨rfl,aN w _ _ _⟩
theorem vr (xo:Option Addr) (all:List Nat) (xc place:Nat) (last fa:Int) (nm fw s:ByteArray) (u:Nat) (n m:Int) (w:World) (hx:Src w (.slice xo all.length xc) all) (hlc:all.length≤xc) (hl:all.length≤140737488355328) (hs:2+place≤all.length) :
  Calls Tryz.prog 125 #[bh xo all.length xc place last nm fw fa 0,.agg #[.int .i64 2,.int .u64 u,.string s,.int .i64 n,.int .i64 m]] w fun e w'=>e = .returned (.tuple #[bh xo all.length xc ((place+2:Nat):Int) place nm fw fa 0,.int .u64 (val ((all.drop place).take 2)),.slice none 0 0])∧Fr (fun _=>False) w w':=by
 have hw:IntKind.i64.wrap ((all.length:Int) - place)=(all.length:Int) - place:=by rw[IntKind.wrap_i64];omega
 have hd:decide ((all.length:Int) - place<2)=false:=by simp;omega
 have hcut:=fx (n:=2) hx hlc hs (by decide)
 have hlen:((all.drop place).take 2).length≤8:=by simp;omega
 generalize (all.drop place).take 2=l at *
 have HX:=ae (And.intro hcut hlen)
 clear hx hcut hlen
 generalize all.length=len at *
 unfold bh
 go_enter Tryz.func125,Tryz.ntmps125
 go_wp2_with fail
 refine(cz _ l _ ((aa HX).1.fr (aN w _ _ _) (fun _ _ _ _ _ h=>h)) (aa HX).2).mono ?_
 rintro e w' ⟨rfl,rfl⟩
 go_wp2_with fail
 exact bodyPost_ret (v:=.tuple #[bh xo len xc ((place+2:Nat):Int) place nm fw fa 0,.int .u64 (val l),.slice none 0 0]) (by simp[results,Tryz.results125,go_sem,bh]) rfl ⟨rfl,aN w _ _ _⟩
theorem vj (xo:Option Addr) (all:List Nat) (xc place:Nat) (last fa:Int) (nm fw s:ByteArray) (u:Nat) (n m:Int) (w:World) (hx:Src w (.slice xo all.length xc) all) (hlc:all.length≤xc) (hl:all.length≤140737488355328) (hs:4+place≤all.length) :
  Calls Tryz.prog 125 #[bh xo all.length xc place last nm fw fa 0,.agg #[.int .i64 4,.int .u64 u,.string s,.int .i64 n,.int .i64 m]] w fun e w'=>e = .returned (.tuple #[bh xo all.length xc ((place+4:Nat):Int) place nm fw fa 0,.int .u64 (val ((all.drop place).take 4)),.slice none 0 0])∧Fr (fun _=>False) w w':=by
 have hw:IntKind.i64.wrap ((all.length:Int) - place)=(all.length:Int) - place:=by rw[IntKind.wrap_i64];omega
 have hd:decide ((all.length:Int) - place<4)=false:=by simp;omega
 have hcut:=fx (n:=4) hx hlc hs (by decide)
 have hlen:((all.drop place).take 4).length≤8:=by simp;omega
 generalize (all.drop place).take 4=l at *
 have HX:=ae (And.intro hcut hlen)
 clear hx hcut hlen
 generalize all.length=len at *
 unfold bh
 go_enter Tryz.func125,Tryz.ntmps125
 go_wp2_with fail
 refine(cz _ l _ ((aa HX).1.fr (aN w _ _ _) (fun _ _ _ _ _ h=>h)) (aa HX).2).mono ?_
 rintro e w' ⟨rfl,rfl⟩
 go_wp2_with fail
 exact bodyPost_ret (v:=.tuple #[bh xo len xc ((place+4:Nat):Int) place nm fw fa 0,.int .u64 (val l),.slice none 0 0]) (by simp[results,Tryz.results125,go_sem,bh]) rfl ⟨rfl,aN w _ _ _⟩
theorem vd (xo:Option Addr) (all:List Nat) (xc place:Nat) (last fa:Int) (nm fw s:ByteArray) (u:Nat) (n m:Int) (w:World) (hx:Src w (.slice xo all.length xc) all) (hlc:all.length≤xc) (hl:all.length≤140737488355328) (hs:8+place≤all.length) :
  Calls Tryz.prog 125 #[bh xo all.length xc place last nm fw fa 0,.agg #[.int .i64 8,.int .u64 u,.string s,.int .i64 n,.int .i64 m]] w fun e w'=>e = .returned (.tuple #[bh xo all.length xc ((place+8:Nat):Int) place nm fw fa 0,.int .u64 (val ((all.drop place).take 8)),.slice none 0 0])∧Fr (fun _=>False) w w':=by
 have hw:IntKind.i64.wrap ((all.length:Int) - place)=(all.length:Int) - place:=by rw[IntKind.wrap_i64];omega
 have hd:decide ((all.length:Int) - place<8)=false:=by simp;omega
 have hcut:=fx (n:=8) hx hlc hs (by decide)
 have hlen:((all.drop place).take 8).length≤8:=by simp;omega
 generalize (all.drop place).take 8=l at *
 have HX:=ae (And.intro hcut hlen)
 clear hx hcut hlen
 generalize all.length=len at *
 unfold bh
 go_enter Tryz.func125,Tryz.ntmps125
 go_wp2_with fail
 refine(cz _ l _ ((aa HX).1.fr (aN w _ _ _) (fun _ _ _ _ _ h=>h)) (aa HX).2).mono ?_
 rintro e w' ⟨rfl,rfl⟩
 go_wp2_with fail
 exact bodyPost_ret (v:=.tuple #[bh xo len xc ((place+8:Nat):Int) place nm fw fa 0,.int .u64 (val l),.slice none 0 0]) (by simp[results,Tryz.results125,go_sem,bh]) rfl ⟨rfl,aN w _ _ _⟩
theorem vT (all:List Nat) (place:Nat):val ((all.drop place).take 4)<4294967296:=by
 have h1:=gZ ((all.drop place).take 4)
 have h2:((all.drop place).take 4).length≤4:=by simp;omega
 exact Nat.lt_of_lt_of_le h1 (Nat.le_trans (Nat.pow_le_pow_right (by decide) h2) (by decide))
theorem tF (xo:Option Addr) (all:List Nat) (xc place:Nat) (last fa:Int) (nm fw s:ByteArray) (u:Nat) (n m:Int) (w:World) (hx:Src w (.slice xo all.length xc) all) (hlc:all.length≤xc) (hl:all.length≤140737488355328) (hs:4+place≤all.length) (hq:ch (val ((all.drop place).take 4))=true) :
  Calls Tryz.prog 125 #[bh xo all.length xc place last nm fw fa 0,.agg #[.int .i64 5,.int .u64 u,.string s,.int .i64 n,.int .i64 m]] w fun e w'=>e = .returned (.tuple #[bh xo all.length xc ((place+4:Nat):Int) place nm fw fa 0,.int .u64 (val ((all.drop place).take 4)),.slice none 0 0])∧Fr (fun _=>False) w w':=by
 have hw:IntKind.i64.wrap ((all.length:Int) - place)=(all.length:Int) - place:=by rw[IntKind.wrap_i64];omega
 have hd:decide ((all.length:Int) - place<4)=false:=by simp;omega
 have hcut:=fx (n:=4) hx hlc hs (by decide)
 have hlen:((all.drop place).take 4).length≤8:=by simp;omega
 have hv:=vT all place
 generalize (all.drop place).take 4=l at *
 have HX:=ae (And.intro hcut (And.intro hlen (And.intro hq hv)))
 clear hx hcut hlen hq
 generalize all.length=len at *
 unfold bh
 go_enter Tryz.func125,Tryz.ntmps125
 go_wp2_with fail
 refine(cz _ l _ ((aa HX).1.fr (aN w _ _ _) (fun _ _ _ _ _ h=>h)) (aa HX).2.1).mono ?_
 rintro e w' ⟨rfl,rfl⟩
 go_wp2_with fail
 refine(mO (val l) _ (by omega)).mono ?_
 rintro e w' ⟨rfl,rfl⟩
 rw[(aa HX).2.2.1]
 go_wp2_with fail
 exact bodyPost_ret (v:=.tuple #[bh xo len xc ((place+4:Nat):Int) place nm fw fa 0,.int .u64 (val l),.slice none 0 0]) (by simp[results,Tryz.results125,go_sem,bh]) rfl ⟨rfl,aN w _ _ _⟩
theorem sF (xo:Option Addr) (all:List Nat) (xc place:Nat) (last fa:Int) (nm fw s:ByteArray) (u:Nat) (n m:Int) (w:World) (hx:Src w (.slice xo all.length xc) all) (hlc:all.length≤xc) (hl:all.length≤140737488355328) (hs:4+place≤all.length) (hq:ch (val ((all.drop place).take 4))=false) :
  Calls Tryz.prog 125 #[bh xo all.length xc place last nm fw fa 0,.agg #[.int .i64 5,.int .u64 u,.string s,.int .i64 n,.int .i64 m]] w fun e w'=>e = .returned (.tuple #[bh xo all.length xc place last nm nm place 4,.int .u64 0,.slice none 0 0])∧Fr (fun _=>False) w w':=by
 have hw:IntKind.i64.wrap ((all.length:Int) - place)=(all.length:Int) - place:=by rw[IntKind.wrap_i64];omega
 have hd:decide ((all.length:Int) - place<4)=false:=by simp;omega
 have hcut:=fx (n:=4) hx hlc hs (by decide)
 have hlen:((all.drop place).take 4).length≤8:=by simp;omega
 have hv:=vT all place
 generalize (all.drop place).take 4=l at *
 have HX:=ae (And.intro hcut (And.intro hlen (And.intro hq hv)))
 clear hx hcut hlen hq
 generalize all.length=len at *
 unfold bh
 go_enter Tryz.func125,Tryz.ntmps125
 go_wp2_with fail
 refine(cz _ l _ ((aa HX).1.fr (aN w _ _ _) (fun _ _ _ _ _ h=>h)) (aa HX).2.1).mono ?_
 rintro e w' ⟨rfl,rfl⟩
 go_wp2_with fail
 refine(mO (val l) _ (by omega)).mono ?_
 rintro e w' ⟨rfl,rfl⟩
 rw[(aa HX).2.2.1]
 go_wp2_with fail
 exact bodyPost_ret (v:=.tuple #[bh xo len xc place last nm nm place 4,.int .u64 0,.slice none 0 0]) (by simp[results,Tryz.results125,go_sem,bh]) rfl ⟨rfl,aN w _ _ _⟩
theorem ph (xo:Option Addr) (all:List Nat) (xc place:Nat) (last fa:Int) (nm fw s:ByteArray) (u:Nat) (n m:Int) (w:World) (hx:Src w (.slice xo all.length xc) all) (hlc:all.length≤xc) (hl:all.length≤140737488355328) (hs:4+place≤all.length) (hm:m<9223372036854775808) (hv:m<(val ((all.drop place).take 4):Int)) :
  Calls Tryz.prog 125 #[bh xo all.length xc place last nm fw fa 0,.agg #[.int .i64 6,.int .u64 u,.string s,.int .i64 n,.int .i64 m]] w fun e w'=>e = .returned (.tuple #[bh xo all.length xc place last nm nm place 2,.int .u64 0,.slice none 0 0])∧Fr (fun _=>False) w w':=by
 have hw:IntKind.i64.wrap ((all.length:Int) - place)=(all.length:Int) - place:=by rw[IntKind.wrap_i64];omega
 have hd:decide ((all.length:Int) - place<4)=false:=by simp;omega
 have hcut:=fx (n:=4) hx hlc hs (by decide)
 have hlen:((all.drop place).take 4).length≤8:=by simp;omega
 generalize (all.drop place).take 4=l at *
 have HX:=ae (And.intro hcut hlen)
 clear hx hcut hlen
 generalize all.length=len at *
 generalize hvx:val l=x at *
 have HVX:=ae hvx
 clear hvx
 unfold bh
 by_cases h0:m<0
 ·go_enter Tryz.func125,Tryz.ntmps125
  go_wp2_with fail
  refine(cz _ l _ ((aa HX).1.fr (aN w _ _ _) (fun _ _ _ _ _ h=>h)) (aa HX).2).mono ?_
  rintro e w' ⟨rfl,rfl⟩
  rw[aa HVX]
  go_wp2_with fail
  exact bodyPost_ret (v:=.tuple #[bh xo len xc place last nm nm place 2,.int .u64 0,.slice none 0 0]) (by simp[results,Tryz.results125,go_sem,bh]) rfl ⟨rfl,aN w _ _ _⟩
 ·have hw2:IntKind.u64.wrap m=m:=by rw[IntKind.wrap_u64];omega
  have hd0:decide (m<0)=false:=by simp;omega
  have hd2:decide (m<(x:Int))=true:=by simp;omega
  go_enter Tryz.func125,Tryz.ntmps125
  go_wp2_with fail
  refine(cz _ l _ ((aa HX).1.fr (aN w _ _ _) (fun _ _ _ _ _ h=>h)) (aa HX).2).mono ?_
  rintro e w' ⟨rfl,rfl⟩
  rw[aa HVX]
  go_wp2_with fail
  exact bodyPost_ret (v:=.tuple #[bh xo len xc place last nm nm place 2,.int .u64 0,.slice none 0 0]) (by simp[results,Tryz.results125,go_sem,bh]) rfl ⟨rfl,aN w _ _ _⟩
theorem pC (xo:Option Addr) (all:List Nat) (xc place:Nat) (last fa:Int) (nm fw s:ByteArray) (u:Nat) (n m:Int) (w:World) (hx:Src w (.slice xo all.length xc) all) (hlc:all.length≤xc) (hl:all.length≤140737488355328) (hs:4+place≤all.length) (hm:m<9223372036854775808) (hv:m<(val ((all.drop place).take 4):Int)) :
  Calls Tryz.prog 125 #[bh xo all.length xc place last nm fw fa 0,.agg #[.int .i64 7,.int .u64 u,.string s,.int .i64 n,.int .i64 m]] w fun e w'=>e = .returned (.tuple #[bh xo all.length xc place last nm nm place 2,.int .u64 0,.slice none 0 0])∧Fr (fun _=>False) w w':=by
 have hw:IntKind.i64.wrap ((all.length:Int) - place)=(all.length:Int) - place:=by rw[IntKind.wrap_i64];omega
 have hd:decide ((all.length:Int) - place<4)=false:=by simp;omega
 have hcut:=fx (n:=4) hx hlc hs (by decide)
 have hlen:((all.drop place).take 4).length≤8:=by simp;omega
 generalize (all.drop place).take 4=l at *
 have HX:=ae (And.intro hcut hlen)
 clear hx hcut hlen
 generalize all.length=len at *
 generalize hvx:val l=x at *
 have HVX:=ae hvx
 clear hvx
 unfold bh
 by_cases h0:m<0
 ·go_enter Tryz.func125,Tryz.ntmps125
  go_wp2_with fail
  refine(cz _ l _ ((aa HX).1.fr (aN w _ _ _) (fun _ _ _ _ _ h=>h)) (aa HX).2).mono ?_
  rintro e w' ⟨rfl,rfl⟩
  rw[aa HVX]
  go_wp2_with fail
  exact bodyPost_ret (v:=.tuple #[bh xo len xc place last nm nm place 2,.int .u64 0,.slice none 0 0]) (by simp[results,Tryz.results125,go_sem,bh]) rfl ⟨rfl,aN w _ _ _⟩
 ·have hw2:IntKind.u64.wrap m=m:=by rw[IntKind.wrap_u64];omega
  have hd0:decide (m<0)=false:=by simp;omega
  have hd2:decide (m<(x:Int))=true:=by simp;omega
  go_enter Tryz.func125,Tryz.ntmps125
  go_wp2_with fail
  refine(cz _ l _ ((aa HX).1.fr (aN w _ _ _) (fun _ _ _ _ _ h=>h)) (aa HX).2).mono ?_
  rintro e w' ⟨rfl,rfl⟩
  rw[aa HVX]
  go_wp2_with fail
  exact bodyPost_ret (v:=.tuple #[bh xo len xc place last nm nm place 2,.int .u64 0,.slice none 0 0]) (by simp[results,Tryz.results125,go_sem,bh]) rfl ⟨rfl,aN w _ _ _⟩
theorem tK (xo:Option Addr) (all:List Nat) (xc place:Nat) (last fa:Int) (nm fw s:ByteArray) (u:Nat) (n m:Int) (w:World) (hx:Src w (.slice xo all.length xc) all) (hlc:all.length≤xc) (hl:all.length≤140737488355328) (hs:4+place≤all.length) (hm:m<9223372036854775808) (hv:(val ((all.drop place).take 4):Int)≤m) :
  Calls Tryz.prog 125 #[bh xo all.length xc place last nm fw fa 0,.agg #[.int .i64 7,.int .u64 u,.string s,.int .i64 n,.int .i64 m]] w fun e w'=>e = .returned (.tuple #[bh xo all.length xc ((place+4:Nat):Int) place nm fw fa 0,.int .u64 (val ((all.drop place).take 4)),.slice none 0 0])∧Fr (fun _=>False) w w':=by
 have hw:IntKind.i64.wrap ((all.length:Int) - place)=(all.length:Int) - place:=by rw[IntKind.wrap_i64];omega
 have hd:decide ((all.length:Int) - place<4)=false:=by simp;omega
 have hcut:=fx (n:=4) hx hlc hs (by decide)
 have hlen:((all.drop place).take 4).length≤8:=by simp;omega
 generalize (all.drop place).take 4=l at *
 have HX:=ae (And.intro hcut hlen)
 clear hx hcut hlen
 generalize all.length=len at *
 generalize hvx:val l=x at *
 have HVX:=ae hvx
 clear hvx
 unfold bh
 have hw2:IntKind.u64.wrap m=m:=by rw[IntKind.wrap_u64];omega
 have hd0:decide (m<0)=false:=by simp;omega
 have hd2:decide (m<(x:Int))=false:=by simp;omega
 go_enter Tryz.func125,Tryz.ntmps125
 go_wp2_with fail
 refine(cz _ l _ ((aa HX).1.fr (aN w _ _ _) (fun _ _ _ _ _ h=>h)) (aa HX).2).mono ?_
 rintro e w' ⟨rfl,rfl⟩
 rw[aa HVX]
 go_wp2_with fail
 exact bodyPost_ret (v:=.tuple #[bh xo len xc ((place+4:Nat):Int) place nm fw fa 0,.int .u64 x,.slice none 0 0]) (by simp[results,Tryz.results125,go_sem,bh]) rfl ⟨rfl,aN w _ _ _⟩
theorem rl (xo:Option Addr) (all:List Nat) (xc place:Nat) (last fa:Int) (nm fw s:ByteArray) (u:Nat) (n m:Int) (w:World) (hx:Src w (.slice xo all.length xc) all) (hlc:all.length≤xc) (hl:all.length≤140737488355328) (hs:4+place≤all.length) (hm:m<9223372036854775808) (hv:(val ((all.drop place).take 4):Int)≤m) (hxl:all.length<val ((all.drop place).take 4)+(place+4)) :
  Calls Tryz.prog 125 #[bh xo all.length xc place last nm fw fa 0,.agg #[.int .i64 6,.int .u64 u,.string s,.int .i64 n,.int .i64 m]] w fun e w'=>e = .returned (.tuple #[bh xo all.length xc place last nm nm place 1,.int .u64 0,.slice none 0 0])∧Fr (fun _=>False) w w':=by
 have hw:IntKind.i64.wrap ((all.length:Int) - place)=(all.length:Int) - place:=by rw[IntKind.wrap_i64];omega
 have hw3:IntKind.i64.wrap ((all.length:Int) - place - 4)=(all.length:Int) - place - 4:=by rw[IntKind.wrap_i64];omega
 have hw4:IntKind.u64.wrap ((all.length:Int) - place - 4)=(all.length:Int) - place - 4:=by rw[IntKind.wrap_u64];omega
 have hd:decide ((all.length:Int) - place<4)=false:=by simp;omega
 have hcut:=fx (n:=4) hx hlc hs (by decide)
 have hlen:((all.drop place).take 4).length≤8:=by simp;omega
 generalize (all.drop place).take 4=l at *
 have HX:=ae (And.intro hcut hlen)
 clear hx hcut hlen
 generalize all.length=len at *
 generalize hvx:val l=x at *
 have HVX:=ae hvx
 clear hvx
 unfold bh
 have hw2:IntKind.u64.wrap m=m:=by rw[IntKind.wrap_u64];omega
 have hd0:decide (m<0)=false:=by simp;omega
 have hd2:decide (m<(x:Int))=false:=by simp;omega
 have hd3:decide ((len:Int) - place - 4<x)=true:=by simp;omega
 go_enter Tryz.func125,Tryz.ntmps125
 go_wp2_with fail
 refine(cz _ l _ ((aa HX).1.fr (aN w _ _ _) (fun _ _ _ _ _ h=>h)) (aa HX).2).mono ?_
 rintro e w' ⟨rfl,rfl⟩
 rw[aa HVX]
 go_wp2_with fail
 exact bodyPost_ret (v:=.tuple #[bh xo len xc place last nm nm place 1,.int .u64 0,.slice none 0 0]) (by simp[results,Tryz.results125,go_sem,bh]) rfl ⟨rfl,aN w _ _ _⟩
theorem Dm (x:Nat) (w:World) (hx:x≤16777216):∃ w',(Instr.makeSlice 23 (.int .i64 0) (.int .i64 (x:Int))).run Tryz.prog w = .ok (.slice (some ⟨w.heap.size,0,none⟩) 0 x) w'∧w'.ownsRow w.heap.size 5 1 (.slice (some ⟨w.heap.size,0,none⟩) 0 x) 0 []∧Fr (fun _=>False) w w':=by
 have hz':(Tryz.prog.info? 5).bind (·.zero)=some (.int .u8 0):=by kernel_rfl
 have hs':(Tryz.prog.info? 5).map (·.size)=some 1:=by kernel_rfl
 have hb':(Tryz.prog.info? 5).map (·.bytes)=some 1:=by kernel_rfl
 obtain⟨i,hi,hz⟩:=Option.bind_eq_some_iff.1 hz'
 rw[hi] at hs' hb'
 have hs:i.size=1:=by simpa using hs'
 have hb:i.bytes=1:=by simpa using hb'
 obtain⟨w',hr,ho,hg⟩:=run_makeSlice_owned (P:=Tryz.prog) w w.heap.size 23 5 i (.int .u8 0) 1 Tryz.underlying23 hi hz hs .i64 .i64 x (by omega) (by rw[hb];omega) (by simp only[maxLen];omega) (Nat.le_refl _)
 exact⟨w',hr,ho,(Fr.refl _ _).grown hg (fun _ h=>by cases h)⟩
def C7 (w:World) (g:Nat) (a0 a1 a2 a3 a4 a5 a6:Value):Prop:=
 w.cell? ⟨g,0,none⟩=some a0∧w.cell? ⟨g,1,none⟩=some a1∧w.cell? ⟨g,2,none⟩=some a2∧w.cell? ⟨g,3,none⟩=some a3∧w.cell? ⟨g,4,none⟩=some a4∧w.cell? ⟨g,5,none⟩=some a5∧w.cell? ⟨g,6,none⟩=some a6∧∀ i,w.frozen? ⟨g,i,none⟩=false
theorem C7.fr {w w':World} {g:Nat} {a0 a1 a2 a3 a4 a5 a6:Value} {S:Nat→Prop} (h:C7 w g a0 a1 a2 a3 a4 a5 a6) (hf:Fr S w w') (hS:¬ S g):C7 w' g a0 a1 a2 a3 a4 a5 a6:=by
 obtain⟨h0,h1,h2,h3,h4,h5,h6,hz⟩:=h
 have hg:g<w.heap.size:=ab h0
 have key:∀ {i:Nat} {v:Value},w.cell? ⟨g,i,none⟩=some v→w'.cell? ⟨g,i,none⟩=some v:=fun h=>(hf.cell hg hS).trans h
 exact⟨key h0,key h1,key h2,key h3,key h4,key h5,key h6,fun i=>(hf.frozen hg hS).trans (hz i)⟩
theorem zm (w:World) (a0 a1 a2 a3 a4 a5 a6:Value) (t:TypeId):C7 (w.alloc (.cells #[a0,a1,a2,a3,a4,a5,a6] t)) w.heap.size a0 a1 a2 a3 a4 a5 a6:=by simp[C7]
theorem Al (w:World) (a0 a1 a2 a3 a4 a5 a6:Value) (t:TypeId) (o2 o3:Obj):C7 (((w.alloc (.cells #[a0,a1,a2,a3,a4,a5,a6] t)).alloc o2).alloc o3) w.heap.size a0 a1 a2 a3 a4 a5 a6:=(zm w a0 a1 a2 a3 a4 a5 a6 t).fr (bd _ o2 o3) (fun h=>h)
theorem zS (w:World) (o1 o2:Obj) (a0 a1 a2 a3 a4 a5 a6:Value) (t:TypeId):C7 (((w.alloc o1).alloc o2).alloc (.cells #[a0,a1,a2,a3,a4,a5,a6] t)) (w.heap.size+1+1) a0 a1 a2 a3 a4 a5 a6:=by
 have h:=zm ((w.alloc o1).alloc o2) a0 a1 a2 a3 a4 a5 a6 t
 have e:((w.alloc o1).alloc o2).heap.size=w.heap.size+1+1:=by simp
 rw[e] at h
 exact h
theorem fD {w:World} {g j:Nat} {f:Nat→Value} {v:Value} (h:∀ i,i<7→w.cell? ⟨g,i,none⟩=some (f i)) (hj:j<7):∀ i,i<7→(w.setCell ⟨g,j,none⟩ v).cell? ⟨g,i,none⟩=some (if i=j then v else f i):=fun i hi=>by
 by_cases e:i=j
 ·subst e
  rw[World.cell?_setCell_same _ _ _ (h i hi),if_pos rfl]
 ·rw[World.cell?_setCell_other _ _ _ _ (by intro h;injection h with _ h2 _;exact e h2.symm),h i hi,if_neg e]
theorem DN {w:World} {g:Nat} {o0 o1 o2 o3 o4 o5 o6:Value} (a0 a1 a2 a3 a4 a5 a6:Value) (h:C7 w g o0 o1 o2 o3 o4 o5 o6) :
  C7 (((((((w.setCell ⟨g,0,none⟩ a0).setCell ⟨g,1,none⟩ a1).setCell ⟨g,2,none⟩ a2).setCell ⟨g,3,none⟩ a3).setCell ⟨g,4,none⟩ a4).setCell ⟨g,5,none⟩ a5).setCell ⟨g,6,none⟩ a6) g a0 a1 a2 a3 a4 a5 a6 ∧
   Fr (fun k=>k=g) w (((((((w.setCell ⟨g,0,none⟩ a0).setCell ⟨g,1,none⟩ a1).setCell ⟨g,2,none⟩ a2).setCell ⟨g,3,none⟩ a3).setCell ⟨g,4,none⟩ a4).setCell ⟨g,5,none⟩ a5).setCell ⟨g,6,none⟩ a6):=by
 obtain⟨h0,h1,h2,h3,h4,h5,h6,hz⟩:=h
 have k:∀ i,i<7→w.cell? ⟨g,i,none⟩=some ([o0,o1,o2,o3,o4,o5,o6].getD i .nilIface):=fun i hi=>by
  match i,hi with
  | 0,_=>exact h0
  | 1,_=>exact h1
  | 2,_=>exact h2
  | 3,_=>exact h3
  | 4,_=>exact h4
  | 5,_=>exact h5
  | 6,_=>exact h6
 have q:=fD (v:=a6) (j:=6) (fD (v:=a5) (j:=5) (fD (v:=a4) (j:=4) (fD (v:=a3) (j:=3) (fD (v:=a2) (j:=2) (fD (v:=a1) (j:=1) (fD (v:=a0) (j:=0) k (by decide)) (by decide)) (by decide)) (by decide)) (by decide)) (by decide)) (by decide)
 refine⟨⟨q 0 (by decide),q 1 (by decide),q 2 (by decide),q 3 (by decide),q 4 (by decide),q 5 (by decide),q 6 (by decide),fun i=>by simp only[World.frozen?_setCell];exact hz i⟩,?_⟩
 have s:∀ {a b:World} {p:Addr} (v:Value),p.block=g→Fr (fun k=>k=g) a b→Fr (fun k=>k=g) a (b.setCell p v):=fun v hp hf=>Fr.setCell hf (.inl hp) v
 exact s _ rfl (s _ rfl (s _ rfl (s _ rfl (s _ rfl (s _ rfl (s _ rfl (Fr.refl _ _)))))))
theorem yV {w w2:World} {xo ao:Option Addr} {len xc place x ac:Nat} {nm fw:ByteArray} {fa:Int} {l2:List Nat} {b0 b1 b2 b3 b4 b5 b6:Value} (hC:C7 w2 (w.heap.size+1+1) b0 b1 b2 b3 b4 b5 b6)
  (hO:Src w2 (.slice ao x ac) l2∧∀ g o m c,(Value.slice ao x ac) = .slice (some ⟨g,o,none⟩) m c→w.heap.size+1+1+1≤g) (hF0:Fr (fun _=>False) w w2) :
  ∃ W9,W9=(((((((((w2.setCell ⟨w.heap.size,2,none⟩ (.int .i64 place)).setCell ⟨w.heap.size,1,none⟩ (.int .i64 ((place:Int)+4+x))).setCell ⟨w.heap.size+1+1,0,none⟩ (.slice xo len xc)).setCell ⟨w.heap.size+1+1,1,none⟩ (.int .i64 ((place:Int)+4+x))).setCell ⟨w.heap.size+1+1,2,none⟩ (.int .i64 place)).setCell ⟨w.heap.size+1+1,3,none⟩ (.string nm)).setCell ⟨w.heap.size+1+1,4,none⟩ (.string fw)).setCell ⟨w.heap.size+1+1,5,none⟩ (.int .i64 fa)).setCell ⟨w.heap.size+1+1,6,none⟩ (.int .i64 0)) ∧
   W9.cell? ⟨w.heap.size+1+1,0,none⟩=some (.slice xo len xc)∧W9.cell? ⟨w.heap.size+1+1,1,none⟩=some (.int .i64 ((place:Int)+4+x))∧W9.cell? ⟨w.heap.size+1+1,2,none⟩=some (.int .i64 place)∧W9.cell? ⟨w.heap.size+1+1,3,none⟩=some (.string nm)∧W9.cell? ⟨w.heap.size+1+1,4,none⟩=some (.string fw)∧W9.cell? ⟨w.heap.size+1+1,5,none⟩=some (.int .i64 fa)∧W9.cell? ⟨w.heap.size+1+1,6,none⟩=some (.int .i64 0)∧Src W9 (.slice ao x ac) l2∧Fr (fun _=>False) w W9:=by
 have hF:Fr (fun k=>k=w.heap.size) w2 ((w2.setCell ⟨w.heap.size,2,none⟩ (.int .i64 place)).setCell ⟨w.heap.size,1,none⟩ (.int .i64 ((place:Int)+4+x))):=Fr.setCell (S:=fun k=>k=w.heap.size) (Fr.setCell (S:=fun k=>k=w.heap.size) (Fr.refl _ _) (.inl rfl) _) (.inl rfl) _
 obtain⟨⟨q0,q1,q2,q3,q4,q5,q6,qz⟩,hF2⟩:=DN (.slice xo len xc) (.int .i64 ((place:Int)+4+x)) (.int .i64 place) (.string nm) (.string fw) (.int .i64 fa) (.int .i64 0) (hC.fr hF (by show ¬ w.heap.size+1+1=w.heap.size;omega))
 refine⟨_,rfl,q0,q1,q2,q3,q4,q5,q6,?_,?_⟩
 ·exact(hO.1.fr hF (fun g o m c e h=>by have h':g=w.heap.size:=h;have:=hO.2 g o m c e;omega)).fr hF2 (fun g o m c e h=>by have h':g=w.heap.size+1+1:=h;have:=hO.2 g o m c e;omega)
 ·exact(hF0.Dp hF (fun i e=>by have e':i=w.heap.size:=e;omega)).Dp hF2 (fun i e=>by have e':i=w.heap.size+1+1:=e;omega)
theorem tw (xo:Option Addr) (all:List Nat) (xc place:Nat) (last fa:Int) (nm fw s:ByteArray) (u:Nat) (n m:Int) (w:World) (hx:Src w (.slice xo all.length xc) all) (hlc:all.length≤xc) (hl:all.length≤16777216) (hs:4+place≤all.length) (hm:m<9223372036854775808) (hv:(val ((all.drop place).take 4):Int)≤m) (hxl:val ((all.drop place).take 4)+(place+4)≤all.length) :
  Calls Tryz.prog 125 #[bh xo all.length xc place last nm fw fa 0,.agg #[.int .i64 6,.int .u64 u,.string s,.int .i64 n,.int .i64 m]] w fun e w'=>∃ v,e = .returned (.tuple #[bh xo all.length xc ((place+4+val ((all.drop place).take 4):Nat):Int) place nm fw fa 0,.int .u64 0,v])∧Src w' v ((all.drop (place+4)).take (val ((all.drop place).take 4)))∧(∀ g o m c,v = .slice (some ⟨g,o,none⟩) m c→w.heap.size≤g)∧Fr (fun _=>False) w w':=by
 have hw:IntKind.i64.wrap ((all.length:Int) - place)=(all.length:Int) - place:=by rw[IntKind.wrap_i64];omega
 have hw3:IntKind.i64.wrap ((all.length:Int) - place - 4)=(all.length:Int) - place - 4:=by rw[IntKind.wrap_i64];omega
 have hw4:IntKind.u64.wrap ((all.length:Int) - place - 4)=(all.length:Int) - place - 4:=by rw[IntKind.wrap_u64];omega
 have hd:decide ((all.length:Int) - place<4)=false:=by simp;omega
 have hcut:=fx (n:=4) hx hlc hs (by decide)
 have hcut2:=hx.cut (place+4) (val ((all.drop place).take 4)) (by omega) hlc
 have hlen:((all.drop place).take 4).length≤8:=by simp;omega
 generalize (all.drop place).take 4=l at *
 generalize hvx:val l=x at *
 have HX:=ae (And.intro hcut (And.intro hlen (And.intro hcut2 hvx)))
 clear hx hcut hlen hcut2 hvx
 have hL2:((all.drop (place+4)).take x).length=x:=by simp;omega
 generalize (all.drop (place+4)).take x=l2 at *
 have HL2:=ae hL2
 clear hL2
 generalize all.length=len at *
 unfold bh
 have hw2:IntKind.u64.wrap m=m:=by rw[IntKind.wrap_u64];omega
 have hw5:IntKind.i64.wrap (x:Int)=(x:Int):=by rw[IntKind.wrap_i64];omega
 have hd0:decide (m<0)=false:=by simp;omega
 have hd2:decide (m<(x:Int))=false:=by simp;omega
 have hd3:decide ((len:Int) - place - 4<x)=false:=by simp;omega
 go_enter Tryz.func125,Tryz.ntmps125
 go_wp2_with fail
 refine(cz _ l _ ((aa HX).1.fr (aN w _ _ _) (fun _ _ _ _ _ h=>h)) (aa HX).2.1).mono ?_
 rintro e w' ⟨rfl,rfl⟩
 rw[(aa HX).2.2.2]
 obtain⟨w3,hw3⟩:∃ w3,w3=(((w.alloc (.cells #[.slice xo len xc,.int .i64 place,.int .i64 last,.string nm,.string fw,.int .i64 fa,.int .i64 0] 120)).alloc (.cells #[.int .i64 6,.int .u64 u,.string s,.int .i64 n,.int .i64 m] 235)).alloc (.cells #[.slice none 0 0,.int .i64 0,.int .i64 0,.string ⟨#[]⟩,.string ⟨#[]⟩,.int .i64 0,.int .i64 0] 120)):=⟨_,rfl⟩
 have hb3:Fr (fun _=>False) w w3:=by rw[hw3];exact aN w _ _ _
 have r3:C7 w3 w.heap.size (.slice xo len xc) (.int .i64 place) (.int .i64 last) (.string nm) (.string fw) (.int .i64 fa) (.int .i64 0):=by rw[hw3];exact Al _ _ _ _ _ _ _ _ _ _ _
 have v3:C7 w3 (w.heap.size+1+1) (.slice none 0 0) (.int .i64 0) (.int .i64 0) (.string ⟨#[]⟩) (.string ⟨#[]⟩) (.int .i64 0) (.int .i64 0):=by rw[hw3];exact zS _ _ _ _ _ _ _ _ _ _ _
 have hz3:w3.heap.size=w.heap.size+1+1+1:=by rw[hw3];simp
 obtain⟨w1,hmk,ho1,hf1⟩:=Dm x w3 (by omega)
 have r1:=r3.fr hf1 (fun h=>h)
 have hS:=(((aa HX).2.2.1.fr hb3 (fun _ _ _ _ _ h=>h)).fr hf1 (fun _ _ _ _ _ h=>h))
 obtain⟨ao,ac,w2,hr2,ho2,hg2,_⟩:=jw w1 23 w3.heap.size 0 _ _ [] l2 ho1 hS (by rw[aa HL2];omega) hf1.size
 have hf2:Fr (fun _=>False) w3 w2:=hf1.grown hg2 (fun g hg=>.inr (ho1.lt g hg).1)
 have r2:=r3.fr hf2 (fun h=>h)
 have v2:=v3.fr hf2 (fun h=>h)
 rw[aa HL2,Nat.zero_add] at hr2 ho2
 have hO:Src w2 (.slice ao x ac) l2∧∀ g o m c,(Value.slice ao x ac) = .slice (some ⟨g,o,none⟩) m c→w.heap.size+1+1+1≤g:=by
  have hl:=aa HL2
  have ho2':w2.ownsRow w3.heap.size 5 1 (.slice ao x ac) l2.length (cellsOf l2):=by rw[hl];simpa using ho2
  exact⟨iy ho2',fun g o m c e=>by have:=(ho2'.lt g (by rw[e];rfl)).1;omega⟩
 have HO:=ae (And.intro hO (hb3.trans hf2 (fun _ _ h=>h)))
 clear hO
 have HV:=ae v2
 obtain⟨a0,a1,a2,a3,a4,a5,a6,az⟩:=r1
 obtain⟨e0,e1,e2,e3,e4,e5,e6,ez⟩:=r2
 obtain⟨d0,d1,d2,d3,d4,d5,d6,dz⟩:=v2
 rw[hz3] at hmk hr2
 rw[hw3] at hmk
 have HR:=ae hr2
 clear r3 v3 hf1 ho1 hS hg2 hb3 hf2 ho2 hr2 hz3 hw3
 have ez1:=ez 1
 have ez2:=ez 2
 clear az ez
 have ex:place+4+x - (place+4)=x:=by omega
 by_cases hcp:xc=place+4
 ·subst hcp
  have HR2:Hid ((Builtin.append_ #[23,23] 23 #[.slice (some ⟨w.heap.size+1+1+1,0,none⟩) 0 x,.slice xo (place+4+x - (place+4)) (place+4 - (place+4))]).run Tryz.prog w1 = .ok (.slice ao x ac) w2):=ae (by have h:=aa HR;rw[if_pos rfl] at h;rw[ex];exact h)
  clear HR ex
  go_wp2_with (at_builtin;refine cN rfl (.tmp 155) (.tmp 167) 23 23 rfl _ _ _ rfl rfl (aa HR2) ?_)
  obtain⟨W9,hq,q0,q1,q2,q3,q4,q5,q6,hf9⟩:=yV (xo:=xo) (len:=len) (xc:=place+4) (place:=place) (x:=x) (nm:=nm) (fw:=fw) (fa:=fa) (aa HV) (aa HO).1 (aa HO).2
  rw[← hq]
  exact bodyPost_ret (v:=.tuple #[bh xo len (place+4) ((place+4+x:Nat):Int) place nm fw fa 0,.int .u64 0,.slice ao x ac]) (by simp[results,Tryz.results125,go_sem,bh,q0,q1,q2,q3,q4,q5,q6]) rfl ⟨_,rfl,by simpa[aa HL2] using hf9.1,fun g o m c e=>by have:=(aa HO).1.2 g o m c e;omega,hf9.2⟩
 ·have HR2:Hid ((Builtin.append_ #[23,23] 23 #[.slice (some ⟨w.heap.size+1+1+1,0,none⟩) 0 x,.slice (Option.map (fun x=>x.add (place+4)) xo) (place+4+x - (place+4)) (xc - (place+4))]).run Tryz.prog w1 = .ok (.slice ao x ac) w2):=ae (by have h:=aa HR;rw[if_neg hcp] at h;rw[ex];exact h)
  clear HR ex
  go_wp2_with (at_builtin;refine cN rfl (.tmp 155) (.tmp 167) 23 23 rfl _ _ _ rfl rfl (aa HR2) ?_)
  obtain⟨W9,hq,q0,q1,q2,q3,q4,q5,q6,hf9⟩:=yV (xo:=xo) (len:=len) (xc:=xc) (place:=place) (x:=x) (nm:=nm) (fw:=fw) (fa:=fa) (aa HV) (aa HO).1 (aa HO).2
  rw[← hq]
  exact bodyPost_ret (v:=.tuple #[bh xo len xc ((place+4+x:Nat):Int) place nm fw fa 0,.int .u64 0,.slice ao x ac]) (by simp[results,Tryz.results125,go_sem,bh,q0,q1,q2,q3,q4,q5,q6]) rfl ⟨_,rfl,by simpa[aa HL2] using hf9.1,fun g o m c e=>by have:=(aa HO).1.2 g o m c e;omega,hf9.2⟩
def eD (x:Option (ByteArray × Nat × Nat)):ByteArray × Nat × Nat:=match x with
 | none=>(⟨#[]⟩,0,0)
 | some y=>y
def Q.ref (q:Q) (xo:Option Addr) (xc last:Nat):Value:=bh xo q.all.length xc q.at_ last q.nm (eD q.f).1 ((eD q.f).2.1:Nat) ((eD q.f).2.2:Nat)
theorem rU (xo:Option Addr) (len xc place:Nat) (last fa:Int) (nm fw:ByteArray) (w:World) (h:place<len) :
  Calls Tryz.prog 106 #[bh xo len xc place last nm fw fa 0] w fun e w'=>e = .returned (.agg #[.string nm,.int .i64 place,.int .i64 3])∧Fr (fun _=>False) w w':=by
 unfold bh
 go_enter Tryz.func106,Tryz.ntmps106
 go_wp2_with fail
 exact bodyPost_ret (v:=.agg #[.string nm,.int .i64 place,.int .i64 3]) (by simp[results,Tryz.results106,go_sem]) rfl ⟨rfl,bd w _ _⟩
theorem wM (xo:Option Addr) (len xc place:Nat) (last fa:Int) (nm fw:ByteArray) (w:World) (h:len≤place) :
  Calls Tryz.prog 106 #[bh xo len xc place last nm fw fa 0] w fun e w'=>e = .returned (.agg #[.string fw,.int .i64 fa,.int .i64 0])∧Fr (fun _=>False) w w':=by
 unfold bh
 go_enter Tryz.func106,Tryz.ntmps106
 go_wp2_with fail
 exact bodyPost_ret (v:=.agg #[.string fw,.int .i64 fa,.int .i64 0]) (by simp[results,Tryz.results106,go_sem]) rfl ⟨rfl,bd w _ _⟩
theorem rp (xo:Option Addr) (len xc:Nat) (place last fa fy:Int) (nm fw:ByteArray) (w:World) (h:fy≠0) :
  Calls Tryz.prog 106 #[bh xo len xc place last nm fw fa fy] w fun e w'=>e = .returned (.agg #[.string fw,.int .i64 fa,.int .i64 fy])∧Fr (fun _=>False) w w':=by
 have hy:(fy == 0)=false:=by simp[h]
 clear h
 unfold bh
 go_enter Tryz.func106,Tryz.ntmps106
 go_wp2_with fail
 exact bodyPost_ret (v:=.agg #[.string fw,.int .i64 fa,.int .i64 fy]) (by simp[results,Tryz.results106,go_sem]) rfl ⟨rfl,bd w _ _⟩
def Q.ended (q:Q):ByteArray × Nat × Nat:=if q.f=none∧q.place<q.all.length then (q.nm,q.place,3) else eD q.f
theorem wB (q:Q) (xo:Option Addr) (xc last:Nat) (w:World) (hq:q.ok) :
  Calls Tryz.prog 106 #[q.ref xo xc last] w fun e w'=>e = .returned (.agg #[.string q.ended.1,.int .i64 (q.ended.2.1:Nat),.int .i64 (q.ended.2.2:Nat)])∧Fr (fun _=>False) w w':=by
 obtain⟨nm,all,place,part,f⟩:=q
 cases f with
 | none =>
  by_cases h:place<all.length
  ·rw[Q.ended,if_pos ⟨rfl,h⟩]
   exact rU xo all.length xc place last 0 nm ⟨#[]⟩ w h
  ·rw[Q.ended,if_neg (fun x=>h x.2)]
   exact wM xo all.length xc place last 0 nm ⟨#[]⟩ w (by omega)
 | some y =>
  have h1:=(hq.f y rfl).2.1
  rw[Q.ended,if_neg (fun x=>by cases x.1)]
  exact rp xo all.length xc y.2.1 last y.2.1 y.2.2 nm y.1 w (by omega)
theorem oH (q:Q) (p:Pt) (xo:Option Addr) (xc last:Nat) (w:World) (hq:q.ok) (hx:Src w (.slice xo q.all.length xc) q.all) (hlc:q.all.length≤xc) (hl:q.all.length≤16777216) (hk:p.k∈kinds) (h9:p.k=9→0≤p.n∧p.n≤7) (hm:p.m<9223372036854775808) (hla:q.f=none→last=q.part) :
  Calls Tryz.prog 125 #[q.ref xo xc last,.agg #[.int .i64 p.k,.int .u64 p.u,.string p.s,.int .i64 p.n,.int .i64 p.m]] w fun e w'=>∃ last' v,e = .returned (.tuple #[(q.step p).1.ref xo xc last',.int .u64 (q.step p).2.1,v])∧Src w' v (q.step p).2.2∧(∀ g o m c,v = .slice (some ⟨g,o,none⟩) m c→w.heap.size≤g)∧((q.step p).1.f=none→last'=(q.step p).1.part)∧Fr (fun _=>False) w w':=by
 obtain⟨k,u,s,n,m⟩:=p
 obtain⟨nm,all,place,part,f⟩:=q
 simp only at hx hlc hl hk h9 hm hla
 have hpl:=hq.place
 simp only at hpl
 have src0:∀ w',Src w' (.slice none 0 0) []:=fun _=>.inl ⟨rfl,rfl⟩
 have loc0:∀ g o m c,(Value.slice none 0 0) = .slice (some ⟨g,o,none⟩) m c→w.heap.size≤g:=fun _ _ _ _ h=>by cases h
 by_cases h10:k=10
 ·subst h10
  refine(zu xo all.length xc _ last _ _ nm (eD f).1 s u n m w).mono ?_
  rintro e w' ⟨rfl,hf⟩
  refine⟨last,.slice none 0 0,?_,src0 _,loc0,hla,hf⟩
  cases f <;> rfl
 cases f with
 | some y =>
  have h1:=(hq.f y rfl).2.1
  have es:Q.step ⟨nm,all,place,part,some y⟩ ⟨k,u,s,n,m⟩=(⟨nm,all,place,part,some y⟩,0,[]):=by simp[Q.step,h10]
  rw[es]
  refine(rH xo all.length xc y.2.1 last y.2.1 y.2.2 nm y.1 s k u n m w h10 (by omega)).mono ?_
  rintro e w' ⟨rfl,hf⟩
  exact⟨last,.slice none 0 0,rfl,src0 _,loc0,(fun h=>by cases h),hf⟩
 | none =>
  obtain rfl:=hla rfl
  have fin:∀ (q2:Q) (v:Nat),q2.f=none→q2.part=place→∀ (e:Ending) (w':World),(e = .returned (.tuple #[q2.ref xo xc place,.int .u64 v,.slice none 0 0])∧Fr (fun _=>False) w w')→∃ last' v',e = .returned (.tuple #[q2.ref xo xc last',.int .u64 v,v'])∧Src w' v' []∧(∀ g o m c,v' = .slice (some ⟨g,o,none⟩) m c→w.heap.size≤g)∧(q2.f=none→last'=q2.part)∧Fr (fun _=>False) w w':=
   fun q2 v h1 h2 e w' ⟨he,hf⟩=>⟨place,_,he,src0 _,loc0,fun _=>h2.symm,hf⟩
  have bad:∀ (q2:Q),q2.f≠none→∀ (e:Ending) (w':World),(e = .returned (.tuple #[q2.ref xo xc last,.int .u64 0,.slice none 0 0])∧Fr (fun _=>False) w w')→∃ last' v',e = .returned (.tuple #[q2.ref xo xc last',.int .u64 (0:Nat),v'])∧Src w' v' []∧(∀ g o m c,v' = .slice (some ⟨g,o,none⟩) m c→w.heap.size≤g)∧(q2.f=none→last'=q2.part)∧Fr (fun _=>False) w w':=
   fun q2 h1 e w' ⟨he,hf⟩=>⟨last,_,he,src0 _,loc0,fun h=>absurd h h1,hf⟩
  by_cases hk9:k=9
  ·subst hk9
   by_cases hn:n=0
   ·subst hn
    have es:Q.step ⟨nm,all,place,last,none⟩ ⟨9,u,s,0,m⟩=(⟨nm,all,place,last,none⟩,0,[]):=by simp[Q.step]
    rw[es]
    refine(zi xo all.length xc place last 0 nm ⟨#[]⟩ s u m w).mono ?_
    rintro e w' ⟨rfl,hf⟩
    exact⟨last,_,rfl,src0 _,loc0,fun _=>rfl,hf⟩
   ·have es:Q.step ⟨nm,all,place,last,none⟩ ⟨9,u,s,n,m⟩=(⟨nm,all,place,last,some (nm,last,n.toNat)⟩,0,[]):=by simp[Q.step,hn]
    rw[es]
    obtain⟨n',rfl⟩:=Int.eq_ofNat_of_zero_le (h9 rfl).1
    rw[Int.toNat_natCast]
    exact(BP xo all.length xc place last 0 nm ⟨#[]⟩ s u n' m w hn).mono (bad ⟨nm,all,place,last,some (nm,last,n')⟩ (by simp))
  simp only[kinds,List.mem_cons,List.not_mem_nil,or_false] at hk
  have hk':k=1∨k=2∨k=4∨k=8∨k=5∨k=6∨k=7:=by omega
  clear hk h9 h10 hk9
  rcases hk' with rfl|rfl|rfl|rfl|rfl|rfl|rfl
  ·by_cases hs:all.length<1+place
   ·have es:Q.step ⟨nm,all,place,last,none⟩ ⟨1,u,s,n,m⟩=(⟨nm,all,place,last,some (nm,place,1)⟩,0,[]):=by simp[Q.step,wid,Q.fail,hs]
    rw[es]
    exact(nr xo all.length xc place last 0 nm ⟨#[]⟩ s u n m w hpl hs).mono (bad ⟨nm,all,place,last,some (nm,place,1)⟩ (by simp))
   ·have es:Q.step ⟨nm,all,place,last,none⟩ ⟨1,u,s,n,m⟩=(⟨nm,all,place+1,place,none⟩,val ((all.drop place).take 1),[]):=by simp[Q.step,wid,Q.num,hs]
    rw[es]
    exact(tb xo all xc place last 0 nm ⟨#[]⟩ s u n m w hx hlc (by omega) (by omega)).mono (fin ⟨nm,all,place+1,place,none⟩ _ rfl rfl)
  ·by_cases hs:all.length<2+place
   ·have es:Q.step ⟨nm,all,place,last,none⟩ ⟨2,u,s,n,m⟩=(⟨nm,all,place,last,some (nm,place,1)⟩,0,[]):=by simp[Q.step,wid,Q.fail,hs]
    rw[es]
    exact(oe xo all.length xc place last 0 nm ⟨#[]⟩ s u n m w hpl hs).mono (bad ⟨nm,all,place,last,some (nm,place,1)⟩ (by simp))
   ·have es:Q.step ⟨nm,all,place,last,none⟩ ⟨2,u,s,n,m⟩=(⟨nm,all,place+2,place,none⟩,val ((all.drop place).take 2),[]):=by simp[Q.step,wid,Q.num,hs]
    rw[es]
    exact(vr xo all xc place last 0 nm ⟨#[]⟩ s u n m w hx hlc (by omega) (by omega)).mono (fin ⟨nm,all,place+2,place,none⟩ _ rfl rfl)
  ·by_cases hs:all.length<4+place
   ·have es:Q.step ⟨nm,all,place,last,none⟩ ⟨4,u,s,n,m⟩=(⟨nm,all,place,last,some (nm,place,1)⟩,0,[]):=by simp[Q.step,wid,Q.fail,hs]
    rw[es]
    exact(nH xo all.length xc place last 0 nm ⟨#[]⟩ s u n m w hpl hs).mono (bad ⟨nm,all,place,last,some (nm,place,1)⟩ (by simp))
   ·have es:Q.step ⟨nm,all,place,last,none⟩ ⟨4,u,s,n,m⟩=(⟨nm,all,place+4,place,none⟩,val ((all.drop place).take 4),[]):=by simp[Q.step,wid,Q.num,hs]
    rw[es]
    exact(vj xo all xc place last 0 nm ⟨#[]⟩ s u n m w hx hlc (by omega) (by omega)).mono (fin ⟨nm,all,place+4,place,none⟩ _ rfl rfl)
  ·by_cases hs:all.length<8+place
   ·have es:Q.step ⟨nm,all,place,last,none⟩ ⟨8,u,s,n,m⟩=(⟨nm,all,place,last,some (nm,place,1)⟩,0,[]):=by simp[Q.step,wid,Q.fail,hs]
    rw[es]
    exact(nw xo all.length xc place last 0 nm ⟨#[]⟩ s u n m w hpl hs).mono (bad ⟨nm,all,place,last,some (nm,place,1)⟩ (by simp))
   ·have es:Q.step ⟨nm,all,place,last,none⟩ ⟨8,u,s,n,m⟩=(⟨nm,all,place+8,place,none⟩,val ((all.drop place).take 8),[]):=by simp[Q.step,wid,Q.num,hs]
    rw[es]
    exact(vd xo all xc place last 0 nm ⟨#[]⟩ s u n m w hx hlc (by omega) (by omega)).mono (fin ⟨nm,all,place+8,place,none⟩ _ rfl rfl)
  ·by_cases hs:all.length<4+place
   ·have es:Q.step ⟨nm,all,place,last,none⟩ ⟨5,u,s,n,m⟩=(⟨nm,all,place,last,some (nm,place,1)⟩,0,[]):=by simp[Q.step,wid,Q.fail,hs]
    rw[es]
    exact(nI xo all.length xc place last 0 nm ⟨#[]⟩ s u n m w hpl hs).mono (bad ⟨nm,all,place,last,some (nm,place,1)⟩ (by simp))
   cases hqb:ch (val ((all.drop place).take 4)) with
   | false =>
    have es:Q.step ⟨nm,all,place,last,none⟩ ⟨5,u,s,n,m⟩=(⟨nm,all,place,last,some (nm,place,4)⟩,0,[]):=by simp[Q.step,wid,Q.fail,Q.num,hs,hqb]
    rw[es]
    exact(sF xo all xc place last 0 nm ⟨#[]⟩ s u n m w hx hlc (by omega) (by omega) hqb).mono (bad ⟨nm,all,place,last,some (nm,place,4)⟩ (by simp))
   | true =>
    have es:Q.step ⟨nm,all,place,last,none⟩ ⟨5,u,s,n,m⟩=(⟨nm,all,place+4,place,none⟩,val ((all.drop place).take 4),[]):=by simp[Q.step,wid,Q.num,hs,hqb]
    rw[es]
    exact(tF xo all xc place last 0 nm ⟨#[]⟩ s u n m w hx hlc (by omega) (by omega) hqb).mono (fin ⟨nm,all,place+4,place,none⟩ _ rfl rfl)
  ·by_cases hs:all.length<4+place
   ·have es:Q.step ⟨nm,all,place,last,none⟩ ⟨6,u,s,n,m⟩=(⟨nm,all,place,last,some (nm,place,1)⟩,0,[]):=by simp[Q.step,wid,Q.fail,hs]
    rw[es]
    exact(nX xo all.length xc place last 0 nm ⟨#[]⟩ s u n m w hpl hs).mono (bad ⟨nm,all,place,last,some (nm,place,1)⟩ (by simp))
   by_cases hv:m<(val ((all.drop place).take 4):Int)
   ·have es:Q.step ⟨nm,all,place,last,none⟩ ⟨6,u,s,n,m⟩=(⟨nm,all,place,last,some (nm,place,2)⟩,0,[]):=by simp[Q.step,wid,Q.fail,Q.num,hs,hv]
    rw[es]
    exact(ph xo all xc place last 0 nm ⟨#[]⟩ s u n m w hx hlc (by omega) (by omega) hm hv).mono (bad ⟨nm,all,place,last,some (nm,place,2)⟩ (by simp))
   by_cases hxl:all.length<val ((all.drop place).take 4)+(place+4)
   ·have es:Q.step ⟨nm,all,place,last,none⟩ ⟨6,u,s,n,m⟩=(⟨nm,all,place,last,some (nm,place,1)⟩,0,[]):=by simp[Q.step,wid,Q.fail,Q.num,hs,hv,hxl]
    rw[es]
    exact(rl xo all xc place last 0 nm ⟨#[]⟩ s u n m w hx hlc (by omega) (by omega) hm (by omega) hxl).mono (bad ⟨nm,all,place,last,some (nm,place,1)⟩ (by simp))
   ·have es:Q.step ⟨nm,all,place,last,none⟩ ⟨6,u,s,n,m⟩=(⟨nm,all,place+4+val ((all.drop place).take 4),place,none⟩,0,(all.drop (place+4)).take (val ((all.drop place).take 4))):=by simp[Q.step,wid,Q.num,hs,hv,hxl]
    rw[es]
    refine(tw xo all xc place last 0 nm ⟨#[]⟩ s u n m w hx hlc hl (by omega) hm (by omega) (by omega)).mono ?_
    rintro e w' ⟨v,rfl,hsv,hlo,hf⟩
    exact⟨place,v,rfl,hsv,hlo,fun _=>rfl,hf⟩
  ·by_cases hs:all.length<4+place
   ·have es:Q.step ⟨nm,all,place,last,none⟩ ⟨7,u,s,n,m⟩=(⟨nm,all,place,last,some (nm,place,1)⟩,0,[]):=by simp[Q.step,wid,Q.fail,hs]
    rw[es]
    exact(nN xo all.length xc place last 0 nm ⟨#[]⟩ s u n m w hpl hs).mono (bad ⟨nm,all,place,last,some (nm,place,1)⟩ (by simp))
   by_cases hv:m<(val ((all.drop place).take 4):Int)
   ·have es:Q.step ⟨nm,all,place,last,none⟩ ⟨7,u,s,n,m⟩=(⟨nm,all,place,last,some (nm,place,2)⟩,0,[]):=by simp[Q.step,wid,Q.fail,Q.num,hs,hv]
    rw[es]
    exact(pC xo all xc place last 0 nm ⟨#[]⟩ s u n m w hx hlc (by omega) (by omega) hm hv).mono (bad ⟨nm,all,place,last,some (nm,place,2)⟩ (by simp))
   ·have es:Q.step ⟨nm,all,place,last,none⟩ ⟨7,u,s,n,m⟩=(⟨nm,all,place+4,place,none⟩,val ((all.drop place).take 4),[]):=by simp[Q.step,wid,Q.num,hs,hv]
    rw[es]
    exact(tK xo all xc place last 0 nm ⟨#[]⟩ s u n m w hx hlc (by omega) (by omega) hm (by omega)).mono (fin ⟨nm,all,place+4,place,none⟩ _ rfl rfl)
def cT (w:World) (v:Value) (x:ByteArray × Nat × Nat) (E:Nat→Addr):Prop:=
 (x.2.2=0∧v = .nilIface)∨(1≤x.2.2∧x.2.2≤7∧∃ fb,v = .iface 78 (.pointer (some ⟨fb,0,none⟩))∧w.heap[fb]?=some (aR x.1 x.2.1 (E x.2.2)))
theorem cT.fr {w w':World} {v:Value} {x:ByteArray × Nat × Nat} {E:Nat→Addr} (h:cT w v x E) (hf:Fr (fun _=>False) w w'):cT w' v x E:=by
 rcases h with h|⟨h1,h7,fb,rfl,hb⟩
 ·exact .inl h
 ·have hlt:fb<w.heap.size:=by
   rcases Nat.lt_or_ge fb w.heap.size with hx|hx
   ·exact hx
   ·rw[Array.getElem?_eq_none hx] at hb;cases hb
  exact .inr ⟨h1,h7,fb,rfl,(hf.block fb hlt (fun h=>h)).trans hb⟩
theorem rR (b:Nat) (F:Nat→Prop) (s:dS) (what:ByteArray) (place:Nat) (ea:Addr) (w:World) (h:R w b F s) (hn:s.f=some (what,place,ea)) :
  Calls Tryz.prog 86 #[.pointer (some ⟨b,0,none⟩)] w fun e w'=>∃ fa,e = .returned (.iface 78 (.pointer (some ⟨fa,0,none⟩)))∧w'.heap[fa]?=some (aR what place ea)∧Fr (fun _=>False) w w':=by
 rcases h.st with ⟨h1,_⟩|⟨what',place',ea',fb,h1,h2,h3,h4,h5,h6,h7⟩
 ·rw[hn] at h1;cases h1
 rw[hn] at h1
 obtain⟨rfl,rfl,rfl⟩:what=what'∧place=place'∧ea=ea':=by simpa using h1
 have H7:=ae h7
 clear h1 h2 h3 h5 h6 h7 h hn
 go_enter Tryz.func86,Tryz.ntmps86
 go_wp2_with fail
 go_quiet (fail)
 go_wp2_with fail
 refine(oJ b fb place what ea (w.drewN nq) (by simpa using h4) (aa H7)).mono ?_
 rintro e w' ⟨rfl,rfl⟩
 go_wp2_with fail
 go_ret
 exact⟨_,rfl,heap_alloc_new _ _,((Fr.refl _ _).drewN _).alloc _⟩
theorem fI (q:Q) (b:Nat) (F:Nat→Prop) (E:Nat→Addr) (w:World) (h:R w b F (q.dP E)) (hq:q.ok) (hg:Gl w E) :
  Calls Tryz.prog 86 #[.pointer (some ⟨b,0,none⟩)] w fun e w'=>∃ v,e = .returned v∧cT w' v q.ended E∧Fr (fun _=>False) w w':=by
 obtain⟨nm,all,place,part,f⟩:=q
 cases f with
 | none =>
  by_cases hp:place<all.length
  ·rw[Q.ended,if_pos ⟨rfl,hp⟩]
   refine(ru b F _ E w hg h rfl hp).mono ?_
   rintro e w' ⟨fb,rfl,hb,hf,_⟩
   exact⟨_,rfl,.inr ⟨(by decide:1≤3),(by decide:3≤7),fb,rfl,hb⟩,hf⟩
  ·rw[Q.ended,if_neg (fun x=>hp x.2)]
   have hple:place=all.length:=Nat.le_antisymm hq.place (by omega)
   refine(xM b F _ w h rfl hple).mono ?_
   rintro e w' ⟨rfl,hf⟩
   exact⟨_,rfl,.inl ⟨rfl,rfl⟩,hf⟩
 | some y =>
  rw[Q.ended,if_neg (fun x=>by cases x.1)]
  refine(rR b F _ y.1 y.2.1 (E y.2.2) w h rfl).mono ?_
  rintro e w' ⟨fb,rfl,hb,hf⟩
  exact⟨_,rfl,.inr ⟨(hq.f y rfl).2.1,(hq.f y rfl).2.2,fb,rfl,hb⟩,hf⟩
abbrev TS (w0:World) (g:Nat) (a0 a1 a2 a3 a4 a5 a6:Value) (w:World):Prop:=
 w.cell? ⟨g,0,none⟩=some a0∧w.cell? ⟨g,1,none⟩=some a1∧w.cell? ⟨g,2,none⟩=some a2∧w.cell? ⟨g,3,none⟩=some a3∧w.cell? ⟨g,4,none⟩=some a4∧w.cell? ⟨g,5,none⟩=some a5∧w.cell? ⟨g,6,none⟩=some a6∧Fr (fun _=>False) w0 w
theorem TS.next {w0 w w':World} {g:Nat} {a0 a1 a2 a3 a4 a5 a6:Value} (h:TS w0 g a0 a1 a2 a3 a4 a5 a6 w) (hf:Fr (fun _=>False) w w'):TS w0 g a0 a1 a2 a3 a4 a5 a6 w':=by
 obtain⟨h0,h1,h2,h3,h4,h5,h6,hF⟩:=h
 have key:∀ {i:Nat} {v:Value},w.cell? ⟨g,i,none⟩=some v→w'.cell? ⟨g,i,none⟩=some v:=fun h=>(hf.cell (ab h) (fun h=>h)).trans h
 exact⟨key h0,key h1,key h2,key h3,key h4,key h5,key h6,hF.trans hf (fun _ _ h=>h)⟩
def CS.ga (c:CS) (ps:List (List Nat)):CS × List (List Nat):=match c with
 | .wr s=>(eM (fun c v=>c.bM bl v) ((CS.wr s).cB cm (4096:Nat) (eA (4096:Nat) []) ps.length).1 (ps.take (min ps.length 4096)),ps)
 | .rd q=>bt (fun c v=>c.bM bl v) [] (min ((q.named cm).go 7 (4096:Nat)).2.1 4096) ((CS.rd q).cB cm (4096:Nat) (eA (4096:Nat) []) 0).1
theorem Bj (q:Q) (cb b g o:Nat) (F:Nat→Prop) (E:Nat→Addr) (w:World) (h:Cd w cb b F (.rd q) E) (hp:w.cell? ⟨g,o,none⟩=some (.slice none 0 0)) (hL:Loc w cb F g o) :
  Calls Tryz.prog 113 #[.pointer (some ⟨cb,0,none⟩),.pointer (some ⟨g,o,none⟩)] w fun e w'=>e = .returned (.tuple #[])∧∃ F',Cd w' cb b F' ((CS.rd q).ga []).1 E∧∃ x,w'.cell? ⟨g,o,none⟩=some x∧jm w' w.heap.size x ((CS.rd q).ga []).2 F'∧aw w w' F F' (fun k j=>k=g∧j=o):=by
 have hmf:=mf
 have hlp:=hL.lt
 have hbx:=aB w (.cells #[.pointer (some ⟨cb,0,none⟩)] 138)
 have hng:¬ F w.heap.size:=fun hx=>by have:=h.lt _ hx;omega
 have HH:Hid (∀ wx,Fr (fun _=>False) (w.alloc (.cells #[.pointer (some ⟨cb,0,none⟩)] 138)) wx→Calls Tryz.prog 142 #[.pointer (some ⟨cb,0,none⟩),.string cm,.pointer (some ⟨g,o,none⟩),.int .i64 4096,.func (.func 143) #[] #[.pointer (some ⟨w.heap.size,0,none⟩)],.slice none 0 0] wx fun e w'=>e = .returned (.tuple #[])∧(∃ F',Cd w' cb b F' ((CS.rd q).ga []).1 E∧∃ x,w'.cell? ⟨g,o,none⟩=some x∧jm w' w.heap.size x ((CS.rd q).ga []).2 F'∧aw w w' F F' (fun k j=>k=g∧j=o))∧w'.cell? ⟨w.heap.size,0,none⟩=some (.pointer (some ⟨cb,0,none⟩))):=by
  intro wx hfx
  have hf:=hbx.trans hfx (fun _ _ h=>h)
  have hcx:wx.cell? ⟨w.heap.size,0,none⟩=some (.pointer (some ⟨cb,0,none⟩)):=(hfx.cell (p:=⟨w.heap.size,0,none⟩) (by simp) (fun h=>h)).trans (by simp)
  refine(uJ q cm 4096 cb b g o w.heap.size F E wx (h.aD hf) (by decide) ((hf.cell (p:=⟨g,o,none⟩) hlp (fun h=>h)).trans hp) (hL.aD hf) hcx hng (by omega)).mono ?_
  rintro e w1 ⟨rfl,F1,hC1,x,hx,hO,hs1⟩
  exact⟨rfl,⟨F1,hC1,x,hx,hO.base hf.size,(aw.bD hf F _).trans hs1 (fun _ _ _ h=>h)⟩,(hs1.oth w.heap.size 0 (ab hcx) hng (fun h=>by omega)).trans hcx⟩
 have hS0:Fr (fun _=>False) (w.alloc (.cells #[.pointer (some ⟨cb,0,none⟩)] 138)) (w.alloc (.cells #[.pointer (some ⟨cb,0,none⟩)] 138)):=Fr.refl _ _
 have hcb:(w.alloc (.cells #[.pointer (some ⟨cb,0,none⟩)] 138)).cell? ⟨w.heap.size,0,none⟩=some (.pointer (some ⟨cb,0,none⟩)):=by simp
 clear h hL hbx hng
 go_enter Tryz.func113,Tryz.ntmps113
 go_wp2_with fail
 go_region_held3 (fun w'=>w'.cell? ⟨w.heap.size,0,none⟩=some (.pointer (some ⟨cb,0,none⟩))) (first|assumption|(simp only[World.cell?_drew,World.cell?_drewN];assumption)) (first
  | (go_at_call 142;refine((aa HH) _ (by first|assumption|exact Fr.drew (by assumption))).mono ?_;rintro e w1 ⟨rfl,h1,hc1⟩))
 have H1:=ae h1
 clear h1
 go_wp2_with fail
 go_end0
 exact⟨rfl,aa H1⟩
theorem CS.dI {c:CS} {n:Nat} (h:c.room (n+1)) (k:Nat):(c.aX k).room n:=CS.dD h _ _ _
theorem lO (c:CS) (size:Nat) (root:List Nat) (x:Value) (cb b g:Nat) (F:Nat→Prop) (E:Nat→Addr) (w:World) (h:Cd w cb b F c E) (hp0:w.cell? ⟨g,0,none⟩=some (.int .u32 (size:Nat))) (hp1:w.cell? ⟨g,1,none⟩=some x) (hB:oO w x root F g) (hL:∀ i,Loc w cb F g i) (hsz:size<4294967296) (hroom:c.room 3) :
  Calls Tryz.prog 68 #[.pointer (some ⟨cb,0,none⟩),.iface 173 (.pointer (some ⟨g,0,none⟩))] w fun e w'=>e = .returned (.tuple #[])∧∃ F',Cd w' cb b F' ((c.aX 4).dA (size,root)).1 E∧w'.cell? ⟨g,0,none⟩=some (.int .u32 (((c.aX 4).dA (size,root)).2.1:Nat))∧∃ x',w'.cell? ⟨g,1,none⟩=some x'∧BO w w' c x' ((c.aX 4).dA (size,root)).2.2 F' g∧aw w w' F F' (aH g 0 2):=by
 have t0:=Tryz.A2
 have t1:=Tryz.lp
 have t2:=Tryz.ma
 have t3:=Tryz.nG
 have HF:=ae (fB c 4 cb b F E w h (by decide) (by simp only[CS.room] at *;omega))
 have hgl:=(hL 0).lt
 have hgF:=(hL 0).nF
 have H:=ae (And.intro hB hL)
 clear h hB hL
 go_enter Tryz.func68,Tryz.ntmps68
 go_wp2_with fail
 refine(aa HF).mono ?_
 rintro e w1 ⟨rfl,F1,hC1,hs1⟩
 have HH:=ae (sG (c.aX 4) size root x cb b g 0 F1 E w1 hC1 ((hs1.oth g 0 hgl hgF (fun h=>h)).trans hp0) ((hs1.oth g 1 hgl hgF (fun h=>h)).trans hp1) ((aa H).1.aV hs1 (fun _ _ _ h=>h.elim)) (fun i=>((aa H).2 i).aV hs1) hsz (CS.dI hroom 4))
 have H1:=ae hs1
 clear hC1 hs1
 go_wp2_with fail
 refine(aa HH).mono ?_
 rintro e w2 ⟨rfl,F2,hC2,hc2,x2,hx2,ho2,hs2⟩
 have H2:=ae (And.intro hC2 (And.intro hc2 (And.intro hx2 (And.intro (ho2.mode (w0:=w) (c:=c) (aa H1).size (by rintro q rfl;exact⟨_,rfl⟩)) (((aa H1).mono (fun _ _ _ h=>h.elim)).trans hs2 (fun _ _ _ h=>h))))))
 clear hC2 hc2 hx2 ho2 hs2
 go_wp2_with fail
 go_end0
 obtain⟨a1,a2,a3,a4,a5⟩:=aa H2
 exact⟨rfl,F2,a1,a2,x2,a3,a4,a5⟩
theorem pn (c:CS) (size key:Nat) (root sig:List Nat) (x y:Value) (cb b g:Nat) (F:Nat→Prop) (E:Nat→Addr) (w:World) (h:Cd w cb b F c E) (hp0:w.cell? ⟨g,0,none⟩=some (.int .u32 (size:Nat))) (hp1:w.cell? ⟨g,1,none⟩=some x) (hp2:w.cell? ⟨g,2,none⟩=some (.int .u32 (key:Nat))) (hp3:w.cell? ⟨g,3,none⟩=some y) (hB:oO w x root F g) (hB2:oO w y sig F g) (hL:∀ i,Loc w cb F g i) (hsz:size<4294967296) (hkey:key<4294967296) (hroom:c.room 5) :
  Calls Tryz.prog 68 #[.pointer (some ⟨cb,0,none⟩),.iface 213 (.pointer (some ⟨g,0,none⟩))] w fun e w'=>e = .returned (.tuple #[])∧∃ F',Cd w' cb b F' ((c.aX 5).cu ((size,root),key,sig)).1 E∧w'.cell? ⟨g,0,none⟩=some (.int .u32 (((c.aX 5).cu ((size,root),key,sig)).2.1.1:Nat))∧w'.cell? ⟨g,2,none⟩=some (.int .u32 (((c.aX 5).cu ((size,root),key,sig)).2.2.1:Nat))∧∃ x' y',w'.cell? ⟨g,1,none⟩=some x'∧w'.cell? ⟨g,3,none⟩=some y'∧BO w w' c x' ((c.aX 5).cu ((size,root),key,sig)).2.1.2 F' g∧BO w w' c y' ((c.aX 5).cu ((size,root),key,sig)).2.2.2 F' g∧aw w w' F F' (aH g 0 4):=by
 have t0:=Tryz.wK
 have t1:=Tryz.jS
 have t2:=Tryz.kf
 have t3:=Tryz.la
 have t4:=Tryz.mK
 have HF:=ae (fB c 5 cb b F E w h (by decide) (by simp only[CS.room] at *;omega))
 have hgl:=(hL 0).lt
 have hgF:=(hL 0).nF
 have H:=ae (And.intro hB (And.intro hB2 hL))
 clear h hB hB2 hL
 go_enter Tryz.func68,Tryz.ntmps68
 go_wp2_with fail
 refine(aa HF).mono ?_
 rintro e w1 ⟨rfl,F1,hC1,hs1⟩
 have HH:=ae (uk (c.aX 5) size key root sig x y cb b g 0 F1 E w1 hC1 ((hs1.oth g 0 hgl hgF (fun h=>h)).trans hp0) ((hs1.oth g 1 hgl hgF (fun h=>h)).trans hp1) ((hs1.oth g 2 hgl hgF (fun h=>h)).trans hp2) ((hs1.oth g 3 hgl hgF (fun h=>h)).trans hp3) ((aa H).1.aV hs1 (fun _ _ _ h=>h.elim)) ((aa H).2.1.aV hs1 (fun _ _ _ h=>h.elim)) (fun i=>((aa H).2.2 i).aV hs1) hsz hkey (CS.dI hroom 5))
 have H1:=ae hs1
 clear hC1 hs1
 go_wp2_with fail
 refine(aa HH).mono ?_
 rintro e w2 ⟨rfl,F2,hC2,hc2,hd2,x2,y2,hx2,hy2,ho2,hq2,hs2⟩
 have hm:∀ q,c = .rd q→∃ q',(c.aX 5) = .rd q':=by rintro q rfl;exact⟨_,rfl⟩
 have H2:=ae (And.intro hC2 (And.intro hc2 (And.intro hd2 (And.intro hx2 (And.intro hy2 (And.intro (ho2.mode (w0:=w) (c:=c) (aa H1).size hm) (And.intro (hq2.mode (w0:=w) (c:=c) (aa H1).size hm) (((aa H1).mono (fun _ _ _ h=>h.elim)).trans hs2 (fun _ _ _ h=>h)))))))))
 clear hC2 hc2 hd2 hx2 hy2 ho2 hq2 hs2 hm
 go_wp2_with fail
 go_end0
 obtain⟨a1,a2,a3,a4,a5,a6,a7,a8⟩:=aa H2
 exact⟨rfl,F2,a1,a2,a3,x2,y2,a4,a5,a6,a7,a8⟩
theorem nj (q:Q) (cb b g:Nat) (F:Nat→Prop) (E:Nat→Addr) (w:World) (h:Cd w cb b F (.rd q) E) (hp:w.cell? ⟨g,0,none⟩=some (.slice none 0 0)) (hL:Loc w cb F g 0) :
  Calls Tryz.prog 68 #[.pointer (some ⟨cb,0,none⟩),.iface 215 (.pointer (some ⟨g,0,none⟩))] w fun e w'=>e = .returned (.tuple #[])∧∃ F',Cd w' cb b F' (((CS.rd q).aX 6).ga []).1 E∧∃ x,w'.cell? ⟨g,0,none⟩=some x∧jm w' w.heap.size x (((CS.rd q).aX 6).ga []).2 F'∧aw w w' F F' (fun k j=>k=g∧j=0):=by
 have t0:=Tryz.yZ
 have t1:=Tryz.kp
 have t2:=Tryz.ly
 have t3:=Tryz.mZ
 have t4:=Tryz.nL
 have t5:=Tryz.lz
 have HF:=ae (fB (.rd q) 6 cb b F E w h (by decide) (by simp only[CS.room,CS.len];omega))
 have hgl:=hL.lt
 have hgF:=hL.nF
 have H:=ae hL
 clear h hL
 go_enter Tryz.func68,Tryz.ntmps68
 go_wp2_with fail
 refine(aa HF).mono ?_
 rintro e w1 ⟨rfl,F1,hC1,hs1⟩
 have HH:=ae (Bj _ cb b g 0 F1 E w1 hC1 ((hs1.oth g 0 hgl hgF (fun h=>h)).trans hp) ((aa H).aV hs1))
 have H1:=ae hs1
 clear hC1 hs1
 go_wp2_with fail
 refine(aa HH).mono ?_
 rintro e w2 ⟨rfl,F2,hC2,x,hx,hO,hs2⟩
 have H2:=ae (And.intro hC2 (And.intro hx (And.intro (hO.base (aa H1).size) (((aa H1).mono (fun _ _ _ h=>h.elim)).trans hs2 (fun _ _ _ h=>h)))))
 clear hC2 hs2 hx hO
 go_wp2_with fail
 go_end0
 exact⟨rfl,F2,(aa H2).1,x,(aa H2).2.1,(aa H2).2.2.1,(aa H2).2.2.2⟩
variable {L:List Nat}
theorem gD {α:Type} (each:CS→α→CS × α) (z:α) (c:CS):∀ n,(bt each z n c).2.length=n
 | 0=>rfl
 | n+1=>by
  show((bt each z n c).2++[_]).length=n+1
  rw[List.length_append,gD each z c n];rfl
theorem CS.eR (c:CS) (k:Nat):c.sm (c.aX k):=CS.fJ _ _ _ _
theorem x6.aV {w w':World} {g o:Nat} {v:hI} {x y:Value} {F F':Nat→Prop} {P:Nat→Nat→Prop} (h:x6 w g o v x y) (hs:aw w w' F F' P) (hg:¬ F g) (hP:∀ i,i<7→¬ P g (o+i)):x6 w' g o v x y:=
 ⟨(hs.oth g o (ab h.c0) hg (hP 0 (by decide))).trans h.c0,(hs.oth g (o+1) (ab h.c0) hg (hP 1 (by decide))).trans h.c1,(hs.oth g (o+2) (ab h.c0) hg (hP 2 (by decide))).trans h.c2,(hs.oth g (o+3) (ab h.c0) hg (hP 3 (by decide))).trans h.c3,(hs.oth g (o+4) (ab h.c0) hg (hP 4 (by decide))).trans h.c4,(hs.oth g (o+5) (ab h.c0) hg (hP 5 (by decide))).trans h.c5,(hs.oth g (o+6) (ab h.c0) hg (hP 6 (by decide))).trans h.c6⟩
theorem sO.aV {w w':World} {g o:Nat} {v:iW} {x y:Value} {F F':Nat→Prop} {P:Nat→Nat→Prop} (h:sO w g o v x y) (hs:aw w w' F F' P) (hg:¬ F g) (hP:∀ i,i<13→¬ P g (o+i)):sO w' g o v x y:=
 ⟨(hs.oth g o (ab h.c0) hg (hP 0 (by decide))).trans h.c0,h.r.aV hs hg (fun i hi=>by have:=hP (1+i) (by omega);rwa [← Nat.add_assoc] at this),(hs.oth g (o+11) (ab h.c0) hg (hP 11 (by decide))).trans h.c11,(hs.oth g (o+12) (ab h.c0) hg (hP 12 (by decide))).trans h.c12⟩
theorem n5 (c:CS) (v:ed) (x:Value) (cb b g:Nat) (F:Nat→Prop) (E:Nat→Addr) (w:World) (h:Cd w cb b F c E) (hp:pG w g 0 v x) (hX:kE w c x v.fs F g) (hL:∀ i,Loc w cb F g i) (hv:v.ok) (hroom:c.room 221) :
  Calls Tryz.prog 68 #[.pointer (some ⟨cb,0,none⟩),.iface 157 (.pointer (some ⟨g,0,none⟩))] w fun e w'=>e = .returned (.tuple #[])∧∃ F' x',Cd w' cb b F' ((c.aX 1).bp v).1 E∧pG w' g 0 { ((c.aX 1).bp v).2 with fs:=v.fs } x'∧ks w w' c x x' ((c.aX 1).bp v).2.fs F'∧aw w w' F F' (aH g 0 10):=by
 have t0:=Tryz.uV
 have HF:=ae (fB c 1 cb b F E w h (by decide) (by simp only[CS.room] at *;omega))
 have hgF:=(hL 0).nF
 have hM:=c.eR 1
 have H:=ae (And.intro hp (And.intro hL hX))
 clear h hp hL hX
 go_enter Tryz.func68,Tryz.ntmps68
 go_wp2_with fail
 refine(aa HF).mono ?_
 rintro e w1 ⟨rfl,F1,hC1,hs1⟩
 have HH:=ae (gS (c.aX 1) v x cb b g 0 F1 E w1 hC1 ((aa H).1.aV hs1 hgF (fun _ _ h=>h)) ((aa H).2.2.aV (c':=c.aX 1) hs1 (fun _ _ _ h=>h.elim) hM.1 hM.2) (fun i=>((aa H).2.1 i).aV hs1) hv (CS.dI (by simp only[CS.room] at *;omega) 1))
 have H1:=ae hs1
 clear hC1 hs1
 go_wp2_with fail
 refine(aa HH).mono ?_
 rintro e w2 ⟨rfl,F2,x2,hC2,hr2,ho2,hs2⟩
 have H2:=ae (And.intro hC2 (And.intro (hr2) (And.intro (ho2.of hM (aa H1).size) (((aa H1).mono (fun _ _ _ h=>h.elim)).trans hs2 (fun _ _ _ h=>h)))))
 clear hC2 hr2 ho2 hs2
 go_wp2_with fail
 go_end0
 exact⟨rfl,F2,x2,aa H2⟩
theorem pA (c:CS) (v:hI) (x y:Value) (cb b g:Nat) (F:Nat→Prop) (E:Nat→Addr) (w:World) (h:Cd w cb b F c E) (hp:x6 w g 0 v x y) (hX:kE w c x v.fs F g) (hY:u6 w c y v.hi F g) (hL:∀ i,Loc w cb F g i) (hv:v.ok) (hroom:c.room 501) :
  Calls Tryz.prog 68 #[.pointer (some ⟨cb,0,none⟩),.iface 158 (.pointer (some ⟨g,0,none⟩))] w fun e w'=>e = .returned (.tuple #[])∧∃ F' x' y',Cd w' cb b F' ((c.aX 2).bF v).1 E∧x6 w' g 0 ((c.aX 2).bF v).2 x' y'∧ks w w' c x x' ((c.aX 2).bF v).2.fs F'∧zc w w' c y y' ((c.aX 2).bF v).2.hi F'∧aw w w' F F' (aH g 0 7):=by
 have t0:=Tryz.xq
 have t1:=Tryz.jN
 have HF:=ae (fB c 2 cb b F E w h (by decide) (by simp only[CS.room] at *;omega))
 have hgF:=(hL 0).nF
 have hM:=c.eR 2
 have H:=ae (And.intro hp (And.intro hL (And.intro hX hY)))
 clear h hp hL hX hY
 go_enter Tryz.func68,Tryz.ntmps68
 go_wp2_with fail
 refine(aa HF).mono ?_
 rintro e w1 ⟨rfl,F1,hC1,hs1⟩
 have HH:=ae (mN (c.aX 2) v x y cb b g 0 F1 E w1 hC1 ((aa H).1.aV hs1 hgF (fun _ _ h=>h)) ((aa H).2.2.1.aV (c':=c.aX 2) hs1 (fun _ _ _ h=>h.elim) hM.1 hM.2) ((aa H).2.2.2.aV (c':=c.aX 2) hs1 (fun _ _ _ h=>h.elim) hM) (fun i=>((aa H).2.1 i).aV hs1) hv (CS.dI (by simp only[CS.room] at *;omega) 2))
 have H1:=ae hs1
 clear hC1 hs1
 go_wp2_with fail
 refine(aa HH).mono ?_
 rintro e w2 ⟨rfl,F2,x2,y2,hC2,hr2,ho2,hq2,hs2⟩
 have H2:=ae (And.intro hC2 (And.intro (hr2) (And.intro (ho2.of hM (aa H1).size) (And.intro (hq2.of hM (aa H1).size) (((aa H1).mono (fun _ _ _ h=>h.elim)).trans hs2 (fun _ _ _ h=>h))))))
 clear hC2 hr2 ho2 hq2 hs2
 go_wp2_with fail
 go_end0
 exact⟨rfl,F2,x2,y2,aa H2⟩
theorem qQ (c:CS) (v:iW) (x y:Value) (cb b g:Nat) (F:Nat→Prop) (E:Nat→Addr) (w:World) (h:Cd w cb b F c E) (hp:sO w g 0 v x y) (hX:kE w c x v.rq.fs F g) (hY:oO w y v.dg F g) (hL:∀ i,Loc w cb F g i) (hv:v.ok) (hroom:c.room 231) :
  Calls Tryz.prog 68 #[.pointer (some ⟨cb,0,none⟩),.iface 210 (.pointer (some ⟨g,0,none⟩))] w fun e w'=>e = .returned (.tuple #[])∧∃ F' x' y',Cd w' cb b F' ((c.aX 3).bJ v).1 E∧sO w' g 0 { ((c.aX 3).bJ v).2 with rq:={ ((c.aX 3).bJ v).2.rq with fs:=v.rq.fs } } x' y'∧ks w w' c x x' ((c.aX 3).bJ v).2.rq.fs F'∧BO w w' c y' ((c.aX 3).bJ v).2.dg F' g∧aw w w' F F' (aH g 0 13):=by
 have t0:=Tryz.yJ
 have t1:=Tryz.ku
 have t2:=Tryz.lh
 have HF:=ae (fB c 3 cb b F E w h (by decide) (by simp only[CS.room] at *;omega))
 have hgF:=(hL 0).nF
 have hM:=c.eR 3
 have H:=ae (And.intro hp (And.intro hL (And.intro hX hY)))
 clear h hp hL hX hY
 go_enter Tryz.func68,Tryz.ntmps68
 go_wp2_with fail
 refine(aa HF).mono ?_
 rintro e w1 ⟨rfl,F1,hC1,hs1⟩
 have HH:=ae (oW (c.aX 3) v x y cb b g 0 F1 E w1 hC1 ((aa H).1.aV hs1 hgF (fun _ _ h=>h)) ((aa H).2.2.1.aV (c':=c.aX 3) hs1 (fun _ _ _ h=>h.elim) hM.1 hM.2) ((aa H).2.2.2.aV hs1 (fun _ _ _ h=>h.elim)) (fun i=>((aa H).2.1 i).aV hs1) hv (CS.dI (by simp only[CS.room] at *;omega) 3))
 have H1:=ae hs1
 clear hC1 hs1
 go_wp2_with fail
 refine(aa HH).mono ?_
 rintro e w2 ⟨rfl,F2,x2,y2,hC2,hr2,ho2,hq2,hs2⟩
 have H2:=ae (And.intro hC2 (And.intro (hr2) (And.intro (ho2.of hM (aa H1).size) (And.intro (hq2.mode (w0:=w) (c:=c) (aa H1).size (by rintro q rfl;exact⟨_,rfl⟩)) (((aa H1).mono (fun _ _ _ h=>h.elim)).trans hs2 (fun _ _ _ h=>h))))))
 clear hC2 hr2 ho2 hq2 hs2
 go_wp2_with fail
 go_end0
 exact⟨rfl,F2,x2,y2,aa H2⟩
def Wq.out (s:Wq):List Nat:=if s.f=none then s.l else []
theorem BN (s:Wq) (b:Nat) (F:Nat→Prop) (E:Nat→Addr) (w:World) (h:W w b F (s.eW E)) (hok:s.ok) (hl:s.l.length≤140737488355328) :
  Calls Tryz.prog 69 #[.pointer (some ⟨b,0,none⟩)] w fun e w'=>∃ v err,e = .returned (.tuple #[v,err])∧w'.ownsRow w.heap.size 5 1 v s.out.length (cellsOf s.out)∧cT w' err (eD s.f) E∧Fr (fun _=>False) w w':=by
 obtain⟨nm,l,f⟩:=s
 cases f with
 | none =>
  refine(yp b F _ w h rfl hl).mono ?_
  rintro e w' ⟨v,rfl,hown,hf⟩
  exact⟨v,.nilIface,rfl,hown,.inl ⟨rfl,rfl⟩,hf⟩
 | some y =>
  refine(xf b F _ y.1 y.2.1 (E y.2.2) w h rfl).mono ?_
  rintro e w' ⟨rfl,rfl⟩
  exact⟨.slice none 0 0,_,rfl,World.ownsRow_nil _ _ _ _,.inr ⟨(hok y rfl).1,(hok y rfl).2,_,rfl,heap_alloc_new _ _⟩,aB w _⟩
theorem Ay (vs:Array Value) (s':Wq) (E:Nat→Addr) (w:World) (hg:G6 w E) (hw:9≤w.heap.size)
  (hwhole:∀ w1 cb b F,Cd w1 cb b F (.wr ⟨ByteArray.empty,[],none⟩) E→(∀ (i:Nat) v,vs[i]?=some v→w1.cell? ⟨w.heap.size,i,none⟩=some v)→(∀ i,Loc w1 cb F w.heap.size i)→(∀ k,F k→w.heap.size<k)→Fr (fun _=>False) w w1→Calls Tryz.prog 68 #[.pointer (some ⟨cb,0,none⟩),.iface 173 (.pointer (some ⟨w.heap.size,0,none⟩))] w1 fun e w'=>e = .returned (.tuple #[])∧∃ F',Cd w' cb b F' (.wr s') E∧aw w1 w' F F' (fun k _=>k=w.heap.size)) (hlen:s'.l.length≤140737488355328) :
  Calls Tryz.prog 47 #[.agg vs] w fun e w'=>∃ v err,e = .returned (.tuple #[v,err])∧w'.ownsRow w.heap.size 5 1 v s'.out.length (cellsOf s'.out)∧cT w' err (eD s'.f) E∧Fr (fun _=>False) w w':=by
 have hbx:=aB w (.cells vs 25)
 have HN:=ae (oa (w.alloc (.cells vs 25)) (by simp;omega))
 have H:=ae (And.intro hg (And.intro hwhole hbx))
 clear hg hwhole hbx
 go_enter Tryz.func47,Tryz.ntmps47
 go_wp2_with fail
 refine(aa HN).mono ?_
 rintro e w1 ⟨rfl,hW1,hf1⟩
 have H1:=ae (And.intro hW1 hf1)
 clear hW1 hf1
 go_wp2_with fail
 obtain⟨W2,hW2⟩:∃ W2,w1.alloc (.cells #[.pointer (some ⟨w.heap.size+1,0,none⟩),.pointer none] 143)=W2:=⟨_,rfl⟩
 have hf12:Fr (fun _=>False) w1 W2:=by rw[← hW2];exact aB _ _
 have hs0:(w.alloc (.cells vs 25)).heap.size=w.heap.size+1:=by simp
 have hf02:Fr (fun _=>False) w W2:=((aa H).2.2.trans (aa H1).2 (fun _ _ h=>h)).trans hf12 (fun _ _ h=>h)
 have hW1:=(aa H1).1
 rw[hs0] at hW1
 have hs1:=(aa H1).2.size
 have hlt1:=hW1.lt (w.heap.size+1) rfl
 have hsz2:W2.heap.size=w1.heap.size+1:=by rw[← hW2];simp
 have hC2:Cd W2 w1.heap.size (w.heap.size+1) (fun k=>k=w.heap.size+1) (.wr ⟨ByteArray.empty,[],none⟩) E:=by
  refine⟨(aa H).1.fr hf02 (fun _ h=>h.elim),fun hx=>by omega,fun k hk=>by omega,fun k hk=>by omega,by omega,?_,?_,W.frame hW1 hf12 (fun _ _ h=>h),fun y hy=>by cases hy⟩
  ·rw[← hW2,World.cell?_alloc_at _ _ _ _ rfl];rfl
  ·rw[← hW2,World.cell?_alloc_at _ _ _ _ rfl];rfl
 have hcs:∀ (i:Nat) v,vs[i]?=some v→W2.cell? ⟨w.heap.size,i,none⟩=some v:=fun i v hv=>by
  refine(((aa H1).2.trans hf12 (fun _ _ h=>h)).cell (p:=⟨w.heap.size,i,none⟩) (by simp) (fun h=>h)).trans ?_
  rw[World.cell?_alloc_at _ _ _ _ rfl];exact hv
 have hLo:∀ i,Loc W2 w1.heap.size (fun k=>k=w.heap.size+1) w.heap.size i:=fun i =>
  ⟨(((aa H1).2.trans hf12 (fun _ _ h=>h)).frozen (p:=⟨w.heap.size,i,none⟩) (by simp) (fun h=>h)).trans (by simp),by omega,by omega,by omega,by omega⟩
 have HW:=ae ((aa H).2.1 W2 w1.heap.size (w.heap.size+1) _ hC2 hcs hLo (fun k hk=>by omega) hf02)
 have hx2:=Nat.le_of_lt hlt1
 have H2:=ae (And.intro hf02 (And.intro hsz2 hlt1))
 clear hC2 hf02 hLo hsz2 hcs hf12 hW1 hs1 hs0 hlt1 hx2
 rw[hW2]
 clear hW2
 refine(aa HW).mono ?_
 rintro e w3 ⟨rfl,F3,hC3,hs3⟩
 have h0:w3.cell? ⟨w1.heap.size,0,none⟩=some (.pointer (some ⟨w.heap.size+1,0,none⟩)):=hC3.c0
 have hl0:=ab h0
 have hf03:Fr (fun _=>False) w w3:=((aa H2).1.mono (fun _ _ h=>h)).trans hs3.fr (fun k hk hx=>by rcases hx with hx|⟨_,hx⟩ <;> omega)
 have HD:=ae (BN s' (w.heap.size+1) F3 E w3 hC3.st hC3.sL hlen)
 have H3:=ae hf03
 clear hC3 hs3 hf03
 go_wp2_with fail
 refine(aa HD).mono ?_
 rintro e w4 ⟨v,err,rfl,hown,hE,hf4⟩
 have H4:=ae (And.intro (aK hown (aa H3).size) (And.intro hE ((aa H3).trans hf4 (fun _ _ h=>h))))
 clear hown hE hf4
 go_wp2_with fail
 go_ret2
 exact⟨v,err,rfl,(aa H4).1,(aa H4).2.1,(aa H4).2.2⟩
def Q.fin (q:Q):ByteArray × Nat × Nat:=(q.named bm).ended
theorem zd (x:Value) (l:List Nat) (q':Q) (Res:World→(Nat→Prop)→Nat→Array Value→Prop) (E:Nat→Addr) (w:World) (hg:G6 w E) (hw:9≤w.heap.size) (hx:Src w x l) (hl:l.length≤140737488355328)
  (hst:∀ w2 w' F F' P g vs,Res w2 F g vs→aw w2 w' F F' P→(∀ k j,P k j→k=w.heap.size)→Res w' F' g vs)
  (hwhole:∀ w1 cb b F g,Cd w1 cb b F (.rd ⟨ByteArray.empty,l,0,0,none⟩) E→w1.cell? ⟨g,0,none⟩=some (.int .u32 0)→w1.cell? ⟨g,1,none⟩=some (.slice none 0 0)→(∀ i,Loc w1 cb F g i)→(∀ k,F k→w.heap.size<k)→w.heap.size<g→Fr (fun _=>False) w w1→Calls Tryz.prog 68 #[.pointer (some ⟨cb,0,none⟩),.iface 173 (.pointer (some ⟨g,0,none⟩))] w1 fun e w'=>e = .returned (.tuple #[])∧∃ F',Cd w' cb b F' (.rd q') E∧∃ v0 v1,w'.cell? ⟨g,0,none⟩=some v0∧w'.cell? ⟨g,1,none⟩=some v1∧(∀ v∈([v0,v1]:List Value),v.oneCell'=true)∧Res w' F' g #[v0,v1]∧aw w1 w' F F' (fun k _=>k=g)) :
  Calls Tryz.prog 48 #[x] w fun e w'=>∃ vs err,e = .returned (.tuple #[.agg vs,err])∧cT w' err q'.fin E∧(q'.fin.2.2≠0→vs = #[.int .u32 0,.slice none 0 0])∧(q'.fin.2.2=0→∃ F' g,Res w' F' g vs∧w.heap.size≤g)∧Fr (fun _=>False) w w':=by
 obtain⟨xo,xc,rfl⟩:=hx.form
 have hbx:=aB w (.cells #[.int .u32 0,.slice none 0 0] 25)
 have HN:=ae (cM _ l (w.alloc (.cells #[.int .u32 0,.slice none 0 0] 25)) (by simp;omega) (hx.fr hbx (fun _ _ _ _ _ h=>h)) hl)
 have H:=ae (And.intro hg (And.intro hst hwhole))
 have HB:=ae hbx
 clear hg hst hwhole hx hbx
 go_enter Tryz.func48,Tryz.ntmps48
 go_wp2_with fail
 refine(aa HN).mono ?_
 rintro e w1 ⟨b,F,rfl,hR1,hf1',hF1'⟩
 have hf1:Fr (fun _=>False) w w1:=(aa HB).trans hf1' (fun _ _ h=>h)
 have hF1:∀ k,F k→w.heap.size<k:=fun k hk=>by have:=hF1' k hk;simp at this;omega
 have hr0:w1.cell? ⟨w.heap.size,0,none⟩=some (.int .u32 0):=(hf1'.cell (p:=⟨w.heap.size,0,none⟩) (by simp) (fun h=>h)).trans (by simp)
 have hrz:∀ i,w1.frozen? ⟨w.heap.size,i,none⟩=false:=fun i=>(hf1'.frozen (p:=⟨w.heap.size,i,none⟩) (by simp) (fun h=>h)).trans (by simp)
 have hrb:w1.heap[w.heap.size]?=some (.cells #[.int .u32 0,.slice none 0 0] 25):=(hf1'.block w.heap.size (by simp) (fun h=>h)).trans (heap_alloc_new _ _)
 have hrl:=ab hr0
 clear hf1' hF1'
 have hbl:=hR1.lt b hR1.fb
 have H1:=ae (And.intro hR1 (And.intro hf1 hF1))
 clear hR1 hf1 hF1
 go_wp2_with fail
 obtain⟨W2,hW2⟩:∃ W2,((w1.alloc (.cells #[.pointer none,.pointer (some ⟨b,0,none⟩)] 143)).alloc (.cells #[.int .u32 0,.slice none 0 0] 25)).alloc (.cells #[.int .u32 0,.slice none 0 0] 25)=W2:=⟨_,rfl⟩
 have hf12:Fr (fun _=>False) w1 W2:=by rw[← hW2];exact aN _ _ _ _
 have HF12:=ae hf12
 have hf02:=(aa H1).2.1.trans hf12 (fun _ _ h=>h)
 have hsz2:W2.heap.size=w1.heap.size+3:=by rw[← hW2];simp
 have hC2:Cd W2 w1.heap.size b F (.rd ⟨ByteArray.empty,l,0,0,none⟩) E:=by
  have hb1:=(aa H1).1.lt
  have hw1:=(aa H1).2.1.size
  refine⟨(aa H).1.fr hf02 (fun _ h=>h.elim),fun hx=>by have:=hb1 _ hx;omega,fun k hk=>by have:=hb1 k hk;omega,(aa H1).1.lo,by omega,?_,?_,⟨(aa H1).1.frame hf12 (fun _ _ h=>h),⟨Nat.zero_le _,Nat.zero_le _,fun y hy=>by cases hy⟩,hl⟩,trivial⟩
  ·rw[← hW2,World.cell?_alloc_past _ _ _ (by simp;omega),World.cell?_alloc_past _ _ _ (by simp),World.cell?_alloc_at _ _ _ _ (by simp)];rfl
  ·rw[← hW2,World.cell?_alloc_past _ _ _ (by simp;omega),World.cell?_alloc_past _ _ _ (by simp),World.cell?_alloc_at _ _ _ _ (by simp)];rfl
 have hcs:∀ (i:Nat) v,(#[.int .u32 0,.slice none 0 0]:Array Value)[i]?=some v→W2.cell? ⟨w1.heap.size+1,i,none⟩=some v:=fun i v hv=>by
  rw[← hW2,World.cell?_alloc_past _ _ _ (by simp),World.cell?_alloc_at _ _ _ _ (by simp)];exact hv
 have hnn:∀ (i:Nat) v,(#[.int .u32 0,.slice none 0 0]:Array Value)[i]?=some v→W2.cell? ⟨w1.heap.size+1+1,i,none⟩=some v:=fun i v hv=>by
  rw[← hW2,World.cell?_alloc_at _ _ _ _ (by simp)];exact hv
 have hLo:∀ i,Loc W2 w1.heap.size F (w1.heap.size+1) i:=fun i=>by
  have hb1:=(aa H1).1.lt
  have hw1:=(aa H1).2.1.size
  exact⟨(((by rw[← hW2];exact aB _ _):Fr (fun _=>False) ((w1.alloc (.cells #[.pointer none,.pointer (some ⟨b,0,none⟩)] 143)).alloc (.cells #[.int .u32 0,.slice none 0 0] 25)) W2).frozen (p:=⟨w1.heap.size+1,i,none⟩) (by simp) (fun h=>h)).trans (by simp),by omega,fun hx=>by have:=hb1 _ hx;omega,by omega,by omega⟩
 have HW:=ae ((aa H).2.2 W2 w1.heap.size b F (w1.heap.size+1) hC2 (hcs 0 _ rfl) (hcs 1 _ rfl) hLo (aa H1).2.2 (by omega) hf02)
 have H2:=ae (And.intro hf02 (And.intro hnn hsz2))
 clear hC2 hf02 hLo hsz2 hcs hf12 hnn
 rw[hW2]
 clear hW2
 refine(aa HW).mono ?_
 rintro e w3 ⟨rfl,F3,hC3,v0,v1,hv0,hv1,hone,hRes,hs3⟩
 have hst0:∀ (a:Addr) (m:Mode) (W:World),(store a v0 m).run Tryz.prog W=stored Tryz.prog W a v0 m:=fun _ _ _=>run_store _ _ _ _ _ (hone v0 (by simp))
 have hst1:∀ (a:Addr) (m:Mode) (W:World),(store a v1 m).run Tryz.prog W=stored Tryz.prog W a v1 m:=fun _ _ _=>run_store _ _ _ _ _ (hone v1 (by simp))
 clear hone
 have h1:w3.cell? ⟨w1.heap.size,1,none⟩=some (.pointer (some ⟨b,0,none⟩)):=hC3.c1
 have hl1:=ab h1
 obtain⟨hf02,hnn,hsz2⟩:=aa H2
 have hFb:∀ k,F k→k<w1.heap.size:=(aa H1).1.lt
 have hne:∀ i,w3.cell? ⟨w1.heap.size+1+1,i,none⟩=W2.cell? ⟨w1.heap.size+1+1,i,none⟩:=fun i=>hs3.oth (w1.heap.size+1+1) i (by omega) (fun hx=>by have:=hFb _ hx;omega) (fun h=>by omega)
 have hn0:=(hne 0).trans (hnn 0 _ rfl)
 have hn1:=(hne 1).trans (hnn 1 _ rfl)
 have hrF:¬ F w.heap.size:=fun hx=>by have:=(aa H1).2.2 _ hx;omega
 have hrb3:w3.heap[w.heap.size]?=some (.cells #[.int .u32 0,.slice none 0 0] 25):=(hs3.block (by omega) hrF (fun i h=>by omega)).trans ((aa HF12).block _ hrl (fun h=>h) |>.trans hrb)
 have hf03:Fr (fun _=>False) w w3:=hf02.trans hs3.fr (fun k hk hx=>hx.elim (fun hx=>by have:=(aa H1).2.2 k hx;omega) (fun ⟨_,hx⟩=>by omega))
 have hst3:R w3 b F3 (q'.dP E)∧q'.ok∧q'.all.length≤140737488355328:=hC3.st
 have HD:=ae (bX q' bm b F3 E w3 hst3.1)
 have H3:=ae (And.intro hC3 (And.intro hs3 (And.intro hRes (And.intro hf03 (And.intro hst3.2.1 hrF)))))
 clear hC3 hs3 hRes hf03 hst3 hrF hf02 hnn hsz2 hFb hne
 go_wp2_with fail
 refine(aa HD).mono ?_
 rintro e w4 ⟨rfl,hR4,hch4⟩
 have hgF3:=(aa H3).2.1.nF (by have:=(aa H2).2.2;omega) (show ¬ F (w1.heap.size+1) from fun hx=>by have:=(aa H1).1.lt _ hx;omega)
 have hnF3:=(aa H3).2.1.nF (by have:=(aa H2).2.2;omega) (show ¬ F (w1.heap.size+1+1) from fun hx=>by have:=(aa H1).1.lt _ hx;omega)
 have hcF3:=(aa H3).1.nf
 have hv04:=(hch4.fr.cell (p:=⟨w1.heap.size+1,0,none⟩) (ab hv0) hgF3).trans hv0
 have hv14:=(hch4.fr.cell (p:=⟨w1.heap.size+1,1,none⟩) (ab hv1) hgF3).trans hv1
 have hn04:=(hch4.fr.cell (p:=⟨w1.heap.size+1+1,0,none⟩) (ab hn0) hnF3).trans hn0
 have hn14:=(hch4.fr.cell (p:=⟨w1.heap.size+1+1,1,none⟩) (ab hn1) hnF3).trans hn1
 have h14:w4.cell? ⟨w1.heap.size,1,none⟩=some (.pointer (some ⟨b,0,none⟩)):=(hch4.fr.cell (p:=⟨w1.heap.size,1,none⟩) hl1 hcF3).trans h1
 have hrb4:w4.heap[w.heap.size]?=some (.cells #[.int .u32 0,.slice none 0 0] 25):=(hch4.fr.block w.heap.size (by omega) ((aa H3).2.1.nF (by have:=(aa H2).2.2;omega) (aa H3).2.2.2.2.2)).trans hrb3
 have HE:=ae (fI (q'.named bm) b F3 E w4 hR4 (Q.bG (aa H3).2.2.2.2.1 bm) ((aa H3).1.g7.fr hch4.fr (aa H3).1.lo).gl)
 have hs4:aw w3 w4 F3 F3 (fun _ _=>False):=aw.cX hch4 _
 have hf04:Fr (fun _=>False) w w4:=(aa H3).2.2.2.1.trans hch4.fr (fun k hk hx=>by
  rcases(aa H3).2.1.new k hx with h|h
  ·have:=(aa H1).2.2 k h;omega
  ·have:=(aa H1).2.1.size;have:=(aa H2).2.2;omega)
 have H4:=ae (And.intro hs4 hf04)
 clear hR4 hch4 hs4 hf04 hgF3 hnF3 hcF3
 go_wp2_with fail
 refine(aa HE).mono ?_
 rintro e w5 ⟨err,rfl,hEr,hf5⟩
 have hrb5:w5.heap[w.heap.size]?=some (.cells #[.int .u32 0,.slice none 0 0] 25):=(hf5.block w.heap.size (by have:=(aa H4).1.size;have:=(aa H3).2.1.size;have:=(aa H2).2.2;omega) (fun h=>h)).trans hrb4
 have hv05:=(hf5.cell (p:=⟨w1.heap.size+1,0,none⟩) (ab hv04) (fun h=>h)).trans hv04
 have hn05:=(hf5.cell (p:=⟨w1.heap.size+1+1,0,none⟩) (ab hn04) (fun h=>h)).trans hn04
 have hv15:=(hf5.cell (p:=⟨w1.heap.size+1,1,none⟩) (ab hv14) (fun h=>h)).trans hv14
 have hn15:=(hf5.cell (p:=⟨w1.heap.size+1+1,1,none⟩) (ab hn14) (fun h=>h)).trans hn14
 have hr05:w5.cell? ⟨w.heap.size,0,none⟩=some (.int .u32 0):=by simp[World.cell?,hrb5]
 have hr15:w5.cell? ⟨w.heap.size,1,none⟩=some (.slice none 0 0):=by simp[World.cell?,hrb5]
 have hrz5:∀ i,w5.frozen? ⟨w.heap.size,i,none⟩=false:=fun i=>by simp[World.frozen?,hrb5]
 have hrl5:=ab hr05
 have hlv5:=ab hv05
 have hln5:=ab hn05
 have hnr1:w1.heap.size+1≠w.heap.size:=by omega
 have hnr2:w1.heap.size+1+1≠w.heap.size:=by omega
 have hsF:∀ (i:Nat) v W,Fr (fun k=>k=w.heap.size) w5 W→Fr (fun k=>k=w.heap.size) w5 (W.setCell ⟨w.heap.size,i,none⟩ v):=fun i v W h=>h.setCell (.inl rfl) v
 have H5:=ae (And.intro hf5 (hEr))
 rcases hEr with ⟨h0,rfl⟩|⟨h1',h7,fb,rfl,hb⟩
 ·clear hf5
  go_wp2_with fail
  refine bodyPost_ret (v:=.tuple #[.agg #[v0,v1],.nilIface]) (by simp[results,Tryz.results48,go_sem,hr05,hr15]) rfl ?_
  have hfin:q'.fin.2.2=0:=h0
  refine⟨_,_,rfl,.inl ⟨hfin,rfl⟩,fun h=>absurd hfin h,fun _=>⟨F3,w1.heap.size+1,?_,by omega⟩,?_⟩
  ·have hR5:=(aa H).2.1 _ _ _ _ _ _ _ ((aa H).2.1 _ _ _ _ _ _ _ (aa H3).2.2.1 (aa H4).1 (fun _ _ h=>h.elim)) (aw.bD (aa H5).1 F3 (fun _ _=>False)) (fun _ _ h=>h.elim)
   exact(aa H).2.1 _ _ _ _ _ _ _ hR5 (((aw.refl w5 F3 (fun k _=>k=w.heap.size)).trans (aw.set w.heap.size 0 _) (fun k j _ h=>h.1)).trans (aw.set w.heap.size 1 _) (fun k j _ h=>h.1)) (fun k j h=>h)
  ·exact(((aa H4).2.trans (aa H5).1 (fun _ _ h=>h)).setCell (.inr (Nat.le_refl _)) _).setCell (.inr (Nat.le_refl _)) _
 ·have hfb:fb≠w.heap.size:=fun e=>by rw[e,hrb5] at hb;simp[aR] at hb
  have HB5:=ae hb
  clear hf5 hb
  go_wp2_with fail
  refine bodyPost_ret (v:=.tuple #[.agg #[.int .u32 0,.slice none 0 0],.iface 78 (.pointer (some ⟨fb,0,none⟩))]) (by simp[results,Tryz.results48,go_sem,hr05,hr15]) rfl ?_
  have hfin:q'.fin.2.2≠0:=fun e=>by have:1≤q'.fin.2.2:=h1';omega
  refine⟨_,_,rfl,.inr ⟨h1',h7,fb,rfl,?_⟩,fun _=>rfl,fun h=>absurd h hfin,?_⟩
  ·rw[Below.heap_setCell _ _ _ _ hfb,Below.heap_setCell _ _ _ _ hfb]
   exact aa HB5
  ·exact(((aa H4).2.trans (aa H5).1 (fun _ _ h=>h)).setCell (.inr (Nat.le_refl _)) _).setCell (.inr (Nat.le_refl _)) _
theorem uP (x:Value) (l:List Nat) (q':Q) (Res:World→(Nat→Prop)→Nat→Array Value→Prop) (E:Nat→Addr) (w:World) (hg:G6 w E) (hw:9≤w.heap.size) (hx:Src w x l) (hl:l.length≤140737488355328)
  (hst:∀ w2 w' F F' P g vs,Res w2 F g vs→aw w2 w' F F' P→(∀ k j,P k j→k=w.heap.size)→Res w' F' g vs)
  (hwhole:∀ w1 cb b F g,Cd w1 cb b F (.rd ⟨ByteArray.empty,l,0,0,none⟩) E→w1.cell? ⟨g,0,none⟩=some (.int .u32 0)→w1.cell? ⟨g,1,none⟩=some (.slice none 0 0)→w1.cell? ⟨g,2,none⟩=some (.int .u32 0)→w1.cell? ⟨g,3,none⟩=some (.slice none 0 0)→(∀ i,Loc w1 cb F g i)→(∀ k,F k→w.heap.size<k)→w.heap.size<g→Fr (fun _=>False) w w1→Calls Tryz.prog 68 #[.pointer (some ⟨cb,0,none⟩),.iface 213 (.pointer (some ⟨g,0,none⟩))] w1 fun e w'=>e = .returned (.tuple #[])∧∃ F',Cd w' cb b F' (.rd q') E∧∃ v0 v1 v2 v3,w'.cell? ⟨g,0,none⟩=some v0∧w'.cell? ⟨g,1,none⟩=some v1∧w'.cell? ⟨g,2,none⟩=some v2∧w'.cell? ⟨g,3,none⟩=some v3∧(∀ v∈([v0,v1,v2,v3]:List Value),v.oneCell'=true)∧Res w' F' g #[v0,v1,v2,v3]∧aw w1 w' F F' (fun k _=>k=g)) :
  Calls Tryz.prog 80 #[x] w fun e w'=>∃ vs err,e = .returned (.tuple #[.agg vs,err])∧cT w' err q'.fin E∧(q'.fin.2.2≠0→vs = #[.int .u32 0,.slice none 0 0,.int .u32 0,.slice none 0 0])∧(q'.fin.2.2=0→∃ F' g,Res w' F' g vs∧w.heap.size≤g)∧Fr (fun _=>False) w w':=by
 obtain⟨xo,xc,rfl⟩:=hx.form
 have hbx:=aB w (.cells #[.int .u32 0,.slice none 0 0,.int .u32 0,.slice none 0 0] 37)
 have HN:=ae (cM _ l (w.alloc (.cells #[.int .u32 0,.slice none 0 0,.int .u32 0,.slice none 0 0] 37)) (by simp;omega) (hx.fr hbx (fun _ _ _ _ _ h=>h)) hl)
 have H:=ae (And.intro hg (And.intro hst hwhole))
 have HB:=ae hbx
 clear hg hst hwhole hx hbx
 go_enter Tryz.func80,Tryz.ntmps80
 go_wp2_with fail
 refine(aa HN).mono ?_
 rintro e w1 ⟨b,F,rfl,hR1,hf1',hF1'⟩
 have hf1:Fr (fun _=>False) w w1:=(aa HB).trans hf1' (fun _ _ h=>h)
 have hF1:∀ k,F k→w.heap.size<k:=fun k hk=>by have:=hF1' k hk;simp at this;omega
 have hr0:w1.cell? ⟨w.heap.size,0,none⟩=some (.int .u32 0):=(hf1'.cell (p:=⟨w.heap.size,0,none⟩) (by simp) (fun h=>h)).trans (by simp)
 have hrz:∀ i,w1.frozen? ⟨w.heap.size,i,none⟩=false:=fun i=>(hf1'.frozen (p:=⟨w.heap.size,i,none⟩) (by simp) (fun h=>h)).trans (by simp)
 have hrb:w1.heap[w.heap.size]?=some (.cells #[.int .u32 0,.slice none 0 0,.int .u32 0,.slice none 0 0] 37):=(hf1'.block w.heap.size (by simp) (fun h=>h)).trans (heap_alloc_new _ _)
 have hrl:=ab hr0
 clear hf1' hF1'
 have hbl:=hR1.lt b hR1.fb
 have H1:=ae (And.intro hR1 (And.intro hf1 hF1))
 clear hR1 hf1 hF1
 go_wp2_with fail
 obtain⟨W2,hW2⟩:∃ W2,((w1.alloc (.cells #[.pointer none,.pointer (some ⟨b,0,none⟩)] 143)).alloc (.cells #[.int .u32 0,.slice none 0 0,.int .u32 0,.slice none 0 0] 37)).alloc (.cells #[.int .u32 0,.slice none 0 0,.int .u32 0,.slice none 0 0] 37)=W2:=⟨_,rfl⟩
 have hf12:Fr (fun _=>False) w1 W2:=by rw[← hW2];exact aN _ _ _ _
 have HF12:=ae hf12
 have hf02:=(aa H1).2.1.trans hf12 (fun _ _ h=>h)
 have hsz2:W2.heap.size=w1.heap.size+3:=by rw[← hW2];simp
 have hC2:Cd W2 w1.heap.size b F (.rd ⟨ByteArray.empty,l,0,0,none⟩) E:=by
  have hb1:=(aa H1).1.lt
  have hw1:=(aa H1).2.1.size
  refine⟨(aa H).1.fr hf02 (fun _ h=>h.elim),fun hx=>by have:=hb1 _ hx;omega,fun k hk=>by have:=hb1 k hk;omega,(aa H1).1.lo,by omega,?_,?_,⟨(aa H1).1.frame hf12 (fun _ _ h=>h),⟨Nat.zero_le _,Nat.zero_le _,fun y hy=>by cases hy⟩,hl⟩,trivial⟩
  ·rw[← hW2,World.cell?_alloc_past _ _ _ (by simp;omega),World.cell?_alloc_past _ _ _ (by simp),World.cell?_alloc_at _ _ _ _ (by simp)];rfl
  ·rw[← hW2,World.cell?_alloc_past _ _ _ (by simp;omega),World.cell?_alloc_past _ _ _ (by simp),World.cell?_alloc_at _ _ _ _ (by simp)];rfl
 have hcs:∀ (i:Nat) v,(#[.int .u32 0,.slice none 0 0,.int .u32 0,.slice none 0 0]:Array Value)[i]?=some v→W2.cell? ⟨w1.heap.size+1,i,none⟩=some v:=fun i v hv=>by
  rw[← hW2,World.cell?_alloc_past _ _ _ (by simp),World.cell?_alloc_at _ _ _ _ (by simp)];exact hv
 have hnn:∀ (i:Nat) v,(#[.int .u32 0,.slice none 0 0,.int .u32 0,.slice none 0 0]:Array Value)[i]?=some v→W2.cell? ⟨w1.heap.size+1+1,i,none⟩=some v:=fun i v hv=>by
  rw[← hW2,World.cell?_alloc_at _ _ _ _ (by simp)];exact hv
 have hLo:∀ i,Loc W2 w1.heap.size F (w1.heap.size+1) i:=fun i=>by
  have hb1:=(aa H1).1.lt
  have hw1:=(aa H1).2.1.size
  exact⟨(((by rw[← hW2];exact aB _ _):Fr (fun _=>False) ((w1.alloc (.cells #[.pointer none,.pointer (some ⟨b,0,none⟩)] 143)).alloc (.cells #[.int .u32 0,.slice none 0 0,.int .u32 0,.slice none 0 0] 37)) W2).frozen (p:=⟨w1.heap.size+1,i,none⟩) (by simp) (fun h=>h)).trans (by simp),by omega,fun hx=>by have:=hb1 _ hx;omega,by omega,by omega⟩
 have HW:=ae ((aa H).2.2 W2 w1.heap.size b F (w1.heap.size+1) hC2 (hcs 0 _ rfl) (hcs 1 _ rfl) (hcs 2 _ rfl) (hcs 3 _ rfl) hLo (aa H1).2.2 (by omega) hf02)
 have H2:=ae (And.intro hf02 (And.intro hnn hsz2))
 clear hC2 hf02 hLo hsz2 hcs hf12 hnn
 rw[hW2]
 clear hW2
 refine(aa HW).mono ?_
 rintro e w3 ⟨rfl,F3,hC3,v0,v1,v2,v3,hv0,hv1,hv2,hv3,hone,hRes,hs3⟩
 have hst0:∀ (a:Addr) (m:Mode) (W:World),(store a v0 m).run Tryz.prog W=stored Tryz.prog W a v0 m:=fun _ _ _=>run_store _ _ _ _ _ (hone v0 (by simp))
 have hst1:∀ (a:Addr) (m:Mode) (W:World),(store a v1 m).run Tryz.prog W=stored Tryz.prog W a v1 m:=fun _ _ _=>run_store _ _ _ _ _ (hone v1 (by simp))
 have hst2:∀ (a:Addr) (m:Mode) (W:World),(store a v2 m).run Tryz.prog W=stored Tryz.prog W a v2 m:=fun _ _ _=>run_store _ _ _ _ _ (hone v2 (by simp))
 have hst3:∀ (a:Addr) (m:Mode) (W:World),(store a v3 m).run Tryz.prog W=stored Tryz.prog W a v3 m:=fun _ _ _=>run_store _ _ _ _ _ (hone v3 (by simp))
 clear hone
 have h1:w3.cell? ⟨w1.heap.size,1,none⟩=some (.pointer (some ⟨b,0,none⟩)):=hC3.c1
 have hl1:=ab h1
 obtain⟨hf02,hnn,hsz2⟩:=aa H2
 have hFb:∀ k,F k→k<w1.heap.size:=(aa H1).1.lt
 have hne:∀ i,w3.cell? ⟨w1.heap.size+1+1,i,none⟩=W2.cell? ⟨w1.heap.size+1+1,i,none⟩:=fun i=>hs3.oth (w1.heap.size+1+1) i (by omega) (fun hx=>by have:=hFb _ hx;omega) (fun h=>by omega)
 have hn0:=(hne 0).trans (hnn 0 _ rfl)
 have hn1:=(hne 1).trans (hnn 1 _ rfl)
 have hn2:=(hne 2).trans (hnn 2 _ rfl)
 have hn3:=(hne 3).trans (hnn 3 _ rfl)
 have hrF:¬ F w.heap.size:=fun hx=>by have:=(aa H1).2.2 _ hx;omega
 have hrb3:w3.heap[w.heap.size]?=some (.cells #[.int .u32 0,.slice none 0 0,.int .u32 0,.slice none 0 0] 37):=(hs3.block (by omega) hrF (fun i h=>by omega)).trans ((aa HF12).block _ hrl (fun h=>h) |>.trans hrb)
 have hf03:Fr (fun _=>False) w w3:=hf02.trans hs3.fr (fun k hk hx=>hx.elim (fun hx=>by have:=(aa H1).2.2 k hx;omega) (fun ⟨_,hx⟩=>by omega))
 have hst3:R w3 b F3 (q'.dP E)∧q'.ok∧q'.all.length≤140737488355328:=hC3.st
 have HD:=ae (bX q' bm b F3 E w3 hst3.1)
 have H3:=ae (And.intro hC3 (And.intro hs3 (And.intro hRes (And.intro hf03 (And.intro hst3.2.1 hrF)))))
 clear hC3 hs3 hRes hf03 hst3 hrF hf02 hnn hsz2 hFb hne
 go_wp2_with fail
 refine(aa HD).mono ?_
 rintro e w4 ⟨rfl,hR4,hch4⟩
 have hgF3:=(aa H3).2.1.nF (by have:=(aa H2).2.2;omega) (show ¬ F (w1.heap.size+1) from fun hx=>by have:=(aa H1).1.lt _ hx;omega)
 have hnF3:=(aa H3).2.1.nF (by have:=(aa H2).2.2;omega) (show ¬ F (w1.heap.size+1+1) from fun hx=>by have:=(aa H1).1.lt _ hx;omega)
 have hcF3:=(aa H3).1.nf
 have hv04:=(hch4.fr.cell (p:=⟨w1.heap.size+1,0,none⟩) (ab hv0) hgF3).trans hv0
 have hv14:=(hch4.fr.cell (p:=⟨w1.heap.size+1,1,none⟩) (ab hv1) hgF3).trans hv1
 have hv24:=(hch4.fr.cell (p:=⟨w1.heap.size+1,2,none⟩) (ab hv2) hgF3).trans hv2
 have hv34:=(hch4.fr.cell (p:=⟨w1.heap.size+1,3,none⟩) (ab hv3) hgF3).trans hv3
 have hn04:=(hch4.fr.cell (p:=⟨w1.heap.size+1+1,0,none⟩) (ab hn0) hnF3).trans hn0
 have hn14:=(hch4.fr.cell (p:=⟨w1.heap.size+1+1,1,none⟩) (ab hn1) hnF3).trans hn1
 have hn24:=(hch4.fr.cell (p:=⟨w1.heap.size+1+1,2,none⟩) (ab hn2) hnF3).trans hn2
 have hn34:=(hch4.fr.cell (p:=⟨w1.heap.size+1+1,3,none⟩) (ab hn3) hnF3).trans hn3
 have h14:w4.cell? ⟨w1.heap.size,1,none⟩=some (.pointer (some ⟨b,0,none⟩)):=(hch4.fr.cell (p:=⟨w1.heap.size,1,none⟩) hl1 hcF3).trans h1
 have hrb4:w4.heap[w.heap.size]?=some (.cells #[.int .u32 0,.slice none 0 0,.int .u32 0,.slice none 0 0] 37):=(hch4.fr.block w.heap.size (by omega) ((aa H3).2.1.nF (by have:=(aa H2).2.2;omega) (aa H3).2.2.2.2.2)).trans hrb3
 have HE:=ae (fI (q'.named bm) b F3 E w4 hR4 (Q.bG (aa H3).2.2.2.2.1 bm) ((aa H3).1.g7.fr hch4.fr (aa H3).1.lo).gl)
 have hs4:aw w3 w4 F3 F3 (fun _ _=>False):=aw.cX hch4 _
 have hf04:Fr (fun _=>False) w w4:=(aa H3).2.2.2.1.trans hch4.fr (fun k hk hx=>by
  rcases(aa H3).2.1.new k hx with h|h
  ·have:=(aa H1).2.2 k h;omega
  ·have:=(aa H1).2.1.size;have:=(aa H2).2.2;omega)
 have H4:=ae (And.intro hs4 hf04)
 clear hR4 hch4 hs4 hf04 hgF3 hnF3 hcF3
 go_wp2_with fail
 refine(aa HE).mono ?_
 rintro e w5 ⟨err,rfl,hEr,hf5⟩
 have hrb5:w5.heap[w.heap.size]?=some (.cells #[.int .u32 0,.slice none 0 0,.int .u32 0,.slice none 0 0] 37):=(hf5.block w.heap.size (by have:=(aa H4).1.size;have:=(aa H3).2.1.size;have:=(aa H2).2.2;omega) (fun h=>h)).trans hrb4
 have hv05:=(hf5.cell (p:=⟨w1.heap.size+1,0,none⟩) (ab hv04) (fun h=>h)).trans hv04
 have hn05:=(hf5.cell (p:=⟨w1.heap.size+1+1,0,none⟩) (ab hn04) (fun h=>h)).trans hn04
 have hv15:=(hf5.cell (p:=⟨w1.heap.size+1,1,none⟩) (ab hv14) (fun h=>h)).trans hv14
 have hn15:=(hf5.cell (p:=⟨w1.heap.size+1+1,1,none⟩) (ab hn14) (fun h=>h)).trans hn14
 have hv25:=(hf5.cell (p:=⟨w1.heap.size+1,2,none⟩) (ab hv24) (fun h=>h)).trans hv24
 have hn25:=(hf5.cell (p:=⟨w1.heap.size+1+1,2,none⟩) (ab hn24) (fun h=>h)).trans hn24
 have hv35:=(hf5.cell (p:=⟨w1.heap.size+1,3,none⟩) (ab hv34) (fun h=>h)).trans hv34
 have hn35:=(hf5.cell (p:=⟨w1.heap.size+1+1,3,none⟩) (ab hn34) (fun h=>h)).trans hn34
 have hr05:w5.cell? ⟨w.heap.size,0,none⟩=some (.int .u32 0):=by simp[World.cell?,hrb5]
 have hr15:w5.cell? ⟨w.heap.size,1,none⟩=some (.slice none 0 0):=by simp[World.cell?,hrb5]
 have hr25:w5.cell? ⟨w.heap.size,2,none⟩=some (.int .u32 0):=by simp[World.cell?,hrb5]
 have hr35:w5.cell? ⟨w.heap.size,3,none⟩=some (.slice none 0 0):=by simp[World.cell?,hrb5]
 have hrz5:∀ i,w5.frozen? ⟨w.heap.size,i,none⟩=false:=fun i=>by simp[World.frozen?,hrb5]
 have hrl5:=ab hr05
 have hlv5:=ab hv05
 have hln5:=ab hn05
 have hnr1:w1.heap.size+1≠w.heap.size:=by omega
 have hnr2:w1.heap.size+1+1≠w.heap.size:=by omega
 have hsF:∀ (i:Nat) v W,Fr (fun k=>k=w.heap.size) w5 W→Fr (fun k=>k=w.heap.size) w5 (W.setCell ⟨w.heap.size,i,none⟩ v):=fun i v W h=>h.setCell (.inl rfl) v
 have H5:=ae (And.intro hf5 (hEr))
 rcases hEr with ⟨h0,rfl⟩|⟨h1',h7,fb,rfl,hb⟩
 ·clear hf5
  go_wp2_with fail
  refine bodyPost_ret (v:=.tuple #[.agg #[v0,v1,v2,v3],.nilIface]) (by simp[results,Tryz.results80,go_sem,hr05,hr15,hr25,hr35]) rfl ?_
  have hfin:q'.fin.2.2=0:=h0
  refine⟨_,_,rfl,.inl ⟨hfin,rfl⟩,fun h=>absurd hfin h,fun _=>⟨F3,w1.heap.size+1,?_,by omega⟩,?_⟩
  ·have hR5:=(aa H).2.1 _ _ _ _ _ _ _ ((aa H).2.1 _ _ _ _ _ _ _ (aa H3).2.2.1 (aa H4).1 (fun _ _ h=>h.elim)) (aw.bD (aa H5).1 F3 (fun _ _=>False)) (fun _ _ h=>h.elim)
   exact(aa H).2.1 _ _ _ _ _ _ _ hR5 (((((aw.refl w5 F3 (fun k _=>k=w.heap.size)).trans (aw.set w.heap.size 0 _) (fun k j _ h=>h.1)).trans (aw.set w.heap.size 1 _) (fun k j _ h=>h.1)).trans (aw.set w.heap.size 2 _) (fun k j _ h=>h.1)).trans (aw.set w.heap.size 3 _) (fun k j _ h=>h.1)) (fun k j h=>h)
  ·exact(((((aa H4).2.trans (aa H5).1 (fun _ _ h=>h)).setCell (.inr (Nat.le_refl _)) _).setCell (.inr (Nat.le_refl _)) _).setCell (.inr (Nat.le_refl _)) _).setCell (.inr (Nat.le_refl _)) _
 ·have hfb:fb≠w.heap.size:=fun e=>by rw[e,hrb5] at hb;simp[aR] at hb
  have HB5:=ae hb
  clear hf5 hb
  go_wp2_with fail
  refine bodyPost_ret (v:=.tuple #[.agg #[.int .u32 0,.slice none 0 0,.int .u32 0,.slice none 0 0],.iface 78 (.pointer (some ⟨fb,0,none⟩))]) (by simp[results,Tryz.results80,go_sem,hr05,hr15,hr25,hr35]) rfl ?_
  have hfin:q'.fin.2.2≠0:=fun e=>by have:1≤q'.fin.2.2:=h1';omega
  refine⟨_,_,rfl,.inr ⟨h1',h7,fb,rfl,?_⟩,fun _=>rfl,fun h=>absurd h hfin,?_⟩
  ·rw[Below.heap_setCell _ _ _ _ hfb,Below.heap_setCell _ _ _ _ hfb,Below.heap_setCell _ _ _ _ hfb,Below.heap_setCell _ _ _ _ hfb]
   exact aa HB5
  ·exact(((((aa H4).2.trans (aa H5).1 (fun _ _ h=>h)).setCell (.inr (Nat.le_refl _)) _).setCell (.inr (Nat.le_refl _)) _).setCell (.inr (Nat.le_refl _)) _).setCell (.inr (Nat.le_refl _)) _
theorem xz (x:Value) (l:List Nat) (q':Q) (Res:World→(Nat→Prop)→Nat→Array Value→Prop) (E:Nat→Addr) (w:World) (hg:G6 w E) (hw:9≤w.heap.size) (hx:Src w x l) (hl:l.length≤140737488355328)
  (hst:∀ w2 w' F F' P g vs,Res w2 F g vs→aw w2 w' F F' P→(∀ k j,P k j→k=w.heap.size)→Res w' F' g vs)
  (hwhole:∀ w1 cb b F g,Cd w1 cb b F (.rd ⟨ByteArray.empty,l,0,0,none⟩) E→w1.cell? ⟨g,0,none⟩=some (.slice none 0 0)→(∀ i,Loc w1 cb F g i)→(∀ k,F k→w.heap.size<k)→w.heap.size<g→Fr (fun _=>False) w w1→Calls Tryz.prog 68 #[.pointer (some ⟨cb,0,none⟩),.iface 215 (.pointer (some ⟨g,0,none⟩))] w1 fun e w'=>e = .returned (.tuple #[])∧∃ F',Cd w' cb b F' (.rd q') E∧∃ v0,w'.cell? ⟨g,0,none⟩=some v0∧(∀ v∈([v0]:List Value),v.oneCell'=true)∧Res w' F' g #[v0]∧aw w1 w' F F' (fun k _=>k=g)) :
  Calls Tryz.prog 81 #[x] w fun e w'=>∃ vs err,e = .returned (.tuple #[.agg vs,err])∧cT w' err q'.fin E∧(q'.fin.2.2≠0→vs = #[.slice none 0 0])∧(q'.fin.2.2=0→∃ F' g,Res w' F' g vs∧w.heap.size≤g)∧Fr (fun _=>False) w w':=by
 obtain⟨xo,xc,rfl⟩:=hx.form
 have hbx:=aB w (.cells #[.slice none 0 0] 40)
 have HN:=ae (cM _ l (w.alloc (.cells #[.slice none 0 0] 40)) (by simp;omega) (hx.fr hbx (fun _ _ _ _ _ h=>h)) hl)
 have H:=ae (And.intro hg (And.intro hst hwhole))
 have HB:=ae hbx
 clear hg hst hwhole hx hbx
 go_enter Tryz.func81,Tryz.ntmps81
 go_wp2_with fail
 refine(aa HN).mono ?_
 rintro e w1 ⟨b,F,rfl,hR1,hf1',hF1'⟩
 have hf1:Fr (fun _=>False) w w1:=(aa HB).trans hf1' (fun _ _ h=>h)
 have hF1:∀ k,F k→w.heap.size<k:=fun k hk=>by have:=hF1' k hk;simp at this;omega
 have hr0:w1.cell? ⟨w.heap.size,0,none⟩=some (.slice none 0 0):=(hf1'.cell (p:=⟨w.heap.size,0,none⟩) (by simp) (fun h=>h)).trans (by simp)
 have hrz:∀ i,w1.frozen? ⟨w.heap.size,i,none⟩=false:=fun i=>(hf1'.frozen (p:=⟨w.heap.size,i,none⟩) (by simp) (fun h=>h)).trans (by simp)
 have hrb:w1.heap[w.heap.size]?=some (.cells #[.slice none 0 0] 40):=(hf1'.block w.heap.size (by simp) (fun h=>h)).trans (heap_alloc_new _ _)
 have hrl:=ab hr0
 clear hf1' hF1'
 have hbl:=hR1.lt b hR1.fb
 have H1:=ae (And.intro hR1 (And.intro hf1 hF1))
 clear hR1 hf1 hF1
 go_wp2_with fail
 obtain⟨W2,hW2⟩:∃ W2,((w1.alloc (.cells #[.pointer none,.pointer (some ⟨b,0,none⟩)] 143)).alloc (.cells #[.slice none 0 0] 40)).alloc (.cells #[.slice none 0 0] 40)=W2:=⟨_,rfl⟩
 have hf12:Fr (fun _=>False) w1 W2:=by rw[← hW2];exact aN _ _ _ _
 have HF12:=ae hf12
 have hf02:=(aa H1).2.1.trans hf12 (fun _ _ h=>h)
 have hsz2:W2.heap.size=w1.heap.size+3:=by rw[← hW2];simp
 have hC2:Cd W2 w1.heap.size b F (.rd ⟨ByteArray.empty,l,0,0,none⟩) E:=by
  have hb1:=(aa H1).1.lt
  have hw1:=(aa H1).2.1.size
  refine⟨(aa H).1.fr hf02 (fun _ h=>h.elim),fun hx=>by have:=hb1 _ hx;omega,fun k hk=>by have:=hb1 k hk;omega,(aa H1).1.lo,by omega,?_,?_,⟨(aa H1).1.frame hf12 (fun _ _ h=>h),⟨Nat.zero_le _,Nat.zero_le _,fun y hy=>by cases hy⟩,hl⟩,trivial⟩
  ·rw[← hW2,World.cell?_alloc_past _ _ _ (by simp;omega),World.cell?_alloc_past _ _ _ (by simp),World.cell?_alloc_at _ _ _ _ (by simp)];rfl
  ·rw[← hW2,World.cell?_alloc_past _ _ _ (by simp;omega),World.cell?_alloc_past _ _ _ (by simp),World.cell?_alloc_at _ _ _ _ (by simp)];rfl
 have hcs:∀ (i:Nat) v,(#[.slice none 0 0]:Array Value)[i]?=some v→W2.cell? ⟨w1.heap.size+1,i,none⟩=some v:=fun i v hv=>by
  rw[← hW2,World.cell?_alloc_past _ _ _ (by simp),World.cell?_alloc_at _ _ _ _ (by simp)];exact hv
 have hnn:∀ (i:Nat) v,(#[.slice none 0 0]:Array Value)[i]?=some v→W2.cell? ⟨w1.heap.size+1+1,i,none⟩=some v:=fun i v hv=>by
  rw[← hW2,World.cell?_alloc_at _ _ _ _ (by simp)];exact hv
 have hLo:∀ i,Loc W2 w1.heap.size F (w1.heap.size+1) i:=fun i=>by
  have hb1:=(aa H1).1.lt
  have hw1:=(aa H1).2.1.size
  exact⟨(((by rw[← hW2];exact aB _ _):Fr (fun _=>False) ((w1.alloc (.cells #[.pointer none,.pointer (some ⟨b,0,none⟩)] 143)).alloc (.cells #[.slice none 0 0] 40)) W2).frozen (p:=⟨w1.heap.size+1,i,none⟩) (by simp) (fun h=>h)).trans (by simp),by omega,fun hx=>by have:=hb1 _ hx;omega,by omega,by omega⟩
 have HW:=ae ((aa H).2.2 W2 w1.heap.size b F (w1.heap.size+1) hC2 (hcs 0 _ rfl) hLo (aa H1).2.2 (by omega) hf02)
 have H2:=ae (And.intro hf02 (And.intro hnn hsz2))
 clear hC2 hf02 hLo hsz2 hcs hf12 hnn
 rw[hW2]
 clear hW2
 refine(aa HW).mono ?_
 rintro e w3 ⟨rfl,F3,hC3,v0,hv0,hone,hRes,hs3⟩
 have hst0:∀ (a:Addr) (m:Mode) (W:World),(store a v0 m).run Tryz.prog W=stored Tryz.prog W a v0 m:=fun _ _ _=>run_store _ _ _ _ _ (hone v0 (by simp))
 clear hone
 have h1:w3.cell? ⟨w1.heap.size,1,none⟩=some (.pointer (some ⟨b,0,none⟩)):=hC3.c1
 have hl1:=ab h1
 obtain⟨hf02,hnn,hsz2⟩:=aa H2
 have hFb:∀ k,F k→k<w1.heap.size:=(aa H1).1.lt
 have hne:∀ i,w3.cell? ⟨w1.heap.size+1+1,i,none⟩=W2.cell? ⟨w1.heap.size+1+1,i,none⟩:=fun i=>hs3.oth (w1.heap.size+1+1) i (by omega) (fun hx=>by have:=hFb _ hx;omega) (fun h=>by omega)
 have hn0:=(hne 0).trans (hnn 0 _ rfl)
 have hrF:¬ F w.heap.size:=fun hx=>by have:=(aa H1).2.2 _ hx;omega
 have hrb3:w3.heap[w.heap.size]?=some (.cells #[.slice none 0 0] 40):=(hs3.block (by omega) hrF (fun i h=>by omega)).trans ((aa HF12).block _ hrl (fun h=>h) |>.trans hrb)
 have hf03:Fr (fun _=>False) w w3:=hf02.trans hs3.fr (fun k hk hx=>hx.elim (fun hx=>by have:=(aa H1).2.2 k hx;omega) (fun ⟨_,hx⟩=>by omega))
 have hst3:R w3 b F3 (q'.dP E)∧q'.ok∧q'.all.length≤140737488355328:=hC3.st
 have HD:=ae (bX q' bm b F3 E w3 hst3.1)
 have H3:=ae (And.intro hC3 (And.intro hs3 (And.intro hRes (And.intro hf03 (And.intro hst3.2.1 hrF)))))
 clear hC3 hs3 hRes hf03 hst3 hrF hf02 hnn hsz2 hFb hne
 go_wp2_with fail
 refine(aa HD).mono ?_
 rintro e w4 ⟨rfl,hR4,hch4⟩
 have hgF3:=(aa H3).2.1.nF (by have:=(aa H2).2.2;omega) (show ¬ F (w1.heap.size+1) from fun hx=>by have:=(aa H1).1.lt _ hx;omega)
 have hnF3:=(aa H3).2.1.nF (by have:=(aa H2).2.2;omega) (show ¬ F (w1.heap.size+1+1) from fun hx=>by have:=(aa H1).1.lt _ hx;omega)
 have hcF3:=(aa H3).1.nf
 have hv04:=(hch4.fr.cell (p:=⟨w1.heap.size+1,0,none⟩) (ab hv0) hgF3).trans hv0
 have hn04:=(hch4.fr.cell (p:=⟨w1.heap.size+1+1,0,none⟩) (ab hn0) hnF3).trans hn0
 have h14:w4.cell? ⟨w1.heap.size,1,none⟩=some (.pointer (some ⟨b,0,none⟩)):=(hch4.fr.cell (p:=⟨w1.heap.size,1,none⟩) hl1 hcF3).trans h1
 have hrb4:w4.heap[w.heap.size]?=some (.cells #[.slice none 0 0] 40):=(hch4.fr.block w.heap.size (by omega) ((aa H3).2.1.nF (by have:=(aa H2).2.2;omega) (aa H3).2.2.2.2.2)).trans hrb3
 have HE:=ae (fI (q'.named bm) b F3 E w4 hR4 (Q.bG (aa H3).2.2.2.2.1 bm) ((aa H3).1.g7.fr hch4.fr (aa H3).1.lo).gl)
 have hs4:aw w3 w4 F3 F3 (fun _ _=>False):=aw.cX hch4 _
 have hf04:Fr (fun _=>False) w w4:=(aa H3).2.2.2.1.trans hch4.fr (fun k hk hx=>by
  rcases(aa H3).2.1.new k hx with h|h
  ·have:=(aa H1).2.2 k h;omega
  ·have:=(aa H1).2.1.size;have:=(aa H2).2.2;omega)
 have H4:=ae (And.intro hs4 hf04)
 clear hR4 hch4 hs4 hf04 hgF3 hnF3 hcF3
 go_wp2_with fail
 refine(aa HE).mono ?_
 rintro e w5 ⟨err,rfl,hEr,hf5⟩
 have hrb5:w5.heap[w.heap.size]?=some (.cells #[.slice none 0 0] 40):=(hf5.block w.heap.size (by have:=(aa H4).1.size;have:=(aa H3).2.1.size;have:=(aa H2).2.2;omega) (fun h=>h)).trans hrb4
 have hv05:=(hf5.cell (p:=⟨w1.heap.size+1,0,none⟩) (ab hv04) (fun h=>h)).trans hv04
 have hn05:=(hf5.cell (p:=⟨w1.heap.size+1+1,0,none⟩) (ab hn04) (fun h=>h)).trans hn04
 have hr05:w5.cell? ⟨w.heap.size,0,none⟩=some (.slice none 0 0):=by simp[World.cell?,hrb5]
 have hrz5:∀ i,w5.frozen? ⟨w.heap.size,i,none⟩=false:=fun i=>by simp[World.frozen?,hrb5]
 have hrl5:=ab hr05
 have hlv5:=ab hv05
 have hln5:=ab hn05
 have hnr1:w1.heap.size+1≠w.heap.size:=by omega
 have hnr2:w1.heap.size+1+1≠w.heap.size:=by omega
 have hsF:∀ (i:Nat) v W,Fr (fun k=>k=w.heap.size) w5 W→Fr (fun k=>k=w.heap.size) w5 (W.setCell ⟨w.heap.size,i,none⟩ v):=fun i v W h=>h.setCell (.inl rfl) v
 have H5:=ae (And.intro hf5 (hEr))
 rcases hEr with ⟨h0,rfl⟩|⟨h1',h7,fb,rfl,hb⟩
 ·clear hf5
  go_wp2_with fail
  refine bodyPost_ret (v:=.tuple #[.agg #[v0],.nilIface]) (by simp[results,Tryz.results81,go_sem,hr05]) rfl ?_
  have hfin:q'.fin.2.2=0:=h0
  refine⟨_,_,rfl,.inl ⟨hfin,rfl⟩,fun h=>absurd hfin h,fun _=>⟨F3,w1.heap.size+1,?_,by omega⟩,?_⟩
  ·have hR5:=(aa H).2.1 _ _ _ _ _ _ _ ((aa H).2.1 _ _ _ _ _ _ _ (aa H3).2.2.1 (aa H4).1 (fun _ _ h=>h.elim)) (aw.bD (aa H5).1 F3 (fun _ _=>False)) (fun _ _ h=>h.elim)
   exact(aa H).2.1 _ _ _ _ _ _ _ hR5 ((aw.refl w5 F3 (fun k _=>k=w.heap.size)).trans (aw.set w.heap.size 0 _) (fun k j _ h=>h.1)) (fun k j h=>h)
  ·exact((aa H4).2.trans (aa H5).1 (fun _ _ h=>h)).setCell (.inr (Nat.le_refl _)) _
 ·have hfb:fb≠w.heap.size:=fun e=>by rw[e,hrb5] at hb;simp[aR] at hb
  have HB5:=ae hb
  clear hf5 hb
  go_wp2_with fail
  refine bodyPost_ret (v:=.tuple #[.agg #[.slice none 0 0],.iface 78 (.pointer (some ⟨fb,0,none⟩))]) (by simp[results,Tryz.results81,go_sem,hr05]) rfl ?_
  have hfin:q'.fin.2.2≠0:=fun e=>by have:1≤q'.fin.2.2:=h1';omega
  refine⟨_,_,rfl,.inr ⟨h1',h7,fb,rfl,?_⟩,fun _=>rfl,fun h=>absurd h hfin,?_⟩
  ·rw[Below.heap_setCell _ _ _ _ hfb]
   exact aa HB5
  ·exact((aa H4).2.trans (aa H5).1 (fun _ _ h=>h)).setCell (.inr (Nat.le_refl _)) _
theorem rh (x:Value) (l:List Nat) (q':Q) (Res:World→(Nat→Prop)→Nat→Array Value→Prop) (E:Nat→Addr) (w:World) (hg:G6 w E) (hw:9≤w.heap.size) (hx:Src w x l) (hl:l.length≤140737488355328)
  (hst:∀ w2 w' F F' P g vs,Res w2 F g vs→aw w2 w' F F' P→(∀ k j,P k j→k=w.heap.size)→Res w' F' g vs)
  (hwhole:∀ w1 cb b F g,Cd w1 cb b F (.rd ⟨ByteArray.empty,l,0,0,none⟩) E→w1.cell? ⟨g,0,none⟩=some (.int .u32 0)→w1.cell? ⟨g,1,none⟩=some (.int .u32 0)→w1.cell? ⟨g,2,none⟩=some (.int .u32 0)→w1.cell? ⟨g,3,none⟩=some (.int .u8 0)→w1.cell? ⟨g,4,none⟩=some (.int .u32 0)→w1.cell? ⟨g,5,none⟩=some (.int .u32 0)→w1.cell? ⟨g,6,none⟩=some (.int .u32 0)→w1.cell? ⟨g,7,none⟩=some (.int .u32 0)→w1.cell? ⟨g,8,none⟩=some (.slice none 0 0)→w1.cell? ⟨g,9,none⟩=some (.string ⟨#[]⟩)→(∀ i,Loc w1 cb F g i)→(∀ k,F k→w.heap.size<k)→w.heap.size<g→Fr (fun _=>False) w w1→Calls Tryz.prog 68 #[.pointer (some ⟨cb,0,none⟩),.iface 157 (.pointer (some ⟨g,0,none⟩))] w1 fun e w'=>e = .returned (.tuple #[])∧∃ F',Cd w' cb b F' (.rd q') E∧∃ v0 v1 v2 v3 v4 v5 v6 v7 v8 v9,w'.cell? ⟨g,0,none⟩=some v0∧w'.cell? ⟨g,1,none⟩=some v1∧w'.cell? ⟨g,2,none⟩=some v2∧w'.cell? ⟨g,3,none⟩=some v3∧w'.cell? ⟨g,4,none⟩=some v4∧w'.cell? ⟨g,5,none⟩=some v5∧w'.cell? ⟨g,6,none⟩=some v6∧w'.cell? ⟨g,7,none⟩=some v7∧w'.cell? ⟨g,8,none⟩=some v8∧w'.cell? ⟨g,9,none⟩=some v9∧(∀ v∈([v0,v1,v2,v3,v4,v5,v6,v7,v8,v9]:List Value),v.oneCell'=true)∧Res w' F' g #[v0,v1,v2,v3,v4,v5,v6,v7,v8,v9]∧aw w1 w' F F' (fun k _=>k=g)) :
  Calls Tryz.prog 77 #[x] w fun e w'=>∃ vs err,e = .returned (.tuple #[.agg vs,err])∧cT w' err q'.fin E∧(q'.fin.2.2≠0→vs = #[.int .u32 0,.int .u32 0,.int .u32 0,.int .u8 0,.int .u32 0,.int .u32 0,.int .u32 0,.int .u32 0,.slice none 0 0,.string ⟨#[]⟩])∧(q'.fin.2.2=0→∃ F' g,Res w' F' g vs∧w.heap.size≤g)∧Fr (fun _=>False) w w':=by
 obtain⟨xo,xc,rfl⟩:=hx.form
 have hbx:=aB w (.cells #[.int .u32 0,.int .u32 0,.int .u32 0,.int .u8 0,.int .u32 0,.int .u32 0,.int .u32 0,.int .u32 0,.slice none 0 0,.string ⟨#[]⟩] 30)
 have HN:=ae (cM _ l (w.alloc (.cells #[.int .u32 0,.int .u32 0,.int .u32 0,.int .u8 0,.int .u32 0,.int .u32 0,.int .u32 0,.int .u32 0,.slice none 0 0,.string ⟨#[]⟩] 30)) (by simp;omega) (hx.fr hbx (fun _ _ _ _ _ h=>h)) hl)
 have H:=ae (And.intro hg (And.intro hst hwhole))
 have HB:=ae hbx
 clear hg hst hwhole hx hbx
 go_enter Tryz.func77,Tryz.ntmps77
 go_wp2_with fail
 refine(aa HN).mono ?_
 rintro e w1 ⟨b,F,rfl,hR1,hf1',hF1'⟩
 have hf1:Fr (fun _=>False) w w1:=(aa HB).trans hf1' (fun _ _ h=>h)
 have hF1:∀ k,F k→w.heap.size<k:=fun k hk=>by have:=hF1' k hk;simp at this;omega
 have hr0:w1.cell? ⟨w.heap.size,0,none⟩=some (.int .u32 0):=(hf1'.cell (p:=⟨w.heap.size,0,none⟩) (by simp) (fun h=>h)).trans (by simp)
 have hrz:∀ i,w1.frozen? ⟨w.heap.size,i,none⟩=false:=fun i=>(hf1'.frozen (p:=⟨w.heap.size,i,none⟩) (by simp) (fun h=>h)).trans (by simp)
 have hrb:w1.heap[w.heap.size]?=some (.cells #[.int .u32 0,.int .u32 0,.int .u32 0,.int .u8 0,.int .u32 0,.int .u32 0,.int .u32 0,.int .u32 0,.slice none 0 0,.string ⟨#[]⟩] 30):=(hf1'.block w.heap.size (by simp) (fun h=>h)).trans (heap_alloc_new _ _)
 have hrl:=ab hr0
 clear hf1' hF1'
 have hbl:=hR1.lt b hR1.fb
 have H1:=ae (And.intro hR1 (And.intro hf1 hF1))
 clear hR1 hf1 hF1
 go_wp2_with fail
 obtain⟨W2,hW2⟩:∃ W2,((w1.alloc (.cells #[.pointer none,.pointer (some ⟨b,0,none⟩)] 143)).alloc (.cells #[.int .u32 0,.int .u32 0,.int .u32 0,.int .u8 0,.int .u32 0,.int .u32 0,.int .u32 0,.int .u32 0,.slice none 0 0,.string ⟨#[]⟩] 30)).alloc (.cells #[.int .u32 0,.int .u32 0,.int .u32 0,.int .u8 0,.int .u32 0,.int .u32 0,.int .u32 0,.int .u32 0,.slice none 0 0,.string ⟨#[]⟩] 30)=W2:=⟨_,rfl⟩
 have hf12:Fr (fun _=>False) w1 W2:=by rw[← hW2];exact aN _ _ _ _
 have HF12:=ae hf12
 have hf02:=(aa H1).2.1.trans hf12 (fun _ _ h=>h)
 have hsz2:W2.heap.size=w1.heap.size+3:=by rw[← hW2];simp
 have hC2:Cd W2 w1.heap.size b F (.rd ⟨ByteArray.empty,l,0,0,none⟩) E:=by
  have hb1:=(aa H1).1.lt
  have hw1:=(aa H1).2.1.size
  refine⟨(aa H).1.fr hf02 (fun _ h=>h.elim),fun hx=>by have:=hb1 _ hx;omega,fun k hk=>by have:=hb1 k hk;omega,(aa H1).1.lo,by omega,?_,?_,⟨(aa H1).1.frame hf12 (fun _ _ h=>h),⟨Nat.zero_le _,Nat.zero_le _,fun y hy=>by cases hy⟩,hl⟩,trivial⟩
  ·rw[← hW2,World.cell?_alloc_past _ _ _ (by simp;omega),World.cell?_alloc_past _ _ _ (by simp),World.cell?_alloc_at _ _ _ _ (by simp)];rfl
  ·rw[← hW2,World.cell?_alloc_past _ _ _ (by simp;omega),World.cell?_alloc_past _ _ _ (by simp),World.cell?_alloc_at _ _ _ _ (by simp)];rfl
 have hcs:∀ (i:Nat) v,(#[.int .u32 0,.int .u32 0,.int .u32 0,.int .u8 0,.int .u32 0,.int .u32 0,.int .u32 0,.int .u32 0,.slice none 0 0,.string ⟨#[]⟩]:Array Value)[i]?=some v→W2.cell? ⟨w1.heap.size+1,i,none⟩=some v:=fun i v hv=>by
  rw[← hW2,World.cell?_alloc_past _ _ _ (by simp),World.cell?_alloc_at _ _ _ _ (by simp)];exact hv
 have hnn:∀ (i:Nat) v,(#[.int .u32 0,.int .u32 0,.int .u32 0,.int .u8 0,.int .u32 0,.int .u32 0,.int .u32 0,.int .u32 0,.slice none 0 0,.string ⟨#[]⟩]:Array Value)[i]?=some v→W2.cell? ⟨w1.heap.size+1+1,i,none⟩=some v:=fun i v hv=>by
  rw[← hW2,World.cell?_alloc_at _ _ _ _ (by simp)];exact hv
 have hLo:∀ i,Loc W2 w1.heap.size F (w1.heap.size+1) i:=fun i=>by
  have hb1:=(aa H1).1.lt
  have hw1:=(aa H1).2.1.size
  exact⟨(((by rw[← hW2];exact aB _ _):Fr (fun _=>False) ((w1.alloc (.cells #[.pointer none,.pointer (some ⟨b,0,none⟩)] 143)).alloc (.cells #[.int .u32 0,.int .u32 0,.int .u32 0,.int .u8 0,.int .u32 0,.int .u32 0,.int .u32 0,.int .u32 0,.slice none 0 0,.string ⟨#[]⟩] 30)) W2).frozen (p:=⟨w1.heap.size+1,i,none⟩) (by simp) (fun h=>h)).trans (by simp),by omega,fun hx=>by have:=hb1 _ hx;omega,by omega,by omega⟩
 have HW:=ae ((aa H).2.2 W2 w1.heap.size b F (w1.heap.size+1) hC2 (hcs 0 _ rfl) (hcs 1 _ rfl) (hcs 2 _ rfl) (hcs 3 _ rfl) (hcs 4 _ rfl) (hcs 5 _ rfl) (hcs 6 _ rfl) (hcs 7 _ rfl) (hcs 8 _ rfl) (hcs 9 _ rfl) hLo (aa H1).2.2 (by omega) hf02)
 have H2:=ae (And.intro hf02 (And.intro hnn hsz2))
 clear hC2 hf02 hLo hsz2 hcs hf12 hnn
 rw[hW2]
 clear hW2
 refine(aa HW).mono ?_
 rintro e w3 ⟨rfl,F3,hC3,v0,v1,v2,v3,v4,v5,v6,v7,v8,v9,hv0,hv1,hv2,hv3,hv4,hv5,hv6,hv7,hv8,hv9,hone,hRes,hs3⟩
 have hst0:∀ (a:Addr) (m:Mode) (W:World),(store a v0 m).run Tryz.prog W=stored Tryz.prog W a v0 m:=fun _ _ _=>run_store _ _ _ _ _ (hone v0 (by simp))
 have hst1:∀ (a:Addr) (m:Mode) (W:World),(store a v1 m).run Tryz.prog W=stored Tryz.prog W a v1 m:=fun _ _ _=>run_store _ _ _ _ _ (hone v1 (by simp))
 have hst2:∀ (a:Addr) (m:Mode) (W:World),(store a v2 m).run Tryz.prog W=stored Tryz.prog W a v2 m:=fun _ _ _=>run_store _ _ _ _ _ (hone v2 (by simp))
 have hst3:∀ (a:Addr) (m:Mode) (W:World),(store a v3 m).run Tryz.prog W=stored Tryz.prog W a v3 m:=fun _ _ _=>run_store _ _ _ _ _ (hone v3 (by simp))
 have hst4:∀ (a:Addr) (m:Mode) (W:World),(store a v4 m).run Tryz.prog W=stored Tryz.prog W a v4 m:=fun _ _ _=>run_store _ _ _ _ _ (hone v4 (by simp))
 have hst5:∀ (a:Addr) (m:Mode) (W:World),(store a v5 m).run Tryz.prog W=stored Tryz.prog W a v5 m:=fun _ _ _=>run_store _ _ _ _ _ (hone v5 (by simp))
 have hst6:∀ (a:Addr) (m:Mode) (W:World),(store a v6 m).run Tryz.prog W=stored Tryz.prog W a v6 m:=fun _ _ _=>run_store _ _ _ _ _ (hone v6 (by simp))
 have hst7:∀ (a:Addr) (m:Mode) (W:World),(store a v7 m).run Tryz.prog W=stored Tryz.prog W a v7 m:=fun _ _ _=>run_store _ _ _ _ _ (hone v7 (by simp))
 have hst8:∀ (a:Addr) (m:Mode) (W:World),(store a v8 m).run Tryz.prog W=stored Tryz.prog W a v8 m:=fun _ _ _=>run_store _ _ _ _ _ (hone v8 (by simp))
 have hst9:∀ (a:Addr) (m:Mode) (W:World),(store a v9 m).run Tryz.prog W=stored Tryz.prog W a v9 m:=fun _ _ _=>run_store _ _ _ _ _ (hone v9 (by simp))
 clear hone
 have h1:w3.cell? ⟨w1.heap.size,1,none⟩=some (.pointer (some ⟨b,0,none⟩)):=hC3.c1
 have hl1:=ab h1
 obtain⟨hf02,hnn,hsz2⟩:=aa H2
 have hFb:∀ k,F k→k<w1.heap.size:=(aa H1).1.lt
 have hne:∀ i,w3.cell? ⟨w1.heap.size+1+1,i,none⟩=W2.cell? ⟨w1.heap.size+1+1,i,none⟩:=fun i=>hs3.oth (w1.heap.size+1+1) i (by omega) (fun hx=>by have:=hFb _ hx;omega) (fun h=>by omega)
 have hn0:=(hne 0).trans (hnn 0 _ rfl)
 have hn1:=(hne 1).trans (hnn 1 _ rfl)
 have hn2:=(hne 2).trans (hnn 2 _ rfl)
 have hn3:=(hne 3).trans (hnn 3 _ rfl)
 have hn4:=(hne 4).trans (hnn 4 _ rfl)
 have hn5:=(hne 5).trans (hnn 5 _ rfl)
 have hn6:=(hne 6).trans (hnn 6 _ rfl)
 have hn7:=(hne 7).trans (hnn 7 _ rfl)
 have hn8:=(hne 8).trans (hnn 8 _ rfl)
 have hn9:=(hne 9).trans (hnn 9 _ rfl)
 have hrF:¬ F w.heap.size:=fun hx=>by have:=(aa H1).2.2 _ hx;omega
 have hrb3:w3.heap[w.heap.size]?=some (.cells #[.int .u32 0,.int .u32 0,.int .u32 0,.int .u8 0,.int .u32 0,.int .u32 0,.int .u32 0,.int .u32 0,.slice none 0 0,.string ⟨#[]⟩] 30):=(hs3.block (by omega) hrF (fun i h=>by omega)).trans ((aa HF12).block _ hrl (fun h=>h) |>.trans hrb)
 have hf03:Fr (fun _=>False) w w3:=hf02.trans hs3.fr (fun k hk hx=>hx.elim (fun hx=>by have:=(aa H1).2.2 k hx;omega) (fun ⟨_,hx⟩=>by omega))
 have hst3:R w3 b F3 (q'.dP E)∧q'.ok∧q'.all.length≤140737488355328:=hC3.st
 have HD:=ae (bX q' bm b F3 E w3 hst3.1)
 have H3:=ae (And.intro hC3 (And.intro hs3 (And.intro hRes (And.intro hf03 (And.intro hst3.2.1 hrF)))))
 clear hC3 hs3 hRes hf03 hst3 hrF hf02 hnn hsz2 hFb hne
 go_wp2_with fail
 refine(aa HD).mono ?_
 rintro e w4 ⟨rfl,hR4,hch4⟩
 have hgF3:=(aa H3).2.1.nF (by have:=(aa H2).2.2;omega) (show ¬ F (w1.heap.size+1) from fun hx=>by have:=(aa H1).1.lt _ hx;omega)
 have hnF3:=(aa H3).2.1.nF (by have:=(aa H2).2.2;omega) (show ¬ F (w1.heap.size+1+1) from fun hx=>by have:=(aa H1).1.lt _ hx;omega)
 have hcF3:=(aa H3).1.nf
 have hv04:=(hch4.fr.cell (p:=⟨w1.heap.size+1,0,none⟩) (ab hv0) hgF3).trans hv0
 have hv14:=(hch4.fr.cell (p:=⟨w1.heap.size+1,1,none⟩) (ab hv1) hgF3).trans hv1
 have hv24:=(hch4.fr.cell (p:=⟨w1.heap.size+1,2,none⟩) (ab hv2) hgF3).trans hv2
 have hv34:=(hch4.fr.cell (p:=⟨w1.heap.size+1,3,none⟩) (ab hv3) hgF3).trans hv3
 have hv44:=(hch4.fr.cell (p:=⟨w1.heap.size+1,4,none⟩) (ab hv4) hgF3).trans hv4
 have hv54:=(hch4.fr.cell (p:=⟨w1.heap.size+1,5,none⟩) (ab hv5) hgF3).trans hv5
 have hv64:=(hch4.fr.cell (p:=⟨w1.heap.size+1,6,none⟩) (ab hv6) hgF3).trans hv6
 have hv74:=(hch4.fr.cell (p:=⟨w1.heap.size+1,7,none⟩) (ab hv7) hgF3).trans hv7
 have hv84:=(hch4.fr.cell (p:=⟨w1.heap.size+1,8,none⟩) (ab hv8) hgF3).trans hv8
 have hv94:=(hch4.fr.cell (p:=⟨w1.heap.size+1,9,none⟩) (ab hv9) hgF3).trans hv9
 have hn04:=(hch4.fr.cell (p:=⟨w1.heap.size+1+1,0,none⟩) (ab hn0) hnF3).trans hn0
 have hn14:=(hch4.fr.cell (p:=⟨w1.heap.size+1+1,1,none⟩) (ab hn1) hnF3).trans hn1
 have hn24:=(hch4.fr.cell (p:=⟨w1.heap.size+1+1,2,none⟩) (ab hn2) hnF3).trans hn2
 have hn34:=(hch4.fr.cell (p:=⟨w1.heap.size+1+1,3,none⟩) (ab hn3) hnF3).trans hn3
 have hn44:=(hch4.fr.cell (p:=⟨w1.heap.size+1+1,4,none⟩) (ab hn4) hnF3).trans hn4
 have hn54:=(hch4.fr.cell (p:=⟨w1.heap.size+1+1,5,none⟩) (ab hn5) hnF3).trans hn5
 have hn64:=(hch4.fr.cell (p:=⟨w1.heap.size+1+1,6,none⟩) (ab hn6) hnF3).trans hn6
 have hn74:=(hch4.fr.cell (p:=⟨w1.heap.size+1+1,7,none⟩) (ab hn7) hnF3).trans hn7
 have hn84:=(hch4.fr.cell (p:=⟨w1.heap.size+1+1,8,none⟩) (ab hn8) hnF3).trans hn8
 have hn94:=(hch4.fr.cell (p:=⟨w1.heap.size+1+1,9,none⟩) (ab hn9) hnF3).trans hn9
 have h14:w4.cell? ⟨w1.heap.size,1,none⟩=some (.pointer (some ⟨b,0,none⟩)):=(hch4.fr.cell (p:=⟨w1.heap.size,1,none⟩) hl1 hcF3).trans h1
 have hrb4:w4.heap[w.heap.size]?=some (.cells #[.int .u32 0,.int .u32 0,.int .u32 0,.int .u8 0,.int .u32 0,.int .u32 0,.int .u32 0,.int .u32 0,.slice none 0 0,.string ⟨#[]⟩] 30):=(hch4.fr.block w.heap.size (by omega) ((aa H3).2.1.nF (by have:=(aa H2).2.2;omega) (aa H3).2.2.2.2.2)).trans hrb3
 have HE:=ae (fI (q'.named bm) b F3 E w4 hR4 (Q.bG (aa H3).2.2.2.2.1 bm) ((aa H3).1.g7.fr hch4.fr (aa H3).1.lo).gl)
 have hs4:aw w3 w4 F3 F3 (fun _ _=>False):=aw.cX hch4 _
 have hf04:Fr (fun _=>False) w w4:=(aa H3).2.2.2.1.trans hch4.fr (fun k hk hx=>by
  rcases(aa H3).2.1.new k hx with h|h
  ·have:=(aa H1).2.2 k h;omega
  ·have:=(aa H1).2.1.size;have:=(aa H2).2.2;omega)
 have H4:=ae (And.intro hs4 hf04)
 clear hR4 hch4 hs4 hf04 hgF3 hnF3 hcF3
 go_wp2_with fail
 refine(aa HE).mono ?_
 rintro e w5 ⟨err,rfl,hEr,hf5⟩
 have hrb5:w5.heap[w.heap.size]?=some (.cells #[.int .u32 0,.int .u32 0,.int .u32 0,.int .u8 0,.int .u32 0,.int .u32 0,.int .u32 0,.int .u32 0,.slice none 0 0,.string ⟨#[]⟩] 30):=(hf5.block w.heap.size (by have:=(aa H4).1.size;have:=(aa H3).2.1.size;have:=(aa H2).2.2;omega) (fun h=>h)).trans hrb4
 have hv05:=(hf5.cell (p:=⟨w1.heap.size+1,0,none⟩) (ab hv04) (fun h=>h)).trans hv04
 have hn05:=(hf5.cell (p:=⟨w1.heap.size+1+1,0,none⟩) (ab hn04) (fun h=>h)).trans hn04
 have hv15:=(hf5.cell (p:=⟨w1.heap.size+1,1,none⟩) (ab hv14) (fun h=>h)).trans hv14
 have hn15:=(hf5.cell (p:=⟨w1.heap.size+1+1,1,none⟩) (ab hn14) (fun h=>h)).trans hn14
 have hv25:=(hf5.cell (p:=⟨w1.heap.size+1,2,none⟩) (ab hv24) (fun h=>h)).trans hv24
 have hn25:=(hf5.cell (p:=⟨w1.heap.size+1+1,2,none⟩) (ab hn24) (fun h=>h)).trans hn24
 have hv35:=(hf5.cell (p:=⟨w1.heap.size+1,3,none⟩) (ab hv34) (fun h=>h)).trans hv34
 have hn35:=(hf5.cell (p:=⟨w1.heap.size+1+1,3,none⟩) (ab hn34) (fun h=>h)).trans hn34
 have hv45:=(hf5.cell (p:=⟨w1.heap.size+1,4,none⟩) (ab hv44) (fun h=>h)).trans hv44
 have hn45:=(hf5.cell (p:=⟨w1.heap.size+1+1,4,none⟩) (ab hn44) (fun h=>h)).trans hn44
 have hv55:=(hf5.cell (p:=⟨w1.heap.size+1,5,none⟩) (ab hv54) (fun h=>h)).trans hv54
 have hn55:=(hf5.cell (p:=⟨w1.heap.size+1+1,5,none⟩) (ab hn54) (fun h=>h)).trans hn54
 have hv65:=(hf5.cell (p:=⟨w1.heap.size+1,6,none⟩) (ab hv64) (fun h=>h)).trans hv64
 have hn65:=(hf5.cell (p:=⟨w1.heap.size+1+1,6,none⟩) (ab hn64) (fun h=>h)).trans hn64
 have hv75:=(hf5.cell (p:=⟨w1.heap.size+1,7,none⟩) (ab hv74) (fun h=>h)).trans hv74
 have hn75:=(hf5.cell (p:=⟨w1.heap.size+1+1,7,none⟩) (ab hn74) (fun h=>h)).trans hn74
 have hv85:=(hf5.cell (p:=⟨w1.heap.size+1,8,none⟩) (ab hv84) (fun h=>h)).trans hv84
 have hn85:=(hf5.cell (p:=⟨w1.heap.size+1+1,8,none⟩) (ab hn84) (fun h=>h)).trans hn84
 have hv95:=(hf5.cell (p:=⟨w1.heap.size+1,9,none⟩) (ab hv94) (fun h=>h)).trans hv94
 have hn95:=(hf5.cell (p:=⟨w1.heap.size+1+1,9,none⟩) (ab hn94) (fun h=>h)).trans hn94
 have hr05:w5.cell? ⟨w.heap.size,0,none⟩=some (.int .u32 0):=by simp[World.cell?,hrb5]
 have hr15:w5.cell? ⟨w.heap.size,1,none⟩=some (.int .u32 0):=by simp[World.cell?,hrb5]
 have hr25:w5.cell? ⟨w.heap.size,2,none⟩=some (.int .u32 0):=by simp[World.cell?,hrb5]
 have hr35:w5.cell? ⟨w.heap.size,3,none⟩=some (.int .u8 0):=by simp[World.cell?,hrb5]
 have hr45:w5.cell? ⟨w.heap.size,4,none⟩=some (.int .u32 0):=by simp[World.cell?,hrb5]
 have hr55:w5.cell? ⟨w.heap.size,5,none⟩=some (.int .u32 0):=by simp[World.cell?,hrb5]
 have hr65:w5.cell? ⟨w.heap.size,6,none⟩=some (.int .u32 0):=by simp[World.cell?,hrb5]
 have hr75:w5.cell? ⟨w.heap.size,7,none⟩=some (.int .u32 0):=by simp[World.cell?,hrb5]
 have hr85:w5.cell? ⟨w.heap.size,8,none⟩=some (.slice none 0 0):=by simp[World.cell?,hrb5]
 have hr95:w5.cell? ⟨w.heap.size,9,none⟩=some (.string ⟨#[]⟩):=by simp[World.cell?,hrb5]
 have hrz5:∀ i,w5.frozen? ⟨w.heap.size,i,none⟩=false:=fun i=>by simp[World.frozen?,hrb5]
 have hrl5:=ab hr05
 have hlv5:=ab hv05
 have hln5:=ab hn05
 have hnr1:w1.heap.size+1≠w.heap.size:=by omega
 have hnr2:w1.heap.size+1+1≠w.heap.size:=by omega
 have hsF:∀ (i:Nat) v W,Fr (fun k=>k=w.heap.size) w5 W→Fr (fun k=>k=w.heap.size) w5 (W.setCell ⟨w.heap.size,i,none⟩ v):=fun i v W h=>h.setCell (.inl rfl) v
 have H5:=ae (And.intro hf5 (hEr))
 rcases hEr with ⟨h0,rfl⟩|⟨h1',h7,fb,rfl,hb⟩
 ·clear hf5
  go_wp2_with fail
  refine bodyPost_ret (v:=.tuple #[.agg #[v0,v1,v2,v3,v4,v5,v6,v7,v8,v9],.nilIface]) (by simp[results,Tryz.results77,go_sem,hr05,hr15,hr25,hr35,hr45,hr55,hr65,hr75,hr85,hr95]) rfl ?_
  have hfin:q'.fin.2.2=0:=h0
  refine⟨_,_,rfl,.inl ⟨hfin,rfl⟩,fun h=>absurd hfin h,fun _=>⟨F3,w1.heap.size+1,?_,by omega⟩,?_⟩
  ·have hR5:=(aa H).2.1 _ _ _ _ _ _ _ ((aa H).2.1 _ _ _ _ _ _ _ (aa H3).2.2.1 (aa H4).1 (fun _ _ h=>h.elim)) (aw.bD (aa H5).1 F3 (fun _ _=>False)) (fun _ _ h=>h.elim)
   exact(aa H).2.1 _ _ _ _ _ _ _ hR5 (((((((((((aw.refl w5 F3 (fun k _=>k=w.heap.size)).trans (aw.set w.heap.size 0 _) (fun k j _ h=>h.1)).trans (aw.set w.heap.size 1 _) (fun k j _ h=>h.1)).trans (aw.set w.heap.size 2 _) (fun k j _ h=>h.1)).trans (aw.set w.heap.size 3 _) (fun k j _ h=>h.1)).trans (aw.set w.heap.size 4 _) (fun k j _ h=>h.1)).trans (aw.set w.heap.size 5 _) (fun k j _ h=>h.1)).trans (aw.set w.heap.size 6 _) (fun k j _ h=>h.1)).trans (aw.set w.heap.size 7 _) (fun k j _ h=>h.1)).trans (aw.set w.heap.size 8 _) (fun k j _ h=>h.1)).trans (aw.set w.heap.size 9 _) (fun k j _ h=>h.1)) (fun k j h=>h)
  ·exact(((((((((((aa H4).2.trans (aa H5).1 (fun _ _ h=>h)).setCell (.inr (Nat.le_refl _)) _).setCell (.inr (Nat.le_refl _)) _).setCell (.inr (Nat.le_refl _)) _).setCell (.inr (Nat.le_refl _)) _).setCell (.inr (Nat.le_refl _)) _).setCell (.inr (Nat.le_refl _)) _).setCell (.inr (Nat.le_refl _)) _).setCell (.inr (Nat.le_refl _)) _).setCell (.inr (Nat.le_refl _)) _).setCell (.inr (Nat.le_refl _)) _
 ·have hfb:fb≠w.heap.size:=fun e=>by rw[e,hrb5] at hb;simp[aR] at hb
  have HB5:=ae hb
  clear hf5 hb
  go_wp2_with fail
  refine bodyPost_ret (v:=.tuple #[.agg #[.int .u32 0,.int .u32 0,.int .u32 0,.int .u8 0,.int .u32 0,.int .u32 0,.int .u32 0,.int .u32 0,.slice none 0 0,.string ⟨#[]⟩],.iface 78 (.pointer (some ⟨fb,0,none⟩))]) (by simp[results,Tryz.results77,go_sem,hr05,hr15,hr25,hr35,hr45,hr55,hr65,hr75,hr85,hr95]) rfl ?_
  have hfin:q'.fin.2.2≠0:=fun e=>by have:1≤q'.fin.2.2:=h1';omega
  refine⟨_,_,rfl,.inr ⟨h1',h7,fb,rfl,?_⟩,fun _=>rfl,fun h=>absurd h hfin,?_⟩
  ·rw[Below.heap_setCell _ _ _ _ hfb,Below.heap_setCell _ _ _ _ hfb,Below.heap_setCell _ _ _ _ hfb,Below.heap_setCell _ _ _ _ hfb,Below.heap_setCell _ _ _ _ hfb,Below.heap_setCell _ _ _ _ hfb,Below.heap_setCell _ _ _ _ hfb,Below.heap_setCell _ _ _ _ hfb,Below.heap_setCell _ _ _ _ hfb,Below.heap_setCell _ _ _ _ hfb]
   exact aa HB5
  ·exact(((((((((((aa H4).2.trans (aa H5).1 (fun _ _ h=>h)).setCell (.inr (Nat.le_refl _)) _).setCell (.inr (Nat.le_refl _)) _).setCell (.inr (Nat.le_refl _)) _).setCell (.inr (Nat.le_refl _)) _).setCell (.inr (Nat.le_refl _)) _).setCell (.inr (Nat.le_refl _)) _).setCell (.inr (Nat.le_refl _)) _).setCell (.inr (Nat.le_refl _)) _).setCell (.inr (Nat.le_refl _)) _).setCell (.inr (Nat.le_refl _)) _
theorem tk (x:Value) (l:List Nat) (q':Q) (Res:World→(Nat→Prop)→Nat→Array Value→Prop) (E:Nat→Addr) (w:World) (hg:G6 w E) (hw:9≤w.heap.size) (hx:Src w x l) (hl:l.length≤140737488355328)
  (hst:∀ w2 w' F F' P g vs,Res w2 F g vs→aw w2 w' F F' P→(∀ k j,P k j→k=w.heap.size)→Res w' F' g vs)
  (hwhole:∀ w1 cb b F g,Cd w1 cb b F (.rd ⟨ByteArray.empty,l,0,0,none⟩) E→w1.cell? ⟨g,0,none⟩=some (.int .u32 0)→w1.cell? ⟨g,1,none⟩=some (.int .u32 0)→w1.cell? ⟨g,2,none⟩=some (.int .u8 0)→w1.cell? ⟨g,3,none⟩=some (.int .u32 0)→w1.cell? ⟨g,4,none⟩=some (.int .u32 0)→w1.cell? ⟨g,5,none⟩=some (.slice none 0 0)→w1.cell? ⟨g,6,none⟩=some (.slice none 0 0)→(∀ i,Loc w1 cb F g i)→(∀ k,F k→w.heap.size<k)→w.heap.size<g→Fr (fun _=>False) w w1→Calls Tryz.prog 68 #[.pointer (some ⟨cb,0,none⟩),.iface 158 (.pointer (some ⟨g,0,none⟩))] w1 fun e w'=>e = .returned (.tuple #[])∧∃ F',Cd w' cb b F' (.rd q') E∧∃ v0 v1 v2 v3 v4 v5 v6,w'.cell? ⟨g,0,none⟩=some v0∧w'.cell? ⟨g,1,none⟩=some v1∧w'.cell? ⟨g,2,none⟩=some v2∧w'.cell? ⟨g,3,none⟩=some v3∧w'.cell? ⟨g,4,none⟩=some v4∧w'.cell? ⟨g,5,none⟩=some v5∧w'.cell? ⟨g,6,none⟩=some v6∧(∀ v∈([v0,v1,v2,v3,v4,v5,v6]:List Value),v.oneCell'=true)∧Res w' F' g #[v0,v1,v2,v3,v4,v5,v6]∧aw w1 w' F F' (fun k _=>k=g)) :
  Calls Tryz.prog 78 #[x] w fun e w'=>∃ vs err,e = .returned (.tuple #[.agg vs,err])∧cT w' err q'.fin E∧(q'.fin.2.2≠0→vs = #[.int .u32 0,.int .u32 0,.int .u8 0,.int .u32 0,.int .u32 0,.slice none 0 0,.slice none 0 0])∧(q'.fin.2.2=0→∃ F' g,Res w' F' g vs∧w.heap.size≤g)∧Fr (fun _=>False) w w':=by
 obtain⟨xo,xc,rfl⟩:=hx.form
 have hbx:=aB w (.cells #[.int .u32 0,.int .u32 0,.int .u8 0,.int .u32 0,.int .u32 0,.slice none 0 0,.slice none 0 0] 33)
 have HN:=ae (cM _ l (w.alloc (.cells #[.int .u32 0,.int .u32 0,.int .u8 0,.int .u32 0,.int .u32 0,.slice none 0 0,.slice none 0 0] 33)) (by simp;omega) (hx.fr hbx (fun _ _ _ _ _ h=>h)) hl)
 have H:=ae (And.intro hg (And.intro hst hwhole))
 have HB:=ae hbx
 clear hg hst hwhole hx hbx
 go_enter Tryz.func78,Tryz.ntmps78
 go_wp2_with fail
 refine(aa HN).mono ?_
 rintro e w1 ⟨b,F,rfl,hR1,hf1',hF1'⟩
 have hf1:Fr (fun _=>False) w w1:=(aa HB).trans hf1' (fun _ _ h=>h)
 have hF1:∀ k,F k→w.heap.size<k:=fun k hk=>by have:=hF1' k hk;simp at this;omega
 have hr0:w1.cell? ⟨w.heap.size,0,none⟩=some (.int .u32 0):=(hf1'.cell (p:=⟨w.heap.size,0,none⟩) (by simp) (fun h=>h)).trans (by simp)
 have hrz:∀ i,w1.frozen? ⟨w.heap.size,i,none⟩=false:=fun i=>(hf1'.frozen (p:=⟨w.heap.size,i,none⟩) (by simp) (fun h=>h)).trans (by simp)
 have hrb:w1.heap[w.heap.size]?=some (.cells #[.int .u32 0,.int .u32 0,.int .u8 0,.int .u32 0,.int .u32 0,.slice none 0 0,.slice none 0 0] 33):=(hf1'.block w.heap.size (by simp) (fun h=>h)).trans (heap_alloc_new _ _)
 have hrl:=ab hr0
 clear hf1' hF1'
 have hbl:=hR1.lt b hR1.fb
 have H1:=ae (And.intro hR1 (And.intro hf1 hF1))
 clear hR1 hf1 hF1
 go_wp2_with fail
 obtain⟨W2,hW2⟩:∃ W2,((w1.alloc (.cells #[.pointer none,.pointer (some ⟨b,0,none⟩)] 143)).alloc (.cells #[.int .u32 0,.int .u32 0,.int .u8 0,.int .u32 0,.int .u32 0,.slice none 0 0,.slice none 0 0] 33)).alloc (.cells #[.int .u32 0,.int .u32 0,.int .u8 0,.int .u32 0,.int .u32 0,.slice none 0 0,.slice none 0 0] 33)=W2:=⟨_,rfl⟩
 have hf12:Fr (fun _=>False) w1 W2:=by rw[← hW2];exact aN _ _ _ _
 have HF12:=ae hf12
 have hf02:=(aa H1).2.1.trans hf12 (fun _ _ h=>h)
 have hsz2:W2.heap.size=w1.heap.size+3:=by rw[← hW2];simp
 have hC2:Cd W2 w1.heap.size b F (.rd ⟨ByteArray.empty,l,0,0,none⟩) E:=by
  have hb1:=(aa H1).1.lt
  have hw1:=(aa H1).2.1.size
  refine⟨(aa H).1.fr hf02 (fun _ h=>h.elim),fun hx=>by have:=hb1 _ hx;omega,fun k hk=>by have:=hb1 k hk;omega,(aa H1).1.lo,by omega,?_,?_,⟨(aa H1).1.frame hf12 (fun _ _ h=>h),⟨Nat.zero_le _,Nat.zero_le _,fun y hy=>by cases hy⟩,hl⟩,trivial⟩
  ·rw[← hW2,World.cell?_alloc_past _ _ _ (by simp;omega),World.cell?_alloc_past _ _ _ (by simp),World.cell?_alloc_at _ _ _ _ (by simp)];rfl
  ·rw[← hW2,World.cell?_alloc_past _ _ _ (by simp;omega),World.cell?_alloc_past _ _ _ (by simp),World.cell?_alloc_at _ _ _ _ (by simp)];rfl
 have hcs:∀ (i:Nat) v,(#[.int .u32 0,.int .u32 0,.int .u8 0,.int .u32 0,.int .u32 0,.slice none 0 0,.slice none 0 0]:Array Value)[i]?=some v→W2.cell? ⟨w1.heap.size+1,i,none⟩=some v:=fun i v hv=>by
  rw[← hW2,World.cell?_alloc_past _ _ _ (by simp),World.cell?_alloc_at _ _ _ _ (by simp)];exact hv
 have hnn:∀ (i:Nat) v,(#[.int .u32 0,.int .u32 0,.int .u8 0,.int .u32 0,.int .u32 0,.slice none 0 0,.slice none 0 0]:Array Value)[i]?=some v→W2.cell? ⟨w1.heap.size+1+1,i,none⟩=some v:=fun i v hv=>by
  rw[← hW2,World.cell?_alloc_at _ _ _ _ (by simp)];exact hv
 have hLo:∀ i,Loc W2 w1.heap.size F (w1.heap.size+1) i:=fun i=>by
  have hb1:=(aa H1).1.lt
  have hw1:=(aa H1).2.1.size
  exact⟨(((by rw[← hW2];exact aB _ _):Fr (fun _=>False) ((w1.alloc (.cells #[.pointer none,.pointer (some ⟨b,0,none⟩)] 143)).alloc (.cells #[.int .u32 0,.int .u32 0,.int .u8 0,.int .u32 0,.int .u32 0,.slice none 0 0,.slice none 0 0] 33)) W2).frozen (p:=⟨w1.heap.size+1,i,none⟩) (by simp) (fun h=>h)).trans (by simp),by omega,fun hx=>by have:=hb1 _ hx;omega,by omega,by omega⟩
 have HW:=ae ((aa H).2.2 W2 w1.heap.size b F (w1.heap.size+1) hC2 (hcs 0 _ rfl) (hcs 1 _ rfl) (hcs 2 _ rfl) (hcs 3 _ rfl) (hcs 4 _ rfl) (hcs 5 _ rfl) (hcs 6 _ rfl) hLo (aa H1).2.2 (by omega) hf02)
 have H2:=ae (And.intro hf02 (And.intro hnn hsz2))
 clear hC2 hf02 hLo hsz2 hcs hf12 hnn
 rw[hW2]
 clear hW2
 refine(aa HW).mono ?_
 rintro e w3 ⟨rfl,F3,hC3,v0,v1,v2,v3,v4,v5,v6,hv0,hv1,hv2,hv3,hv4,hv5,hv6,hone,hRes,hs3⟩
 have hst0:∀ (a:Addr) (m:Mode) (W:World),(store a v0 m).run Tryz.prog W=stored Tryz.prog W a v0 m:=fun _ _ _=>run_store _ _ _ _ _ (hone v0 (by simp))
 have hst1:∀ (a:Addr) (m:Mode) (W:World),(store a v1 m).run Tryz.prog W=stored Tryz.prog W a v1 m:=fun _ _ _=>run_store _ _ _ _ _ (hone v1 (by simp))
 have hst2:∀ (a:Addr) (m:Mode) (W:World),(store a v2 m).run Tryz.prog W=stored Tryz.prog W a v2 m:=fun _ _ _=>run_store _ _ _ _ _ (hone v2 (by simp))
 have hst3:∀ (a:Addr) (m:Mode) (W:World),(store a v3 m).run Tryz.prog W=stored Tryz.prog W a v3 m:=fun _ _ _=>run_store _ _ _ _ _ (hone v3 (by simp))
 have hst4:∀ (a:Addr) (m:Mode) (W:World),(store a v4 m).run Tryz.prog W=stored Tryz.prog W a v4 m:=fun _ _ _=>run_store _ _ _ _ _ (hone v4 (by simp))
 have hst5:∀ (a:Addr) (m:Mode) (W:World),(store a v5 m).run Tryz.prog W=stored Tryz.prog W a v5 m:=fun _ _ _=>run_store _ _ _ _ _ (hone v5 (by simp))
 have hst6:∀ (a:Addr) (m:Mode) (W:World),(store a v6 m).run Tryz.prog W=stored Tryz.prog W a v6 m:=fun _ _ _=>run_store _ _ _ _ _ (hone v6 (by simp))
 clear hone
 have h1:w3.cell? ⟨w1.heap.size,1,none⟩=some (.pointer (some ⟨b,0,none⟩)):=hC3.c1
 have hl1:=ab h1
 obtain⟨hf02,hnn,hsz2⟩:=aa H2
 have hFb:∀ k,F k→k<w1.heap.size:=(aa H1).1.lt
 have hne:∀ i,w3.cell? ⟨w1.heap.size+1+1,i,none⟩=W2.cell? ⟨w1.heap.size+1+1,i,none⟩:=fun i=>hs3.oth (w1.heap.size+1+1) i (by omega) (fun hx=>by have:=hFb _ hx;omega) (fun h=>by omega)
 have hn0:=(hne 0).trans (hnn 0 _ rfl)
 have hn1:=(hne 1).trans (hnn 1 _ rfl)
 have hn2:=(hne 2).trans (hnn 2 _ rfl)
 have hn3:=(hne 3).trans (hnn 3 _ rfl)
 have hn4:=(hne 4).trans (hnn 4 _ rfl)
 have hn5:=(hne 5).trans (hnn 5 _ rfl)
 have hn6:=(hne 6).trans (hnn 6 _ rfl)
 have hrF:¬ F w.heap.size:=fun hx=>by have:=(aa H1).2.2 _ hx;omega
 have hrb3:w3.heap[w.heap.size]?=some (.cells #[.int .u32 0,.int .u32 0,.int .u8 0,.int .u32 0,.int .u32 0,.slice none 0 0,.slice none 0 0] 33):=(hs3.block (by omega) hrF (fun i h=>by omega)).trans ((aa HF12).block _ hrl (fun h=>h) |>.trans hrb)
 have hf03:Fr (fun _=>False) w w3:=hf02.trans hs3.fr (fun k hk hx=>hx.elim (fun hx=>by have:=(aa H1).2.2 k hx;omega) (fun ⟨_,hx⟩=>by omega))
 have hst3:R w3 b F3 (q'.dP E)∧q'.ok∧q'.all.length≤140737488355328:=hC3.st
 have HD:=ae (bX q' bm b F3 E w3 hst3.1)
 have H3:=ae (And.intro hC3 (And.intro hs3 (And.intro hRes (And.intro hf03 (And.intro hst3.2.1 hrF)))))
 clear hC3 hs3 hRes hf03 hst3 hrF hf02 hnn hsz2 hFb hne
 go_wp2_with fail
 refine(aa HD).mono ?_
 rintro e w4 ⟨rfl,hR4,hch4⟩
 have hgF3:=(aa H3).2.1.nF (by have:=(aa H2).2.2;omega) (show ¬ F (w1.heap.size+1) from fun hx=>by have:=(aa H1).1.lt _ hx;omega)
 have hnF3:=(aa H3).2.1.nF (by have:=(aa H2).2.2;omega) (show ¬ F (w1.heap.size+1+1) from fun hx=>by have:=(aa H1).1.lt _ hx;omega)
 have hcF3:=(aa H3).1.nf
 have hv04:=(hch4.fr.cell (p:=⟨w1.heap.size+1,0,none⟩) (ab hv0) hgF3).trans hv0
 have hv14:=(hch4.fr.cell (p:=⟨w1.heap.size+1,1,none⟩) (ab hv1) hgF3).trans hv1
 have hv24:=(hch4.fr.cell (p:=⟨w1.heap.size+1,2,none⟩) (ab hv2) hgF3).trans hv2
 have hv34:=(hch4.fr.cell (p:=⟨w1.heap.size+1,3,none⟩) (ab hv3) hgF3).trans hv3
 have hv44:=(hch4.fr.cell (p:=⟨w1.heap.size+1,4,none⟩) (ab hv4) hgF3).trans hv4
 have hv54:=(hch4.fr.cell (p:=⟨w1.heap.size+1,5,none⟩) (ab hv5) hgF3).trans hv5
 have hv64:=(hch4.fr.cell (p:=⟨w1.heap.size+1,6,none⟩) (ab hv6) hgF3).trans hv6
 have hn04:=(hch4.fr.cell (p:=⟨w1.heap.size+1+1,0,none⟩) (ab hn0) hnF3).trans hn0
 have hn14:=(hch4.fr.cell (p:=⟨w1.heap.size+1+1,1,none⟩) (ab hn1) hnF3).trans hn1
 have hn24:=(hch4.fr.cell (p:=⟨w1.heap.size+1+1,2,none⟩) (ab hn2) hnF3).trans hn2
 have hn34:=(hch4.fr.cell (p:=⟨w1.heap.size+1+1,3,none⟩) (ab hn3) hnF3).trans hn3
 have hn44:=(hch4.fr.cell (p:=⟨w1.heap.size+1+1,4,none⟩) (ab hn4) hnF3).trans hn4
 have hn54:=(hch4.fr.cell (p:=⟨w1.heap.size+1+1,5,none⟩) (ab hn5) hnF3).trans hn5
 have hn64:=(hch4.fr.cell (p:=⟨w1.heap.size+1+1,6,none⟩) (ab hn6) hnF3).trans hn6
 have h14:w4.cell? ⟨w1.heap.size,1,none⟩=some (.pointer (some ⟨b,0,none⟩)):=(hch4.fr.cell (p:=⟨w1.heap.size,1,none⟩) hl1 hcF3).trans h1
 have hrb4:w4.heap[w.heap.size]?=some (.cells #[.int .u32 0,.int .u32 0,.int .u8 0,.int .u32 0,.int .u32 0,.slice none 0 0,.slice none 0 0] 33):=(hch4.fr.block w.heap.size (by omega) ((aa H3).2.1.nF (by have:=(aa H2).2.2;omega) (aa H3).2.2.2.2.2)).trans hrb3
 have HE:=ae (fI (q'.named bm) b F3 E w4 hR4 (Q.bG (aa H3).2.2.2.2.1 bm) ((aa H3).1.g7.fr hch4.fr (aa H3).1.lo).gl)
 have hs4:aw w3 w4 F3 F3 (fun _ _=>False):=aw.cX hch4 _
 have hf04:Fr (fun _=>False) w w4:=(aa H3).2.2.2.1.trans hch4.fr (fun k hk hx=>by
  rcases(aa H3).2.1.new k hx with h|h
  ·have:=(aa H1).2.2 k h;omega
  ·have:=(aa H1).2.1.size;have:=(aa H2).2.2;omega)
 have H4:=ae (And.intro hs4 hf04)
 clear hR4 hch4 hs4 hf04 hgF3 hnF3 hcF3
 go_wp2_with fail
 refine(aa HE).mono ?_
 rintro e w5 ⟨err,rfl,hEr,hf5⟩
 have hrb5:w5.heap[w.heap.size]?=some (.cells #[.int .u32 0,.int .u32 0,.int .u8 0,.int .u32 0,.int .u32 0,.slice none 0 0,.slice none 0 0] 33):=(hf5.block w.heap.size (by have:=(aa H4).1.size;have:=(aa H3).2.1.size;have:=(aa H2).2.2;omega) (fun h=>h)).trans hrb4
 have hv05:=(hf5.cell (p:=⟨w1.heap.size+1,0,none⟩) (ab hv04) (fun h=>h)).trans hv04
 have hn05:=(hf5.cell (p:=⟨w1.heap.size+1+1,0,none⟩) (ab hn04) (fun h=>h)).trans hn04
 have hv15:=(hf5.cell (p:=⟨w1.heap.size+1,1,none⟩) (ab hv14) (fun h=>h)).trans hv14
 have hn15:=(hf5.cell (p:=⟨w1.heap.size+1+1,1,none⟩) (ab hn14) (fun h=>h)).trans hn14
 have hv25:=(hf5.cell (p:=⟨w1.heap.size+1,2,none⟩) (ab hv24) (fun h=>h)).trans hv24
 have hn25:=(hf5.cell (p:=⟨w1.heap.size+1+1,2,none⟩) (ab hn24) (fun h=>h)).trans hn24
 have hv35:=(hf5.cell (p:=⟨w1.heap.size+1,3,none⟩) (ab hv34) (fun h=>h)).trans hv34
 have hn35:=(hf5.cell (p:=⟨w1.heap.size+1+1,3,none⟩) (ab hn34) (fun h=>h)).trans hn34
 have hv45:=(hf5.cell (p:=⟨w1.heap.size+1,4,none⟩) (ab hv44) (fun h=>h)).trans hv44
 have hn45:=(hf5.cell (p:=⟨w1.heap.size+1+1,4,none⟩) (ab hn44) (fun h=>h)).trans hn44
 have hv55:=(hf5.cell (p:=⟨w1.heap.size+1,5,none⟩) (ab hv54) (fun h=>h)).trans hv54
 have hn55:=(hf5.cell (p:=⟨w1.heap.size+1+1,5,none⟩) (ab hn54) (fun h=>h)).trans hn54
 have hv65:=(hf5.cell (p:=⟨w1.heap.size+1,6,none⟩) (ab hv64) (fun h=>h)).trans hv64
 have hn65:=(hf5.cell (p:=⟨w1.heap.size+1+1,6,none⟩) (ab hn64) (fun h=>h)).trans hn64
 have hr05:w5.cell? ⟨w.heap.size,0,none⟩=some (.int .u32 0):=by simp[World.cell?,hrb5]
 have hr15:w5.cell? ⟨w.heap.size,1,none⟩=some (.int .u32 0):=by simp[World.cell?,hrb5]
 have hr25:w5.cell? ⟨w.heap.size,2,none⟩=some (.int .u8 0):=by simp[World.cell?,hrb5]
 have hr35:w5.cell? ⟨w.heap.size,3,none⟩=some (.int .u32 0):=by simp[World.cell?,hrb5]
 have hr45:w5.cell? ⟨w.heap.size,4,none⟩=some (.int .u32 0):=by simp[World.cell?,hrb5]
 have hr55:w5.cell? ⟨w.heap.size,5,none⟩=some (.slice none 0 0):=by simp[World.cell?,hrb5]
 have hr65:w5.cell? ⟨w.heap.size,6,none⟩=some (.slice none 0 0):=by simp[World.cell?,hrb5]
 have hrz5:∀ i,w5.frozen? ⟨w.heap.size,i,none⟩=false:=fun i=>by simp[World.frozen?,hrb5]
 have hrl5:=ab hr05
 have hlv5:=ab hv05
 have hln5:=ab hn05
 have hnr1:w1.heap.size+1≠w.heap.size:=by omega
 have hnr2:w1.heap.size+1+1≠w.heap.size:=by omega
 have hsF:∀ (i:Nat) v W,Fr (fun k=>k=w.heap.size) w5 W→Fr (fun k=>k=w.heap.size) w5 (W.setCell ⟨w.heap.size,i,none⟩ v):=fun i v W h=>h.setCell (.inl rfl) v
 have H5:=ae (And.intro hf5 (hEr))
 rcases hEr with ⟨h0,rfl⟩|⟨h1',h7,fb,rfl,hb⟩
 ·clear hf5
  go_wp2_with fail
  refine bodyPost_ret (v:=.tuple #[.agg #[v0,v1,v2,v3,v4,v5,v6],.nilIface]) (by simp[results,Tryz.results78,go_sem,hr05,hr15,hr25,hr35,hr45,hr55,hr65]) rfl ?_
  have hfin:q'.fin.2.2=0:=h0
  refine⟨_,_,rfl,.inl ⟨hfin,rfl⟩,fun h=>absurd hfin h,fun _=>⟨F3,w1.heap.size+1,?_,by omega⟩,?_⟩
  ·have hR5:=(aa H).2.1 _ _ _ _ _ _ _ ((aa H).2.1 _ _ _ _ _ _ _ (aa H3).2.2.1 (aa H4).1 (fun _ _ h=>h.elim)) (aw.bD (aa H5).1 F3 (fun _ _=>False)) (fun _ _ h=>h.elim)
   exact(aa H).2.1 _ _ _ _ _ _ _ hR5 ((((((((aw.refl w5 F3 (fun k _=>k=w.heap.size)).trans (aw.set w.heap.size 0 _) (fun k j _ h=>h.1)).trans (aw.set w.heap.size 1 _) (fun k j _ h=>h.1)).trans (aw.set w.heap.size 2 _) (fun k j _ h=>h.1)).trans (aw.set w.heap.size 3 _) (fun k j _ h=>h.1)).trans (aw.set w.heap.size 4 _) (fun k j _ h=>h.1)).trans (aw.set w.heap.size 5 _) (fun k j _ h=>h.1)).trans (aw.set w.heap.size 6 _) (fun k j _ h=>h.1)) (fun k j h=>h)
  ·exact((((((((aa H4).2.trans (aa H5).1 (fun _ _ h=>h)).setCell (.inr (Nat.le_refl _)) _).setCell (.inr (Nat.le_refl _)) _).setCell (.inr (Nat.le_refl _)) _).setCell (.inr (Nat.le_refl _)) _).setCell (.inr (Nat.le_refl _)) _).setCell (.inr (Nat.le_refl _)) _).setCell (.inr (Nat.le_refl _)) _
 ·have hfb:fb≠w.heap.size:=fun e=>by rw[e,hrb5] at hb;simp[aR] at hb
  have HB5:=ae hb
  clear hf5 hb
  go_wp2_with fail
  refine bodyPost_ret (v:=.tuple #[.agg #[.int .u32 0,.int .u32 0,.int .u8 0,.int .u32 0,.int .u32 0,.slice none 0 0,.slice none 0 0],.iface 78 (.pointer (some ⟨fb,0,none⟩))]) (by simp[results,Tryz.results78,go_sem,hr05,hr15,hr25,hr35,hr45,hr55,hr65]) rfl ?_
  have hfin:q'.fin.2.2≠0:=fun e=>by have:1≤q'.fin.2.2:=h1';omega
  refine⟨_,_,rfl,.inr ⟨h1',h7,fb,rfl,?_⟩,fun _=>rfl,fun h=>absurd h hfin,?_⟩
  ·rw[Below.heap_setCell _ _ _ _ hfb,Below.heap_setCell _ _ _ _ hfb,Below.heap_setCell _ _ _ _ hfb,Below.heap_setCell _ _ _ _ hfb,Below.heap_setCell _ _ _ _ hfb,Below.heap_setCell _ _ _ _ hfb,Below.heap_setCell _ _ _ _ hfb]
   exact aa HB5
  ·exact((((((((aa H4).2.trans (aa H5).1 (fun _ _ h=>h)).setCell (.inr (Nat.le_refl _)) _).setCell (.inr (Nat.le_refl _)) _).setCell (.inr (Nat.le_refl _)) _).setCell (.inr (Nat.le_refl _)) _).setCell (.inr (Nat.le_refl _)) _).setCell (.inr (Nat.le_refl _)) _).setCell (.inr (Nat.le_refl _)) _
theorem xb (x:Value) (l:List Nat) (q':Q) (Res:World→(Nat→Prop)→Nat→Array Value→Prop) (E:Nat→Addr) (w:World) (hg:G6 w E) (hw:9≤w.heap.size) (hx:Src w x l) (hl:l.length≤140737488355328)
  (hst:∀ w2 w' F F' P g vs,Res w2 F g vs→aw w2 w' F F' P→(∀ k j,P k j→k=w.heap.size)→Res w' F' g vs)
  (hwhole:∀ w1 cb b F g,Cd w1 cb b F (.rd ⟨ByteArray.empty,l,0,0,none⟩) E→w1.cell? ⟨g,0,none⟩=some (.int .u32 0)→w1.cell? ⟨g,1,none⟩=some (.int .u32 0)→w1.cell? ⟨g,2,none⟩=some (.int .u32 0)→w1.cell? ⟨g,3,none⟩=some (.int .u32 0)→w1.cell? ⟨g,4,none⟩=some (.int .u8 0)→w1.cell? ⟨g,5,none⟩=some (.int .u32 0)→w1.cell? ⟨g,6,none⟩=some (.int .u32 0)→w1.cell? ⟨g,7,none⟩=some (.int .u32 0)→w1.cell? ⟨g,8,none⟩=some (.int .u32 0)→w1.cell? ⟨g,9,none⟩=some (.slice none 0 0)→w1.cell? ⟨g,10,none⟩=some (.string ⟨#[]⟩)→w1.cell? ⟨g,11,none⟩=some (.int .u8 0)→w1.cell? ⟨g,12,none⟩=some (.slice none 0 0)→(∀ i,Loc w1 cb F g i)→(∀ k,F k→w.heap.size<k)→w.heap.size<g→Fr (fun _=>False) w w1→Calls Tryz.prog 68 #[.pointer (some ⟨cb,0,none⟩),.iface 210 (.pointer (some ⟨g,0,none⟩))] w1 fun e w'=>e = .returned (.tuple #[])∧∃ F',Cd w' cb b F' (.rd q') E∧∃ v0 v1 v2 v3 v4 v5 v6 v7 v8 v9 v10 v11 v12,w'.cell? ⟨g,0,none⟩=some v0∧w'.cell? ⟨g,1,none⟩=some v1∧w'.cell? ⟨g,2,none⟩=some v2∧w'.cell? ⟨g,3,none⟩=some v3∧w'.cell? ⟨g,4,none⟩=some v4∧w'.cell? ⟨g,5,none⟩=some v5∧w'.cell? ⟨g,6,none⟩=some v6∧w'.cell? ⟨g,7,none⟩=some v7∧w'.cell? ⟨g,8,none⟩=some v8∧w'.cell? ⟨g,9,none⟩=some v9∧w'.cell? ⟨g,10,none⟩=some v10∧w'.cell? ⟨g,11,none⟩=some v11∧w'.cell? ⟨g,12,none⟩=some v12∧(∀ v∈([v0,v1,v2,v3,v4,v5,v6,v7,v8,v9,v10,v11,v12]:List Value),v.oneCell'=true)∧Res w' F' g #[v0,v1,v2,v3,v4,v5,v6,v7,v8,v9,v10,v11,v12]∧aw w1 w' F F' (fun k _=>k=g)) :
  Calls Tryz.prog 79 #[x] w fun e w'=>∃ vs err,e = .returned (.tuple #[.agg vs,err])∧cT w' err q'.fin E∧(q'.fin.2.2≠0→vs = #[.int .u32 0,.int .u32 0,.int .u32 0,.int .u32 0,.int .u8 0,.int .u32 0,.int .u32 0,.int .u32 0,.int .u32 0,.slice none 0 0,.string ⟨#[]⟩,.int .u8 0,.slice none 0 0])∧(q'.fin.2.2=0→∃ F' g,Res w' F' g vs∧w.heap.size≤g)∧Fr (fun _=>False) w w':=by
 obtain⟨xo,xc,rfl⟩:=hx.form
 have hbx:=aB w (.cells #[.int .u32 0,.int .u32 0,.int .u32 0,.int .u32 0,.int .u8 0,.int .u32 0,.int .u32 0,.int .u32 0,.int .u32 0,.slice none 0 0,.string ⟨#[]⟩,.int .u8 0,.slice none 0 0] 35)
 have HN:=ae (cM _ l (w.alloc (.cells #[.int .u32 0,.int .u32 0,.int .u32 0,.int .u32 0,.int .u8 0,.int .u32 0,.int .u32 0,.int .u32 0,.int .u32 0,.slice none 0 0,.string ⟨#[]⟩,.int .u8 0,.slice none 0 0] 35)) (by simp;omega) (hx.fr hbx (fun _ _ _ _ _ h=>h)) hl)
 have H:=ae (And.intro hg (And.intro hst hwhole))
 have HB:=ae hbx
 clear hg hst hwhole hx hbx
 go_enter Tryz.func79,Tryz.ntmps79
 go_wp2_with fail
 refine(aa HN).mono ?_
 rintro e w1 ⟨b,F,rfl,hR1,hf1',hF1'⟩
 have hf1:Fr (fun _=>False) w w1:=(aa HB).trans hf1' (fun _ _ h=>h)
 have hF1:∀ k,F k→w.heap.size<k:=fun k hk=>by have:=hF1' k hk;simp at this;omega
 have hr0:w1.cell? ⟨w.heap.size,0,none⟩=some (.int .u32 0):=(hf1'.cell (p:=⟨w.heap.size,0,none⟩) (by simp) (fun h=>h)).trans (by simp)
 have hrz:∀ i,w1.frozen? ⟨w.heap.size,i,none⟩=false:=fun i=>(hf1'.frozen (p:=⟨w.heap.size,i,none⟩) (by simp) (fun h=>h)).trans (by simp)
 have hrb:w1.heap[w.heap.size]?=some (.cells #[.int .u32 0,.int .u32 0,.int .u32 0,.int .u32 0,.int .u8 0,.int .u32 0,.int .u32 0,.int .u32 0,.int .u32 0,.slice none 0 0,.string ⟨#[]⟩,.int .u8 0,.slice none 0 0] 35):=(hf1'.block w.heap.size (by simp) (fun h=>h)).trans (heap_alloc_new _ _)
 have hrl:=ab hr0
 clear hf1' hF1'
 have hbl:=hR1.lt b hR1.fb
 have H1:=ae (And.intro hR1 (And.intro hf1 hF1))
 clear hR1 hf1 hF1
 go_wp2_with fail
 obtain⟨W2,hW2⟩:∃ W2,((w1.alloc (.cells #[.pointer none,.pointer (some ⟨b,0,none⟩)] 143)).alloc (.cells #[.int .u32 0,.int .u32 0,.int .u32 0,.int .u32 0,.int .u8 0,.int .u32 0,.int .u32 0,.int .u32 0,.int .u32 0,.slice none 0 0,.string ⟨#[]⟩,.int .u8 0,.slice none 0 0] 35)).alloc (.cells #[.int .u32 0,.int .u32 0,.int .u32 0,.int .u32 0,.int .u8 0,.int .u32 0,.int .u32 0,.int .u32 0,.int .u32 0,.slice none 0 0,.string ⟨#[]⟩,.int .u8 0,.slice none 0 0] 35)=W2:=⟨_,rfl⟩
 have hf12:Fr (fun _=>False) w1 W2:=by rw[← hW2];exact aN _ _ _ _
 have HF12:=ae hf12
 have hf02:=(aa H1).2.1.trans hf12 (fun _ _ h=>h)
 have hsz2:W2.heap.size=w1.heap.size+3:=by rw[← hW2];simp
 have hC2:Cd W2 w1.heap.size b F (.rd ⟨ByteArray.empty,l,0,0,none⟩) E:=by
  have hb1:=(aa H1).1.lt
  have hw1:=(aa H1).2.1.size
  refine⟨(aa H).1.fr hf02 (fun _ h=>h.elim),fun hx=>by have:=hb1 _ hx;omega,fun k hk=>by have:=hb1 k hk;omega,(aa H1).1.lo,by omega,?_,?_,⟨(aa H1).1.frame hf12 (fun _ _ h=>h),⟨Nat.zero_le _,Nat.zero_le _,fun y hy=>by cases hy⟩,hl⟩,trivial⟩
  ·rw[← hW2,World.cell?_alloc_past _ _ _ (by simp;omega),World.cell?_alloc_past _ _ _ (by simp),World.cell?_alloc_at _ _ _ _ (by simp)];rfl
  ·rw[← hW2,World.cell?_alloc_past _ _ _ (by simp;omega),World.cell?_alloc_past _ _ _ (by simp),World.cell?_alloc_at _ _ _ _ (by simp)];rfl
 have hcs:∀ (i:Nat) v,(#[.int .u32 0,.int .u32 0,.int .u32 0,.int .u32 0,.int .u8 0,.int .u32 0,.int .u32 0,.int .u32 0,.int .u32 0,.slice none 0 0,.string ⟨#[]⟩,.int .u8 0,.slice none 0 0]:Array Value)[i]?=some v→W2.cell? ⟨w1.heap.size+1,i,none⟩=some v:=fun i v hv=>by
  rw[← hW2,World.cell?_alloc_past _ _ _ (by simp),World.cell?_alloc_at _ _ _ _ (by simp)];exact hv
 have hnn:∀ (i:Nat) v,(#[.int .u32 0,.int .u32 0,.int .u32 0,.int .u32 0,.int .u8 0,.int .u32 0,.int .u32 0,.int .u32 0,.int .u32 0,.slice none 0 0,.string ⟨#[]⟩,.int .u8 0,.slice none 0 0]:Array Value)[i]?=some v→W2.cell? ⟨w1.heap.size+1+1,i,none⟩=some v:=fun i v hv=>by
  rw[← hW2,World.cell?_alloc_at _ _ _ _ (by simp)];exact hv
 have hLo:∀ i,Loc W2 w1.heap.size F (w1.heap.size+1) i:=fun i=>by
  have hb1:=(aa H1).1.lt
  have hw1:=(aa H1).2.1.size
  exact⟨(((by rw[← hW2];exact aB _ _):Fr (fun _=>False) ((w1.alloc (.cells #[.pointer none,.pointer (some ⟨b,0,none⟩)] 143)).alloc (.cells #[.int .u32 0,.int .u32 0,.int .u32 0,.int .u32 0,.int .u8 0,.int .u32 0,.int .u32 0,.int .u32 0,.int .u32 0,.slice none 0 0,.string ⟨#[]⟩,.int .u8 0,.slice none 0 0] 35)) W2).frozen (p:=⟨w1.heap.size+1,i,none⟩) (by simp) (fun h=>h)).trans (by simp),by omega,fun hx=>by have:=hb1 _ hx;omega,by omega,by omega⟩
 have HW:=ae ((aa H).2.2 W2 w1.heap.size b F (w1.heap.size+1) hC2 (hcs 0 _ rfl) (hcs 1 _ rfl) (hcs 2 _ rfl) (hcs 3 _ rfl) (hcs 4 _ rfl) (hcs 5 _ rfl) (hcs 6 _ rfl) (hcs 7 _ rfl) (hcs 8 _ rfl) (hcs 9 _ rfl) (hcs 10 _ rfl) (hcs 11 _ rfl) (hcs 12 _ rfl) hLo (aa H1).2.2 (by omega) hf02)
 have H2:=ae (And.intro hf02 (And.intro hnn hsz2))
 clear hC2 hf02 hLo hsz2 hcs hf12 hnn
 rw[hW2]
 clear hW2
 refine(aa HW).mono ?_
 rintro e w3 ⟨rfl,F3,hC3,v0,v1,v2,v3,v4,v5,v6,v7,v8,v9,v10,v11,v12,hv0,hv1,hv2,hv3,hv4,hv5,hv6,hv7,hv8,hv9,hv10,hv11,hv12,hone,hRes,hs3⟩
 have hst0:∀ (a:Addr) (m:Mode) (W:World),(store a v0 m).run Tryz.prog W=stored Tryz.prog W a v0 m:=fun _ _ _=>run_store _ _ _ _ _ (hone v0 (by simp))
 have hst1:∀ (a:Addr) (m:Mode) (W:World),(store a v1 m).run Tryz.prog W=stored Tryz.prog W a v1 m:=fun _ _ _=>run_store _ _ _ _ _ (hone v1 (by simp))
 have hst2:∀ (a:Addr) (m:Mode) (W:World),(store a v2 m).run Tryz.prog W=stored Tryz.prog W a v2 m:=fun _ _ _=>run_store _ _ _ _ _ (hone v2 (by simp))
 have hst3:∀ (a:Addr) (m:Mode) (W:World),(store a v3 m).run Tryz.prog W=stored Tryz.prog W a v3 m:=fun _ _ _=>run_store _ _ _ _ _ (hone v3 (by simp))
 have hst4:∀ (a:Addr) (m:Mode) (W:World),(store a v4 m).run Tryz.prog W=stored Tryz.prog W a v4 m:=fun _ _ _=>run_store _ _ _ _ _ (hone v4 (by simp))
 have hst5:∀ (a:Addr) (m:Mode) (W:World),(store a v5 m).run Tryz.prog W=stored Tryz.prog W a v5 m:=fun _ _ _=>run_store _ _ _ _ _ (hone v5 (by simp))
 have hst6:∀ (a:Addr) (m:Mode) (W:World),(store a v6 m).run Tryz.prog W=stored Tryz.prog W a v6 m:=fun _ _ _=>run_store _ _ _ _ _ (hone v6 (by simp))
 have hst7:∀ (a:Addr) (m:Mode) (W:World),(store a v7 m).run Tryz.prog W=stored Tryz.prog W a v7 m:=fun _ _ _=>run_store _ _ _ _ _ (hone v7 (by simp))
 have hst8:∀ (a:Addr) (m:Mode) (W:World),(store a v8 m).run Tryz.prog W=stored Tryz.prog W a v8 m:=fun _ _ _=>run_store _ _ _ _ _ (hone v8 (by simp))
 have hst9:∀ (a:Addr) (m:Mode) (W:World),(store a v9 m).run Tryz.prog W=stored Tryz.prog W a v9 m:=fun _ _ _=>run_store _ _ _ _ _ (hone v9 (by simp))
 have hst10:∀ (a:Addr) (m:Mode) (W:World),(store a v10 m).run Tryz.prog W=stored Tryz.prog W a v10 m:=fun _ _ _=>run_store _ _ _ _ _ (hone v10 (by simp))
 have hst11:∀ (a:Addr) (m:Mode) (W:World),(store a v11 m).run Tryz.prog W=stored Tryz.prog W a v11 m:=fun _ _ _=>run_store _ _ _ _ _ (hone v11 (by simp))
 have hst12:∀ (a:Addr) (m:Mode) (W:World),(store a v12 m).run Tryz.prog W=stored Tryz.prog W a v12 m:=fun _ _ _=>run_store _ _ _ _ _ (hone v12 (by simp))
 clear hone
 have h1:w3.cell? ⟨w1.heap.size,1,none⟩=some (.pointer (some ⟨b,0,none⟩)):=hC3.c1
 have hl1:=ab h1
 obtain⟨hf02,hnn,hsz2⟩:=aa H2
 have hFb:∀ k,F k→k<w1.heap.size:=(aa H1).1.lt
 have hne:∀ i,w3.cell? ⟨w1.heap.size+1+1,i,none⟩=W2.cell? ⟨w1.heap.size+1+1,i,none⟩:=fun i=>hs3.oth (w1.heap.size+1+1) i (by omega) (fun hx=>by have:=hFb _ hx;omega) (fun h=>by omega)
 have hn0:=(hne 0).trans (hnn 0 _ rfl)
 have hn1:=(hne 1).trans (hnn 1 _ rfl)
 have hn2:=(hne 2).trans (hnn 2 _ rfl)
 have hn3:=(hne 3).trans (hnn 3 _ rfl)
 have hn4:=(hne 4).trans (hnn 4 _ rfl)
 have hn5:=(hne 5).trans (hnn 5 _ rfl)
 have hn6:=(hne 6).trans (hnn 6 _ rfl)
 have hn7:=(hne 7).trans (hnn 7 _ rfl)
 have hn8:=(hne 8).trans (hnn 8 _ rfl)
 have hn9:=(hne 9).trans (hnn 9 _ rfl)
 have hn10:=(hne 10).trans (hnn 10 _ rfl)
 have hn11:=(hne 11).trans (hnn 11 _ rfl)
 have hn12:=(hne 12).trans (hnn 12 _ rfl)
 have hrF:¬ F w.heap.size:=fun hx=>by have:=(aa H1).2.2 _ hx;omega
 have hrb3:w3.heap[w.heap.size]?=some (.cells #[.int .u32 0,.int .u32 0,.int .u32 0,.int .u32 0,.int .u8 0,.int .u32 0,.int .u32 0,.int .u32 0,.int .u32 0,.slice none 0 0,.string ⟨#[]⟩,.int .u8 0,.slice none 0 0] 35):=(hs3.block (by omega) hrF (fun i h=>by omega)).trans ((aa HF12).block _ hrl (fun h=>h) |>.trans hrb)
 have hf03:Fr (fun _=>False) w w3:=hf02.trans hs3.fr (fun k hk hx=>hx.elim (fun hx=>by have:=(aa H1).2.2 k hx;omega) (fun ⟨_,hx⟩=>by omega))
 have hst3:R w3 b F3 (q'.dP E)∧q'.ok∧q'.all.length≤140737488355328:=hC3.st
 have HD:=ae (bX q' bm b F3 E w3 hst3.1)
 have H3:=ae (And.intro hC3 (And.intro hs3 (And.intro hRes (And.intro hf03 (And.intro hst3.2.1 hrF)))))
 clear hC3 hs3 hRes hf03 hst3 hrF hf02 hnn hsz2 hFb hne
 go_wp2_with fail
 refine(aa HD).mono ?_
 rintro e w4 ⟨rfl,hR4,hch4⟩
 have hgF3:=(aa H3).2.1.nF (by have:=(aa H2).2.2;omega) (show ¬ F (w1.heap.size+1) from fun hx=>by have:=(aa H1).1.lt _ hx;omega)
 have hnF3:=(aa H3).2.1.nF (by have:=(aa H2).2.2;omega) (show ¬ F (w1.heap.size+1+1) from fun hx=>by have:=(aa H1).1.lt _ hx;omega)
 have hcF3:=(aa H3).1.nf
 have hv04:=(hch4.fr.cell (p:=⟨w1.heap.size+1,0,none⟩) (ab hv0) hgF3).trans hv0
 have hv14:=(hch4.fr.cell (p:=⟨w1.heap.size+1,1,none⟩) (ab hv1) hgF3).trans hv1
 have hv24:=(hch4.fr.cell (p:=⟨w1.heap.size+1,2,none⟩) (ab hv2) hgF3).trans hv2
 have hv34:=(hch4.fr.cell (p:=⟨w1.heap.size+1,3,none⟩) (ab hv3) hgF3).trans hv3
 have hv44:=(hch4.fr.cell (p:=⟨w1.heap.size+1,4,none⟩) (ab hv4) hgF3).trans hv4
 have hv54:=(hch4.fr.cell (p:=⟨w1.heap.size+1,5,none⟩) (ab hv5) hgF3).trans hv5
 have hv64:=(hch4.fr.cell (p:=⟨w1.heap.size+1,6,none⟩) (ab hv6) hgF3).trans hv6
 have hv74:=(hch4.fr.cell (p:=⟨w1.heap.size+1,7,none⟩) (ab hv7) hgF3).trans hv7
 have hv84:=(hch4.fr.cell (p:=⟨w1.heap.size+1,8,none⟩) (ab hv8) hgF3).trans hv8
 have hv94:=(hch4.fr.cell (p:=⟨w1.heap.size+1,9,none⟩) (ab hv9) hgF3).trans hv9
 have hv104:=(hch4.fr.cell (p:=⟨w1.heap.size+1,10,none⟩) (ab hv10) hgF3).trans hv10
 have hv114:=(hch4.fr.cell (p:=⟨w1.heap.size+1,11,none⟩) (ab hv11) hgF3).trans hv11
 have hv124:=(hch4.fr.cell (p:=⟨w1.heap.size+1,12,none⟩) (ab hv12) hgF3).trans hv12
 have hn04:=(hch4.fr.cell (p:=⟨w1.heap.size+1+1,0,none⟩) (ab hn0) hnF3).trans hn0
 have hn14:=(hch4.fr.cell (p:=⟨w1.heap.size+1+1,1,none⟩) (ab hn1) hnF3).trans hn1
 have hn24:=(hch4.fr.cell (p:=⟨w1.heap.size+1+1,2,none⟩) (ab hn2) hnF3).trans hn2
 have hn34:=(hch4.fr.cell (p:=⟨w1.heap.size+1+1,3,none⟩) (ab hn3) hnF3).trans hn3
 have hn44:=(hch4.fr.cell (p:=⟨w1.heap.size+1+1,4,none⟩) (ab hn4) hnF3).trans hn4
 have hn54:=(hch4.fr.cell (p:=⟨w1.heap.size+1+1,5,none⟩) (ab hn5) hnF3).trans hn5
 have hn64:=(hch4.fr.cell (p:=⟨w1.heap.size+1+1,6,none⟩) (ab hn6) hnF3).trans hn6
 have hn74:=(hch4.fr.cell (p:=⟨w1.heap.size+1+1,7,none⟩) (ab hn7) hnF3).trans hn7
 have hn84:=(hch4.fr.cell (p:=⟨w1.heap.size+1+1,8,none⟩) (ab hn8) hnF3).trans hn8
 have hn94:=(hch4.fr.cell (p:=⟨w1.heap.size+1+1,9,none⟩) (ab hn9) hnF3).trans hn9
 have hn104:=(hch4.fr.cell (p:=⟨w1.heap.size+1+1,10,none⟩) (ab hn10) hnF3).trans hn10
 have hn114:=(hch4.fr.cell (p:=⟨w1.heap.size+1+1,11,none⟩) (ab hn11) hnF3).trans hn11
 have hn124:=(hch4.fr.cell (p:=⟨w1.heap.size+1+1,12,none⟩) (ab hn12) hnF3).trans hn12
 have h14:w4.cell? ⟨w1.heap.size,1,none⟩=some (.pointer (some ⟨b,0,none⟩)):=(hch4.fr.cell (p:=⟨w1.heap.size,1,none⟩) hl1 hcF3).trans h1
 have hrb4:w4.heap[w.heap.size]?=some (.cells #[.int .u32 0,.int .u32 0,.int .u32 0,.int .u32 0,.int .u8 0,.int .u32 0,.int .u32 0,.int .u32 0,.int .u32 0,.slice none 0 0,.string ⟨#[]⟩,.int .u8 0,.slice none 0 0] 35):=(hch4.fr.block w.heap.size (by omega) ((aa H3).2.1.nF (by have:=(aa H2).2.2;omega) (aa H3).2.2.2.2.2)).trans hrb3
 have HE:=ae (fI (q'.named bm) b F3 E w4 hR4 (Q.bG (aa H3).2.2.2.2.1 bm) ((aa H3).1.g7.fr hch4.fr (aa H3).1.lo).gl)
 have hs4:aw w3 w4 F3 F3 (fun _ _=>False):=aw.cX hch4 _
 have hf04:Fr (fun _=>False) w w4:=(aa H3).2.2.2.1.trans hch4.fr (fun k hk hx=>by
  rcases(aa H3).2.1.new k hx with h|h
  ·have:=(aa H1).2.2 k h;omega
  ·have:=(aa H1).2.1.size;have:=(aa H2).2.2;omega)
 have H4:=ae (And.intro hs4 hf04)
 clear hR4 hch4 hs4 hf04 hgF3 hnF3 hcF3
 go_wp2_with fail
 refine(aa HE).mono ?_
 rintro e w5 ⟨err,rfl,hEr,hf5⟩
 have hrb5:w5.heap[w.heap.size]?=some (.cells #[.int .u32 0,.int .u32 0,.int .u32 0,.int .u32 0,.int .u8 0,.int .u32 0,.int .u32 0,.int .u32 0,.int .u32 0,.slice none 0 0,.string ⟨#[]⟩,.int .u8 0,.slice none 0 0] 35):=(hf5.block w.heap.size (by have:=(aa H4).1.size;have:=(aa H3).2.1.size;have:=(aa H2).2.2;omega) (fun h=>h)).trans hrb4
 have hv05:=(hf5.cell (p:=⟨w1.heap.size+1,0,none⟩) (ab hv04) (fun h=>h)).trans hv04
 have hn05:=(hf5.cell (p:=⟨w1.heap.size+1+1,0,none⟩) (ab hn04) (fun h=>h)).trans hn04
 have hv15:=(hf5.cell (p:=⟨w1.heap.size+1,1,none⟩) (ab hv14) (fun h=>h)).trans hv14
 have hn15:=(hf5.cell (p:=⟨w1.heap.size+1+1,1,none⟩) (ab hn14) (fun h=>h)).trans hn14
 have hv25:=(hf5.cell (p:=⟨w1.heap.size+1,2,none⟩) (ab hv24) (fun h=>h)).trans hv24
 have hn25:=(hf5.cell (p:=⟨w1.heap.size+1+1,2,none⟩) (ab hn24) (fun h=>h)).trans hn24
 have hv35:=(hf5.cell (p:=⟨w1.heap.size+1,3,none⟩) (ab hv34) (fun h=>h)).trans hv34
 have hn35:=(hf5.cell (p:=⟨w1.heap.size+1+1,3,none⟩) (ab hn34) (fun h=>h)).trans hn34
 have hv45:=(hf5.cell (p:=⟨w1.heap.size+1,4,none⟩) (ab hv44) (fun h=>h)).trans hv44
 have hn45:=(hf5.cell (p:=⟨w1.heap.size+1+1,4,none⟩) (ab hn44) (fun h=>h)).trans hn44
 have hv55:=(hf5.cell (p:=⟨w1.heap.size+1,5,none⟩) (ab hv54) (fun h=>h)).trans hv54
 have hn55:=(hf5.cell (p:=⟨w1.heap.size+1+1,5,none⟩) (ab hn54) (fun h=>h)).trans hn54
 have hv65:=(hf5.cell (p:=⟨w1.heap.size+1,6,none⟩) (ab hv64) (fun h=>h)).trans hv64
 have hn65:=(hf5.cell (p:=⟨w1.heap.size+1+1,6,none⟩) (ab hn64) (fun h=>h)).trans hn64
 have hv75:=(hf5.cell (p:=⟨w1.heap.size+1,7,none⟩) (ab hv74) (fun h=>h)).trans hv74
 have hn75:=(hf5.cell (p:=⟨w1.heap.size+1+1,7,none⟩) (ab hn74) (fun h=>h)).trans hn74
 have hv85:=(hf5.cell (p:=⟨w1.heap.size+1,8,none⟩) (ab hv84) (fun h=>h)).trans hv84
 have hn85:=(hf5.cell (p:=⟨w1.heap.size+1+1,8,none⟩) (ab hn84) (fun h=>h)).trans hn84
 have hv95:=(hf5.cell (p:=⟨w1.heap.size+1,9,none⟩) (ab hv94) (fun h=>h)).trans hv94
 have hn95:=(hf5.cell (p:=⟨w1.heap.size+1+1,9,none⟩) (ab hn94) (fun h=>h)).trans hn94
 have hv105:=(hf5.cell (p:=⟨w1.heap.size+1,10,none⟩) (ab hv104) (fun h=>h)).trans hv104
 have hn105:=(hf5.cell (p:=⟨w1.heap.size+1+1,10,none⟩) (ab hn104) (fun h=>h)).trans hn104
 have hv115:=(hf5.cell (p:=⟨w1.heap.size+1,11,none⟩) (ab hv114) (fun h=>h)).trans hv114
 have hn115:=(hf5.cell (p:=⟨w1.heap.size+1+1,11,none⟩) (ab hn114) (fun h=>h)).trans hn114
 have hv125:=(hf5.cell (p:=⟨w1.heap.size+1,12,none⟩) (ab hv124) (fun h=>h)).trans hv124
 have hn125:=(hf5.cell (p:=⟨w1.heap.size+1+1,12,none⟩) (ab hn124) (fun h=>h)).trans hn124
 have hr05:w5.cell? ⟨w.heap.size,0,none⟩=some (.int .u32 0):=by simp[World.cell?,hrb5]
 have hr15:w5.cell? ⟨w.heap.size,1,none⟩=some (.int .u32 0):=by simp[World.cell?,hrb5]
 have hr25:w5.cell? ⟨w.heap.size,2,none⟩=some (.int .u32 0):=by simp[World.cell?,hrb5]
 have hr35:w5.cell? ⟨w.heap.size,3,none⟩=some (.int .u32 0):=by simp[World.cell?,hrb5]
 have hr45:w5.cell? ⟨w.heap.size,4,none⟩=some (.int .u8 0):=by simp[World.cell?,hrb5]
 have hr55:w5.cell? ⟨w.heap.size,5,none⟩=some (.int .u32 0):=by simp[World.cell?,hrb5]
 have hr65:w5.cell? ⟨w.heap.size,6,none⟩=some (.int .u32 0):=by simp[World.cell?,hrb5]
 have hr75:w5.cell? ⟨w.heap.size,7,none⟩=some (.int .u32 0):=by simp[World.cell?,hrb5]
 have hr85:w5.cell? ⟨w.heap.size,8,none⟩=some (.int .u32 0):=by simp[World.cell?,hrb5]
 have hr95:w5.cell? ⟨w.heap.size,9,none⟩=some (.slice none 0 0):=by simp[World.cell?,hrb5]
 have hr105:w5.cell? ⟨w.heap.size,10,none⟩=some (.string ⟨#[]⟩):=by simp[World.cell?,hrb5]
 have hr115:w5.cell? ⟨w.heap.size,11,none⟩=some (.int .u8 0):=by simp[World.cell?,hrb5]
 have hr125:w5.cell? ⟨w.heap.size,12,none⟩=some (.slice none 0 0):=by simp[World.cell?,hrb5]
 have hrz5:∀ i,w5.frozen? ⟨w.heap.size,i,none⟩=false:=fun i=>by simp[World.frozen?,hrb5]
 have hrl5:=ab hr05
 have hlv5:=ab hv05
 have hln5:=ab hn05
 have hnr1:w1.heap.size+1≠w.heap.size:=by omega
 have hnr2:w1.heap.size+1+1≠w.heap.size:=by omega
 have hsF:∀ (i:Nat) v W,Fr (fun k=>k=w.heap.size) w5 W→Fr (fun k=>k=w.heap.size) w5 (W.setCell ⟨w.heap.size,i,none⟩ v):=fun i v W h=>h.setCell (.inl rfl) v
 have H5:=ae (And.intro hf5 (hEr))
 rcases hEr with ⟨h0,rfl⟩|⟨h1',h7,fb,rfl,hb⟩
 ·clear hf5
  go_wp2_with fail
  refine bodyPost_ret (v:=.tuple #[.agg #[v0,v1,v2,v3,v4,v5,v6,v7,v8,v9,v10,v11,v12],.nilIface]) (by simp[results,Tryz.results79,go_sem,hr05,hr15,hr25,hr35,hr45,hr55,hr65,hr75,hr85,hr95,hr105,hr115,hr125]) rfl ?_
  have hfin:q'.fin.2.2=0:=h0
  refine⟨_,_,rfl,.inl ⟨hfin,rfl⟩,fun h=>absurd hfin h,fun _=>⟨F3,w1.heap.size+1,?_,by omega⟩,?_⟩
  ·have hR5:=(aa H).2.1 _ _ _ _ _ _ _ ((aa H).2.1 _ _ _ _ _ _ _ (aa H3).2.2.1 (aa H4).1 (fun _ _ h=>h.elim)) (aw.bD (aa H5).1 F3 (fun _ _=>False)) (fun _ _ h=>h.elim)
   exact(aa H).2.1 _ _ _ _ _ _ _ hR5 ((((((((((((((aw.refl w5 F3 (fun k _=>k=w.heap.size)).trans (aw.set w.heap.size 0 _) (fun k j _ h=>h.1)).trans (aw.set w.heap.size 1 _) (fun k j _ h=>h.1)).trans (aw.set w.heap.size 2 _) (fun k j _ h=>h.1)).trans (aw.set w.heap.size 3 _) (fun k j _ h=>h.1)).trans (aw.set w.heap.size 4 _) (fun k j _ h=>h.1)).trans (aw.set w.heap.size 5 _) (fun k j _ h=>h.1)).trans (aw.set w.heap.size 6 _) (fun k j _ h=>h.1)).trans (aw.set w.heap.size 7 _) (fun k j _ h=>h.1)).trans (aw.set w.heap.size 8 _) (fun k j _ h=>h.1)).trans (aw.set w.heap.size 9 _) (fun k j _ h=>h.1)).trans (aw.set w.heap.size 10 _) (fun k j _ h=>h.1)).trans (aw.set w.heap.size 11 _) (fun k j _ h=>h.1)).trans (aw.set w.heap.size 12 _) (fun k j _ h=>h.1)) (fun k j h=>h)
  ·exact((((((((((((((aa H4).2.trans (aa H5).1 (fun _ _ h=>h)).setCell (.inr (Nat.le_refl _)) _).setCell (.inr (Nat.le_refl _)) _).setCell (.inr (Nat.le_refl _)) _).setCell (.inr (Nat.le_refl _)) _).setCell (.inr (Nat.le_refl _)) _).setCell (.inr (Nat.le_refl _)) _).setCell (.inr (Nat.le_refl _)) _).setCell (.inr (Nat.le_refl _)) _).setCell (.inr (Nat.le_refl _)) _).setCell (.inr (Nat.le_refl _)) _).setCell (.inr (Nat.le_refl _)) _).setCell (.inr (Nat.le_refl _)) _).setCell (.inr (Nat.le_refl _)) _
 ·have hfb:fb≠w.heap.size:=fun e=>by rw[e,hrb5] at hb;simp[aR] at hb
  have HB5:=ae hb
  clear hf5 hb
  go_wp2_with fail
  refine bodyPost_ret (v:=.tuple #[.agg #[.int .u32 0,.int .u32 0,.int .u32 0,.int .u32 0,.int .u8 0,.int .u32 0,.int .u32 0,.int .u32 0,.int .u32 0,.slice none 0 0,.string ⟨#[]⟩,.int .u8 0,.slice none 0 0],.iface 78 (.pointer (some ⟨fb,0,none⟩))]) (by simp[results,Tryz.results79,go_sem,hr05,hr15,hr25,hr35,hr45,hr55,hr65,hr75,hr85,hr95,hr105,hr115,hr125]) rfl ?_
  have hfin:q'.fin.2.2≠0:=fun e=>by have:1≤q'.fin.2.2:=h1';omega
  refine⟨_,_,rfl,.inr ⟨h1',h7,fb,rfl,?_⟩,fun _=>rfl,fun h=>absurd h hfin,?_⟩
  ·rw[Below.heap_setCell _ _ _ _ hfb,Below.heap_setCell _ _ _ _ hfb,Below.heap_setCell _ _ _ _ hfb,Below.heap_setCell _ _ _ _ hfb,Below.heap_setCell _ _ _ _ hfb,Below.heap_setCell _ _ _ _ hfb,Below.heap_setCell _ _ _ _ hfb,Below.heap_setCell _ _ _ _ hfb,Below.heap_setCell _ _ _ _ hfb,Below.heap_setCell _ _ _ _ hfb,Below.heap_setCell _ _ _ _ hfb,Below.heap_setCell _ _ _ _ hfb,Below.heap_setCell _ _ _ _ hfb]
   exact aa HB5
  ·exact((((((((((((((aa H4).2.trans (aa H5).1 (fun _ _ h=>h)).setCell (.inr (Nat.le_refl _)) _).setCell (.inr (Nat.le_refl _)) _).setCell (.inr (Nat.le_refl _)) _).setCell (.inr (Nat.le_refl _)) _).setCell (.inr (Nat.le_refl _)) _).setCell (.inr (Nat.le_refl _)) _).setCell (.inr (Nat.le_refl _)) _).setCell (.inr (Nat.le_refl _)) _).setCell (.inr (Nat.le_refl _)) _).setCell (.inr (Nat.le_refl _)) _).setCell (.inr (Nat.le_refl _)) _).setCell (.inr (Nat.le_refl _)) _).setCell (.inr (Nat.le_refl _)) _
end Go.Proofs.YtdcopmkgmbiikaaGreatDoor
