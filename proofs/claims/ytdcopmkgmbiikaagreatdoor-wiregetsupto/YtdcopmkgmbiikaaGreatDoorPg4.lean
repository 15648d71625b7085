import Derived.Test.YtdcopmkgmbiikaaGreatDoorPg3
set_option maxRecDepth 100000
set_option maxHeartbeats 4000000
namespace Go.Proofs.YtdcopmkgmbiikaaGreatDoor
open Go.RowKit
theorem uq (v0 v1:Value) (w:World) (Q:Ending→World→Prop) (h:Calls Tryz.prog 47 #[.agg #[v0,v1]] (w.alloc (.cells #[v0,v1] 25)) fun e w'=>(∃ v err,e = .returned (.tuple #[v,err]))∧Q e w'):Calls Tryz.prog 21 #[.agg #[v0,v1]] w fun e w'=>(∃ v err,e = .returned (.tuple #[v,err]))∧Q e w':=by
 have H:=ae h
 clear h
 go_enter Tryz.func21,Tryz.ntmps21
 go_wp2_with fail
 refine(aa H).mono ?_
 rintro e w' ⟨⟨v,err,rfl⟩,hr⟩
 have HR:=ae hr
 clear hr
 go_wp2_with fail
 go_ret2
 exact⟨⟨v,err,rfl⟩,aa HR⟩
def CS.wq:CS→Wq
 | .wr s=>s
 | .rd _=>⟨ByteArray.empty,[],none⟩
def CS.rq:CS→Q
 | .wr _=>⟨ByteArray.empty,[],0,0,none⟩
 | .rd q=>q
def DD:CS:=.wr ⟨ByteArray.empty,[],none⟩
def eU (l:List Nat):CS:=.rd ⟨ByteArray.empty,l,0,0,none⟩
theorem qU (n:Nat) (h:n≤1000000):DD.room n:=by simp only[DD,CS.room,CS.len,List.length_nil];omega
theorem Ae {s:Wq} {n:Nat} (h:(CS.wr s).room n):s.l.length≤140737488355328:=by simp only[CS.room,CS.len] at h;omega
structure vp (w:World) (x:Value) (l:List Nat):Prop where
 src:Src w x l
 lt:∀ g o m c,x = .slice (some ⟨g,o,none⟩) m c→g<w.heap.size
 len:l.length<9223372036854775808
theorem vp.bvg {w w1:World} {x:Value} {l:List Nat} {F:Nat→Prop} (h:vp w x l) (hf:Fr (fun _=>False) w w1) (hF:∀ k,F k→w.heap.size≤k) (g:Nat) (hg:w.heap.size≤g):oO w1 x l F g:=
 ⟨⟨h.src.fr hf (fun _ _ _ _ _ h=>h),fun k o m c e=>⟨Nat.lt_of_lt_of_le (h.lt k o m c e) hf.size,fun hx=>by have:=hF k hx;have:=h.lt k o m c e;omega⟩⟩,fun k o m c e=>by have:=h.lt k o m c e;omega,h.len⟩
def oZ (size:Nat) (root:List Nat):Wq:=((DD.aX 4).dA (size,root)).1.wq
def bK (l:List Nat):CS × Nat × List Nat:=((eU l).aX 4).dA (0,[])
def aC (l:List Nat):CS × (Nat × List Nat) × Nat × List Nat:=((eU l).aX 5).cu ((0,[]),0,[])
def bw (l:List Nat):CS × List (List Nat):=((eU l).aX 6).ga []
theorem vp.aD {w w1:World} {x:Value} {l:List Nat} (h:vp w x l) (hf:Fr (fun _=>False) w w1):vp w1 x l:=
 ⟨h.src.fr hf (fun _ _ _ _ _ h=>h),fun k o m c e=>Nat.lt_of_lt_of_le (h.lt k o m c e) hf.size,h.len⟩
def kA (w w':World) (e:Ending) (s:Wq) (E:Nat→Addr):Prop:=∃ v err,e = .returned (.tuple #[v,err])∧w'.ownsRow w.heap.size 5 1 v s.out.length (cellsOf s.out)∧cT w' err (eD s.f) E∧Fr (fun _=>False) w w'
theorem kA.box {w w':World} {e:Ending} {s:Wq} {E:Nat→Addr} {vs:Array Value} {t:TypeId} (h:kA (w.alloc (.cells vs t)) w' e s E):(∃ v err,e = .returned (.tuple #[v,err]))∧kA w w' e s E:=by
 obtain⟨v,err,rfl,h1,h2,h3⟩:=h
 have hb:=aB w (.cells vs t)
 exact⟨⟨v,err,rfl⟩,v,err,rfl,aK h1 hb.size,h2,hb.trans h3 (fun _ _ h=>h)⟩
theorem AK (size:Nat) (root:List Nat) (x:Value) (E:Nat→Addr) (w:World) (hg:G6 w E) (hw:9≤w.heap.size) (hx:vp w x root) (hsz:size<4294967296) :
  Calls Tryz.prog 21 #[.agg #[.int .u32 (size:Nat),x]] w fun e w'=>kA w w' e (oZ size root) E:=by
 have hr:(CS.wr (oZ size root)).room 0:=CS.mR (n:=0) (CS.dI (qU 3 (by decide)) 4) (size,root)
 obtain⟨wb,hwb⟩:∃ wb,w.alloc (.cells #[.int .u32 (size:Nat),x] 25)=wb:=⟨_,rfl⟩
 have hbx:Fr (fun _=>False) w wb:=by rw[← hwb];exact aB _ _
 have hx':=hx.aD hbx
 have hp:=Ay #[.int .u32 (size:Nat),x] (oZ size root) E wb (hg.fr hbx (fun _ h=>h.elim)) (by have:=hbx.size;omega) (fun w1 cb b F hC hcs hL hF hf=>by
  refine(lO DD size root x cb b wb.heap.size F E w1 hC (hcs 0 _ rfl) (hcs 1 _ rfl) (hx'.bvg hf (fun k hk=>by have:=hF k hk;omega) _ (Nat.le_refl _)) hL hsz (qU 3 (by decide))).mono ?_
  rintro e w' ⟨rfl,F',hC',_,x',_,_,hs⟩
  exact⟨rfl,F',hC',hs.mono (fun k j _ h=>h.1)⟩) (Ae hr)
 refine(uq _ _ w (fun e w'=>kA w w' e (oZ size root) E) ?_).mono (fun e w' h=>h.2)
 rw[hwb]
 exact hp.mono (fun e w' h=>by rw[← hwb] at h;exact kA.box h)
structure Dn (w:World) (xo:Option Addr) (xc:Nat) (ps:List (List Nat)):Prop where
 cap:ps.length≤xc
 len:ps.length<9223372036854775808
 el:∀ (j:Nat) p,ps[j]?=some p→∃ g o x,xo=some ⟨g,o,none⟩∧w.cell? ⟨g,o+j,none⟩=some x∧vp w x p
theorem Dn.aD {w w1:World} {xo:Option Addr} {xc:Nat} {ps:List (List Nat)} (h:Dn w xo xc ps) (hf:Fr (fun _=>False) w w1):Dn w1 xo xc ps:=by
 refine⟨h.cap,h.len,fun j p hp=>?_⟩
 obtain⟨g,o,x,h1,h2,h3⟩:=h.el j p hp
 exact⟨g,o,x,h1,(hf.cell (p:=⟨g,o+j,none⟩) (ab h2) (fun h=>h)).trans h2,h3.aD hf⟩
theorem vD {q:Q} {c:CS} (h:(CS.rd q).sm c):c = .rd c.rq:=by
 cases c with
 | wr s'=>obtain⟨_,e⟩:=h.1 s' rfl;cases e
 | rd q=>rfl
theorem rG {α:Type} (each:CS→α→CS × α) (he:∀ (c:CS) (v:α),c.sm (each c v).1):∀ (xs:List α) (c:CS),c.sm (eM each c xs)
 | [],c=>CS.pY c
 | x::xs,c=>CS.aI (he c x) (rG each he xs _)
theorem sH {α:Type} (each:CS→α→CS × α) (z:α) (he:∀ (c:CS) (v:α),c.sm (each c v).1) (c:CS):∀ n,c.sm (bt each z n c).1
 | 0=>CS.pY c
 | n+1=>CS.aI (sH each z he c n) (he _ _)
theorem CS.vW (c:CS) (nm:ByteArray) (m:Int) (rs:List (Int→Nat)) (v:Nat):c.sm (c.cB nm m rs v).1:=by
 cases c with
 | wr s=>exact CS.oC _ _
 | rd q=>exact CS.oQ _ _
theorem CS.yU (c:CS) (l:List dG):c.sm (c.mW l).1:=by
 cases c with
 | wr s=>exact CS.aI (CS.vW _ _ _ _ _) (rG _ CS.kX _ _)
 | rd q=>exact CS.aI (CS.vW _ _ _ _ _) (sH _ _ CS.kX _ _)
theorem CS.mM (c:CS) (v:hI):c.sm (c.bF v).1:=CS.aI (CS.aI (CS.aI (CS.aI (CS.aI (c.km _) (CS.fJ _ _ _ _)) (CS.bS _ _ _ _)) (CS.bS _ _ _ _)) (CS.jA _ _ _ _)) (CS.yU _ _)
theorem CS.xG (c:CS) (nm:ByteArray) (v:List Nat):c.sm (c.bM nm v).1:=by
 cases c with
 | wr s=>exact CS.oC _ _
 | rd q=>exact CS.oQ _ _
theorem CS.oL (c:CS) (v:iW):c.sm (c.bJ v).1:=CS.aI (CS.aI (CS.aI (CS.bS _ _ _ _) (CS.fP _ _)) (CS.fJ _ _ _ _)) (CS.xG _ _ _)
def aL (l:List Nat):CS × ed:=((eU l).aX 1).bp ⟨0,0,0,0,0,0,0,0,[],⟨#[]⟩⟩
def aM (l:List Nat):CS × hI:=((eU l).aX 2).bF ⟨0,0,0,0,0,[],[]⟩
def aQ (l:List Nat):CS × iW:=((eU l).aX 3).bJ ⟨0,⟨0,0,0,0,0,0,0,0,[],⟨#[]⟩⟩,0,[]⟩
theorem rn (l:List Nat):(aL l).1 = .rd (aL l).1.rq:=vD (CS.aI (CS.eR (eU l) 1) (CS.fP _ _))
theorem td (l:List Nat):(aM l).1 = .rd (aM l).1.rq:=vD (CS.aI (CS.eR (eU l) 2) (CS.mM _ _))
theorem xU (l:List Nat):(aQ l).1 = .rd (aQ l).1.rq:=vD (CS.aI (CS.eR (eU l) 3) (CS.oL _ _))
structure kh (w:World) (x:Value) (l:List cA):Prop where
 v:∃ xo xc,x = .slice xo l.length xc∧Db w xo xc l (fun _=>False)
 len:l.length<9223372036854775808
structure xL (w:World) (x:Value) (l:List dG):Prop where
 v:∃ xo xc,x = .slice xo l.length xc∧Dc w xo xc l (fun _=>False)
 len:l.length<9223372036854775808
theorem kh.aD {w w1:World} {x:Value} {l:List cA} (h:kh w x l) (hf:Fr (fun _=>False) w w1):kh w1 x l:=by
 obtain⟨⟨xo,xc,e,hv⟩,hn⟩:=h
 exact⟨⟨xo,xc,e,hv.aV (aw.bD hf _ (fun _ _=>False)) (fun _ _ _ _ _ h=>h)⟩,hn⟩
theorem xL.aD {w w1:World} {x:Value} {l:List dG} (h:xL w x l) (hf:Fr (fun _=>False) w w1):xL w1 x l:=by
 obtain⟨⟨xo,xc,e,hv⟩,hn⟩:=h
 exact⟨⟨xo,xc,e,hv.aV (aw.bD hf _ (fun _ _=>False)) (fun _ _ _ _ _ h=>h)⟩,hn⟩
def ed.aJ (v:ed) (x:Value):Array Value:=#[.int .u32 (v.cl:Nat),.int .u32 (v.nu:Nat),.int .u32 (v.ac:Nat),.int .u8 (v.op:Nat),.int .u32 (v.re:Nat),.int .u32 (v.ve:Nat),.int .u32 (v.wa:Nat),.int .u32 (v.ow:Nat),x,.string v.rs]
def hI.aJ (v:hI) (x y:Value):Array Value:=#[.int .u32 (v.cl:Nat),.int .u32 (v.nu:Nat),.int .u8 (v.co:Nat),.int .u32 (v.re:Nat),.int .u32 (v.ve:Nat),x,y]
def iW.aJ (v:iW) (x y:Value):Array Value:=#[.int .u32 (v.pl:Nat),.int .u32 (v.rq.cl:Nat),.int .u32 (v.rq.nu:Nat),.int .u32 (v.rq.ac:Nat),.int .u8 (v.rq.op:Nat),.int .u32 (v.rq.re:Nat),.int .u32 (v.rq.ve:Nat),.int .u32 (v.rq.wa:Nat),.int .u32 (v.rq.ow:Nat),x,.string v.rq.rs,.int .u8 (v.co:Nat),y]
theorem ou (xo:Option Addr) (n xc:Nat) (w:World) (Q:World→Array Value→Value→Prop) (h:Calls Tryz.prog 77 #[.slice xo n xc] (w.alloc (.cells #[.int .u32 0,.int .u32 0,.int .u32 0,.int .u8 0,.int .u32 0,.int .u32 0,.int .u32 0,.int .u32 0,.slice none 0 0,.string ⟨#[]⟩] 30)) fun e w'=>∃ v0 v1 v2 v3 v4 v5 v6 v7 v8 v9 err,e = .returned (.tuple #[.agg #[v0,v1,v2,v3,v4,v5,v6,v7,v8,v9],err])∧(∀ v∈([v0,v1,v2,v3,v4,v5,v6,v7,v8,v9]:List Value),v.oneCell'=true)∧Fr (fun _=>False) (w.alloc (.cells #[.int .u32 0,.int .u32 0,.int .u32 0,.int .u8 0,.int .u32 0,.int .u32 0,.int .u32 0,.int .u32 0,.slice none 0 0,.string ⟨#[]⟩] 30)) w'∧Q w' #[v0,v1,v2,v3,v4,v5,v6,v7,v8,v9] err) :
  Calls Tryz.prog 34 #[.slice xo n xc] w fun e w'=>∃ vs err,e = .returned (.tuple #[.agg vs,err])∧∃ w2,Q w2 vs err∧Fr (fun k=>k=w.heap.size) w2 w'∧(∀ F,aw w2 w' F F (fun k _=>k=w.heap.size))∧Fr (fun _=>False) w w'∧w2.heap[w.heap.size]?=some (.cells #[.int .u32 0,.int .u32 0,.int .u32 0,.int .u8 0,.int .u32 0,.int .u32 0,.int .u32 0,.int .u32 0,.slice none 0 0,.string ⟨#[]⟩] 30):=by
 have H:=ae h
 clear h
 go_enter Tryz.func34,Tryz.ntmps34
 go_wp2_with fail
 refine(aa H).mono ?_
 rintro e w5 ⟨v0,v1,v2,v3,v4,v5,v6,v7,v8,v9,err,rfl,hone,hf5,hq⟩
 have hst0:∀ (a:Addr) (m:Mode) (W:World),(store a v0 m).run Tryz.prog W=stored Tryz.prog W a v0 m:=fun _ _ _=>run_store _ _ _ _ _ (hone v0 (by simp))
 have hst1:∀ (a:Addr) (m:Mode) (W:World),(store a v1 m).run Tryz.prog W=stored Tryz.prog W a v1 m:=fun _ _ _=>run_store _ _ _ _ _ (hone v1 (by simp))
 have hst2:∀ (a:Addr) (m:Mode) (W:World),(store a v2 m).run Tryz.prog W=stored Tryz.prog W a v2 m:=fun _ _ _=>run_store _ _ _ _ _ (hone v2 (by simp))
 have hst3:∀ (a:Addr) (m:Mode) (W:World),(store a v3 m).run Tryz.prog W=stored Tryz.prog W a v3 m:=fun _ _ _=>run_store _ _ _ _ _ (hone v3 (by simp))
 have hst4:∀ (a:Addr) (m:Mode) (W:World),(store a v4 m).run Tryz.prog W=stored Tryz.prog W a v4 m:=fun _ _ _=>run_store _ _ _ _ _ (hone v4 (by simp))
 have hst5:∀ (a:Addr) (m:Mode) (W:World),(store a v5 m).run Tryz.prog W=stored Tryz.prog W a v5 m:=fun _ _ _=>run_store _ _ _ _ _ (hone v5 (by simp))
 have hst6:∀ (a:Addr) (m:Mode) (W:World),(store a v6 m).run Tryz.prog W=stored Tryz.prog W a v6 m:=fun _ _ _=>run_store _ _ _ _ _ (hone v6 (by simp))
 have hst7:∀ (a:Addr) (m:Mode) (W:World),(store a v7 m).run Tryz.prog W=stored Tryz.prog W a v7 m:=fun _ _ _=>run_store _ _ _ _ _ (hone v7 (by simp))
 have hst8:∀ (a:Addr) (m:Mode) (W:World),(store a v8 m).run Tryz.prog W=stored Tryz.prog W a v8 m:=fun _ _ _=>run_store _ _ _ _ _ (hone v8 (by simp))
 have hst9:∀ (a:Addr) (m:Mode) (W:World),(store a v9 m).run Tryz.prog W=stored Tryz.prog W a v9 m:=fun _ _ _=>run_store _ _ _ _ _ (hone v9 (by simp))
 have hrb5:w5.heap[w.heap.size]?=some (.cells #[.int .u32 0,.int .u32 0,.int .u32 0,.int .u8 0,.int .u32 0,.int .u32 0,.int .u32 0,.int .u32 0,.slice none 0 0,.string ⟨#[]⟩] 30):=(hf5.block w.heap.size (by simp) (fun h=>h)).trans (heap_alloc_new _ _)
 have hr05:w5.cell? ⟨w.heap.size,0,none⟩=some (.int .u32 0):=by simp[World.cell?,hrb5]
 have hr15:w5.cell? ⟨w.heap.size,1,none⟩=some (.int .u32 0):=by simp[World.cell?,hrb5]
 have hr25:w5.cell? ⟨w.heap.size,2,none⟩=some (.int .u32 0):=by simp[World.cell?,hrb5]
 have hr35:w5.cell? ⟨w.heap.size,3,none⟩=some (.int .u8 0):=by simp[World.cell?,hrb5]
 have hr45:w5.cell? ⟨w.heap.size,4,none⟩=some (.int .u32 0):=by simp[World.cell?,hrb5]
 have hr55:w5.cell? ⟨w.heap.size,5,none⟩=some (.int .u32 0):=by simp[World.cell?,hrb5]
 have hr65:w5.cell? ⟨w.heap.size,6,none⟩=some (.int .u32 0):=by simp[World.cell?,hrb5]
 have hr75:w5.cell? ⟨w.heap.size,7,none⟩=some (.int .u32 0):=by simp[World.cell?,hrb5]
 have hr85:w5.cell? ⟨w.heap.size,8,none⟩=some (.slice none 0 0):=by simp[World.cell?,hrb5]
 have hr95:w5.cell? ⟨w.heap.size,9,none⟩=some (.string ⟨#[]⟩):=by simp[World.cell?,hrb5]
 have hrz5:∀ i,w5.frozen? ⟨w.heap.size,i,none⟩=false:=fun i=>by simp[World.frozen?,hrb5]
 have hrl5:=ab hr05
 have H5:=ae (And.intro hf5 (And.intro hq hrb5))
 clear hf5 hq hone hrb5
 go_wp2_with fail
 refine bodyPost_ret (v:=.tuple #[.agg #[v0,v1,v2,v3,v4,v5,v6,v7,v8,v9],err]) (by simp[results,Tryz.results34,go_sem,hr05,hr15,hr25,hr35,hr45,hr55,hr65,hr75,hr85,hr95]) rfl ?_
 have hf05:Fr (fun _=>False) w w5:=(aB w _).trans (aa H5).1 (fun _ _ h=>h)
 exact⟨_,_,rfl,w5,(aa H5).2.1,((((((((((Fr.refl (fun k=>k=w.heap.size) w5).setCell (.inl rfl) _).setCell (.inl rfl) _).setCell (.inl rfl) _).setCell (.inl rfl) _).setCell (.inl rfl) _).setCell (.inl rfl) _).setCell (.inl rfl) _).setCell (.inl rfl) _).setCell (.inl rfl) _).setCell (.inl rfl) _,fun F=>((((((((((aw.refl w5 F (fun k _=>k=w.heap.size)).trans (aw.set w.heap.size 0 _) (fun k j _ h=>h.1)).trans (aw.set w.heap.size 1 _) (fun k j _ h=>h.1)).trans (aw.set w.heap.size 2 _) (fun k j _ h=>h.1)).trans (aw.set w.heap.size 3 _) (fun k j _ h=>h.1)).trans (aw.set w.heap.size 4 _) (fun k j _ h=>h.1)).trans (aw.set w.heap.size 5 _) (fun k j _ h=>h.1)).trans (aw.set w.heap.size 6 _) (fun k j _ h=>h.1)).trans (aw.set w.heap.size 7 _) (fun k j _ h=>h.1)).trans (aw.set w.heap.size 8 _) (fun k j _ h=>h.1)).trans (aw.set w.heap.size 9 _) (fun k j _ h=>h.1),((((((((((hf05).setCell (.inr (Nat.le_refl _)) _).setCell (.inr (Nat.le_refl _)) _).setCell (.inr (Nat.le_refl _)) _).setCell (.inr (Nat.le_refl _)) _).setCell (.inr (Nat.le_refl _)) _).setCell (.inr (Nat.le_refl _)) _).setCell (.inr (Nat.le_refl _)) _).setCell (.inr (Nat.le_refl _)) _).setCell (.inr (Nat.le_refl _)) _).setCell (.inr (Nat.le_refl _)) _,(aa H5).2.2⟩
theorem p5 (xo:Option Addr) (n xc:Nat) (w:World) (Q:World→Array Value→Value→Prop) (h:Calls Tryz.prog 78 #[.slice xo n xc] (w.alloc (.cells #[.int .u32 0,.int .u32 0,.int .u8 0,.int .u32 0,.int .u32 0,.slice none 0 0,.slice none 0 0] 33)) fun e w'=>∃ v0 v1 v2 v3 v4 v5 v6 err,e = .returned (.tuple #[.agg #[v0,v1,v2,v3,v4,v5,v6],err])∧(∀ v∈([v0,v1,v2,v3,v4,v5,v6]:List Value),v.oneCell'=true)∧Fr (fun _=>False) (w.alloc (.cells #[.int .u32 0,.int .u32 0,.int .u8 0,.int .u32 0,.int .u32 0,.slice none 0 0,.slice none 0 0] 33)) w'∧Q w' #[v0,v1,v2,v3,v4,v5,v6] err) :
  Calls Tryz.prog 35 #[.slice xo n xc] w fun e w'=>∃ vs err,e = .returned (.tuple #[.agg vs,err])∧∃ w2,Q w2 vs err∧Fr (fun k=>k=w.heap.size) w2 w'∧(∀ F,aw w2 w' F F (fun k _=>k=w.heap.size))∧Fr (fun _=>False) w w'∧w2.heap[w.heap.size]?=some (.cells #[.int .u32 0,.int .u32 0,.int .u8 0,.int .u32 0,.int .u32 0,.slice none 0 0,.slice none 0 0] 33):=by
 have H:=ae h
 clear h
 go_enter Tryz.func35,Tryz.ntmps35
 go_wp2_with fail
 refine(aa H).mono ?_
 rintro e w5 ⟨v0,v1,v2,v3,v4,v5,v6,err,rfl,hone,hf5,hq⟩
 have hst0:∀ (a:Addr) (m:Mode) (W:World),(store a v0 m).run Tryz.prog W=stored Tryz.prog W a v0 m:=fun _ _ _=>run_store _ _ _ _ _ (hone v0 (by simp))
 have hst1:∀ (a:Addr) (m:Mode) (W:World),(store a v1 m).run Tryz.prog W=stored Tryz.prog W a v1 m:=fun _ _ _=>run_store _ _ _ _ _ (hone v1 (by simp))
 have hst2:∀ (a:Addr) (m:Mode) (W:World),(store a v2 m).run Tryz.prog W=stored Tryz.prog W a v2 m:=fun _ _ _=>run_store _ _ _ _ _ (hone v2 (by simp))
 have hst3:∀ (a:Addr) (m:Mode) (W:World),(store a v3 m).run Tryz.prog W=stored Tryz.prog W a v3 m:=fun _ _ _=>run_store _ _ _ _ _ (hone v3 (by simp))
 have hst4:∀ (a:Addr) (m:Mode) (W:World),(store a v4 m).run Tryz.prog W=stored Tryz.prog W a v4 m:=fun _ _ _=>run_store _ _ _ _ _ (hone v4 (by simp))
 have hst5:∀ (a:Addr) (m:Mode) (W:World),(store a v5 m).run Tryz.prog W=stored Tryz.prog W a v5 m:=fun _ _ _=>run_store _ _ _ _ _ (hone v5 (by simp))
 have hst6:∀ (a:Addr) (m:Mode) (W:World),(store a v6 m).run Tryz.prog W=stored Tryz.prog W a v6 m:=fun _ _ _=>run_store _ _ _ _ _ (hone v6 (by simp))
 have hrb5:w5.heap[w.heap.size]?=some (.cells #[.int .u32 0,.int .u32 0,.int .u8 0,.int .u32 0,.int .u32 0,.slice none 0 0,.slice none 0 0] 33):=(hf5.block w.heap.size (by simp) (fun h=>h)).trans (heap_alloc_new _ _)
 have hr05:w5.cell? ⟨w.heap.size,0,none⟩=some (.int .u32 0):=by simp[World.cell?,hrb5]
 have hr15:w5.cell? ⟨w.heap.size,1,none⟩=some (.int .u32 0):=by simp[World.cell?,hrb5]
 have hr25:w5.cell? ⟨w.heap.size,2,none⟩=some (.int .u8 0):=by simp[World.cell?,hrb5]
 have hr35:w5.cell? ⟨w.heap.size,3,none⟩=some (.int .u32 0):=by simp[World.cell?,hrb5]
 have hr45:w5.cell? ⟨w.heap.size,4,none⟩=some (.int .u32 0):=by simp[World.cell?,hrb5]
 have hr55:w5.cell? ⟨w.heap.size,5,none⟩=some (.slice none 0 0):=by simp[World.cell?,hrb5]
 have hr65:w5.cell? ⟨w.heap.size,6,none⟩=some (.slice none 0 0):=by simp[World.cell?,hrb5]
 have hrz5:∀ i,w5.frozen? ⟨w.heap.size,i,none⟩=false:=fun i=>by simp[World.frozen?,hrb5]
 have hrl5:=ab hr05
 have H5:=ae (And.intro hf5 (And.intro hq hrb5))
 clear hf5 hq hone hrb5
 go_wp2_with fail
 refine bodyPost_ret (v:=.tuple #[.agg #[v0,v1,v2,v3,v4,v5,v6],err]) (by simp[results,Tryz.results35,go_sem,hr05,hr15,hr25,hr35,hr45,hr55,hr65]) rfl ?_
 have hf05:Fr (fun _=>False) w w5:=(aB w _).trans (aa H5).1 (fun _ _ h=>h)
 exact⟨_,_,rfl,w5,(aa H5).2.1,(((((((Fr.refl (fun k=>k=w.heap.size) w5).setCell (.inl rfl) _).setCell (.inl rfl) _).setCell (.inl rfl) _).setCell (.inl rfl) _).setCell (.inl rfl) _).setCell (.inl rfl) _).setCell (.inl rfl) _,fun F=>(((((((aw.refl w5 F (fun k _=>k=w.heap.size)).trans (aw.set w.heap.size 0 _) (fun k j _ h=>h.1)).trans (aw.set w.heap.size 1 _) (fun k j _ h=>h.1)).trans (aw.set w.heap.size 2 _) (fun k j _ h=>h.1)).trans (aw.set w.heap.size 3 _) (fun k j _ h=>h.1)).trans (aw.set w.heap.size 4 _) (fun k j _ h=>h.1)).trans (aw.set w.heap.size 5 _) (fun k j _ h=>h.1)).trans (aw.set w.heap.size 6 _) (fun k j _ h=>h.1),(((((((hf05).setCell (.inr (Nat.le_refl _)) _).setCell (.inr (Nat.le_refl _)) _).setCell (.inr (Nat.le_refl _)) _).setCell (.inr (Nat.le_refl _)) _).setCell (.inr (Nat.le_refl _)) _).setCell (.inr (Nat.le_refl _)) _).setCell (.inr (Nat.le_refl _)) _,(aa H5).2.2⟩
theorem rf (xo:Option Addr) (n xc:Nat) (w:World) (Q:World→Array Value→Value→Prop) (h:Calls Tryz.prog 79 #[.slice xo n xc] (w.alloc (.cells #[.int .u32 0,.int .u32 0,.int .u32 0,.int .u32 0,.int .u8 0,.int .u32 0,.int .u32 0,.int .u32 0,.int .u32 0,.slice none 0 0,.string ⟨#[]⟩,.int .u8 0,.slice none 0 0] 35)) fun e w'=>∃ v0 v1 v2 v3 v4 v5 v6 v7 v8 v9 v10 v11 v12 err,e = .returned (.tuple #[.agg #[v0,v1,v2,v3,v4,v5,v6,v7,v8,v9,v10,v11,v12],err])∧(∀ v∈([v0,v1,v2,v3,v4,v5,v6,v7,v8,v9,v10,v11,v12]:List Value),v.oneCell'=true)∧Fr (fun _=>False) (w.alloc (.cells #[.int .u32 0,.int .u32 0,.int .u32 0,.int .u32 0,.int .u8 0,.int .u32 0,.int .u32 0,.int .u32 0,.int .u32 0,.slice none 0 0,.string ⟨#[]⟩,.int .u8 0,.slice none 0 0] 35)) w'∧Q w' #[v0,v1,v2,v3,v4,v5,v6,v7,v8,v9,v10,v11,v12] err) :
  Calls Tryz.prog 36 #[.slice xo n xc] w fun e w'=>∃ vs err,e = .returned (.tuple #[.agg vs,err])∧∃ w2,Q w2 vs err∧Fr (fun k=>k=w.heap.size) w2 w'∧(∀ F,aw w2 w' F F (fun k _=>k=w.heap.size))∧Fr (fun _=>False) w w'∧w2.heap[w.heap.size]?=some (.cells #[.int .u32 0,.int .u32 0,.int .u32 0,.int .u32 0,.int .u8 0,.int .u32 0,.int .u32 0,.int .u32 0,.int .u32 0,.slice none 0 0,.string ⟨#[]⟩,.int .u8 0,.slice none 0 0] 35):=by
 have H:=ae h
 clear h
 go_enter Tryz.func36,Tryz.ntmps36
 go_wp2_with fail
 refine(aa H).mono ?_
 rintro e w5 ⟨v0,v1,v2,v3,v4,v5,v6,v7,v8,v9,v10,v11,v12,err,rfl,hone,hf5,hq⟩
 have hst0:∀ (a:Addr) (m:Mode) (W:World),(store a v0 m).run Tryz.prog W=stored Tryz.prog W a v0 m:=fun _ _ _=>run_store _ _ _ _ _ (hone v0 (by simp))
 have hst1:∀ (a:Addr) (m:Mode) (W:World),(store a v1 m).run Tryz.prog W=stored Tryz.prog W a v1 m:=fun _ _ _=>run_store _ _ _ _ _ (hone v1 (by simp))
 have hst2:∀ (a:Addr) (m:Mode) (W:World),(store a v2 m).run Tryz.prog W=stored Tryz.prog W a v2 m:=fun _ _ _=>run_store _ _ _ _ _ (hone v2 (by simp))
 have hst3:∀ (a:Addr) (m:Mode) (W:World),(store a v3 m).run Tryz.prog W=stored Tryz.prog W a v3 m:=fun _ _ _=>run_store _ _ _ _ _ (hone v3 (by simp))
 have hst4:∀ (a:Addr) (m:Mode) (W:World),(store a v4 m).run Tryz.prog W=stored Tryz.prog W a v4 m:=fun _ _ _=>run_store _ _ _ _ _ (hone v4 (by simp))
 have hst5:∀ (a:Addr) (m:Mode) (W:World),(store a v5 m).run Tryz.prog W=stored Tryz.prog W a v5 m:=fun _ _ _=>run_store _ _ _ _ _ (hone v5 (by simp))
 have hst6:∀ (a:Addr) (m:Mode) (W:World),(store a v6 m).run Tryz.prog W=stored Tryz.prog W a v6 m:=fun _ _ _=>run_store _ _ _ _ _ (hone v6 (by simp))
 have hst7:∀ (a:Addr) (m:Mode) (W:World),(store a v7 m).run Tryz.prog W=stored Tryz.prog W a v7 m:=fun _ _ _=>run_store _ _ _ _ _ (hone v7 (by simp))
 have hst8:∀ (a:Addr) (m:Mode) (W:World),(store a v8 m).run Tryz.prog W=stored Tryz.prog W a v8 m:=fun _ _ _=>run_store _ _ _ _ _ (hone v8 (by simp))
 have hst9:∀ (a:Addr) (m:Mode) (W:World),(store a v9 m).run Tryz.prog W=stored Tryz.prog W a v9 m:=fun _ _ _=>run_store _ _ _ _ _ (hone v9 (by simp))
 have hst10:∀ (a:Addr) (m:Mode) (W:World),(store a v10 m).run Tryz.prog W=stored Tryz.prog W a v10 m:=fun _ _ _=>run_store _ _ _ _ _ (hone v10 (by simp))
 have hst11:∀ (a:Addr) (m:Mode) (W:World),(store a v11 m).run Tryz.prog W=stored Tryz.prog W a v11 m:=fun _ _ _=>run_store _ _ _ _ _ (hone v11 (by simp))
 have hst12:∀ (a:Addr) (m:Mode) (W:World),(store a v12 m).run Tryz.prog W=stored Tryz.prog W a v12 m:=fun _ _ _=>run_store _ _ _ _ _ (hone v12 (by simp))
 have hrb5:w5.heap[w.heap.size]?=some (.cells #[.int .u32 0,.int .u32 0,.int .u32 0,.int .u32 0,.int .u8 0,.int .u32 0,.int .u32 0,.int .u32 0,.int .u32 0,.slice none 0 0,.string ⟨#[]⟩,.int .u8 0,.slice none 0 0] 35):=(hf5.block w.heap.size (by simp) (fun h=>h)).trans (heap_alloc_new _ _)
 have hr05:w5.cell? ⟨w.heap.size,0,none⟩=some (.int .u32 0):=by simp[World.cell?,hrb5]
 have hr15:w5.cell? ⟨w.heap.size,1,none⟩=some (.int .u32 0):=by simp[World.cell?,hrb5]
 have hr25:w5.cell? ⟨w.heap.size,2,none⟩=some (.int .u32 0):=by simp[World.cell?,hrb5]
 have hr35:w5.cell? ⟨w.heap.size,3,none⟩=some (.int .u32 0):=by simp[World.cell?,hrb5]
 have hr45:w5.cell? ⟨w.heap.size,4,none⟩=some (.int .u8 0):=by simp[World.cell?,hrb5]
 have hr55:w5.cell? ⟨w.heap.size,5,none⟩=some (.int .u32 0):=by simp[World.cell?,hrb5]
 have hr65:w5.cell? ⟨w.heap.size,6,none⟩=some (.int .u32 0):=by simp[World.cell?,hrb5]
 have hr75:w5.cell? ⟨w.heap.size,7,none⟩=some (.int .u32 0):=by simp[World.cell?,hrb5]
 have hr85:w5.cell? ⟨w.heap.size,8,none⟩=some (.int .u32 0):=by simp[World.cell?,hrb5]
 have hr95:w5.cell? ⟨w.heap.size,9,none⟩=some (.slice none 0 0):=by simp[World.cell?,hrb5]
 have hr105:w5.cell? ⟨w.heap.size,10,none⟩=some (.string ⟨#[]⟩):=by simp[World.cell?,hrb5]
 have hr115:w5.cell? ⟨w.heap.size,11,none⟩=some (.int .u8 0):=by simp[World.cell?,hrb5]
 have hr125:w5.cell? ⟨w.heap.size,12,none⟩=some (.slice none 0 0):=by simp[World.cell?,hrb5]
 have hrz5:∀ i,w5.frozen? ⟨w.heap.size,i,none⟩=false:=fun i=>by simp[World.frozen?,hrb5]
 have hrl5:=ab hr05
 have H5:=ae (And.intro hf5 (And.intro hq hrb5))
 clear hf5 hq hone hrb5
 go_wp2_with fail
 refine bodyPost_ret (v:=.tuple #[.agg #[v0,v1,v2,v3,v4,v5,v6,v7,v8,v9,v10,v11,v12],err]) (by simp[results,Tryz.results36,go_sem,hr05,hr15,hr25,hr35,hr45,hr55,hr65,hr75,hr85,hr95,hr105,hr115,hr125]) rfl ?_
 have hf05:Fr (fun _=>False) w w5:=(aB w _).trans (aa H5).1 (fun _ _ h=>h)
 exact⟨_,_,rfl,w5,(aa H5).2.1,(((((((((((((Fr.refl (fun k=>k=w.heap.size) w5).setCell (.inl rfl) _).setCell (.inl rfl) _).setCell (.inl rfl) _).setCell (.inl rfl) _).setCell (.inl rfl) _).setCell (.inl rfl) _).setCell (.inl rfl) _).setCell (.inl rfl) _).setCell (.inl rfl) _).setCell (.inl rfl) _).setCell (.inl rfl) _).setCell (.inl rfl) _).setCell (.inl rfl) _,fun F=>(((((((((((((aw.refl w5 F (fun k _=>k=w.heap.size)).trans (aw.set w.heap.size 0 _) (fun k j _ h=>h.1)).trans (aw.set w.heap.size 1 _) (fun k j _ h=>h.1)).trans (aw.set w.heap.size 2 _) (fun k j _ h=>h.1)).trans (aw.set w.heap.size 3 _) (fun k j _ h=>h.1)).trans (aw.set w.heap.size 4 _) (fun k j _ h=>h.1)).trans (aw.set w.heap.size 5 _) (fun k j _ h=>h.1)).trans (aw.set w.heap.size 6 _) (fun k j _ h=>h.1)).trans (aw.set w.heap.size 7 _) (fun k j _ h=>h.1)).trans (aw.set w.heap.size 8 _) (fun k j _ h=>h.1)).trans (aw.set w.heap.size 9 _) (fun k j _ h=>h.1)).trans (aw.set w.heap.size 10 _) (fun k j _ h=>h.1)).trans (aw.set w.heap.size 11 _) (fun k j _ h=>h.1)).trans (aw.set w.heap.size 12 _) (fun k j _ h=>h.1),(((((((((((((hf05).setCell (.inr (Nat.le_refl _)) _).setCell (.inr (Nat.le_refl _)) _).setCell (.inr (Nat.le_refl _)) _).setCell (.inr (Nat.le_refl _)) _).setCell (.inr (Nat.le_refl _)) _).setCell (.inr (Nat.le_refl _)) _).setCell (.inr (Nat.le_refl _)) _).setCell (.inr (Nat.le_refl _)) _).setCell (.inr (Nat.le_refl _)) _).setCell (.inr (Nat.le_refl _)) _).setCell (.inr (Nat.le_refl _)) _).setCell (.inr (Nat.le_refl _)) _).setCell (.inr (Nat.le_refl _)) _,(aa H5).2.2⟩
theorem uN (xo:Option Addr) (n xc:Nat) (w:World) (Q:World→Array Value→Value→Prop) (h:Calls Tryz.prog 48 #[.slice xo n xc] (w.alloc (.cells #[.int .u32 0,.slice none 0 0] 25)) fun e w'=>∃ v0 v1 err,e = .returned (.tuple #[.agg #[v0,v1],err])∧(∀ v∈([v0,v1]:List Value),v.oneCell'=true)∧Fr (fun _=>False) (w.alloc (.cells #[.int .u32 0,.slice none 0 0] 25)) w'∧Q w' #[v0,v1] err) :
  Calls Tryz.prog 22 #[.slice xo n xc] w fun e w'=>∃ vs err,e = .returned (.tuple #[.agg vs,err])∧∃ w2,Q w2 vs err∧Fr (fun k=>k=w.heap.size) w2 w'∧(∀ F,aw w2 w' F F (fun k _=>k=w.heap.size))∧Fr (fun _=>False) w w'∧w2.heap[w.heap.size]?=some (.cells #[.int .u32 0,.slice none 0 0] 25):=by
 have H:=ae h
 clear h
 go_enter Tryz.func22,Tryz.ntmps22
 go_wp2_with fail
 refine(aa H).mono ?_
 rintro e w5 ⟨v0,v1,err,rfl,hone,hf5,hq⟩
 have hst0:∀ (a:Addr) (m:Mode) (W:World),(store a v0 m).run Tryz.prog W=stored Tryz.prog W a v0 m:=fun _ _ _=>run_store _ _ _ _ _ (hone v0 (by simp))
 have hst1:∀ (a:Addr) (m:Mode) (W:World),(store a v1 m).run Tryz.prog W=stored Tryz.prog W a v1 m:=fun _ _ _=>run_store _ _ _ _ _ (hone v1 (by simp))
 have hrb5:w5.heap[w.heap.size]?=some (.cells #[.int .u32 0,.slice none 0 0] 25):=(hf5.block w.heap.size (by simp) (fun h=>h)).trans (heap_alloc_new _ _)
 have hr05:w5.cell? ⟨w.heap.size,0,none⟩=some (.int .u32 0):=by simp[World.cell?,hrb5]
 have hr15:w5.cell? ⟨w.heap.size,1,none⟩=some (.slice none 0 0):=by simp[World.cell?,hrb5]
 have hrz5:∀ i,w5.frozen? ⟨w.heap.size,i,none⟩=false:=fun i=>by simp[World.frozen?,hrb5]
 have hrl5:=ab hr05
 have H5:=ae (And.intro hf5 (And.intro hq hrb5))
 clear hf5 hq hone hrb5
 go_wp2_with fail
 refine bodyPost_ret (v:=.tuple #[.agg #[v0,v1],err]) (by simp[results,Tryz.results22,go_sem,hr05,hr15]) rfl ?_
 have hf05:Fr (fun _=>False) w w5:=(aB w _).trans (aa H5).1 (fun _ _ h=>h)
 exact⟨_,_,rfl,w5,(aa H5).2.1,((Fr.refl (fun k=>k=w.heap.size) w5).setCell (.inl rfl) _).setCell (.inl rfl) _,fun F=>((aw.refl w5 F (fun k _=>k=w.heap.size)).trans (aw.set w.heap.size 0 _) (fun k j _ h=>h.1)).trans (aw.set w.heap.size 1 _) (fun k j _ h=>h.1),((hf05).setCell (.inr (Nat.le_refl _)) _).setCell (.inr (Nat.le_refl _)) _,(aa H5).2.2⟩
theorem qj (xo:Option Addr) (n xc:Nat) (w:World) (Q:World→Array Value→Value→Prop) (h:Calls Tryz.prog 80 #[.slice xo n xc] (w.alloc (.cells #[.int .u32 0,.slice none 0 0,.int .u32 0,.slice none 0 0] 37)) fun e w'=>∃ v0 v1 v2 v3 err,e = .returned (.tuple #[.agg #[v0,v1,v2,v3],err])∧(∀ v∈([v0,v1,v2,v3]:List Value),v.oneCell'=true)∧Fr (fun _=>False) (w.alloc (.cells #[.int .u32 0,.slice none 0 0,.int .u32 0,.slice none 0 0] 37)) w'∧Q w' #[v0,v1,v2,v3] err) :
  Calls Tryz.prog 37 #[.slice xo n xc] w fun e w'=>∃ vs err,e = .returned (.tuple #[.agg vs,err])∧∃ w2,Q w2 vs err∧Fr (fun k=>k=w.heap.size) w2 w'∧(∀ F,aw w2 w' F F (fun k _=>k=w.heap.size))∧Fr (fun _=>False) w w'∧w2.heap[w.heap.size]?=some (.cells #[.int .u32 0,.slice none 0 0,.int .u32 0,.slice none 0 0] 37):=by
 have H:=ae h
 clear h
 go_enter Tryz.func37,Tryz.ntmps37
 go_wp2_with fail
 refine(aa H).mono ?_
 rintro e w5 ⟨v0,v1,v2,v3,err,rfl,hone,hf5,hq⟩
 have hst0:∀ (a:Addr) (m:Mode) (W:World),(store a v0 m).run Tryz.prog W=stored Tryz.prog W a v0 m:=fun _ _ _=>run_store _ _ _ _ _ (hone v0 (by simp))
 have hst1:∀ (a:Addr) (m:Mode) (W:World),(store a v1 m).run Tryz.prog W=stored Tryz.prog W a v1 m:=fun _ _ _=>run_store _ _ _ _ _ (hone v1 (by simp))
 have hst2:∀ (a:Addr) (m:Mode) (W:World),(store a v2 m).run Tryz.prog W=stored Tryz.prog W a v2 m:=fun _ _ _=>run_store _ _ _ _ _ (hone v2 (by simp))
 have hst3:∀ (a:Addr) (m:Mode) (W:World),(store a v3 m).run Tryz.prog W=stored Tryz.prog W a v3 m:=fun _ _ _=>run_store _ _ _ _ _ (hone v3 (by simp))
 have hrb5:w5.heap[w.heap.size]?=some (.cells #[.int .u32 0,.slice none 0 0,.int .u32 0,.slice none 0 0] 37):=(hf5.block w.heap.size (by simp) (fun h=>h)).trans (heap_alloc_new _ _)
 have hr05:w5.cell? ⟨w.heap.size,0,none⟩=some (.int .u32 0):=by simp[World.cell?,hrb5]
 have hr15:w5.cell? ⟨w.heap.size,1,none⟩=some (.slice none 0 0):=by simp[World.cell?,hrb5]
 have hr25:w5.cell? ⟨w.heap.size,2,none⟩=some (.int .u32 0):=by simp[World.cell?,hrb5]
 have hr35:w5.cell? ⟨w.heap.size,3,none⟩=some (.slice none 0 0):=by simp[World.cell?,hrb5]
 have hrz5:∀ i,w5.frozen? ⟨w.heap.size,i,none⟩=false:=fun i=>by simp[World.frozen?,hrb5]
 have hrl5:=ab hr05
 have H5:=ae (And.intro hf5 (And.intro hq hrb5))
 clear hf5 hq hone hrb5
 go_wp2_with fail
 refine bodyPost_ret (v:=.tuple #[.agg #[v0,v1,v2,v3],err]) (by simp[results,Tryz.results37,go_sem,hr05,hr15,hr25,hr35]) rfl ?_
 have hf05:Fr (fun _=>False) w w5:=(aB w _).trans (aa H5).1 (fun _ _ h=>h)
 exact⟨_,_,rfl,w5,(aa H5).2.1,((((Fr.refl (fun k=>k=w.heap.size) w5).setCell (.inl rfl) _).setCell (.inl rfl) _).setCell (.inl rfl) _).setCell (.inl rfl) _,fun F=>((((aw.refl w5 F (fun k _=>k=w.heap.size)).trans (aw.set w.heap.size 0 _) (fun k j _ h=>h.1)).trans (aw.set w.heap.size 1 _) (fun k j _ h=>h.1)).trans (aw.set w.heap.size 2 _) (fun k j _ h=>h.1)).trans (aw.set w.heap.size 3 _) (fun k j _ h=>h.1),((((hf05).setCell (.inr (Nat.le_refl _)) _).setCell (.inr (Nat.le_refl _)) _).setCell (.inr (Nat.le_refl _)) _).setCell (.inr (Nat.le_refl _)) _,(aa H5).2.2⟩
theorem rM (xo:Option Addr) (n xc:Nat) (w:World) (Q:World→Array Value→Value→Prop) (h:Calls Tryz.prog 81 #[.slice xo n xc] (w.alloc (.cells #[.slice none 0 0] 40)) fun e w'=>∃ v0 err,e = .returned (.tuple #[.agg #[v0],err])∧(∀ v∈([v0]:List Value),v.oneCell'=true)∧Fr (fun _=>False) (w.alloc (.cells #[.slice none 0 0] 40)) w'∧Q w' #[v0] err) :
  Calls Tryz.prog 38 #[.slice xo n xc] w fun e w'=>∃ vs err,e = .returned (.tuple #[.agg vs,err])∧∃ w2,Q w2 vs err∧Fr (fun k=>k=w.heap.size) w2 w'∧(∀ F,aw w2 w' F F (fun k _=>k=w.heap.size))∧Fr (fun _=>False) w w'∧w2.heap[w.heap.size]?=some (.cells #[.slice none 0 0] 40):=by
 have H:=ae h
 clear h
 go_enter Tryz.func38,Tryz.ntmps38
 go_wp2_with fail
 refine(aa H).mono ?_
 rintro e w5 ⟨v0,err,rfl,hone,hf5,hq⟩
 have hst0:∀ (a:Addr) (m:Mode) (W:World),(store a v0 m).run Tryz.prog W=stored Tryz.prog W a v0 m:=fun _ _ _=>run_store _ _ _ _ _ (hone v0 (by simp))
 have hrb5:w5.heap[w.heap.size]?=some (.cells #[.slice none 0 0] 40):=(hf5.block w.heap.size (by simp) (fun h=>h)).trans (heap_alloc_new _ _)
 have hr05:w5.cell? ⟨w.heap.size,0,none⟩=some (.slice none 0 0):=by simp[World.cell?,hrb5]
 have hrz5:∀ i,w5.frozen? ⟨w.heap.size,i,none⟩=false:=fun i=>by simp[World.frozen?,hrb5]
 have hrl5:=ab hr05
 have H5:=ae (And.intro hf5 (And.intro hq hrb5))
 clear hf5 hq hone hrb5
 go_wp2_with fail
 refine bodyPost_ret (v:=.tuple #[.agg #[v0],err]) (by simp[results,Tryz.results38,go_sem,hr05]) rfl ?_
 have hf05:Fr (fun _=>False) w w5:=(aB w _).trans (aa H5).1 (fun _ _ h=>h)
 exact⟨_,_,rfl,w5,(aa H5).2.1,(Fr.refl (fun k=>k=w.heap.size) w5).setCell (.inl rfl) _,fun F=>(aw.refl w5 F (fun k _=>k=w.heap.size)).trans (aw.set w.heap.size 0 _) (fun k j _ h=>h.1),(hf05).setCell (.inr (Nat.le_refl _)) _,(aa H5).2.2⟩
theorem iP {w w':World} {lo n e:Nat} {x:Value} {xs:List Value} {F F':Nat→Prop} {P:Nat→Nat→Prop} (h:w.ownsRow lo e 1 x n xs) (hn:∀ k,x.ownBlock=some k→¬ F k) (hs:aw w w' F F' P) (hP:∀ k j,P k j→k<lo):w'.ownsRow lo e 1 x n xs∧∀ k,x.ownBlock=some k→¬ F' k:=
 ⟨aA h (fun k hk=>hs.block (h.lt k hk).2 (hn k hk) (fun j hp=>by have:=hP k j hp;have:=(h.lt k hk).1;omega)),fun k hk=>hs.nF (h.lt k hk).2 (hn k hk)⟩
theorem BO.own {w0 w:World} {q:Q} {x':Value} {l':List Nat} {F:Nat→Prop} {g lo:Nat} (h:BO w0 w (.rd q) x' l' F g) (hlo:lo≤w0.heap.size):w.ownsRow lo 5 1 x' l'.length (cellsOf l')∧(∀ k,x'.ownBlock=some k→¬ F k)∧x'.oneCell'=true:=by
 have hown:=h.val q rfl
 refine⟨eQ hown hlo,fun k hk=>?_,?_⟩
 ·obtain⟨m,c,e⟩:=sT hown hk
  exact(h.bv.bv.at_ k 0 m c e).2
 ·obtain⟨xo,xc,rfl⟩:=h.bv.bv.src.form
  rfl
theorem jQ (w:World) (F:Nat→Prop) (g:Nat):oO w (.slice none 0 0) [] F g:=⟨⟨.inl ⟨rfl,rfl⟩,fun _ _ _ _ e=>(by cases e)⟩,fun _ _ _ _ e=>(by cases e),by decide⟩
theorem qf {w:World} {lo n:Nat} {x:Value} {xs:List Value} {e:Nat} (h:w.ownsRow lo e 1 x n xs):x.oneCell'=true:=by
 rcases h.2 with ⟨rfl,_⟩|⟨g,cap,cur,rfl,_⟩ <;> rfl
theorem fR {w w':World} {v:Value} {x:ByteArray × Nat × Nat} {E:Nat→Addr} {k0:Nat} {vs:Array Value} {t:TypeId} (h:cT w v x E) (hf:Fr (fun k=>k=k0) w w') (hb:w.heap[k0]?=some (.cells vs t)) (hne:t≠83):cT w' v x E:=by
 rcases h with h|⟨h1,h7,fb,rfl,hbb⟩
 ·exact .inl h
 ·have hlt:fb<w.heap.size:=by
   rcases Nat.lt_or_ge fb w.heap.size with hx|hx
   ·exact hx
   ·rw[Array.getElem?_eq_none hx] at hbb;cases hbb
  refine .inr ⟨h1,h7,fb,rfl,(hf.block fb hlt (fun e=>?_)).trans hbb⟩
  rw[e,hb] at hbb
  simp[aR] at hbb
  exact hne hbb.2
theorem qn (x:Value) (l:List Nat) (E:Nat→Addr) (w:World) (hg:G6 w E) (hw:9≤w.heap.size) (hx:Src w x l) (hl:l.length≤140737488355328) :
  Calls Tryz.prog 22 #[x] w fun e w'=>∃ vs err,e = .returned (.tuple #[.agg vs,err])∧cT w' err (bK l).1.rq.fin E∧((bK l).1.rq.fin.2.2≠0→vs = #[.int .u32 0,.slice none 0 0])∧((bK l).1.rq.fin.2.2=0→∃ y,vs = #[.int .u32 ((bK l).2.1:Nat),y]∧w'.ownsRow w.heap.size 5 1 y (bK l).2.2.length (cellsOf (bK l).2.2))∧Fr (fun _=>False) w w':=by
 obtain⟨xo,xc,rfl⟩:=hx.form
 obtain⟨wb,hwb⟩:∃ wb,w.alloc (.cells #[.int .u32 0,.slice none 0 0] 25)=wb:=⟨_,rfl⟩
 have hbx:Fr (fun _=>False) w wb:=by rw[← hwb];exact aB _ _
 have hsb:wb.heap.size=w.heap.size+1:=by rw[← hwb];simp
 have hp:=zd _ l (bK l).1.rq (fun w' F _ vs=>∃ y,vs = #[.int .u32 ((bK l).2.1:Nat),y]∧w'.ownsRow (w.heap.size+2) 5 1 y (bK l).2.2.length (cellsOf (bK l).2.2)∧∀ k,y.ownBlock=some k→¬ F k) E wb (hg.fr hbx (fun _ h=>h.elim)) (by omega) (hx.fr hbx (fun _ _ _ _ _ h=>h)) hl
  (fun w2 w' F F' P g vs ⟨y,h1,h2,h3⟩ hs hP=>by
   obtain⟨h4,h5⟩:=iP h2 h3 hs (fun k j hp=>by have:=hP k j hp;omega)
   exact⟨y,h1,h4,h5⟩)
  (fun w1 cb b F g hC h0 h1 hL hF hgg hf=>by
   refine(lO (eU l) 0 [] (.slice none 0 0) cb b g F E w1 hC h0 h1 (jQ w1 F g) hL (by decide) (by simp only[CS.room,CS.len,eU];omega)).mono ?_
   rintro e w' ⟨rfl,F',hC',hc0,y,hc1,hb,hs⟩
   have hlt:=(hL 0).lt
   obtain⟨ho,hn,h1c⟩:=BO.own (lo:=w.heap.size+2) hb (by omega)
   exact⟨rfl,F',hC',_,y,hc0,hc1,fun v hv=>by
    simp at hv
    rcases hv with rfl|rfl
    ·rfl
    ·exact h1c,⟨y,rfl,ho,hn⟩,hs.mono (fun k j _ h=>h.1)⟩)
 refine(uN xo l.length xc w (fun w' vs err=>cT w' err (bK l).1.rq.fin E∧((bK l).1.rq.fin.2.2≠0→vs = #[.int .u32 0,.slice none 0 0])∧((bK l).1.rq.fin.2.2=0→∃ (y:Value) (F:Nat→Prop),vs = #[.int .u32 ((bK l).2.1:Nat),y]∧w'.ownsRow (w.heap.size+2) 5 1 y (bK l).2.2.length (cellsOf (bK l).2.2)∧∀ k,y.ownBlock=some k→¬ F k)) ?_).mono ?_
 ·rw[hwb]
  refine hp.mono ?_
  rintro e w' ⟨vs,err,rfl,hE,hz,hr,hf⟩
  by_cases h0:(bK l).1.rq.fin.2.2=0
  ·obtain⟨F',g,⟨y,rfl,ho,hn⟩,_⟩:=hr h0
   exact⟨_,_,err,rfl,fun v hv=>by
    simp at hv
    rcases hv with rfl|rfl
    ·rfl
    ·exact qf ho,hf,hE,fun h=>absurd h0 h,fun _=>⟨y,F',rfl,ho,hn⟩⟩
  ·obtain rfl:=hz h0
   exact⟨_,_,err,rfl,fun v hv=>by
    simp at hv
    rcases hv with rfl|rfl <;> rfl,hf,hE,fun _=>rfl,fun h=>absurd h h0⟩
 ·rintro e w' ⟨vs,err,rfl,w2,⟨hE,hz,hr⟩,hf1,hs,hf,hrb⟩
  refine⟨vs,err,rfl,fR hE hf1 hrb (by decide),hz,fun h0=>?_,hf⟩
  obtain⟨y,F,h1,ho,hn⟩:=hr h0
  exact⟨y,h1,aK (iP ho hn (hs F) (fun k j h=>by omega)).1 (by omega)⟩
theorem xD (x:Value) (l:List Nat) (E:Nat→Addr) (w:World) (hg:G6 w E) (hw:9≤w.heap.size) (hx:Src w x l) (hl:l.length≤140737488355328) :
  Calls Tryz.prog 37 #[x] w fun e w'=>∃ vs err,e = .returned (.tuple #[.agg vs,err])∧cT w' err (aC l).1.rq.fin E∧((aC l).1.rq.fin.2.2≠0→vs = #[.int .u32 0,.slice none 0 0,.int .u32 0,.slice none 0 0])∧((aC l).1.rq.fin.2.2=0→∃ y z,vs = #[.int .u32 ((aC l).2.1.1:Nat),y,.int .u32 ((aC l).2.2.1:Nat),z]∧w'.ownsRow w.heap.size 5 1 y (aC l).2.1.2.length (cellsOf (aC l).2.1.2)∧w'.ownsRow w.heap.size 5 1 z (aC l).2.2.2.length (cellsOf (aC l).2.2.2))∧Fr (fun _=>False) w w':=by
 obtain⟨xo,xc,rfl⟩:=hx.form
 obtain⟨wb,hwb⟩:∃ wb,w.alloc (.cells #[.int .u32 0,.slice none 0 0,.int .u32 0,.slice none 0 0] 37)=wb:=⟨_,rfl⟩
 have hbx:Fr (fun _=>False) w wb:=by rw[← hwb];exact aB _ _
 have hsb:wb.heap.size=w.heap.size+1:=by rw[← hwb];simp
 have hp:=uP _ l (aC l).1.rq (fun w' F _ vs=>∃ y z,vs = #[.int .u32 ((aC l).2.1.1:Nat),y,.int .u32 ((aC l).2.2.1:Nat),z]∧(w'.ownsRow (w.heap.size+2) 5 1 y (aC l).2.1.2.length (cellsOf (aC l).2.1.2)∧∀ k,y.ownBlock=some k→¬ F k)∧w'.ownsRow (w.heap.size+2) 5 1 z (aC l).2.2.2.length (cellsOf (aC l).2.2.2)∧∀ k,z.ownBlock=some k→¬ F k) E wb (hg.fr hbx (fun _ h=>h.elim)) (by omega) (hx.fr hbx (fun _ _ _ _ _ h=>h)) hl
  (fun w2 w' F F' P g vs ⟨y,z,h1,h2,h3⟩ hs hP=>⟨y,z,h1,iP h2.1 h2.2 hs (fun k j hp=>by have:=hP k j hp;omega),iP h3.1 h3.2 hs (fun k j hp=>by have:=hP k j hp;omega)⟩)
  (fun w1 cb b F g hC h0 h1 h2 h3 hL hF hgg hf=>by
   refine(pn (eU l) 0 0 [] [] (.slice none 0 0) (.slice none 0 0) cb b g F E w1 hC h0 h1 h2 h3 (jQ w1 F g) (jQ w1 F g) hL (by decide) (by decide) (by simp only[CS.room,CS.len,eU];omega)).mono ?_
   rintro e w' ⟨rfl,F',hC',hc0,hc2,y,z,hc1,hc3,hb,hb2,hs⟩
   have hlt:=(hL 0).lt
   obtain⟨ho,hn,h1c⟩:=BO.own (lo:=w.heap.size+2) hb (by omega)
   obtain⟨ho2,hn2,h1c2⟩:=BO.own (lo:=w.heap.size+2) hb2 (by omega)
   exact⟨rfl,F',hC',_,y,_,z,hc0,hc1,hc2,hc3,fun v hv=>by
    simp at hv
    rcases hv with rfl|rfl|rfl|rfl
    ·rfl
    ·exact h1c
    ·rfl
    ·exact h1c2,⟨y,z,rfl,⟨ho,hn⟩,ho2,hn2⟩,hs.mono (fun k j _ h=>h.1)⟩)
 refine(qj xo l.length xc w (fun w' vs err=>cT w' err (aC l).1.rq.fin E∧((aC l).1.rq.fin.2.2≠0→vs = #[.int .u32 0,.slice none 0 0,.int .u32 0,.slice none 0 0])∧((aC l).1.rq.fin.2.2=0→∃ (y z:Value) (F:Nat→Prop),vs = #[.int .u32 ((aC l).2.1.1:Nat),y,.int .u32 ((aC l).2.2.1:Nat),z]∧(w'.ownsRow (w.heap.size+2) 5 1 y (aC l).2.1.2.length (cellsOf (aC l).2.1.2)∧∀ k,y.ownBlock=some k→¬ F k)∧w'.ownsRow (w.heap.size+2) 5 1 z (aC l).2.2.2.length (cellsOf (aC l).2.2.2)∧∀ k,z.ownBlock=some k→¬ F k)) ?_).mono ?_
 ·rw[hwb]
  refine hp.mono ?_
  rintro e w' ⟨vs,err,rfl,hE,hz,hr,hf⟩
  by_cases h0:(aC l).1.rq.fin.2.2=0
  ·obtain⟨F',g,⟨y,z,rfl,ho,ho2⟩,_⟩:=hr h0
   exact⟨_,_,_,_,err,rfl,fun v hv=>by
    simp at hv
    rcases hv with rfl|rfl|rfl|rfl
    ·rfl
    ·exact qf ho.1
    ·rfl
    ·exact qf ho2.1,hf,hE,fun h=>absurd h0 h,fun _=>⟨y,z,F',rfl,ho,ho2⟩⟩
  ·obtain rfl:=hz h0
   exact⟨_,_,_,_,err,rfl,fun v hv=>by
    simp at hv
    rcases hv with rfl|rfl|rfl|rfl <;> rfl,hf,hE,fun _=>rfl,fun h=>absurd h h0⟩
 ·rintro e w' ⟨vs,err,rfl,w2,⟨hE,hz,hr⟩,hf1,hs,hf,hrb⟩
  refine⟨vs,err,rfl,fR hE hf1 hrb (by decide),hz,fun h0=>?_,hf⟩
  obtain⟨y,z,F,h1,ho,ho2⟩:=hr h0
  exact⟨y,z,h1,aK (iP ho.1 ho.2 (hs F) (fun k j h=>by omega)).1 (by omega),aK (iP ho2.1 ho2.2 (hs F) (fun k j h=>by omega)).1 (by omega)⟩
theorem wR (l:List Nat):∃ q,(bw l).1 = .rd q:=by
 have key:∀ n c,(∃ q,c=CS.rd q)→∃ q,(bt (fun c v=>c.bM bl v) [] n c).1 = .rd q:=by
  intro n
  induction n with
  | zero=>intro c h;exact h
  | succ n ih =>
   intro c h
   obtain⟨q,hq⟩:=ih c h
   show ∃ q,((bt (fun c v=>c.bM bl v) [] n c).1.bM bl []).1 = .rd q
   rw[hq]
   exact⟨_,rfl⟩
 exact key _ _ ⟨_,rfl⟩
theorem wi (l:List Nat):(bw l).1 = .rd (bw l).1.rq:=by
 obtain⟨q,hq⟩:=wR l
 rw[hq]
 rfl
theorem getProof (x:Value) (l:List Nat) (E:Nat→Addr) (w:World) (hg:G6 w E) (hw:9≤w.heap.size) (hx:Src w x l) (hl:l.length≤140737488355328) :
  Calls Tryz.prog 38 #[x] w fun e w'=>∃ vs err,e = .returned (.tuple #[.agg vs,err])∧cT w' err (bw l).1.rq.fin E∧((bw l).1.rq.fin.2.2≠0→vs = #[.slice none 0 0])∧((bw l).1.rq.fin.2.2=0→∃ y,vs = #[y]∧jm w' w.heap.size y (bw l).2 (fun _=>False))∧Fr (fun _=>False) w w':=by
 obtain⟨xo,xc,rfl⟩:=hx.form
 obtain⟨wb,hwb⟩:∃ wb,w.alloc (.cells #[.slice none 0 0] 40)=wb:=⟨_,rfl⟩
 have hbx:Fr (fun _=>False) w wb:=by rw[← hwb];exact aB _ _
 have hsb:wb.heap.size=w.heap.size+1:=by rw[← hwb];simp
 have hp:=xz _ l (bw l).1.rq (fun w' F _ vs=>∃ y,vs = #[y]∧jm w' (w.heap.size+2) y (bw l).2 F) E wb (hg.fr hbx (fun _ h=>h.elim)) (by omega) (hx.fr hbx (fun _ _ _ _ _ h=>h)) hl
  (fun w2 w' F F' P g vs ⟨y,h1,h2⟩ hs hP=>⟨y,h1,h2.aV hs (fun k j hk _ hp=>by have:=hP k j hp;omega)⟩)
  (fun w1 cb b F g hC h0 hL hF hgg hf=>by
   refine(nj _ cb b g F E w1 hC h0 (hL 0)).mono ?_
   rintro e w' ⟨rfl,F',hC',y,hc,hO,hs⟩
   have hlt:=(hL 0).lt
   obtain⟨yo,yc,e1⟩:=hO.form
   exact⟨rfl,F',by rw[← wi];exact hC',y,hc,fun v hv=>by
    simp at hv
    rw[hv,e1]
    rfl,⟨y,rfl,hO.base (by omega)⟩,hs.mono (fun k j _ h=>h.1)⟩)
 refine(rM xo l.length xc w (fun w' vs err=>cT w' err (bw l).1.rq.fin E∧((bw l).1.rq.fin.2.2≠0→vs = #[.slice none 0 0])∧((bw l).1.rq.fin.2.2=0→∃ (y:Value) (F:Nat→Prop),vs = #[y]∧jm w' (w.heap.size+2) y (bw l).2 F)) ?_).mono ?_
 ·rw[hwb]
  refine hp.mono ?_
  rintro e w' ⟨vs,err,rfl,hE,hz,hr,hf⟩
  by_cases h0:(bw l).1.rq.fin.2.2=0
  ·obtain⟨F',g,⟨y,rfl,hO⟩,_⟩:=hr h0
   obtain⟨yo,yc,e1⟩:=hO.form
   exact⟨_,err,rfl,fun v hv=>by
    simp at hv
    rw[hv,e1]
    rfl,hf,hE,fun h=>absurd h0 h,fun _=>⟨y,F',rfl,hO⟩⟩
  ·obtain rfl:=hz h0
   exact⟨_,err,rfl,fun v hv=>by
    simp at hv
    rw[hv]
    rfl,hf,hE,fun _=>rfl,fun h=>absurd h h0⟩
 ·rintro e w' ⟨vs,err,rfl,w2,⟨hE,hz,hr⟩,hf1,hs,hf,hrb⟩
  refine⟨vs,err,rfl,fR hE hf1 hrb (by decide),hz,fun h0=>?_,hf⟩
  obtain⟨y,F,h1,hO⟩:=hr h0
  have hO':=(hO.aV (hs F) (fun k j hk _ h=>by omega)).base (show w.heap.size≤w.heap.size+2 by omega)
  obtain⟨us,a1,a2,a3,a4,a5⟩:=hO'.us
  exact⟨y,h1,fun _ _ h=>h,us,a1,a2,a3,fun j u k hu hk=>⟨fun h=>h,(a4 j u k hu hk).2⟩,a5⟩
theorem aS {w:World} {lo n z:Nat} {x:Value} {xs:List Value} {e:Nat} (h:w.ownsRow lo e z x n xs):x.oneCell'=true:=by
 rcases h.2 with ⟨rfl,_⟩|⟨g,cap,cur,rfl,_⟩ <;> rfl
theorem dy.fin {w:World} {b b':Nat} {x:Value} {l:List cA} {F:Nat→Prop} (h:dy w b x l F) (hb:b'≤b):dy w b' x l (fun _=>False):=⟨fun _ _ h=>h,aK h.row hb,h.ok⟩
theorem gd.fin {w:World} {b b':Nat} {x:Value} {l:List dG} {F:Nat→Prop} (h:gd w b x l F) (hb:b'≤b):gd w b' x l (fun _=>False):=⟨fun _ _ h=>h,aK h.row hb,h.ok⟩
theorem iK (w:World) (q:Q) (F:Nat→Prop) (g:Nat):kE w (.rd q) (.slice none 0 0) [] F g:=⟨fun s e=>(by cases e),fun _ _=>⟨rfl,rfl⟩,by decide⟩
theorem vE (w:World) (q:Q) (F:Nat→Prop) (g:Nat):u6 w (.rd q) (.slice none 0 0) [] F g:=⟨fun s e=>(by cases e),fun _ _=>⟨rfl,rfl⟩,by decide⟩
structure qy (w:World) (base:Nat) (x:Value) (l:List Nat) (F:Nat→Prop):Prop where
 nF:∀ k,x.ownBlock=some k→¬ F k
 row:w.ownsRow base 5 1 x l.length (cellsOf l)
theorem qy.aV {w w':World} {base:Nat} {x:Value} {l:List Nat} {F F':Nat→Prop} {P:Nat→Nat→Prop} (h:qy w base x l F) (hs:aw w w' F F' P) (hP:∀ k j,base≤k→k<w.heap.size→¬ P k j):qy w' base x l F':=
 ⟨fun k hk=>hs.nF (h.row.lt k hk).2 (h.nF k hk),aA h.row (fun k hk=>hs.block (h.row.lt k hk).2 (h.nF k hk) (fun j=>hP k j (h.row.lt k hk).1 (h.row.lt k hk).2))⟩
theorem qy.fin {w:World} {b b':Nat} {x:Value} {l:List Nat} {F:Nat→Prop} (h:qy w b x l F) (hb:b'≤b):qy w b' x l (fun _=>False):=⟨fun _ _ h=>h,aK h.row hb⟩
theorem pG.fs {w:World} {g o:Nat} (v:ed) (l:List cA) {x:Value} (h:pG w g o { v with fs:=l } x):pG w g o v x:=⟨h.c0,h.c1,h.c2,h.c3,h.c4,h.c5,h.c6,h.c7,h.c8,h.c9⟩
theorem sO.fs {w:World} {g o:Nat} (v:iW) (l:List cA) {x y:Value} (h:sO w g o { v with rq:={ v.rq with fs:=l } } x y):sO w g o v x y:=⟨h.c0,h.r.fs v.rq l,h.c11,h.c12⟩
def jD:ed:=⟨0,0,0,0,0,0,0,0,[],⟨#[]⟩⟩
def uA:iW:=⟨0,jD,0,[]⟩
theorem pB:jD.ok:=⟨by decide,by decide,by decide,by decide,by decide,by decide,by decide,by decide,by decide⟩
theorem vk:uA.ok:=⟨by decide,pB,by decide⟩
theorem pr (l:List Nat):((eU l).aX 1).bp jD=aL l:=rfl
theorem tA (l:List Nat):((eU l).aX 3).bJ uA=aQ l:=rfl
theorem mV (l:List Nat) (cb b g:Nat) (F:Nat→Prop) (E:Nat→Addr) (w:World) (h:Cd w cb b F (eU l) E) (hp:pG w g 0 jD (.slice none 0 0)) (hL:∀ i,Loc w cb F g i) (hroom:(eU l).room 221) :
  Calls Tryz.prog 68 #[.pointer (some ⟨cb,0,none⟩),.iface 157 (.pointer (some ⟨g,0,none⟩))] w fun e w'=>e = .returned (.tuple #[])∧∃ F' y,Cd w' cb b F' (.rd (aL l).1.rq) E∧pG w' g 0 (aL l).2 y∧ks w w' (eU l) (.slice none 0 0) y (aL l).2.fs F'∧aw w w' F F' (aH g 0 10):=by
 have HW:=n5 (eU l) jD (.slice none 0 0) cb b g F E w h hp (iK w _ F g) hL pB hroom
 rw[pr] at HW
 refine HW.mono ?_
 rintro e w' ⟨rfl,F',y,hC,hcl,ho,hs⟩
 exact⟨rfl,F',y,by rw[← rn];exact hC,hcl.fs _ _,ho,hs⟩
theorem qx (l:List Nat) (cb b g:Nat) (F:Nat→Prop) (E:Nat→Addr) (w:World) (h:Cd w cb b F (eU l) E) (hp:sO w g 0 uA (.slice none 0 0) (.slice none 0 0)) (hL:∀ i,Loc w cb F g i) (hroom:(eU l).room 231) :
  Calls Tryz.prog 68 #[.pointer (some ⟨cb,0,none⟩),.iface 210 (.pointer (some ⟨g,0,none⟩))] w fun e w'=>e = .returned (.tuple #[])∧∃ F' y z,Cd w' cb b F' (.rd (aQ l).1.rq) E∧sO w' g 0 (aQ l).2 y z∧ks w w' (eU l) (.slice none 0 0) y (aQ l).2.rq.fs F'∧BO w w' (eU l) z (aQ l).2.dg F' g∧aw w w' F F' (aH g 0 13):=by
 have HW:=qQ (eU l) uA (.slice none 0 0) (.slice none 0 0) cb b g F E w h hp (iK w _ F g) (jQ w F g) hL vk hroom
 rw[tA] at HW
 refine HW.mono ?_
 rintro e w' ⟨rfl,F',y,z,hC,hcl,ho,hb,hs⟩
 exact⟨rfl,F',y,z,by rw[← xU];exact hC,hcl.fs _ _,ho,hb,hs⟩
theorem nW (l:List Nat) (cb b g:Nat) (F:Nat→Prop) (E:Nat→Addr) (w:World) (h:Cd w cb b F (eU l) E) (hp:x6 w g 0 ⟨0,0,0,0,0,[],[]⟩ (.slice none 0 0) (.slice none 0 0)) (hL:∀ i,Loc w cb F g i) (hroom:(eU l).room 501) :
  Calls Tryz.prog 68 #[.pointer (some ⟨cb,0,none⟩),.iface 158 (.pointer (some ⟨g,0,none⟩))] w fun e w'=>e = .returned (.tuple #[])∧∃ F' y z,Cd w' cb b F' (.rd (aM l).1.rq) E∧x6 w' g 0 (aM l).2 y z∧ks w w' (eU l) (.slice none 0 0) y (aM l).2.fs F'∧zc w w' (eU l) (.slice none 0 0) z (aM l).2.hi F'∧aw w w' F F' (aH g 0 7):=by
 refine(pA (eU l) ⟨0,0,0,0,0,[],[]⟩ (.slice none 0 0) (.slice none 0 0) cb b g F E w h hp (iK w _ F g) (vE w _ F g) hL ⟨by decide,by decide,by decide,by decide,by decide⟩ hroom).mono ?_
 rintro e w' ⟨rfl,F',y,z,hC,hcl,ho,hb,hs⟩
 exact⟨rfl,F',y,z,by rw[← td];exact hC,hcl,ho,hb,hs⟩
theorem th (x:Value) (l:List Nat) (E:Nat→Addr) (w:World) (hg:G6 w E) (hw:9≤w.heap.size) (hx:Src w x l) (hl:l.length≤140737488355328) :
  Calls Tryz.prog 34 #[x] w fun e w'=>∃ vs err,e = .returned (.tuple #[.agg vs,err])∧cT w' err (aL l).1.rq.fin E∧((aL l).1.rq.fin.2.2≠0→vs = #[.int .u32 0,.int .u32 0,.int .u32 0,.int .u8 0,.int .u32 0,.int .u32 0,.int .u32 0,.int .u32 0,.slice none 0 0,.string ⟨#[]⟩])∧((aL l).1.rq.fin.2.2=0→∃ y,vs=((aL l).2.aJ y)∧dy w' (w.heap.size) y (aL l).2.fs (fun _=>False))∧Fr (fun _=>False) w w':=by
 obtain⟨xo,xc,rfl⟩:=hx.form
 obtain⟨wb,hwb⟩:∃ wb,w.alloc (.cells #[.int .u32 0,.int .u32 0,.int .u32 0,.int .u8 0,.int .u32 0,.int .u32 0,.int .u32 0,.int .u32 0,.slice none 0 0,.string ⟨#[]⟩] 30)=wb:=⟨_,rfl⟩
 have hbx:Fr (fun _=>False) w wb:=by rw[← hwb];exact aB _ _
 have hsb:wb.heap.size=w.heap.size+1:=by rw[← hwb];simp
 have hp:=rh _ l (aL l).1.rq (fun w' F _ vs=>∃ y,vs=((aL l).2.aJ y)∧dy w' (w.heap.size+2) y (aL l).2.fs F) E wb (hg.fr hbx (fun _ h=>h.elim)) (by omega) (hx.fr hbx (fun _ _ _ _ _ h=>h)) hl
  (fun w2 w' F F' P g vs ⟨y,h1,hoy⟩ hs hP=>⟨y,h1,hoy.aV hs (fun k j hb hk hp=>by have:=hP k j hp;omega)⟩)
  (fun w1 cb b F g hC h0 h1 h2 h3 h4 h5 h6 h7 h8 h9 hL hF hgg hf=>by
   have hlt:=(hL 0).lt
   refine(mV l cb b g F E w1 hC ⟨h0,h1,h2,h3,h4,h5,h6,h7,h8,h9⟩ hL (by simp only[CS.room,CS.len,eU];omega)).mono ?_
   rintro e w' ⟨rfl,F',y,hC',hcl,hby,hs⟩
   have hoy:dy w' (w.heap.size+2) y (aL l).2.fs F':=by have h9:=hby.rd _ rfl;exact⟨h9.nF,aK h9.row (by omega),h9.ok⟩
   have hrowy:=hoy.row
   exact⟨rfl,F',hC',_,_,_,_,_,_,_,_,_,_,hcl.c0,hcl.c1,hcl.c2,hcl.c3,hcl.c4,hcl.c5,hcl.c6,hcl.c7,hcl.c8,hcl.c9,fun v hv=>by
    simp only[List.mem_cons,List.not_mem_nil,or_false] at hv
    rcases hv with rfl|rfl|rfl|rfl|rfl|rfl|rfl|rfl|rfl|rfl
    all_goals first|rfl|exact aS (by assumption),⟨y,rfl,hoy⟩,hs.mono (fun k j _ h=>h.1)⟩)
 refine(ou xo l.length xc w (fun w' vs err=>cT w' err (aL l).1.rq.fin E∧((aL l).1.rq.fin.2.2≠0→vs = #[.int .u32 0,.int .u32 0,.int .u32 0,.int .u8 0,.int .u32 0,.int .u32 0,.int .u32 0,.int .u32 0,.slice none 0 0,.string ⟨#[]⟩])∧((aL l).1.rq.fin.2.2=0→∃ (y:Value) (F:Nat→Prop),vs=((aL l).2.aJ y)∧dy w' (w.heap.size+2) y (aL l).2.fs F)) ?_).mono ?_
 ·rw[hwb]
  refine hp.mono ?_
  rintro e w' ⟨vs,err,rfl,hE,hz,hr,hf⟩
  by_cases h0:(aL l).1.rq.fin.2.2=0
  ·obtain⟨F',g,⟨y,rfl,hoy⟩,_⟩:=hr h0
   have hrowy:=hoy.row
   exact⟨_,_,_,_,_,_,_,_,_,_,err,rfl,fun v hv=>by
    simp only[List.mem_cons,List.not_mem_nil,or_false] at hv
    rcases hv with rfl|rfl|rfl|rfl|rfl|rfl|rfl|rfl|rfl|rfl
    all_goals first|rfl|exact aS (by assumption),hf,hE,fun h=>absurd h0 h,fun _=>⟨y,F',rfl,hoy⟩⟩
  ·obtain rfl:=hz h0
   exact⟨_,_,_,_,_,_,_,_,_,_,err,rfl,fun v hv=>by
    simp only[List.mem_cons,List.not_mem_nil,or_false] at hv
    rcases hv with rfl|rfl|rfl|rfl|rfl|rfl|rfl|rfl|rfl|rfl <;> rfl,hf,hE,fun _=>rfl,fun h=>absurd h h0⟩
 ·rintro e w' ⟨vs,err,rfl,w2,⟨hE,hz,hr⟩,hf1,hs,hf,hrb⟩
  refine⟨vs,err,rfl,fR hE hf1 hrb (by decide),hz,fun h0=>?_,hf⟩
  obtain⟨y,F,h1,hoy⟩:=hr h0
  exact⟨y,h1,(hoy.aV (hs F) (fun k j hb hk hp=>by omega)).fin (by omega)⟩
theorem wo (x:Value) (l:List Nat) (E:Nat→Addr) (w:World) (hg:G6 w E) (hw:9≤w.heap.size) (hx:Src w x l) (hl:l.length≤140737488355328) :
  Calls Tryz.prog 35 #[x] w fun e w'=>∃ vs err,e = .returned (.tuple #[.agg vs,err])∧cT w' err (aM l).1.rq.fin E∧((aM l).1.rq.fin.2.2≠0→vs = #[.int .u32 0,.int .u32 0,.int .u8 0,.int .u32 0,.int .u32 0,.slice none 0 0,.slice none 0 0])∧((aM l).1.rq.fin.2.2=0→∃ y z,vs=((aM l).2.aJ y z)∧dy w' (w.heap.size) y (aM l).2.fs (fun _=>False)∧gd w' (w.heap.size) z (aM l).2.hi (fun _=>False))∧Fr (fun _=>False) w w':=by
 obtain⟨xo,xc,rfl⟩:=hx.form
 obtain⟨wb,hwb⟩:∃ wb,w.alloc (.cells #[.int .u32 0,.int .u32 0,.int .u8 0,.int .u32 0,.int .u32 0,.slice none 0 0,.slice none 0 0] 33)=wb:=⟨_,rfl⟩
 have hbx:Fr (fun _=>False) w wb:=by rw[← hwb];exact aB _ _
 have hsb:wb.heap.size=w.heap.size+1:=by rw[← hwb];simp
 have hp:=tk _ l (aM l).1.rq (fun w' F _ vs=>∃ y z,vs=((aM l).2.aJ y z)∧dy w' (w.heap.size+2) y (aM l).2.fs F∧gd w' (w.heap.size+2) z (aM l).2.hi F) E wb (hg.fr hbx (fun _ h=>h.elim)) (by omega) (hx.fr hbx (fun _ _ _ _ _ h=>h)) hl
  (fun w2 w' F F' P g vs ⟨y,z,h1,hoy,hoz⟩ hs hP=>⟨y,z,h1,hoy.aV hs (fun k j hb hk hp=>by have:=hP k j hp;omega),hoz.aV hs (fun k j hb hk hp=>by have:=hP k j hp;omega)⟩)
  (fun w1 cb b F g hC h0 h1 h2 h3 h4 h5 h6 hL hF hgg hf=>by
   have hlt:=(hL 0).lt
   refine(nW l cb b g F E w1 hC ⟨h0,h1,h2,h3,h4,h5,h6⟩ hL (by simp only[CS.room,CS.len,eU];omega)).mono ?_
   rintro e w' ⟨rfl,F',y,z,hC',hcl,hby,hbz,hs⟩
   have hoy:dy w' (w.heap.size+2) y (aM l).2.fs F':=by have h9:=hby.rd _ rfl;exact⟨h9.nF,aK h9.row (by omega),h9.ok⟩
   have hrowy:=hoy.row
   have hoz:gd w' (w.heap.size+2) z (aM l).2.hi F':=by have h9:=hbz.rd _ rfl;exact⟨h9.nF,aK h9.row (by omega),h9.ok⟩
   have hrowz:=hoz.row
   exact⟨rfl,F',hC',_,_,_,_,_,_,_,hcl.c0,hcl.c1,hcl.c2,hcl.c3,hcl.c4,hcl.c5,hcl.c6,fun v hv=>by
    simp only[List.mem_cons,List.not_mem_nil,or_false] at hv
    rcases hv with rfl|rfl|rfl|rfl|rfl|rfl|rfl
    all_goals first|rfl|exact aS (by assumption),⟨y,z,rfl,hoy,hoz⟩,hs.mono (fun k j _ h=>h.1)⟩)
 refine(p5 xo l.length xc w (fun w' vs err=>cT w' err (aM l).1.rq.fin E∧((aM l).1.rq.fin.2.2≠0→vs = #[.int .u32 0,.int .u32 0,.int .u8 0,.int .u32 0,.int .u32 0,.slice none 0 0,.slice none 0 0])∧((aM l).1.rq.fin.2.2=0→∃ (y z:Value) (F:Nat→Prop),vs=((aM l).2.aJ y z)∧dy w' (w.heap.size+2) y (aM l).2.fs F∧gd w' (w.heap.size+2) z (aM l).2.hi F)) ?_).mono ?_
 ·rw[hwb]
  refine hp.mono ?_
  rintro e w' ⟨vs,err,rfl,hE,hz,hr,hf⟩
  by_cases h0:(aM l).1.rq.fin.2.2=0
  ·obtain⟨F',g,⟨y,z,rfl,hoy,hoz⟩,_⟩:=hr h0
   have hrowy:=hoy.row
   have hrowz:=hoz.row
   exact⟨_,_,_,_,_,_,_,err,rfl,fun v hv=>by
    simp only[List.mem_cons,List.not_mem_nil,or_false] at hv
    rcases hv with rfl|rfl|rfl|rfl|rfl|rfl|rfl
    all_goals first|rfl|exact aS (by assumption),hf,hE,fun h=>absurd h0 h,fun _=>⟨y,z,F',rfl,hoy,hoz⟩⟩
  ·obtain rfl:=hz h0
   exact⟨_,_,_,_,_,_,_,err,rfl,fun v hv=>by
    simp only[List.mem_cons,List.not_mem_nil,or_false] at hv
    rcases hv with rfl|rfl|rfl|rfl|rfl|rfl|rfl <;> rfl,hf,hE,fun _=>rfl,fun h=>absurd h h0⟩
 ·rintro e w' ⟨vs,err,rfl,w2,⟨hE,hz,hr⟩,hf1,hs,hf,hrb⟩
  refine⟨vs,err,rfl,fR hE hf1 hrb (by decide),hz,fun h0=>?_,hf⟩
  obtain⟨y,z,F,h1,hoy,hoz⟩:=hr h0
  exact⟨y,z,h1,(hoy.aV (hs F) (fun k j hb hk hp=>by omega)).fin (by omega),(hoz.aV (hs F) (fun k j hb hk hp=>by omega)).fin (by omega)⟩
theorem Ak (x:Value) (l:List Nat) (E:Nat→Addr) (w:World) (hg:G6 w E) (hw:9≤w.heap.size) (hx:Src w x l) (hl:l.length≤140737488355328) :
  Calls Tryz.prog 36 #[x] w fun e w'=>∃ vs err,e = .returned (.tuple #[.agg vs,err])∧cT w' err (aQ l).1.rq.fin E∧((aQ l).1.rq.fin.2.2≠0→vs = #[.int .u32 0,.int .u32 0,.int .u32 0,.int .u32 0,.int .u8 0,.int .u32 0,.int .u32 0,.int .u32 0,.int .u32 0,.slice none 0 0,.string ⟨#[]⟩,.int .u8 0,.slice none 0 0])∧((aQ l).1.rq.fin.2.2=0→∃ y z,vs=((aQ l).2.aJ y z)∧dy w' (w.heap.size) y (aQ l).2.rq.fs (fun _=>False)∧qy w' (w.heap.size) z (aQ l).2.dg (fun _=>False))∧Fr (fun _=>False) w w':=by
 obtain⟨xo,xc,rfl⟩:=hx.form
 obtain⟨wb,hwb⟩:∃ wb,w.alloc (.cells #[.int .u32 0,.int .u32 0,.int .u32 0,.int .u32 0,.int .u8 0,.int .u32 0,.int .u32 0,.int .u32 0,.int .u32 0,.slice none 0 0,.string ⟨#[]⟩,.int .u8 0,.slice none 0 0] 35)=wb:=⟨_,rfl⟩
 have hbx:Fr (fun _=>False) w wb:=by rw[← hwb];exact aB _ _
 have hsb:wb.heap.size=w.heap.size+1:=by rw[← hwb];simp
 have hp:=xb _ l (aQ l).1.rq (fun w' F _ vs=>∃ y z,vs=((aQ l).2.aJ y z)∧dy w' (w.heap.size+2) y (aQ l).2.rq.fs F∧qy w' (w.heap.size+2) z (aQ l).2.dg F) E wb (hg.fr hbx (fun _ h=>h.elim)) (by omega) (hx.fr hbx (fun _ _ _ _ _ h=>h)) hl
  (fun w2 w' F F' P g vs ⟨y,z,h1,hoy,hoz⟩ hs hP=>⟨y,z,h1,hoy.aV hs (fun k j hb hk hp=>by have:=hP k j hp;omega),hoz.aV hs (fun k j hb hk hp=>by have:=hP k j hp;omega)⟩)
  (fun w1 cb b F g hC h0 h1 h2 h3 h4 h5 h6 h7 h8 h9 h10 h11 h12 hL hF hgg hf=>by
   have hlt:=(hL 0).lt
   refine(qx l cb b g F E w1 hC ⟨h0,⟨h1,h2,h3,h4,h5,h6,h7,h8,h9,h10⟩,h11,h12⟩ hL (by simp only[CS.room,CS.len,eU];omega)).mono ?_
   rintro e w' ⟨rfl,F',y,z,hC',hcl,hby,hbz,hs⟩
   have hoy:dy w' (w.heap.size+2) y (aQ l).2.rq.fs F':=by have h9:=hby.rd _ rfl;exact⟨h9.nF,aK h9.row (by omega),h9.ok⟩
   have hrowy:=hoy.row
   have hoz:qy w' (w.heap.size+2) z (aQ l).2.dg F':=by obtain⟨h7,h8,_⟩:=BO.own (lo:=w.heap.size+2) hbz (by omega);exact⟨h8,h7⟩
   have hrowz:=hoz.row
   exact⟨rfl,F',hC',_,_,_,_,_,_,_,_,_,_,_,_,_,hcl.c0,hcl.r.c0,hcl.r.c1,hcl.r.c2,hcl.r.c3,hcl.r.c4,hcl.r.c5,hcl.r.c6,hcl.r.c7,hcl.r.c8,hcl.r.c9,hcl.c11,hcl.c12,fun v hv=>by
    simp only[List.mem_cons,List.not_mem_nil,or_false] at hv
    rcases hv with rfl|rfl|rfl|rfl|rfl|rfl|rfl|rfl|rfl|rfl|rfl|rfl|rfl
    all_goals first|rfl|exact aS (by assumption),⟨y,z,rfl,hoy,hoz⟩,hs.mono (fun k j _ h=>h.1)⟩)
 refine(rf xo l.length xc w (fun w' vs err=>cT w' err (aQ l).1.rq.fin E∧((aQ l).1.rq.fin.2.2≠0→vs = #[.int .u32 0,.int .u32 0,.int .u32 0,.int .u32 0,.int .u8 0,.int .u32 0,.int .u32 0,.int .u32 0,.int .u32 0,.slice none 0 0,.string ⟨#[]⟩,.int .u8 0,.slice none 0 0])∧((aQ l).1.rq.fin.2.2=0→∃ (y z:Value) (F:Nat→Prop),vs=((aQ l).2.aJ y z)∧dy w' (w.heap.size+2) y (aQ l).2.rq.fs F∧qy w' (w.heap.size+2) z (aQ l).2.dg F)) ?_).mono ?_
 ·rw[hwb]
  refine hp.mono ?_
  rintro e w' ⟨vs,err,rfl,hE,hz,hr,hf⟩
  by_cases h0:(aQ l).1.rq.fin.2.2=0
  ·obtain⟨F',g,⟨y,z,rfl,hoy,hoz⟩,_⟩:=hr h0
   have hrowy:=hoy.row
   have hrowz:=hoz.row
   exact⟨_,_,_,_,_,_,_,_,_,_,_,_,_,err,rfl,fun v hv=>by
    simp only[List.mem_cons,List.not_mem_nil,or_false] at hv
    rcases hv with rfl|rfl|rfl|rfl|rfl|rfl|rfl|rfl|rfl|rfl|rfl|rfl|rfl
    all_goals first|rfl|exact aS (by assumption),hf,hE,fun h=>absurd h0 h,fun _=>⟨y,z,F',rfl,hoy,hoz⟩⟩
  ·obtain rfl:=hz h0
   exact⟨_,_,_,_,_,_,_,_,_,_,_,_,_,err,rfl,fun v hv=>by
    simp only[List.mem_cons,List.not_mem_nil,or_false] at hv
    rcases hv with rfl|rfl|rfl|rfl|rfl|rfl|rfl|rfl|rfl|rfl|rfl|rfl|rfl <;> rfl,hf,hE,fun _=>rfl,fun h=>absurd h h0⟩
 ·rintro e w' ⟨vs,err,rfl,w2,⟨hE,hz,hr⟩,hf1,hs,hf,hrb⟩
  refine⟨vs,err,rfl,fR hE hf1 hrb (by decide),hz,fun h0=>?_,hf⟩
  obtain⟨y,z,F,h1,hoy,hoz⟩:=hr h0
  exact⟨y,z,h1,(hoy.aV (hs F) (fun k j hb hk hp=>by omega)).fin (by omega),(hoz.aV (hs F) (fun k j hb hk hp=>by omega)).fin (by omega)⟩
def ed.is (v:ed):Bool:=!(v.cl == 0 && v.nu == 0) || v.ac != 0 || v.op != 0 || v.re != 0 || v.ve != 0 || v.wa != 0 || v.ow != 0 || v.fs.length != 0 || !v.rs.toList.isEmpty
def hI.is (v:hI):Bool:=!(v.cl == 0 && v.nu == 0) || v.co != 0 || v.re != 0 || v.ve != 0 || v.fs.length != 0 || v.hi.length != 0
def iW.is (v:iW):Bool:=v.pl != 0 || v.rq.is || v.co != 0 || v.dg.length != 0
theorem mx (m:Nat):(((m:Nat):Int) != 0)=(m != 0):=by
 rw[Bool.eq_iff_iff]
 simp
theorem ja (v:ed) (xo:Option Addr) (xc:Nat) (w:World) (hv:v.ok) (hn:v.fs.length<9223372036854775808):Calls Tryz.prog 163 #[.agg (v.aJ (.slice xo v.fs.length xc))] w fun e w'=>e = .returned (.bool v.is)∧Fr (fun _=>False) w w':=by
 obtain⟨cl,nu,ac,op,re,ve,wa,ow,fs,rs⟩:=v
 obtain⟨h1,h2,h3,h4,h5,h6,h7,h8,h9⟩:=hv
 simp only[ed.aJ] at *
 obtain⟨n,hfs⟩:∃ n,fs.length=n:=⟨_,rfl⟩
 rw[hfs] at hn ⊢
 go_enter Tryz.func163,Tryz.ntmps163
 go_wp2_with fail
 all_goals
  go_ret
  refine⟨?_,aB _ _⟩
  simp_all [ed.is]
theorem qw (v:hI) (xo:Option Addr) (xc:Nat) (yo:Option Addr) (yc:Nat) (w:World) (hv:v.ok) (hn:v.fs.length<9223372036854775808) (hm:v.hi.length<9223372036854775808):Calls Tryz.prog 164 #[.agg (v.aJ (.slice xo v.fs.length xc) (.slice yo v.hi.length yc))] w fun e w'=>e = .returned (.bool v.is)∧Fr (fun _=>False) w w':=by
 obtain⟨cl,nu,co,re,ve,fs,hi⟩:=v
 obtain⟨h1,h2,h3,h4,h5⟩:=hv
 simp only[hI.aJ] at *
 obtain⟨n,hfs⟩:∃ n,fs.length=n:=⟨_,rfl⟩
 obtain⟨m,hhi⟩:∃ m,hi.length=m:=⟨_,rfl⟩
 rw[hfs] at hn ⊢
 rw[hhi] at hm ⊢
 go_enter Tryz.func164,Tryz.ntmps164
 go_wp2_with fail
 all_goals
  go_ret
  refine⟨?_,aB _ _⟩
  simp_all [hI.is,mx]
theorem rS (v:iW) (xo:Option Addr) (xc:Nat) (yo:Option Addr) (yc:Nat) (w:World) (hv:v.ok) (hn:v.rq.fs.length<9223372036854775808) (hm:v.dg.length<9223372036854775808):Calls Tryz.prog 165 #[.agg (v.aJ (.slice xo v.rq.fs.length xc) (.slice yo v.dg.length yc))] w fun e w'=>e = .returned (.bool v.is)∧Fr (fun _=>False) w w':=by
 obtain⟨pl,rq,co,dg⟩:=v
 obtain⟨h1,h2,h3⟩:=hv
 simp only at h1 h2 h3 hn hm
 have HR:Hid (∀ wx,Calls Tryz.prog 163 #[.agg (rq.aJ (.slice xo rq.fs.length xc))] wx fun e w'=>e = .returned (.bool rq.is)∧Fr (fun _=>False) wx w'):=fun wx=>ja rq xo xc wx h2 hn
 obtain⟨B,hB⟩:∃ B,rq.is=B:=⟨_,rfl⟩
 simp only[ed.aJ,hB] at HR
 have HB:=ae hB
 clear hB
 simp only[iW.aJ]
 obtain⟨m,hdg⟩:∃ m,dg.length=m:=⟨_,rfl⟩
 rw[hdg] at hm ⊢
 go_enter Tryz.func165,Tryz.ntmps165
 go_wp2_with (first|(go_at_call 163;refine((aa HR) _).mono ?_;rintro e w1 ⟨rfl,hf1⟩;have hl1:=Nat.lt_of_lt_of_le (show w.heap.size<(w.alloc _).heap.size by simp) hf1.size;have hc11:=(hf1.cell (p:=⟨w.heap.size,11,none⟩) (by simp) (fun h=>h)).trans (show _=some (Value.int .u8 (co:Nat)) by simp);have hc12:=(hf1.cell (p:=⟨w.heap.size,12,none⟩) (by simp) (fun h=>h)).trans (show _=some (Value.slice yo m yc) by simp);have HF:=ae ((aB w _).trans hf1 (fun _ _ h=>h));clear hf1))
 all_goals
  go_ret
  refine⟨?_,?_⟩
  ·have hB:=aa HB
   clear HB HR
   simp_all [iW.is,mx]
  ·first|exact aa HF|exact aB _ _
structure eS where
 kd:Nat
 rq:ed
 icl:Nat
 inu:Nat
 an:hI
 co:Nat
 ev:iW
 le:Nat
structure eS.ok (v:eS):Prop where
 kd:v.kd<256
 rq:v.rq.ok
 icl:v.icl<4294967296
 inu:v.inu<4294967296
 an:v.an.ok
 co:v.co<256
 ev:v.ev.ok
 le:v.le<4294967296
structure eS.lens (v:eS):Prop where
 rq:v.rq.fs.length<9223372036854775808
 an:v.an.fs.length<9223372036854775808
 hi:v.an.hi.length<9223372036854775808
 ev:v.ev.rq.fs.length<9223372036854775808
 dg:v.ev.dg.length<9223372036854775808
def eS.is (v:eS):Bool:=v.rq.is || !(v.icl == 0 && v.inu == 0) || v.an.is || v.co != 0 || v.ev.is || v.le != 0
def rF:hI:=⟨0,0,0,0,0,[],[]⟩
def eS.cut (v:eS):eS:=match v.kd with
 | 1=>{ v with rq:=jD }
 | 2=>{ v with icl:=0,inu:=0 }
 | 3=>{ v with an:=rF }
 | 4=>{ v with icl:=0,inu:=0,co:=0 }
 | 5=>{ v with ev:=uA }
 | 6=>{ v with le:=0 }
 | _=>v
def eS.beside (v:eS):Bool:=v.cut.is
def eS.aJ (v:eS) (x0 x1 x2 x3 x4:Value):Array Value:=#[.int .u8 (v.kd:Nat),.int .u32 (v.rq.cl:Nat),.int .u32 (v.rq.nu:Nat),.int .u32 (v.rq.ac:Nat),.int .u8 (v.rq.op:Nat),.int .u32 (v.rq.re:Nat),.int .u32 (v.rq.ve:Nat),.int .u32 (v.rq.wa:Nat),.int .u32 (v.rq.ow:Nat),x0,.string v.rq.rs,.int .u32 (v.icl:Nat),.int .u32 (v.inu:Nat),.int .u32 (v.an.cl:Nat),.int .u32 (v.an.nu:Nat),.int .u8 (v.an.co:Nat),.int .u32 (v.an.re:Nat),.int .u32 (v.an.ve:Nat),x1,x2,.int .u8 (v.co:Nat),.int .u32 (v.ev.pl:Nat),.int .u32 (v.ev.rq.cl:Nat),.int .u32 (v.ev.rq.nu:Nat),.int .u32 (v.ev.rq.ac:Nat),.int .u8 (v.ev.rq.op:Nat),.int .u32 (v.ev.rq.re:Nat),.int .u32 (v.ev.rq.ve:Nat),.int .u32 (v.ev.rq.wa:Nat),.int .u32 (v.ev.rq.ow:Nat),x3,.string v.ev.rq.rs,.int .u8 (v.ev.co:Nat),x4,.int .u32 (v.le:Nat)]
theorem yK (v:eS) (a0 a1 a2 a3 a4:Option Addr) (c0 c1 c2 c3 c4:Nat) (w:World) (hv:v.ok) (hn:v.lens) (hk:∀ i,1≤i→i≤6→v.kd≠i):Calls Tryz.prog 145 #[.agg (v.aJ (.slice a0 v.rq.fs.length c0) (.slice a1 v.an.fs.length c1) (.slice a2 v.an.hi.length c2) (.slice a3 v.ev.rq.fs.length c3) (.slice a4 v.ev.dg.length c4))] w fun e w'=>e = .returned (.bool v.beside)∧Fr (fun _=>False) w w':=by
 have HR:Hid (∀ wx,Calls Tryz.prog 163 #[.agg #[.int .u32 (v.rq.cl:Nat),.int .u32 (v.rq.nu:Nat),.int .u32 (v.rq.ac:Nat),.int .u8 (v.rq.op:Nat),.int .u32 (v.rq.re:Nat),.int .u32 (v.rq.ve:Nat),.int .u32 (v.rq.wa:Nat),.int .u32 (v.rq.ow:Nat),.slice a0 v.rq.fs.length c0,.string v.rq.rs]] wx fun e w'=>e = .returned (.bool (v.rq).is)∧Fr (fun _=>False) wx w'):=fun wx=>ja (v.rq) a0 c0 wx hv.rq hn.rq
 have HA:Hid (∀ wx,Calls Tryz.prog 164 #[.agg #[.int .u32 (v.an.cl:Nat),.int .u32 (v.an.nu:Nat),.int .u8 (v.an.co:Nat),.int .u32 (v.an.re:Nat),.int .u32 (v.an.ve:Nat),.slice a1 v.an.fs.length c1,.slice a2 v.an.hi.length c2]] wx fun e w'=>e = .returned (.bool (v.an).is)∧Fr (fun _=>False) wx w'):=fun wx=>qw (v.an) a1 c1 a2 c2 wx hv.an hn.an hn.hi
 have HE:Hid (∀ wx,Calls Tryz.prog 165 #[.agg #[.int .u32 (v.ev.pl:Nat),.int .u32 (v.ev.rq.cl:Nat),.int .u32 (v.ev.rq.nu:Nat),.int .u32 (v.ev.rq.ac:Nat),.int .u8 (v.ev.rq.op:Nat),.int .u32 (v.ev.rq.re:Nat),.int .u32 (v.ev.rq.ve:Nat),.int .u32 (v.ev.rq.wa:Nat),.int .u32 (v.ev.rq.ow:Nat),.slice a3 v.ev.rq.fs.length c3,.string v.ev.rq.rs,.int .u8 (v.ev.co:Nat),.slice a4 v.ev.dg.length c4]] wx fun e w'=>e = .returned (.bool (v.ev).is)∧Fr (fun _=>False) wx w'):=fun wx=>rS (v.ev) a3 c3 a4 c4 wx hv.ev hn.ev hn.dg
 have HC:Hid (v.beside=(((((v.rq).is || !(v.icl == 0 && v.inu == 0)) || (v.an).is) || v.co != 0) || (v.ev).is || v.le != 0)):=by
  have e:v.cut=v:=by
   have h1:=hk 1;have h2:=hk 2;have h3:=hk 3;have h4:=hk 4;have h5:=hk 5;have h6:=hk 6
   unfold eS.cut
   split <;> first|rfl|(rename_i h;exact absurd h (hk _ (by decide) (by decide)))
  show v.cut.is=_
  rw[e]
  rfl
 obtain⟨hv1,hv2,hv3,hv4,hv5,hv6,hv7,hv8⟩:=hv
 obtain⟨hn1,hn2,hn3,hn4,hn5⟩:=hn
 generalize v.beside=R at HC ⊢
 generalize (v.rq).is=B1 at HR HC
 generalize (v.an).is=B2 at HA HC
 generalize (v.ev).is=B3 at HE HC
 have m1:((v.kd:Int) == 1)=false:=by have:=hk 1 (by decide) (by decide);simp;omega
 have m2:((v.kd:Int) == 2)=false:=by have:=hk 2 (by decide) (by decide);simp;omega
 have m3:((v.kd:Int) == 3)=false:=by have:=hk 3 (by decide) (by decide);simp;omega
 have m4:((v.kd:Int) == 4)=false:=by have:=hk 4 (by decide) (by decide);simp;omega
 have m5:((v.kd:Int) == 5)=false:=by have:=hk 5 (by decide) (by decide);simp;omega
 have m6:((v.kd:Int) == 6)=false:=by have:=hk 6 (by decide) (by decide);simp;omega
 simp only[eS.aJ]
 clear hn1 hn2 hn3 hn4 hn5 hv2 hv5 hv7
 go_enter Tryz.func145,Tryz.ntmps145
 go_wp2_with (first
  | (go_at_call 163;refine((aa HR) _).mono ?_;rintro e w1 ⟨rfl,hf1⟩;have p11:=(hf1.cell (p:=⟨w.heap.size,11,none⟩) (by simp) (fun h=>h)).trans (show _=some ((Value.int .u32 (v.icl:Nat))) by rw[World.cell?_alloc_at _ _ _ _ rfl];rfl);have p12:=(hf1.cell (p:=⟨w.heap.size,12,none⟩) (by simp) (fun h=>h)).trans (show _=some ((Value.int .u32 (v.inu:Nat))) by rw[World.cell?_alloc_at _ _ _ _ rfl];rfl);have p13:=(hf1.cell (p:=⟨w.heap.size,13,none⟩) (by simp) (fun h=>h)).trans (show _=some ((Value.int .u32 (v.an.cl:Nat))) by rw[World.cell?_alloc_at _ _ _ _ rfl];rfl);have p14:=(hf1.cell (p:=⟨w.heap.size,14,none⟩) (by simp) (fun h=>h)).trans (show _=some ((Value.int .u32 (v.an.nu:Nat))) by rw[World.cell?_alloc_at _ _ _ _ rfl];rfl);have p15:=(hf1.cell (p:=⟨w.heap.size,15,none⟩) (by simp) (fun h=>h)).trans (show _=some ((Value.int .u8 (v.an.co:Nat))) by rw[World.cell?_alloc_at _ _ _ _ rfl];rfl);have p16:=(hf1.cell (p:=⟨w.heap.size,16,none⟩) (by simp) (fun h=>h)).trans (show _=some ((Value.int .u32 (v.an.re:Nat))) by rw[World.cell?_alloc_at _ _ _ _ rfl];rfl);have p17:=(hf1.cell (p:=⟨w.heap.size,17,none⟩) (by simp) (fun h=>h)).trans (show _=some ((Value.int .u32 (v.an.ve:Nat))) by rw[World.cell?_alloc_at _ _ _ _ rfl];rfl);have p18:=(hf1.cell (p:=⟨w.heap.size,18,none⟩) (by simp) (fun h=>h)).trans (show _=some ((Value.slice a1 v.an.fs.length c1)) by rw[World.cell?_alloc_at _ _ _ _ rfl];rfl);have p19:=(hf1.cell (p:=⟨w.heap.size,19,none⟩) (by simp) (fun h=>h)).trans (show _=some ((Value.slice a2 v.an.hi.length c2)) by rw[World.cell?_alloc_at _ _ _ _ rfl];rfl);have p20:=(hf1.cell (p:=⟨w.heap.size,20,none⟩) (by simp) (fun h=>h)).trans (show _=some ((Value.int .u8 (v.co:Nat))) by rw[World.cell?_alloc_at _ _ _ _ rfl];rfl);have p21:=(hf1.cell (p:=⟨w.heap.size,21,none⟩) (by simp) (fun h=>h)).trans (show _=some ((Value.int .u32 (v.ev.pl:Nat))) by rw[World.cell?_alloc_at _ _ _ _ rfl];rfl);have p22:=(hf1.cell (p:=⟨w.heap.size,22,none⟩) (by simp) (fun h=>h)).trans (show _=some ((Value.int .u32 (v.ev.rq.cl:Nat))) by rw[World.cell?_alloc_at _ _ _ _ rfl];rfl);have p23:=(hf1.cell (p:=⟨w.heap.size,23,none⟩) (by simp) (fun h=>h)).trans (show _=some ((Value.int .u32 (v.ev.rq.nu:Nat))) by rw[World.cell?_alloc_at _ _ _ _ rfl];rfl);have p24:=(hf1.cell (p:=⟨w.heap.size,24,none⟩) (by simp) (fun h=>h)).trans (show _=some ((Value.int .u32 (v.ev.rq.ac:Nat))) by rw[World.cell?_alloc_at _ _ _ _ rfl];rfl);have p25:=(hf1.cell (p:=⟨w.heap.size,25,none⟩) (by simp) (fun h=>h)).trans (show _=some ((Value.int .u8 (v.ev.rq.op:Nat))) by rw[World.cell?_alloc_at _ _ _ _ rfl];rfl);have p26:=(hf1.cell (p:=⟨w.heap.size,26,none⟩) (by simp) (fun h=>h)).trans (show _=some ((Value.int .u32 (v.ev.rq.re:Nat))) by rw[World.cell?_alloc_at _ _ _ _ rfl];rfl);have p27:=(hf1.cell (p:=⟨w.heap.size,27,none⟩) (by simp) (fun h=>h)).trans (show _=some ((Value.int .u32 (v.ev.rq.ve:Nat))) by rw[World.cell?_alloc_at _ _ _ _ rfl];rfl);have p28:=(hf1.cell (p:=⟨w.heap.size,28,none⟩) (by simp) (fun h=>h)).trans (show _=some ((Value.int .u32 (v.ev.rq.wa:Nat))) by rw[World.cell?_alloc_at _ _ _ _ rfl];rfl);have p29:=(hf1.cell (p:=⟨w.heap.size,29,none⟩) (by simp) (fun h=>h)).trans (show _=some ((Value.int .u32 (v.ev.rq.ow:Nat))) by rw[World.cell?_alloc_at _ _ _ _ rfl];rfl);have p30:=(hf1.cell (p:=⟨w.heap.size,30,none⟩) (by simp) (fun h=>h)).trans (show _=some ((Value.slice a3 v.ev.rq.fs.length c3)) by rw[World.cell?_alloc_at _ _ _ _ rfl];rfl);have p31:=(hf1.cell (p:=⟨w.heap.size,31,none⟩) (by simp) (fun h=>h)).trans (show _=some ((Value.string v.ev.rq.rs)) by rw[World.cell?_alloc_at _ _ _ _ rfl];rfl);have p32:=(hf1.cell (p:=⟨w.heap.size,32,none⟩) (by simp) (fun h=>h)).trans (show _=some ((Value.int .u8 (v.ev.co:Nat))) by rw[World.cell?_alloc_at _ _ _ _ rfl];rfl);have p33:=(hf1.cell (p:=⟨w.heap.size,33,none⟩) (by simp) (fun h=>h)).trans (show _=some ((Value.slice a4 v.ev.dg.length c4)) by rw[World.cell?_alloc_at _ _ _ _ rfl];rfl);have p34:=(hf1.cell (p:=⟨w.heap.size,34,none⟩) (by simp) (fun h=>h)).trans (show _=some ((Value.int .u32 (v.le:Nat))) by rw[World.cell?_alloc_at _ _ _ _ rfl];rfl);have F1:=ae ((aB w _).trans hf1 (fun _ _ h=>h));clear hf1)
  | (go_at_call 164;refine((aa HA) _).mono ?_;rintro e w2 ⟨rfl,hf2⟩;have r20:=(hf2.cell (p:=⟨w.heap.size,20,none⟩) (ab p20) (fun h=>h)).trans p20;have r21:=(hf2.cell (p:=⟨w.heap.size,21,none⟩) (ab p21) (fun h=>h)).trans p21;have r22:=(hf2.cell (p:=⟨w.heap.size,22,none⟩) (ab p22) (fun h=>h)).trans p22;have r23:=(hf2.cell (p:=⟨w.heap.size,23,none⟩) (ab p23) (fun h=>h)).trans p23;have r24:=(hf2.cell (p:=⟨w.heap.size,24,none⟩) (ab p24) (fun h=>h)).trans p24;have r25:=(hf2.cell (p:=⟨w.heap.size,25,none⟩) (ab p25) (fun h=>h)).trans p25;have r26:=(hf2.cell (p:=⟨w.heap.size,26,none⟩) (ab p26) (fun h=>h)).trans p26;have r27:=(hf2.cell (p:=⟨w.heap.size,27,none⟩) (ab p27) (fun h=>h)).trans p27;have r28:=(hf2.cell (p:=⟨w.heap.size,28,none⟩) (ab p28) (fun h=>h)).trans p28;have r29:=(hf2.cell (p:=⟨w.heap.size,29,none⟩) (ab p29) (fun h=>h)).trans p29;have r30:=(hf2.cell (p:=⟨w.heap.size,30,none⟩) (ab p30) (fun h=>h)).trans p30;have r31:=(hf2.cell (p:=⟨w.heap.size,31,none⟩) (ab p31) (fun h=>h)).trans p31;have r32:=(hf2.cell (p:=⟨w.heap.size,32,none⟩) (ab p32) (fun h=>h)).trans p32;have r33:=(hf2.cell (p:=⟨w.heap.size,33,none⟩) (ab p33) (fun h=>h)).trans p33;have r34:=(hf2.cell (p:=⟨w.heap.size,34,none⟩) (ab p34) (fun h=>h)).trans p34;have F2:=ae ((aa F1).trans hf2 (fun _ _ h=>h));clear hf2)
  | (go_at_call 165;refine((aa HE) _).mono ?_;rintro e w3 ⟨rfl,hf3⟩;have s34:=(hf3.cell (p:=⟨w.heap.size,34,none⟩) (ab r34) (fun h=>h)).trans r34;have F3:=ae ((aa F2).trans hf3 (fun _ _ h=>h));clear hf3))
 all_goals
  go_ret
  refine⟨?_,?_⟩
  ·have hC:=aa HC
   clear HC HR HA HE
   simp_all [mx]
  ·first|exact aa F3|exact aa F2|exact aa F1
variable {L:List Nat}
def CS.m1 (c:CS) (v:eS):CS × Nat:=c.fF bj [bI 1 7 5,gQ v.beside] v.kd
def CS.pM (c:CS) (k:Nat) (v:eS):CS × eS:=
 if k=1 then ((c.bp v.rq).1,{ v with kd:=1,rq:=(c.bp v.rq).2 })
 else if k=2 then ((c.kB (v.icl,v.inu)).1,{ v with kd:=2,icl:=(c.kB (v.icl,v.inu)).2.1,inu:=(c.kB (v.icl,v.inu)).2.2 })
 else if k=3 then ((c.bF v.an).1,{ v with kd:=3,an:=(c.bF v.an).2 })
 else if k=4 then (((c.kB (v.icl,v.inu)).1.fF eY [bI 1 15 4] v.co).1,{ v with kd:=4,icl:=(c.kB (v.icl,v.inu)).2.1,inu:=(c.kB (v.icl,v.inu)).2.2,co:=((c.kB (v.icl,v.inu)).1.fF eY [bI 1 15 4] v.co).2 })
 else if k=5 then ((c.bJ v.ev).1,{ v with kd:=5,ev:=(c.bJ v.ev).2 })
 else if k=6 then ((c.bW cR [] v.le).1,{ v with kd:=6,le:=(c.bW cR [] v.le).2 })
 else (c,{ v with kd:=k })
def CS.di (c:CS) (v:eS):CS × eS:=(c.m1 v).1.pM (c.m1 v).2 v
def ib:eS:=⟨0,jD,0,0,rF,0,uA,0⟩
variable {L:List Nat}
def aF (l:List Nat):CS × eS:=((eU l).aX 7).di ib
theorem Tryz.eG:(Tryz.prog.info? 42).map (·.size)=some 35:=by kernel_rfl
structure Bk (w:World) (g:Nat) (v:eS) (x0 x1 x2 x3 x4:Value):Prop where
 c0:w.cell? ⟨g,0,none⟩=some (.int .u8 (v.kd:Nat))
 r:pG w g 1 v.rq x0
 c11:w.cell? ⟨g,11,none⟩=some (.int .u32 (v.icl:Nat))
 c12:w.cell? ⟨g,12,none⟩=some (.int .u32 (v.inu:Nat))
 a:x6 w g 13 v.an x1 x2
 c20:w.cell? ⟨g,20,none⟩=some (.int .u8 (v.co:Nat))
 e:sO w g 21 v.ev x3 x4
 c34:w.cell? ⟨g,34,none⟩=some (.int .u32 (v.le:Nat))
theorem Bk.range {w:World} {g:Nat} {v:eS} {x0 x1 x2 x3 x4:Value} (h:Bk w g v x0 x1 x2 x3 x4):w.rangeAt g 0 (v.aJ x0 x1 x2 x3 x4).toList:=by
 intro j u hu
 rw[Nat.zero_add]
 have hj:j<35:=(List.getElem?_eq_some_iff.1 hu).1
 match j,hj with
 | 0,_=>exact(Option.some.inj hu) ▸ h.c0
 | 1,_=>exact(Option.some.inj hu) ▸ h.r.c0
 | 2,_=>exact(Option.some.inj hu) ▸ h.r.c1
 | 3,_=>exact(Option.some.inj hu) ▸ h.r.c2
 | 4,_=>exact(Option.some.inj hu) ▸ h.r.c3
 | 5,_=>exact(Option.some.inj hu) ▸ h.r.c4
 | 6,_=>exact(Option.some.inj hu) ▸ h.r.c5
 | 7,_=>exact(Option.some.inj hu) ▸ h.r.c6
 | 8,_=>exact(Option.some.inj hu) ▸ h.r.c7
 | 9,_=>exact(Option.some.inj hu) ▸ h.r.c8
 | 10,_=>exact(Option.some.inj hu) ▸ h.r.c9
 | 11,_=>exact(Option.some.inj hu) ▸ h.c11
 | 12,_=>exact(Option.some.inj hu) ▸ h.c12
 | 13,_=>exact(Option.some.inj hu) ▸ h.a.c0
 | 14,_=>exact(Option.some.inj hu) ▸ h.a.c1
 | 15,_=>exact(Option.some.inj hu) ▸ h.a.c2
 | 16,_=>exact(Option.some.inj hu) ▸ h.a.c3
 | 17,_=>exact(Option.some.inj hu) ▸ h.a.c4
 | 18,_=>exact(Option.some.inj hu) ▸ h.a.c5
 | 19,_=>exact(Option.some.inj hu) ▸ h.a.c6
 | 20,_=>exact(Option.some.inj hu) ▸ h.c20
 | 21,_=>exact(Option.some.inj hu) ▸ h.e.c0
 | 22,_=>exact(Option.some.inj hu) ▸ h.e.r.c0
 | 23,_=>exact(Option.some.inj hu) ▸ h.e.r.c1
 | 24,_=>exact(Option.some.inj hu) ▸ h.e.r.c2
 | 25,_=>exact(Option.some.inj hu) ▸ h.e.r.c3
 | 26,_=>exact(Option.some.inj hu) ▸ h.e.r.c4
 | 27,_=>exact(Option.some.inj hu) ▸ h.e.r.c5
 | 28,_=>exact(Option.some.inj hu) ▸ h.e.r.c6
 | 29,_=>exact(Option.some.inj hu) ▸ h.e.r.c7
 | 30,_=>exact(Option.some.inj hu) ▸ h.e.r.c8
 | 31,_=>exact(Option.some.inj hu) ▸ h.e.r.c9
 | 32,_=>exact(Option.some.inj hu) ▸ h.e.c11
 | 33,_=>exact(Option.some.inj hu) ▸ h.e.c12
 | 34,_=>exact(Option.some.inj hu) ▸ h.c34
structure zw (w w':World) (cb b g:Nat) (F F':Nat→Prop) (c:CS) (E:Nat→Addr) (r:CS × eS) (x0 x1 x2 x3 y0 y1 y2 y3 y4:Value):Prop where
 C:Cd w' cb b F' r.1 E
 m:Bk w' g r.2 y0 y1 y2 y3 y4
 o0:ks w w' c x0 y0 r.2.rq.fs F'
 o1:ks w w' c x1 y1 r.2.an.fs F'
 o2:zc w w' c x2 y2 r.2.an.hi F'
 o3:ks w w' c x3 y3 r.2.ev.rq.fs F'
 o4:BO w w' c y4 r.2.ev.dg F' g
 s:aw w w' F F' (aH g 0 35)
theorem kE.same {w w':World} {c:CS} {x:Value} {l:List cA} {F F':Nat→Prop} {g:Nat} (h:kE w c x l F g):ks w w' c x x l F':=⟨fun _ _=>rfl,fun q e=>by obtain⟨rfl,rfl⟩:=h.rd q e;exact dy.nil _ _ _⟩
theorem u6.same {w w':World} {c:CS} {x:Value} {l:List dG} {F F':Nat→Prop} {g:Nat} (h:u6 w c x l F g):zc w w' c x x l F':=⟨fun _ _=>rfl,fun q e=>by obtain⟨rfl,rfl⟩:=h.rd q e;exact⟨fun _ h=>(by cases h),⟨rfl,.inl ⟨rfl,rfl⟩⟩,fun _ h=>(by cases h)⟩⟩
theorem oO.same {w w':World} {c:CS} {x:Value} {l:List Nat} {F F':Nat→Prop} {P:Nat→Nat→Prop} {g:Nat} (h:oO w x l F g) (hr:∀ q,c = .rd q→x = .slice none 0 0∧l=[]) (hs:aw w w' F F' P) (hP:∀ k i,k<w.heap.size→P k i→k=g):BO w w' c x l F' g:=⟨h.aV hs hP,fun q e=>by obtain⟨rfl,rfl⟩:=hr q e;exact⟨rfl,.inl ⟨rfl,rfl⟩⟩⟩
structure lS (w w':World) (cb b g:Nat) (F F':Nat→Prop) (c c1:CS) (E:Nat→Addr) (v:eS) (kd:Nat) (x0 x1 x2 x3 x4:Value):Prop where
 C:Cd w' cb b F' c1 E
 m:Bk w' g { v with kd:=kd } x0 x1 x2 x3 x4
 X0:kE w c x0 v.rq.fs F g
 X1:kE w c x1 v.an.fs F g
 X2:u6 w c x2 v.an.hi F g
 X3:kE w c x3 v.ev.rq.fs F g
 X4:oO w x4 v.ev.dg F g
 R4:∀ q,c = .rd q→x4 = .slice none 0 0∧v.ev.dg=[]
 L:∀ i,Loc w cb F g i
 s:aw w w' F F' (aH g 0 1)
 sm:c.sm c1
 ok:v.ok
 room:c1.room 500
section
variable {w w' w2:World} {cb b g:Nat} {F F' F2:Nat→Prop} {c c1 c2:CS} {E:Nat→Addr} {v:eS} {kd:Nat} {x0 x1 x2 x3 x4:Value}
theorem lS.lt (h:lS w w' cb b g F F' c c1 E v kd x0 x1 x2 x3 x4):g<w'.heap.size:=Nat.lt_of_lt_of_le (h.L 0).lt h.s.size
theorem lS.nF (h:lS w w' cb b g F F' c c1 E v kd x0 x1 x2 x3 x4):¬ F' g:=h.s.nF (h.L 0).lt (h.L 0).nF
theorem lS.st (h:lS w w' cb b g F F' c c1 E v kd x0 x1 x2 x3 x4) {o n:Nat} (hs:aw w' w2 F' F2 (aH g o n)) (ho:o+n≤35):aw w w2 F F2 (aH g 0 35):=
 (h.s.mono (P':=aH g 0 35) (fun k j _ e=>⟨e.1,by omega,by have:=e.2;omega⟩)).trans hs (fun k j _ e=>⟨e.1,by omega,by have:=e.2;omega⟩)
theorem lS.DU (h:lS w w' cb b g F F' c c1 E v kd x0 x1 x2 x3 x4):zw w w' cb b g F F' c E (c1,{ v with kd:=kd }) x0 x1 x2 x3 x0 x1 x2 x3 x4:=
 ⟨h.C,h.m,h.X0.same,h.X1.same,h.X2.same,h.X3.same,h.X4.same h.R4 h.s (fun k j _ e=>e.1),h.s.mono (fun k j _ e=>⟨e.1,by omega,by have:=e.2;omega⟩)⟩
theorem lS.DJ (h:lS w w' cb b g F F' c c1 E v kd x0 x1 x2 x3 x4) (hk:kd=1) {y:Value} (hC:Cd w2 cb b F2 (c1.bp v.rq).1 E) (hr:pG w2 g 1 { (c1.bp v.rq).2 with fs:=v.rq.fs } y) (hO:ks w' w2 c1 x0 y (c1.bp v.rq).2.fs F2) (hs:aw w' w2 F' F2 (aH g 1 10)):zw w w2 cb b g F F2 c E (c1.pM kd v) x0 x1 x2 x3 y x1 x2 x3 x4:=by
 subst hk
 unfold CS.pM
 rw[if_pos rfl]
 exact⟨hC,⟨(hs.oth g 0 h.lt h.nF (fun e=>by have:=e.2;omega)).trans h.m.c0,pG.fs _ _ hr,(hs.oth g 11 h.lt h.nF (fun e=>by have:=e.2;omega)).trans h.m.c11,(hs.oth g 12 h.lt h.nF (fun e=>by have:=e.2;omega)).trans h.m.c12,h.m.a.aV hs h.nF (fun i hi e=>by have:=e.2;omega),(hs.oth g 20 h.lt h.nF (fun e=>by have:=e.2;omega)).trans h.m.c20,h.m.e.aV hs h.nF (fun i hi e=>by have:=e.2;omega),(hs.oth g 34 h.lt h.nF (fun e=>by have:=e.2;omega)).trans h.m.c34⟩,hO.of h.sm h.s.size,h.X1.same,h.X2.same,h.X3.same,h.X4.same h.R4 (h.st hs (by decide)) (fun k j _ e=>e.1),h.st hs (by decide)⟩
theorem lS.DT (h:lS w w' cb b g F F' c c1 E v kd x0 x1 x2 x3 x4) (hk:kd=2) (hC:Cd w2 cb b F2 (c1.kB (v.icl,v.inu)).1 E) (h1:w2.cell? ⟨g,11,none⟩=some (.int .u32 ((c1.kB (v.icl,v.inu)).2.1:Nat))) (h2:w2.cell? ⟨g,12,none⟩=some (.int .u32 ((c1.kB (v.icl,v.inu)).2.2:Nat))) (hs:aw w' w2 F' F2 (aH g 11 2)):zw w w2 cb b g F F2 c E (c1.pM kd v) x0 x1 x2 x3 x0 x1 x2 x3 x4:=by
 subst hk
 unfold CS.pM
 rw[if_neg (by decide),if_pos rfl]
 exact⟨hC,⟨(hs.oth g 0 h.lt h.nF (fun e=>by have:=e.2;omega)).trans h.m.c0,h.m.r.aV hs h.nF (fun i hi e=>by have:=e.2;omega),h1,h2,h.m.a.aV hs h.nF (fun i hi e=>by have:=e.2;omega),(hs.oth g 20 h.lt h.nF (fun e=>by have:=e.2;omega)).trans h.m.c20,h.m.e.aV hs h.nF (fun i hi e=>by have:=e.2;omega),(hs.oth g 34 h.lt h.nF (fun e=>by have:=e.2;omega)).trans h.m.c34⟩,h.X0.same,h.X1.same,h.X2.same,h.X3.same,h.X4.same h.R4 (h.st hs (by decide)) (fun k j _ e=>e.1),h.st hs (by decide)⟩
theorem lS.DW (h:lS w w' cb b g F F' c c1 E v kd x0 x1 x2 x3 x4) (hk:kd=3) {y z:Value} (hC:Cd w2 cb b F2 (c1.bF v.an).1 E) (hr:x6 w2 g 13 (c1.bF v.an).2 y z) (hO:ks w' w2 c1 x1 y (c1.bF v.an).2.fs F2) (hZ:zc w' w2 c1 x2 z (c1.bF v.an).2.hi F2) (hs:aw w' w2 F' F2 (aH g 13 7)):zw w w2 cb b g F F2 c E (c1.pM kd v) x0 x1 x2 x3 x0 y z x3 x4:=by
 subst hk
 unfold CS.pM
 rw[if_neg (by decide),if_neg (by decide),if_pos rfl]
 exact⟨hC,⟨(hs.oth g 0 h.lt h.nF (fun e=>by have:=e.2;omega)).trans h.m.c0,h.m.r.aV hs h.nF (fun i hi e=>by have:=e.2;omega),(hs.oth g 11 h.lt h.nF (fun e=>by have:=e.2;omega)).trans h.m.c11,(hs.oth g 12 h.lt h.nF (fun e=>by have:=e.2;omega)).trans h.m.c12,hr,(hs.oth g 20 h.lt h.nF (fun e=>by have:=e.2;omega)).trans h.m.c20,h.m.e.aV hs h.nF (fun i hi e=>by have:=e.2;omega),(hs.oth g 34 h.lt h.nF (fun e=>by have:=e.2;omega)).trans h.m.c34⟩,h.X0.same,hO.of h.sm h.s.size,hZ.of h.sm h.s.size,h.X3.same,h.X4.same h.R4 (h.st hs (by decide)) (fun k j _ e=>e.1),h.st hs (by decide)⟩
theorem lS.D1 (h:lS w w' cb b g F F' c c1 E v kd x0 x1 x2 x3 x4) (hk:kd=4) (hC:Cd w2 cb b F2 ((c1.kB (v.icl,v.inu)).1.fF eY [bI 1 15 4] v.co).1 E) (h1:w2.cell? ⟨g,11,none⟩=some (.int .u32 ((c1.kB (v.icl,v.inu)).2.1:Nat))) (h2:w2.cell? ⟨g,12,none⟩=some (.int .u32 ((c1.kB (v.icl,v.inu)).2.2:Nat))) (h3:w2.cell? ⟨g,20,none⟩=some (.int .u8 (((c1.kB (v.icl,v.inu)).1.fF eY [bI 1 15 4] v.co).2:Nat)))
  (hs:aw w' w2 F' F2 (fun k j=>aH g 11 2 k j∨(k=g∧j=20))):zw w w2 cb b g F F2 c E (c1.pM kd v) x0 x1 x2 x3 x0 x1 x2 x3 x4:=by
 subst hk
 have hst:aw w w2 F F2 (aH g 0 35):=(h.s.mono (P':=aH g 0 35) (fun k j _ e=>⟨e.1,by omega,by have:=e.2;omega⟩)).trans hs (fun k j _ e=>by
  rcases e with e|e
  ·exact⟨e.1,by omega,by have:=e.2;omega⟩
  ·exact⟨e.1,by omega,by omega⟩)
 have hn:∀ j,(j<11∨12<j)→j≠20→¬ (aH g 11 2 g j∨(g=g∧j=20)):=fun j h1 h2 e=>by
  rcases e with e|e
  ·have:=e.2;omega
  ·omega
 unfold CS.pM
 rw[if_neg (by decide),if_neg (by decide),if_neg (by decide),if_pos rfl]
 exact⟨hC,⟨(hs.oth g 0 h.lt h.nF (hn 0 (by omega) (by omega))).trans h.m.c0,h.m.r.aV hs h.nF (fun i hi=>hn _ (by omega) (by omega)),h1,h2,h.m.a.aV hs h.nF (fun i hi=>hn _ (by omega) (by omega)),h3,h.m.e.aV hs h.nF (fun i hi=>hn _ (by omega) (by omega)),(hs.oth g 34 h.lt h.nF (hn 34 (by omega) (by omega))).trans h.m.c34⟩,h.X0.same,h.X1.same,h.X2.same,h.X3.same,h.X4.same h.R4 hst (fun k j _ e=>e.1),hst⟩
theorem lS.DZ (h:lS w w' cb b g F F' c c1 E v kd x0 x1 x2 x3 x4) (hk:kd=5) {y z:Value} (hC:Cd w2 cb b F2 (c1.bJ v.ev).1 E) (hr:sO w2 g 21 { (c1.bJ v.ev).2 with rq:={ (c1.bJ v.ev).2.rq with fs:=v.ev.rq.fs } } y z) (hO:ks w' w2 c1 x3 y (c1.bJ v.ev).2.rq.fs F2) (hZ:BO w' w2 c1 z (c1.bJ v.ev).2.dg F2 g) (hs:aw w' w2 F' F2 (aH g 21 13)):zw w w2 cb b g F F2 c E (c1.pM kd v) x0 x1 x2 x3 x0 x1 x2 y z:=by
 subst hk
 have hmd:∀ q,c = .rd q→∃ q',c1 = .rd q':=fun q hq=>by
  cases hm:c1 with
  | wr s'=>obtain⟨_,e'⟩:=h.sm.1 s' hm;rw[hq] at e';cases e'
  | rd q'=>exact⟨q',rfl⟩
 unfold CS.pM
 rw[if_neg (by decide),if_neg (by decide),if_neg (by decide),if_neg (by decide),if_pos rfl]
 exact⟨hC,⟨(hs.oth g 0 h.lt h.nF (fun e=>by have:=e.2;omega)).trans h.m.c0,h.m.r.aV hs h.nF (fun i hi e=>by have:=e.2;omega),(hs.oth g 11 h.lt h.nF (fun e=>by have:=e.2;omega)).trans h.m.c11,(hs.oth g 12 h.lt h.nF (fun e=>by have:=e.2;omega)).trans h.m.c12,h.m.a.aV hs h.nF (fun i hi e=>by have:=e.2;omega),(hs.oth g 20 h.lt h.nF (fun e=>by have:=e.2;omega)).trans h.m.c20,sO.fs _ _ hr,(hs.oth g 34 h.lt h.nF (fun e=>by have:=e.2;omega)).trans h.m.c34⟩,h.X0.same,h.X1.same,h.X2.same,hO.of h.sm h.s.size,hZ.mode h.s.size hmd,h.st hs (by decide)⟩
theorem lS.DP (h:lS w w' cb b g F F' c c1 E v kd x0 x1 x2 x3 x4) (hk:kd=6) (hC:Cd w2 cb b F2 (c1.bW cR [] v.le).1 E) (h1:w2.cell? ⟨g,34,none⟩=some (.int .u32 ((c1.bW cR [] v.le).2:Nat))) (hs':aw w' w2 F' F2 (fun k j=>k=g∧j=34)):zw w w2 cb b g F F2 c E (c1.pM kd v) x0 x1 x2 x3 x0 x1 x2 x3 x4:=by
 subst hk
 have hs:aw w' w2 F' F2 (aH g 34 1):=hs'.mono (fun k j _ e=>⟨e.1,by omega,by omega⟩)
 unfold CS.pM
 rw[if_neg (by decide),if_neg (by decide),if_neg (by decide),if_neg (by decide),if_neg (by decide),if_pos rfl]
 exact⟨hC,⟨(hs.oth g 0 h.lt h.nF (fun e=>by have:=e.2;omega)).trans h.m.c0,h.m.r.aV hs h.nF (fun i hi e=>by have:=e.2;omega),(hs.oth g 11 h.lt h.nF (fun e=>by have:=e.2;omega)).trans h.m.c11,(hs.oth g 12 h.lt h.nF (fun e=>by have:=e.2;omega)).trans h.m.c12,h.m.a.aV hs h.nF (fun i hi e=>by have:=e.2;omega),(hs.oth g 20 h.lt h.nF (fun e=>by have:=e.2;omega)).trans h.m.c20,h.m.e.aV hs h.nF (fun i hi e=>by have:=e.2;omega),h1⟩,h.X0.same,h.X1.same,h.X2.same,h.X3.same,h.X4.same h.R4 (h.st hs (by decide)) (fun k j _ e=>e.1),h.st hs (by decide)⟩
theorem lS.DQ (h:lS w w' cb b g F F' c c1 E v kd x0 x1 x2 x3 x4) (hk:kd<1∨6<kd):zw w w' cb b g F F' c E (c1.pM kd v) x0 x1 x2 x3 x0 x1 x2 x3 x4:=by
 unfold CS.pM
 rw[if_neg (by omega),if_neg (by omega),if_neg (by omega),if_neg (by omega),if_neg (by omega),if_neg (by omega)]
 exact h.DU
end
end Go.Proofs.YtdcopmkgmbiikaaGreatDoor
